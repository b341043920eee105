import PyProof.Rows.All
import Wide.All
import OpenK.AllK
import Wide.FinOn
import Lean
import PyProof.EqAt
import PyProof.EqKinds
import PyProof.TupleCall
import KE.KDictOf
import KE.KLam
import KE.KNest
import KE.KNestM
import KE.KRevIter
import KE.KSortKey
import KE.KSortTup
import KE.KTryMore
import OpenK.KCls
import PyProof.AttrMissHeap
import PyProof.Draws
import PyProof.EnumMake
import PyProof.EnumStmt
import PyProof.InstStoreFacts
import PyProof.ListNew
import PyProof.ListRange
import PyProof.ObjNew
import PyProof.Rows.Range3
import PyProof.SliceList
import PyProof.StrBlockL
import PyProof.StrLawsChain
import PyProof.StrLawsIn
import PyProof.WalksEnum
import PyProof.ZipIter
import PySem.Challenge.RW_tightwood_k75_refused
set_option compiler.extract_closed false
set_option Elab.async false
set_option linter.all false
set_option maxRecDepth 100000
set_option maxHeartbeats 4000000
open PySem.W renaming Frag->dn,nsIn->ic,findIn->i4,mg_of->i7,keepIn->jg,fnOf->jr,mg_none_of->jx,emptyDict->jy,codeIn->kz,boot_heap->lf,excIn->l9,methodCall_KW->me,isFn->nh,looks_findIn->pc,kia_one->pd,SharedT->pe,plainGet->qp,tabObj->rq,plainGet_of->sj,hideAll_get->sk,codeHd_of_K->sq,km_tabs_of->tm,methodObj->ud,hasDictIn->ue,takerIn->ux,OpenLaw->uy,of_hideAll->ve,boot_drawn->vf,kla_fn->vh,TabsAt->vi,boot_toks->wv,funFrames_hide->wx,cellsFrom_some->wy,looks_mroIn->xf,hideAll_none->xu,kla_obj->xy,callWith_K0->xz,km_in_of->yk,specialIn->yu,plainOver->yv,kitx_list->yw,kitx_dict->yx,handedIn->zd,makesIn->zl,CodeHd->z0,WalkO->z8,looks_clsIn->AS,Looks->AX,Frag->BA,mg_of->FG,OpenLaw->GR
open List renaming getElem?_eq_getElem->dq,length_map->du,replicate->dv,length_append->d5,getElem?_map->d8,length_take->d9,map_append->eh,range->et,getElem?_append_right->e9,getElem?_append_left->fb,getElem?_eq_some_iff->fc,getElem?_take_of_lt->fe,length_range->fh,length_cons->fj,take_of_length_le->fm,mem_cons->gd,getD->ge,mem_append_right->gh,append_assoc->gj,size_toArray->gl,length_replicate->gm,getElem?_eq_none->gt,length_nil->gw,length_drop->ib,replicate_succ->ig,getElem?_range->ij,mem_cons_of_mem->ik,take_add_one->ip,count_append->iq,mem_of_getElem?->ir,range_succ->iu,not_mem_nil->i5,drop_of_length_le->i6,flatten_append->jc,eq_nil_of_length_eq_zero->je,length_singleton->jk,flatten_cons->jl,mem_range->jn,mem_cons_self->jo,forall_mem_cons->jq,map_cons->ju,take_append_drop->jv,map_map->jz,map_congr_left->j0,drop_eq_getElem_cons->ke,getElem?_drop->kh,all_eq_true->ki,getElem?_of_mem->km,append_nil->kq,toList_toArray->ku,range_succ_eq_map->ky,length->k6,mem_singleton->k7,filter_append->k8,count_cons->li,mem_map->lj,take_length->lx,lookup->l5,mem_append->mf,map_take->ng,getElem?_replicate->nj,ext_getElem?->og,getElem?_toArray->ot,lookup_cons->ow,take_add->pi,nodup_cons->pr,take_succ_cons->pw,mem_map_of_mem->pz,mem_filterMap->qd,getElem?_tail->qf,getElem?_zip_eq_some->qm,getElem?_cons_succ->qy,cons_append->qz,any_eq_true->ra,getElem?_set_self->rl,mem_filter->r9,length_filter_le->sf,take_take->sw,replicate_succ'->sx,getElem?_set_ne->sy,drop_zero->td,filterMap_cons->ub,flatten_replicate_singleton->uo,ext_getElem->vb,countP_cons->vc,take_append_of_le_length->vn,of_mem_zip->vy,forIn_cons->vz,foldl_cons->wa,take_left->wm,getD_eq_getElem?_getD->wn,drop_drop->wo,take_nil->xm,map_drop->xn,all_cons->xo,pairwise_lt_range->ya,map_nil->yb,head?_eq_getElem?->yc,flatten_singleton->yd,flatten->ye,mem_append_left->yz,count_replicate->y4,length_flatten->zf,sum_singleton->zo,map_replicate->zp,foldl->zq,map_flatten->AB,sum_append->AY,tail_cons->BJ,forIn_nil->BK,drop_left->BL,any_cons->BY,any_map->CH,map_id->DM,take->FJ,drop->FK
open PySem renaming Addr->dw,Value->ed,Shared->eg,wpAny_pure->ez,Program->fq,Expr->gq,World->gr,Around->ii,Heap->im,Stmt->io,wpAny_mono->iw,FuncData->i3,mem_of_lookup->i9,wpAny_holding->jf,wpAny_truthy_bool->kb,codeAny_call_builtin->kr,wpAny_pyIter_enum->kx,codeAny_mono->la,wpAny_call->lh,Scope->lm,wpAny_updateSeq->lq,codeAny_builtin->lr,Arguments->lu,lookup_relabel_local->lv,Spec->ml,wpAny_standAt->mm,wpAny_of_eq->na,wpAny_comprehension_free->ny,plainId_quiet->nz,wpAny_execs_nil->n8,wpAny_seqItems->oz,wpAny_loadPart_at->pb,NameKind->ph,IsPair->pj,wpAny_tryCatch->qu,call_meets->qv,wpAny_field->rj,Model->rk,Builtin->ro,wpAny_attempt->rp,CmpOp->ss,wpAny_newFunctionEnv->ui,wpAny_loadPart->uj,wpAny_letGo->uk,wpAny_isSubtype_exc->uu,Value->va,Result->vg,wpAny_newObj_type->wb,ZipApart->wc,wpAny_pyIter_zip->wu,frameOf->ww,Params->xb,Paired->xc,Within->xr,Keyword->yf,BindsTo->yi,strLen_append->y9,call->zc,wpAny_callSpecial?_slot->zj,wpAny_nextOf_list_item->zr,codeAny_compStart_list->zu,Str->zw,IsEnum->zy,exec_Assign_Name_used->z6,builtinLookup_eq_fast->z7,wpAny_loadName_local->AO,sizeLine_eq->AQ,numAt_eq->AR,intItems_at->AT,Operator->AU,GenState->AZ,wpAny_loadName_cell->BE,Program->BF,wpAny_rule->BQ,wpAny_Name->BR,typeIs_int->BS,rawInt->BV,wpAny_pyIter_list->BZ,World->CC,Draws->CO,wpAny_lookBehind->CQ,wpAny_call_entry->CT,pastItsLine_dict->CU,wpAny_specialOf->DS,typeLookup_type->DT,codeAny_of_tree->DU,sliceRange_one->FE,refuseLoop_ref->FF,DefRec->FM,rangeSize_one->FP,nums_intItems->FQ,intBits_le_64->FR,eval_ListComp->FS,evalPart_none->FT,call_list_seq->FU,wpAny_nsSet1->GL,wpAny_mkText->GM,seqIndex_neg->GN,call_range_1->GO,OwnTail->GQ
open Option.some renaming inj->d0
open Nat renaming le_refl->d3,lt_of_lt_of_le->d7,zero_le->fg,le_of_lt->fk,ne_of_lt->fu,add_sub_cancel_left->gy,le_trans->ie,min_eq_left->iy,sub_self->jh,ne_of_gt->ji,lt_irrefl->jj,lt_of_le_of_ne->jt,add_zero->kl,add_sub_cancel'->lw,le_add_right->l4,sub_zero->mz,min_eq_right->m8,eq_zero_or_pos->ni,mul_div_cancel_left->nq,le_of_eq->oj,lt_succ_self->pf,div_le_div_right->pq,zero_add->qa,lt_of_le_of_lt->qk,lt_trichotomy->qt,add_assoc->qw,not_lt->rz,add_mul_div_right->sr,add_sub_cancel->ul,le_succ_of_le->uz,le_succ->vx,zero_div->ym,succ_mul->yn,add_comm->yo,le_of_ble_eq_true->yy,add_mul->ze,add_lt_add_left->zn,ble->AA,min_le_right->AV,le_of_not_lt->AW,strongRecOn->BH,not_lt_zero->BI,succ->BX,mul_zero->DH,mul_comm->DI,min_zero->DJ,min_self->DK,div_zero->DL,one_mul->EW
open PySem.Heap renaming get?_push_of_some->d4,lt_size->ee,get?_push_size->gk,get?_update_other->gu,get?_update_self->ja,size_push->k9,size_update->oy,MadeExcOf->qg,FlyingW->rm,get?_none_of_le->tj,SameBut->uq,HeldW->EY
open PySem.Str renaming ofString->d6,ofString->kj,empty->t9
open PySem.F renaming plainAttrs_list->fv,type_list_append->gn,slot_list_append->gp,plain_extend_loop->j9,plainAttrs_str->ly,plain_min_loop->l6,slot_zip_next->n9,entry_extend_loop->p9,type_str_join->rc,type_list_pop->rf,slot_str_join->rg,slot_list_pop->rh,called_enumerate->u9,excBase_ValueError->vj,excAttr_ValueError->vm,entry_min_loop->we,type_list_count->wj,slot_list_count->wk,args_zip_next_1->wl,type_str_count->w8,slot_str_count->w9,entry_zip_next->xa,excAttr_ValueError->zz,slot_int_rmul->CM
open Bool renaming false_ne_true->gg,false_eq_true->md,and_eq_true->mw,and_false->qi,eq_false_iff->qq,eq_iff_iff->sd,false_and->wq,noConfusion->AN
open PySem.Challenge renaming pw_tightwood_k75_refused->gv,rw_tightwood_k75_refused->lp
open Int renaming toNat_natCast->gz,eq_ofNat_of_zero_le->jw,emod_lt_of_pos->ql,emod_nonneg->sg,le_refl->tw,toNat_of_nonneg->uf,le_trans->u8,zero_add->yq,natCast_mul->BN,natCast_add->BO,lt_irrefl->CI,add_assoc->CJ,le_of_lt->DO
open PySem.Value renaming ref->ia,type->iz,none->ll,int->mq,str->sv,bool->wd,float->yl,bytes->CB
open PyProof.Rows renaming callWith_type1->il,AllBare->qr,IntsAre->yg,Constant_none->zg,subscriptTail_builtinR->zt,count_cnt->ES,cnt_cons->ET,cnt->EU,callWith_builtin1->EV,joinParts_cons->FH
open Option renaming isSome_iff_exists->iv,map_eq_some_iff->nk,getD_some->om,getD_none->zm,none->BW
open PySem.PassesOwn renaming never->i8,leaving->tq
open Array renaming length_toList->jb,getElem?_toList->mi,getElem?_eq_getElem->my,getElem?_eq_none->n6,append_empty->qc,toList_append->tx,append_assoc->ug,size_push->vt,mk->yt,getElem?_push->y8,forIn_toList->zi
open PySem.Builtin.SmallTypes renaming fitsIndex->jd,ownedTupleIsFree->kg,nextOf->oi,ownedTupleFields->AD,newRecord->AE,indexObject->AF
open False renaming elim->jm
open PySem.Obj renaming mapSeq->lb,mapFields->CF
open PySem.Around renaming under_plainId->lg,under->xp,frames_deeper->yj
open Ne renaming symm->lz
open PySem.Calls renaming spliced_cons->l7,evalArgs_plain->pk,spliced_nil->qo,callWith_builtin->ri,Name_function_global->wf,Constant_str->zh
open True renaming intro->l8
open PySem.WalksT renaming enumerateD->mh,enumerate->zk,zip2->BU
open PySem.Builtin.List renaming listTooLong->mj,listExtendWith->oq,listSameRef->ut,listItems->vd,listUpdate->EZ,listTouch->FA,listLengthHint->FB,listFitsIndex->FC
open PySem.NameKind renaming free->mr,cell->zx
open Classical renaming choose_spec->nr
open List.cons renaming inj->oh,injEq->um
open PySem.Builtin.Str renaming strSliceIndices->ou,occurrences->qb,tooLong->FO
open PySem.Code renaming quiet_builtin->qh,isFrame->yh,frames->DR
open Prod.mk renaming injEq->qj
open PySem.Builtin.ObjectAttr renaming ownThenClass->qx,storeInDict->rb,storeInOwnDict->AG,ownDict->AH,newKeyGuard->AI,inOwnDict->AJ,find->AK,dataDescriptor?->AL
open PySem.EntryCells renaming newEntry->rn
open PySem.Value.ref renaming inj->se
open PySem.Builtin.Builtins renaming bindParams->su
open PySem.SeqAt.RcAt renaming lists->ua,tuples->xq,lists_lengths->FV
open PySem.SeqAt renaming EqAt->uc
open PySem.SeqAt.EqAt renaming same->uh,str_int->xg,of_refs->xh,int_str->xi,str_str->FW,str_none->FX,str_bool->FY,none_str->FZ,none_int->GA,none_bool->GB,int_none->GC,int_int->GE,int_bool->GF,bool_str->GG,bool_none->GH,bool_int->GI,bool_bool->GJ
open PySem.Builtin.Range renaming rangeSize->ur
open Sum renaming inr->uv,inl->uw
open List.Pairwise renaming filter->vq,nil->DN
open Or renaming inr->vv,inl->xl
open PySem.SeqAt.RcNeAt renaming lists->wg,tuples->DW,lists_lengths->DX
open PySem.W.Hook renaming val->xj,obs->xk,says->EA,of->EB,keeps->EC
open PySem.Manifest renaming signature?->xw
open PySem.Expr renaming Call->xx
open PySem.W.Looks renaming ld->yp,ld->CV,here->CY
open PySem.Heap.Ns1 renaming of_empty->yr
open ForInStep renaming yield->y6
open PySem.Txt renaming join->zb
open Nat.succ renaming inj->z9
open PySem.Data renaming dict->AC,fields->DQ
open PySem.Draws renaming strAscii->BB,strWide->BP,list->DP
open Prod renaming ext->BG
open PySem.IsRange renaming new->BM
open PySem.W.WShape renaming has->CA
open PySem.Heap.IsSliceOf renaming new->CK
open PySem.CmpOp renaming NotIn->CP,In->FN
open PySem.EqMixed renaming ne_str_int->CZ,ne_str_bool->DA,ne_int_str->DB,ne_bool_str->DC,eq_str_int->DD,eq_str_bool->DE,eq_int_str->DF,eq_bool_str->DG
open PySem.W.WData renaming int->DV
open PySem.Sem renaming wp_mono->DY,wp->FI
open PySem.Within renaming cons->DZ
open PySem.EqNone renaming ne_str_none->ED,ne_none_str->EE,ne_none_none->EF,ne_none_int->EG,ne_none_bool->EH,ne_int_none->EI,ne_bool_none->EJ,eq_str_none->EK,eq_none_str->EL,eq_none_none->EM,eq_none_int->EN,eq_none_bool->EO,eq_int_none->EQ,eq_bool_none->ER
open PySem.Heap.SameBut renaming refl->EX
open PySem.Heap.DictOf renaming new->FL
open PySem.W.KF renaming slot_gs->GK
open PySem.IsL renaming update->GP
open PySem.DictEntry renaming refKey->GS
open PySem.AutoListH renaming list___mul___list_int_3->GT
open PySem.W (instObj hideAll of_hideAll lookIn kitOne kia_one callWith_K exmOne CodeHd kla_obj km_in_of mg_none_of)
abbrev Za0:=va->PySem.Shared->Prop
abbrev Za1:=List (PySem.Addr×PySem.Obj)
abbrev Za2:=zw->Option va
abbrev Za3:=List va
abbrev Za4:=List Nat
abbrev Za5:=List Bool
abbrev Za6:=List zw
abbrev Za7:=Option va
set_option hygiene false in
local macro_rules | `(tactic| lia)=>`(tactic| first | with_reducible first | assumption | exact Nat.le_of_lt (by assumption) | exact Nat.not_le.mp (by assumption) | exact Nat.lt_of_le_of_lt (by assumption) (by assumption) | exact Nat.le_trans (by assumption) (by assumption) | exact Nat.lt_trans (by assumption) (by assumption) | exact Nat.lt_succ_of_lt (by assumption) | exact Nat.sub_le _ _ | exact Nat.lt_of_lt_of_le (by assumption) (by assumption) | exact Nat.le_of_lt_succ (by assumption) | exact Nat.pos_of_ne_zero (by assumption) | exact Nat.zero_le _ | exact Nat.sub_succ_lt_self _ _ (by assumption) | exact Nat.sub_lt (Nat.zero_lt_of_lt (by assumption)) Nat.one_pos | exact Nat.lt_of_lt_of_le (Nat.sub_lt (Nat.zero_lt_of_lt (by assumption)) Nat.one_pos) (by assumption) | lia (splits := 9) | omega)
theorem QC(h:True:=by rfl):True:=h
def QD:Lean.Syntax:=QC._auto_1
theorem QE(h:True:=by decide):True:=h
def QF:Lean.Syntax:=QE._auto_1
theorem QG(h:True:=by first|exact .inl rfl|exact .inr rfl|assumption):True:=h
def QH:Lean.Syntax:=QG._auto_1
theorem QI(h:True:=by intro _;rfl):True:=h
def QJ:Lean.Syntax:=QI._auto_1
theorem QK(h:True:=by (repeat intro _);rfl):True:=h
def QL:Lean.Syntax:=QK._auto_1
section
set_option hygiene false in
local macro_rules | `(tactic| k_in)=>`(tactic| intro pins s G H Q I h)
set_option hygiene false in
local macro_rules | `(tactic| k_end)=>`(tactic| intro pins s G H D I h)
local macro_rules | `(tactic| k_cls)=>`(tactic| (constructor<;>first | rfl | decide +kernel))
namespace L2
open PySem PySem.Spec PyProof.Rows
variable {C CS Pt dx i1 i2 it l1 l2 z:dw} {params:lu} {A:ii} {CX:CXT} {op:ss} {X:Cx} {env:Env} {tg:gq} {fd:i3} {base h h' h1:im} {H H' H1 H2:Hp} {J:It} {pins:Za1} {fp:List dw} {outer:List Env} {elts:List gq} {ns:List Int} {ix:Za4} {N ps:Za6} {ts:List Tb} {xs:List V} {us vs:Za3} {M:rk} {off t':Nat} {oT:Obj} {od:Option dw} {pos:Pos} {scope:lm} {pl:Sem Bool} {s s2:eg} {sp:Sp} {st:io} {qual:Str} {tk:TA} {te:TE} {wi:TI} {y:V} {pm:ed} {w:gr}
abbrev Key:=Sum Int Str
def tS:Key->ed->Bool
 |.inl k,v=>Value.isInt k v
 |.inr x,v=>Value.isStrOf x v
def Aaz (w:gr):Key->Int
 |.inl k=>hashInt k
 |.inr x=>hashStr w x
theorem Co:∀{k:Key} {v:ed},tS k v=true->(∃i t,k=uw i/\v=mq i t)\/(∃x t,k=uv x/\v=sv x t)
 |.inl i,v,h=>by
  obtain⟨t,e⟩:=Value.isInt_shape (k:=i) (v:=v) h;exact .inl ⟨i,t,rfl,e⟩
 |.inr x,v,h=>by
  obtain⟨t,e⟩:=Value.isStrOf_shape (x:=x) (v:=v) h;exact .inr ⟨x,t,rfl,e⟩
theorem vG (a b:Int):decide ((uw a:Key)=uw b)=(a==b):=by
 by_cases e:a=b
 ·subst e;simp
 ·have h:¬(uw a:Key)=uw b:=λq=>e (Sum.inl.inj q)
  rw[decide_eq_false h];exact(beq_eq_false_iff_ne.mpr e).symm
theorem uZ (a b:Str):decide ((uv a:Key)=uv b)=decide (a=b):=by
 by_cases e:a=b
 ·subst e;simp
 ·have h:¬(uv a:Key)=uv b:=λq=>e (Sum.inr.inj q)
  rw[decide_eq_false h,decide_eq_false e]
theorem vJ (a:Int)(b:Str):decide ((uw a:Key)=uv b)=false:=decide_eq_false (λq=>nomatch q)
theorem xK (a:Str)(b:Int):decide ((uv a:Key)=uw b)=false:=decide_eq_false (λq=>nomatch q)
def eQ (prog:fq)(w:gr):PySem.KeyKind prog w Key where
 is:=tS
 hash:=Aaz w
 inj:=λv a b ha hb=>by
  rcases Co ha with⟨i,t,rfl,rfl⟩|⟨x,t,rfl,rfl⟩
  ·rcases Co hb with⟨j,u,rfl,e⟩|⟨y,u,rfl,e⟩
   ·injection e with e1 _;rw[e1]
   ·exact nomatch e
  ·rcases Co hb with⟨j,u,rfl,e⟩|⟨y,u,rfl,e⟩
   ·exact nomatch e
   ·injection e with e1 _;rw[e1]
 byValue:=λk v h=>by
  rcases Co h with⟨i,t,rfl,rfl⟩|⟨x,t,rfl,rfl⟩<;>rfl
 pyHash:=λhv h=>by
  rcases Co hv with⟨i,t,rfl,rfl⟩|⟨x,t,rfl,rfl⟩
  ·exact wpAny_pyHash_int h
  ·exact wpAny_pyHash_str h
 eqBool:=λhu hv h=>by
  rcases Co hu with⟨i,t,rfl,rfl⟩|⟨x,t,rfl,rfl⟩
  ·rcases Co hv with⟨j,u,rfl,rfl⟩|⟨y,u,rfl,rfl⟩
   ·rw[vG] at h;exact wpAny_eqBool_int h
   ·rw[vJ] at h;exact xi i t y u _ _ _ _ h
  ·rcases Co hv with⟨j,u,rfl,rfl⟩|⟨y,u,rfl,rfl⟩
   ·rw[xK] at h;exact xg x t j u _ _ _ _ h
   ·rw[uZ] at h;exact wpAny_eqBool_str h
 «strs»:=λk x t v h=>by
  rcases Co h with⟨i,u,rfl,e⟩|⟨y,u,rfl,e⟩
  ·exact nomatch e
  ·injection e with e1 _
   subst e1;cases v<;>rfl
inductive V where
 |non|bl (b:Bool)|int (i:Int)|str (x:Str)|byt (b:Array UInt8)|flt (b:UInt64)|ref (a:dw)|ty (n:String)
 deriving DecidableEq
def Bm:V->ed->Prop
 |.non,u=>u=ll
 |.bl b,u=>u=wd b
 |.int i,u=>∃t,u=mq i t
 |.str x,u=>∃t,u=sv x t
 |.byt b,u=>∃t,u=CB b t
 |.flt b,u=>∃t,u=yl b t
 |.ref a,u=>u=ia a
 |.ty n,u=>u=iz n
abbrev A3:List V->Za3->Prop:=xc Bm
theorem A3.length (r:A3 xs us):xs.length=us.length:=Paired.length r
theorem A3.get:∀{xs:List V} {us:Za3} {i:Nat} {x:V},A3 xs us->xs[i]?=some x->∃u,us[i]?=some u/\Bm x u
 |_,_,_,_,.nil,e=>by simp at e
 |_,_,0,_,.cons r _,e=>by simp at e;subst e;exact⟨_,rfl,r⟩
 |_,_,i+1,x,.cons _ t,e=>by
  obtain⟨u,h1,h2⟩:=A3.get (i:=i) (x:=x) t (by simpa using e);exact⟨u,by simpa using h1,h2⟩
theorem A3.append:∀{xs ys:List V} {us ws:Za3},A3 xs us->A3 ys ws->A3 (xs++ys) (us++ws)
 |_,_,_,_,.nil,s=>s
 |_,_,_,_,.cons r t,s=>.cons r (A3.append t s)
theorem A3.take:∀{xs:List V} {us:Za3} (n:Nat),A3 xs us->A3 (xs.take n) (us.take n)
 |_,_,0,_=>.nil
 |_,_,_+1,.nil=>.nil
 |_,_,n+1,.cons r t=>.cons r (A3.take n t)
theorem A3.drop:∀{xs:List V} {us:Za3} (n:Nat),A3 xs us->A3 (xs.drop n) (us.drop n)
 |_,_,0,r=>r
 |_,_,_+1,.nil=>.nil
 |_,_,n+1,.cons _ t=>A3.drop n t
def Pq:Option V->Za7->Prop
 |some v,some u=>Bm v u
 |none,none=>True
 |_,_=>False
def KV {κ:Type}:List (κ×V)->List (κ×ed)->Prop:=xc λ(p:κ×V) (q:κ×ed)=>p.1=q.1/\Bm p.2 q.2
def kV:Key->V
 |.inl i=>.int i
 |.inr x=>.str x
inductive HO where
  |lst (xs:List V)
  |tup (xs:List V)
  |dK (kvs:List (Key×V))|dT (kvs:List (List Key×V))
  |set (S:Int->Bool) (n:Nat)
  |ins (C dx:dw) (fs:List (Str×V))
  |own (x:dw)
  |xd (fs:List (Str×V))
  |met (f x:dw)
  |rng (lo hi:Int)
  |frz (o:Obj) (u:HO)
  |tbl (ps:Array ed)
  |ext (φ:im->Prop)
abbrev Hp:=dw->Option HO
def upd (H:Hp)(a:dw)(o:HO):Hp:=λb=>if b=a then some o else H b
theorem Ac {H:Hp}{a:dw}{o:HO}:upd H a o a=some o:=by unfold upd;rw[if_pos rfl]
theorem Aj {a b:dw}{o:HO}(h:b≠a):upd H a o b=H b:=by unfold upd;rw[if_neg h]
theorem Vw {a:dw}{o u:HO}:upd (upd H a o) a u=upd H a u:=by
 funext b;unfold upd;split<;>rfl
theorem Pi {a b:dw}{o u:HO}(h:H a=some o)(h':H b=some u)(d:o≠u):a≠b:=by
 intro e;subst e;rw[h] at h';exact d (d0 h')
theorem Am {a b:dw}{o:HO}(h:H a=some o)(h':H b=none):a≠b:=by
 intro e;subst e;rw[h] at h';cases h'
section
variable (P:fq) (w:gr)
def Ce (H:Hp)(h:im)(a:dw):HO->Prop
 |.lst xs=>xs.length<=sizeLine/\∃(its:Za3) (n:Nat),A3 xs its/\h.get? a=some { cls:=.type "list",data:=.seq its.toArray n }
 |.tup xs=>xs.length<=sizeLine/\∃its:Za3,A3 xs its/\IsTup h a its.toArray
 |.dK kvs=>kvs.length<=sizeLine/\(a==sysModules)=false/\∃vs,KV kvs vs/\h.DictOf (eQ P w) a vs
 |.dT kvs=>kvs.length<=sizeLine/\(a==sysModules)=false/\∃xs:List (List Key×dw×ed),
   xc (λ(p:List Key×V) (q:List Key×dw×ed)=>p.1=q.1/\H q.2.1=some (.tup (p.1.map kV))/\Bm p.2 q.2.2) kvs xs /\
   ∃o es ep,h.get? a=some o/\o.ExactDict/\o.data=.dict es ep/\es.toList=xs.map (entryOfKey (tupleKind (eQ P w)))/\(xs.map (·.1)).Nodup
 |.set S n=>h.SetOf (intKind P w) a S n
 |.ins C dx fs=>H dx=some (.own a)/\fs.length<=1000/\dx≠a/\h.get? a=some (instObj C dx) /\
   ∃mA,h.Ns1 dx mA/\(∀f,Pq (fs.lookup f) (mA f))/\xr mA (fs.map (·.1))
 |.own _=>∃o,h.get? a=some o
 |.xd fs=>∃mA,h.Ns1 a mA/\∀f,Pq (fs.lookup f) (mA f)
 |.rng lo hi=>∃t u v,h.get? a=some { cls:=.type "range",data:=.fields #[.int lo t,.int hi u,.int 1 v] }
 |.frz o u=>h.get? a=some o/\Ce H h a u
 |.tbl ps=>h.get? a=some { cls:=.none,data:=.fields ps }
 |.met f x=>h.get? a=some (ud (.ref f) (.ref x))
 |.ext φ=>φ h/\(∃o,h.get? a=some o)/\∀h1 h2:im,φ h1->(∀o,h1.get? a=some o->h2.get? a=some o)->φ h2
def HOk (H:Hp)(h:im):Prop:=∀a o,H a=some o->Ce P w H h a o
end
section
variable {P:fq} {w:gr} {H H':Hp} {h h':im} {a:dw} {o:HO}
theorem Ce.lt (x:Ce P w H h a o):a<h.objs.size:=by
 cases o with
 |lst xs=>obtain⟨_,_,_,_,e⟩:=x;exact ee e
 |tup xs=>obtain⟨_,_,_,p⟩:=x;exact p.lt
 |dK kvs=>obtain⟨_,_,_,_,o,_,_,e,_⟩:=x;exact ee e
 |dT kvs=>obtain⟨_,_,_,_,o,_,_,e,_⟩:=x;exact ee e
 |set S n=>obtain⟨o,_,_,_,e,_⟩:=x;exact ee e
 |ins C dx fs=>obtain⟨_,_,_,e,_⟩:=x;exact ee e
 |own y=>obtain⟨_,e⟩:=x;exact ee e
 |xd fs=>obtain⟨_,⟨_,_,_,e,_⟩,_⟩:=x;exact ee e
 |rng lo hi=>obtain⟨_,_,_,e⟩:=x;exact ee e
 |frz ob u=>obtain⟨e,_⟩:=x;exact ee e
 |tbl ps=>exact ee (show h.get? a=some _ from x)
 |met f y=>exact ee (show h.get? a=some _ from x)
 |ext φ=>obtain⟨_,⟨_,e⟩,_⟩:=x;exact ee e
theorem xc.mapP {α β:Type}{F G:α->β->Prop}:∀{HX:List α} {HY:List β},xc F HX HY->(∀a b,F a b->G a b)->xc G HX HY
 |_,_,.nil,_=>.nil
 |_,_,.cons r t,f=>.cons (f _ _ r) (xc.mapP t f)
theorem Ce.stay (x:Ce P w H h a o)(k:∀b u,(b=a\/H b=some (.own a))->h.get? b=some u->h'.get? b=some u)
  (ho:∀b,H b=some (.own a)->H' b=some (.own a))(ht:∀b xs,H b=some (.tup xs)->H' b=some (.tup xs)):Ce P w H' h' a o:=by
 induction o with
 |lst xs=>obtain⟨z,its,n,r,e⟩:=x;exact⟨z,its,n,r,k _ _ (.inl rfl) e⟩
 |tup xs=>obtain⟨z,its,r,ob,e,c⟩:=x;exact⟨z,its,r,ob,k _ _ (.inl rfl) e,c⟩
 |dK kvs=>obtain⟨z,y,vs,r,ob,es,ep,e,c⟩:=x;exact⟨z,y,vs,r,ob,es,ep,k _ _ (.inl rfl) e,c⟩
 |dT kvs=>
  obtain⟨z,y,xs,r,ob,es,ep,e,c⟩:=x;exact⟨z,y,xs,xc.mapP r λp q z=>⟨z.1,ht _ _ z.2.1,z.2.2⟩,ob,es,ep,k _ _ (.inl rfl) e,c⟩
 |set S n=>obtain⟨ob,es,ep,t,e,c⟩:=x;exact⟨ob,es,ep,t,k _ _ (.inl rfl) e,c⟩
 |ins C dx fs=>
  obtain⟨d,z,ne,e,mA,⟨od,es,ep,e2,c⟩,r⟩:=x;exact⟨ho _ d,z,ne,k _ _ (.inl rfl) e,mA,⟨od,es,ep,k _ _ (.inr d) e2,c⟩,r⟩
 |own y=>obtain⟨ob,e⟩:=x;exact⟨ob,k _ _ (.inl rfl) e⟩
 |xd fs=>obtain⟨mA,⟨od,es,ep,e,c⟩,r⟩:=x;exact⟨mA,⟨od,es,ep,k _ _ (.inl rfl) e,c⟩,r⟩
 |rng lo hi=>obtain⟨t,u,v,e⟩:=x;exact⟨t,u,v,k _ _ (.inl rfl) e⟩
 |frz ob u ih=>obtain⟨e,q⟩:=x;exact⟨k _ _ (.inl rfl) e,ih q⟩
 |tbl ps=>
  have e:h.get? a=some { cls:=.none,data:=.fields ps }:=x;show h'.get? a=some { cls:=.none,data:=.fields ps };exact k a _ (.inl rfl) e
 |met f y=>
  have e:h.get? a=some (ud (.ref f) (.ref y)):=x;show h'.get? a=some (ud (.ref f) (.ref y));exact k a _ (.inl rfl) e
 |ext φ=>obtain⟨p,⟨o,e⟩,st⟩:=x;exact⟨st _ _ p λo q=>k _ _ (.inl rfl) q,⟨o,k _ _ (.inl rfl) e⟩,st⟩
theorem HOk.lt (x:HOk P w H h)(e:H a=some o):a<h.objs.size:=(x a o e).lt
theorem HOk.fresh (x:HOk P w H h)(e:h.objs.size<=a):H a=none:=by
 cases q:H a with
 |none=>rfl
 |some u=>exact absurd (d7 (x.lt q) e) (jj _)
theorem HOk.kept (x:HOk P w H h)(k:∀b u,h.get? b=some u->h'.get? b=some u):HOk P w H h':=λa o e=>
 (x a o e).stay (λb u _ q=>k b u q) (λ_ q=>q) λ_ _ q=>q
theorem HOk.laid (x:HOk P w H h)(k:∀b u,h.get? b=some u->h'.get? b=some u)(hp:h.objs.size<=a)(new:Ce P w (upd H a o) h' a o):HOk P w (upd H a o) h':=λb u e=>by
 have hn:=x.fresh hp
 by_cases hb:b=a
 ·subst hb;rw[Ac] at e;cases e;exact new
 ·rw[Aj hb] at e
  exact(x b u e).stay (λc v _ q=>k c v q) (λc q=>by rw[Aj (Am q hn)];exact q) λc xs q=>by rw[Aj (Am q hn)];exact q
end
def Rd (H:Hp)(a:dw)(u:HO):Prop:=H a=some u\/∃o,H a=some (.frz o u)
theorem Rd.ok {P:fq}{a:dw}{u:HO}(r:Rd H a u)(x:HOk P w H h):Ce P w H h a u:=by
 rcases r with r|⟨o,r⟩
 ·exact x a u r
 ·obtain⟨_,q⟩:=x a _ r
  exact q
def Mut:Option HO->Prop
 |some (.lst _)=>True
 |some (.dK _)=>True
 |some (.dT _)=>True
 |some (.set _ _)=>True
 |some (.ins _ _ _)=>True
 |some (.ext _)=>True
 |_=>False
section
variable {P:fq} {w:gr} {H:Hp} {h h':im} {x e:dw} {o':HO}
theorem HOk.write (ok:HOk P w H h)(mu:Mut (H x))(he:e=x\/H e=some (.own x))(k:∀b u,b≠e->h.get? b=some u->h'.get? b=some u)(heo:∃u,h'.get? e=some u)
  (new:Ce P w (upd H x o') h' x o'):HOk P w (upd H x o') h':=λb u q=>by
 have nown:∀c y,H c=some (.own y)->c≠x:=λc y r z=>by subst z;rw[r] at mu;exact mu
 have ntup:∀c xs,H c=some (.tup xs)->c≠x:=λc xs r z=>by subst z;rw[r] at mu;exact mu
 by_cases hb:b=x
 ·subst hb;rw[Ac] at q;cases q;exact new
 ·rw[Aj hb] at q
  by_cases hbe:b=e
  ·have q':H b=some (.own x):=by
    rcases he with z|z
    ·exact absurd (hbe.trans z) hb
    ·rw[hbe];exact z
   rw[q] at q';cases q';obtain⟨v,hv⟩:=heo;exact⟨v,by rw[hbe];exact hv⟩
  ·refine(ok b u q).stay (λc v hc r=>k c v ?_ r) (λc r=>by rw[Aj (nown c b r)];exact r) λc xs r=>by rw[Aj (ntup c xs r)];exact r
   rcases hc with rfl|hc
   ·exact hbe
   ·rintro rfl
    rcases he with z|z
    ·exact nown c b hc z
    ·rw[hc] at z;cases z;exact hb rfl
end
structure Un (fs ex:List dw) (H H':Hp) (h h':im):Prop where
 keep:∀b o,h.get? b=some o->H b=none->b∉fs->b∉ex->h'.get? b=some o
 slot:∀b o,h.get? b=some o->H b=none->b∈fs->b∉ex->∃sl,h'.get? b=some { o with slots:=sl }
 free:∀b o,h.get? b=some o->H b=none->b∉ex->H' b=none
 there:∀b o,h.get? b=some o->b∉ex->∃o',h'.get? b=some o'
 tups:∀b xs,H b=some (.tup xs)->H' b=some (.tup xs)
 frzs:∀b o u,H b=some (.frz o u)->H' b=some (.frz o u)
 tbls:∀b ps,H b=some (.tbl ps)->∃more,H' b=some (.tbl (ps++more))
section
variable {fs fs' ex ex':List dw} {H H1 H2:Hp} {h h1 h2 h':im} {a x e:dw} {o:HO}
theorem Un.any (u:Un fs ex H H1 h h1){b:dw}{ob:Obj}(q:h.get? b=some ob)(n:H b=none)(hx:b∉ex):∃sl,h1.get? b=some { ob with slots:=sl }:=by
 by_cases hb:b∈fs
 ·exact u.slot b ob q n hb hx
 ·exact⟨ob.slots,u.keep b ob q n hb hx⟩
theorem Un.trans (a:Un fs ex H H1 h h1)(b:Un fs ex H1 H2 h1 h2):Un fs ex H H2 h h2 where
 keep:=λc ob q n hc hx=>b.keep c ob (a.keep c ob q n hc hx) (a.free c ob q n hx) hc hx
 slot:=λc ob q n hc hx=>by
  obtain⟨sl,e1⟩:=a.slot c ob q n hc hx;obtain⟨sl',e2⟩:=b.slot c _ e1 (a.free c ob q n hx) hc hx;exact⟨sl',e2⟩
 free:=λc ob q n hx=>by
  obtain⟨o',e1⟩:=a.there c ob q hx;exact b.free c o' e1 (a.free c ob q n hx) hx
 there:=λc ob q hx=>by
  obtain⟨o',e1⟩:=a.there c ob q hx;exact b.there c o' e1 hx
 tups:=λc xs q=>b.tups c xs (a.tups c xs q)
 frzs:=λc ob xs q=>b.frzs c ob xs (a.frzs c ob xs q)
 tbls:=λc ps q=>by
  obtain⟨m1,e1⟩:=a.tbls c ps q;obtain⟨m2,e2⟩:=b.tbls c _ e1;exact⟨m1++m2,by rw[e2,ug]⟩
theorem Un.kept (k:∀b u,h.get? b=some u->h'.get? b=some u):Un fs ex H H h h':=
 ⟨λb ob q _ _ _=>k b ob q,λb ob q _ _ _=>⟨ob.slots,k b ob q⟩,λ_ _ _ n _=>n,λb ob q _=>⟨ob,k b ob q⟩,λ_ _ q=>q,λ_ _ _ q=>q,λ_ ps q=>⟨#[],by rw[q];simp⟩⟩
theorem Un.refl:Un fs ex H H h h:=Un.kept λ_ _ q=>q
theorem Un.laid (k:∀b u,h.get? b=some u->h'.get? b=some u)(hp:h.objs.size<=a)(hn:H a=none):Un fs ex H (upd H a o) h h' where
 keep:=λb u q _ _ _=>k b u q
 slot:=λb u q _ _ _=>⟨u.slots,k b u q⟩
 free:=λb u q n _=>by rw[Aj (fu (d7 (ee q) hp))];exact n
 there:=λb u q _=>⟨u,k b u q⟩
 tups:=λb xs q=>by rw[Aj (Am q hn)];exact q
 frzs:=λb u xs q=>by rw[Aj (Am q hn)];exact q
 tbls:=λb ps q=>⟨#[],by rw[Aj (Am q hn),q];simp⟩
theorem Un.write (mu:Mut (H x))(he:e=x\/H e=some (.own x))(k:∀b u,b≠e->h.get? b=some u->h'.get? b=some u)(heo:∃u,h'.get? e=some u):Un fs ex H (upd H x o) h h':=by
 have hx:∀b,H b=none->b≠x:=λb n z=>by subst z;rw[n] at mu;exact mu
 have hb:∀b,H b=none->b≠e:=λb n z=>by
  subst z;rcases he with r|r
  ·exact hx b n r
  ·rw[n] at r;cases r
 have hm:∀b u,H b=some u->¬ Mut (some u)->b≠x:=λb u q nm z=>by subst z;rw[q] at mu;exact nm mu
 refine⟨λb u q n _ _=>k b u (hb b n) q,λb u q n _ _=>⟨u.slots,k b u (hb b n) q⟩,λb u q n _=>by rw[Aj (hx b n)];exact n,λb u q _=>?_,
  λb xs q=>by rw[Aj (hm b _ q λz=>z)];exact q,λb u xs q=>by rw[Aj (hm b _ q λz=>z)];exact q,λb ps q=>⟨#[],by rw[Aj (hm b _ q λz=>z),q];simp⟩⟩
 by_cases hbe:b=e
 ·subst hbe;exact heo
 ·exact⟨u,k b u hbe q⟩
end
def trk (h:im)(H:Hp):List dw:=(et h.objs.size).filter λa=>(H a).isSome
def Vn (h:im)(H:Hp):im:=hideAll h (trk h H)
theorem jJ (h:im)(H:Hp):(Vn h H).objs.size=h.objs.size:=PySem.W.hideAll_size _ _
theorem Ro {b:dw}{o:Obj}(e:h.get? b=some o)(n:H b=none):(Vn h H).get? b=some o:=
 sk _ e λhm=>by
  have q:(H b).isSome=true:=(r9.mp hm).2;rw[n] at q;simp at q
theorem rX {b:dw}{o:Obj}(e:(Vn h H).get? b=some o):h.get? b=some o/\H b=none:=by
 have e':h.get? b=some o:=ve (trk h H) e;refine⟨e',?_⟩
 cases q:H b with
 |none=>rfl
 |some x=>
  have hm:b∈trk h H:=r9.mpr ⟨jn.mpr (ee e'),by simp[q]⟩;have z:(Vn h H).get? b=none:=xu (trk h H) hm;rw[z] at e;cases e
structure Mod (K:dn) (mg:Za2) (base:im):Prop where
 kin:K.In base
 glob:base.Ns mainGlobals mg
 blt:∃mb,base.Ns builtinsNs mb/\∀x:Str,x≠"__name__"->mb x=bootBuiltins x
 nolimit:base.NoLimit
structure Cx where
 prog:fq
 w:gr
 K:dn
 mg:Za2
 base:im
 A:ii
 N:Za6
 HA:eg
 HC:Hp
 env:Env
 outer:List Env
 stack:List Env
 ex:List dw
 fn:Str->Bool
 calm:Bool
 pn:Za1
 xe:Za0
def frs (l:List Env):List dw:=l.filterMap (·.frame)
abbrev Cx.fs (X:Cx):List dw:=frs X.outer
def Vis (sc:lm)(x:Str):Prop:=sc.names.lookup x=some .local\/sc.names.lookup x=some .cell\/sc.names.lookup x=some .free
def Loc (sc:lm)(x:Str):Prop:=sc.names.lookup x=some .local\/sc.names.lookup x=some .cell
def Aa3 (env:Env)(h:im)(m:Za2)(x:Str)(u:ed):Prop:=
 (env.kindOf x=some .local/\m x=some u)\/((env.kindOf x=some .cell\/env.kindOf x=some .free)/\∃c,env.cells.lookup x=some c/\h.IsCell c (some u))
structure Cx.Ok (X:Cx):Prop where
 mod:Mod X.K X.mg X.base
 kind:X.env.scope.kind=.function
 glob:X.env.globals=mainGlobals
 blt:X.env.builtins=builtinsNs
 above:X.HA.heap.objs.size<=X.env.locals
 inj:∀x y c,X.env.cells.lookup x=some c->X.env.cells.lookup y=some c->x=y
 has:∀x,(X.env.kindOf x=some .cell\/X.env.kindOf x=some .free)->∃c,X.env.cells.lookup x=some c
 cab:∀x c,X.fn x=true->X.env.cells.lookup x=some c->X.HA.heap.objs.size<=c
 hd:X.calm=true->X.A.handled=none
 frames:X.A.frames=some X.stack
 stk:X.stack=X.outer\/(X.stack=X.env::X.outer/\X.env.frame=some X.env.locals)
 exf:∀b∈X.ex,b≠X.env.locals/\∀x c,X.env.cells.lookup x=some c->c≠b
 bs:∀b o,X.base.get? b=some o->X.HA.heap.get? b=some o/\X.HC b=none
 bsz:X.base.objs.size<=X.HA.heap.objs.size
 noex:∀b o,X.base.get? b=some o->b∉X.ex
 exfs:∀b∈X.ex,b∉X.fs
 funs:X.HA.heap.FunFrames X.base X.outer
 frf:∀b∈X.fs,X.HC b=none
structure Inv (X:Cx) (pins:Za1) (G:List (Option V)) (H:Hp) (s:eg):Prop where
 ok:X.Ok
 os:s.os=X.HA.os
 bare:qr s.gens
 base:Un X.fs X.ex X.HC H X.HA.heap s.heap
 loc:∃m,s.heap.Ns X.env.locals m/\∀(i:Nat) (x:Str) (v:V),X.N[i]?=some x->G[i]?=some (some v)->Vis X.env.scope x->∃u,Bm v u/\Aa3 X.env s.heap m x u
 cell:∀x c,X.env.cells.lookup x=some c->∃v,s.heap.IsCell c v
 free:H X.env.locals=none
 freeC:∀x c,X.env.cells.lookup x=some c->H c=none
 pin:∀p∈X.pn++pins,s.heap.get? p.1=some p.2/\H p.1=none/\p.1≠X.env.locals/\p.1∉X.fs/\∀v,p.2.data≠.cell v
 hok:HOk X.prog X.w H s.heap
 len:G.length=X.N.length
section
variable {X:Cx} {pins:Za1} {G:List (Option V)} {H H':Hp} {s:eg} {h':im}
theorem Cx.Ok.nofr (ok:X.Ok){b:dw}{o:Obj}(e:X.base.get? b=some o):b∉X.fs:=λhb=>by
 have:=(ok.funs.mem hb).1;rw[e] at this;cases this
theorem Inv.bs (I:Inv X pins G H s):∀b o,X.base.get? b=some o->s.heap.get? b=some o/\H b=none:=λb o e=>
 ⟨I.base.keep b o (I.ok.bs b o e).1 (I.ok.bs b o e).2 (I.ok.nofr e) (I.ok.noex b o e),I.base.free b o (I.ok.bs b o e).1 (I.ok.bs b o e).2 (I.ok.noex b o e)⟩
theorem Inv.bk (I:Inv X pins G H s):∀b o,X.base.get? b=some o->s.heap.get? b=some o:=λb o e=>(I.bs b o e).1
theorem Inv.mod (I:Inv X pins G H s):Mod X.K X.mg X.base:=I.ok.mod
theorem Inv.kIn (I:Inv X pins G H s):X.K.In s.heap:=I.ok.mod.kin.keeps I.bk
theorem Inv.fr (I:Inv X pins G H s):∃m,Fr X.base X.env.locals s.heap m:=
 let ⟨m,hn,_⟩:=I.loc
 ⟨m,hn,I.bk,ie I.ok.bsz I.ok.above⟩
theorem Inv.lt (I:Inv X pins G H s):X.env.locals<s.heap.objs.size:=let ⟨_,hn,_⟩:=I.loc;hn.lt
theorem Inv.sz (I:Inv X pins G H s):X.HA.heap.objs.size<=s.heap.objs.size:=ie I.ok.above (fk I.lt)
theorem Inv.nofs (I:Inv X pins G H s){a:dw}(h:s.heap.objs.size<=a):a∉X.fs:=λhb=>by
 obtain⟨_,o,ho,_⟩:=I.ok.funs.mem hb;exact absurd (d7 (ee ho) (ie I.sz h)) (jj _)
theorem Inv.cne (I:Inv X pins G H s):∀x c,X.env.cells.lookup x=some c->c≠X.env.locals:=λx c e z=>by
 obtain⟨v,o,ho,hd⟩:=I.cell x c e;obtain⟨m,⟨o',es,ep,ho',hd',_⟩,_⟩:=I.loc;rw[z,ho'] at ho;cases ho;rw[hd'] at hd;cases hd
theorem Inv.funs (I:Inv X pins G H s):s.heap.FunFrames X.base X.outer:=by
 have all:∀(l:List Env),(∀b∈frs l,b∈X.fs)->X.HA.heap.FunFrames X.base l->s.heap.FunFrames X.base l:=by
  intro l
  induction l with
  |nil=>intro _ _;trivial
  |cons env r ih=>
   intro hs hl;obtain⟨hk,⟨L,o,hf,hn,ho,hd⟩,hr⟩:=hl;have hL:L∈X.fs:=hs L (by unfold frs;rw[ub,hf];exact jo);obtain⟨sl,e⟩:=I.base.slot L o ho (I.ok.frf L hL) hL λz=>I.ok.exfs L z hL;exact⟨hk,⟨L,_,hf,hn,e,hd⟩,ih (λb hb=>hs b (by unfold frs;rw[ub,hf];exact ik _ hb)) hr⟩
 exact all X.outer (λ_ hb=>hb) I.ok.funs
theorem Inv.stack (I:Inv X pins G H s):s.heap.FunFrames X.base X.stack:=by
 rcases I.ok.stk with e|⟨e,hf⟩
 ·rw[e];exact I.funs
 ·rw[e]
  obtain⟨m,hn,_⟩:=I.loc;refine .cons (by rw[I.ok.kind];decide) hf hn ?_ I.funs;exact tj (ie I.ok.bsz I.ok.above)
theorem Inv.stkSub (I:Inv X pins G H s):∀b∈frs X.stack,b∈X.env.locals::X.fs:=λb hb=>by
 rcases I.ok.stk with e|⟨e,hf⟩
 ·rw[e] at hb;exact ik _ hb
 ·rw[e] at hb
  unfold frs at hb;rw[ub,hf] at hb;exact hb
theorem Inv.stkFree (I:Inv X pins G H s):∀b∈frs X.stack,H b=none:=λb hb=>by
 rcases gd.mp (I.stkSub b hb) with e|hb
 ·rw[e];exact I.free
 ·obtain⟨_,o,ho,_⟩:=I.ok.funs.mem hb
  exact I.base.free b o ho (I.ok.frf b hb) λz=>I.ok.exfs b z hb
theorem Inv.step {g':Array AZ}{d':Drawn}{ch:List dw}(I:Inv X pins G H s)
  (hch:∀b∈ch,(b∈X.ex\/X.HA.heap.objs.size<=b)/\b≠X.env.locals/\(∀x c,X.env.cells.lookup x=some c->c≠b)/\∀p∈X.pn++pins,p.1≠b)
  (keep:∀b o,b≠X.env.locals->b∉X.fs->b∉ch->s.heap.get? b=some o->H b=none->h'.get? b=some o)
  (slot:∀b o,b≠X.env.locals->b∈X.fs->b∉ch->s.heap.get? b=some o->H b=none->∃sl,h'.get? b=some { o with slots:=sl })(free:∀b o,b∉ch->s.heap.get? b=some o->H b=none->H' b=none)
  (there:∀b o,b∉ch->s.heap.get? b=some o->∃o',h'.get? b=some o')
  (tups:∀b xs,H b=some (.tup xs)->H' b=some (.tup xs))(frzs:∀b o u,H b=some (.frz o u)->H' b=some (.frz o u))(tbls:∀b ps,H b=some (.tbl ps)->∃more,H' b=some (.tbl (ps++more)))
  (ns:∀m,s.heap.Ns X.env.locals m->h'.Ns X.env.locals m)(hok:HOk X.prog X.w H' h')(hg:qr g') :
  Inv X pins G H' { s with heap:=h',gens:=g',drawn:=d',toks:=t' }:=by
 have neL:∀b o,X.HA.heap.get? b=some o->b≠X.env.locals:=λb o e=>fu (d7 (ee e) I.ok.above);have neC:∀b o,X.HA.heap.get? b=some o->b∉X.ex->b∉ch:=λb o e hx hb=>by
  rcases(hch b hb).1 with z|z
  ·exact hx z
  ·exact absurd (d7 (ee e) z) (jj _)
 have cellK:∀x c,X.env.cells.lookup x=some c->∀v,s.heap.IsCell c v->h'.IsCell c v:=λx c e v ⟨o,ho,hd⟩=>by
  have nch:c∉ch:=λz=>(hch c z).2.2.1 x c e rfl
  by_cases hc:c∈X.fs
  ·obtain⟨sl,q⟩:=slot c o (I.cne x c e) hc nch ho (I.freeC x c e)
   exact⟨_,q,hd⟩
  ·exact⟨o,keep c o (I.cne x c e) hc nch ho (I.freeC x c e),hd⟩
 refine⟨I.ok,I.os,hg,⟨λb o e n hb hx=>?_,λb o e n hb hx=>?_,λb o e n hx=>?_,λb o e hx=>?_,λb xs e=>tups b xs (I.base.tups b xs e),λb o xs e=>frzs b o xs (I.base.frzs b o xs e),λb ps e=>?_⟩,?_,λx c e=>?_,?_,λx c e=>?_,λp hp=>?_,hok,I.len⟩
 ·exact keep b o (neL b o e) hb (neC b o e hx) (I.base.keep b o e n hb hx) (I.base.free b o e n hx)
 ·obtain⟨sl,e1⟩:=I.base.slot b o e n hb hx
  obtain⟨sl',e2⟩:=slot b _ (neL b o e) hb (neC b o e hx) e1 (I.base.free b o e n hx);exact⟨sl',e2⟩
 ·obtain⟨o',e1⟩:=I.base.there b o e hx
  exact free b o' (neC b o e hx) e1 (I.base.free b o e n hx)
 ·obtain⟨o',e1⟩:=I.base.there b o e hx
  exact there b o' (neC b o e hx) e1
 ·obtain⟨m1,e1⟩:=I.base.tbls b ps e
  obtain⟨m2,e2⟩:=tbls b _ e1;exact⟨m1++m2,by rw[e2,ug]⟩
 ·obtain⟨m,hn,hl⟩:=I.loc
  refine⟨m,ns m hn,λi x v e1 e2 e3=>?_⟩;obtain⟨u,r,l⟩:=hl i x v e1 e2 e3;refine⟨u,r,?_⟩;rcases l with l|⟨k,c,e,z⟩
  ·exact .inl l
  ·exact .inr ⟨k,c,e,cellK x c e _ z⟩
 ·obtain⟨v,z⟩:=I.cell x c e
  exact⟨v,cellK x c e v z⟩
 ·obtain⟨m,⟨o,_,_,ho,_⟩,_⟩:=I.loc
  exact free _ o (λz=>(hch _ z).2.1 rfl) ho I.free
 ·obtain⟨v,o,ho,hd⟩:=I.cell x c e
  exact free c o (λz=>(hch c z).2.2.1 x c e rfl) ho (I.freeC x c e)
 ·obtain⟨e,n,ne,nf,d⟩:=I.pin p hp
  have nch:p.1∉ch:=λz=>(hch p.1 z).2.2.2 p hp rfl;exact⟨keep p.1 p.2 ne nf nch e n,free p.1 p.2 nch e n,ne,nf,d⟩
theorem Inv.un (I:Inv X pins G H s)(u:Un X.fs [] H H' s.heap h')(hok:HOk X.prog X.w H' h'):Inv X pins G H' { s with heap:=h',toks:=t' }:=by
 obtain⟨m,⟨o,es,ep,ho,r⟩,_⟩:=id I.loc;obtain⟨sl,hL⟩:=u.any ho I.free (by simp);exact I.step (g':=s.gens) (d':=s.drawn) (ch:=[]) (λ_ z=>nomatch z) (λb o _ hb _ e n=>u.keep b o e n hb (by simp)) (λb o _ hb _ e n=>u.slot b o e n hb (by simp)) (λb o _ e n=>u.free b o e n (by simp)) (λb o _ e=>u.there b o e (by simp)) u.tups u.frzs u.tbls (λm' hm=>by
  obtain⟨o',es',ep',ho',r'⟩:=hm;rw[ho] at ho';cases ho';exact⟨_,es',ep',hL,r'⟩) hok I.bare
theorem Inv.call {g':Array AZ}{d':Drawn}{ch:List dw}(I:Inv X pins G H s)(u:Un (frs X.stack) ch H H' s.heap h')(hok:HOk X.prog X.w H' h')(hg:qr g')
  (hch:∀b∈ch,(b∈X.ex\/X.HA.heap.objs.size<=b)/\b≠X.env.locals/\(∀x c,X.env.cells.lookup x=some c->c≠b)/\∀p∈X.pn++pins,p.1≠b) :
  Inv X pins G H' { s with heap:=h',gens:=g',drawn:=d',toks:=t' }:=by
 obtain⟨m,⟨o,es,ep,ho,r⟩,_⟩:=id I.loc;obtain⟨sl,hL⟩:=u.any ho I.free λz=>(hch _ z).2.1 rfl;exact I.step (ch:=ch) hch (λb o hL hb hc e n=>u.keep b o e n (λz=>(gd.mp (I.stkSub b z)).elim hL hb) hc) (λb o _ _ hc e n=>u.any e n hc) (λb o hc e n=>u.free b o e n hc) (λb o hc e=>u.there b o e hc) u.tups u.frzs u.tbls (λm' hm=>by
  obtain⟨o',es',ep',ho',r'⟩:=hm;rw[ho] at ho';cases ho';exact⟨_,es',ep',hL,r'⟩) hok hg
theorem Inv.turned (I:Inv X pins G H s)(k:∀b o,b≠it->s.heap.get? b=some o->h'.get? b=some o)(hn:H it=none)(hL:it≠X.env.locals)
  (h1:it∈X.ex\/X.HA.heap.objs.size<=it)(h2:∀x c,X.env.cells.lookup x=some c->c≠it)(h3:∀p∈X.pn++pins,p.1≠it):Inv X pins G H { s with heap:=h',toks:=t' }:=by
 have nit:∀b u,H b=some u->b≠it:=λb u e z=>by rw[z,hn] at e;cases e
 refine I.step (g':=s.gens) (d':=s.drawn) (ch:=[it]) (λb hb=>?_) (λb o _ _ hc e _=>k b o (λz=>hc (by simp[z])) e) (λb o _ _ hc e _=>⟨o.slots,k b o (λz=>hc (by simp[z])) e⟩) (λ_ _ _ _ n=>n)
  (λb o hc e=>⟨o,k b o (λz=>hc (by simp[z])) e⟩) (λ_ _ e=>e) (λ_ _ _ e=>e) (λb ps e=>⟨#[],by rw[e];simp⟩) (λm hm=>?_) (λb u e=>?_) I.bare
 ·have e:b=it:=by simpa using hb
  subst e;exact⟨h1,hL,h2,h3⟩
 ·obtain⟨o,es,ep,ho,r⟩:=hm
  exact⟨o,es,ep,k _ o (lz hL) ho,r⟩
 ·refine(I.hok b u e).stay (λc v hc q=>k c v ?_ q) (λ_ q=>q) λ_ _ q=>q
  rcases hc with z|z
  ·rw[z];exact nit b u e
  ·exact nit c _ z
theorem Inv.tok (I:Inv X pins G H s)(t:Nat):Inv X pins G H { s with toks:=t }:=I.un (h':=s.heap) (t':=t) Un.refl I.hok
theorem Inv.kept (I:Inv X pins G H s)(k:∀b u,s.heap.get? b=some u->h'.get? b=some u):Inv X pins G H { s with heap:=h',toks:=t' }:=I.un (Un.kept k) (I.hok.kept k)
theorem Inv.laid {a:dw}{o:HO}(I:Inv X pins G H s)(k:∀b u,s.heap.get? b=some u->h'.get? b=some u)(hp:s.heap.objs.size<=a)(new:Ce X.prog X.w (upd H a o) h' a o) :
  Inv X pins G (upd H a o) { s with heap:=h',toks:=t' }:=I.un (Un.laid k hp (I.hok.fresh hp)) (I.hok.laid k hp new)
theorem Inv.write {x e:dw}{o:HO}(I:Inv X pins G H s)(mu:Mut (H x))(he:e=x\/H e=some (.own x))(k:∀b u,b≠e->s.heap.get? b=some u->h'.get? b=some u)(heo:∃u,h'.get? e=some u)
  (new:Ce X.prog X.w (upd H x o) h' x o):Inv X pins G (upd H x o) { s with heap:=h',toks:=t' }:=I.un (Un.write mu he k heo) (I.hok.write mu he k heo new)
theorem Inv.weak {mt:List (Option V)}(I:Inv X pins G H s)(hl:mt.length=G.length)(w:∀(i:Nat) v,mt[i]?=some (some v)->G[i]?=some (some v)):Inv X pins mt H s:=
 ⟨I.ok,I.os,I.bare,I.base,let ⟨m,hn,hl'⟩:=I.loc;⟨m,hn,λi x v e1 e2 e3=>hl' i x v e1 (w i v e2) e3⟩,I.cell,I.free,I.freeC,I.pin,I.hok,hl.trans I.len⟩
theorem Inv.pins_of {pins':Za1}(I:Inv X pins G H s)(h:∀p∈pins',s.heap.get? p.1=some p.2/\H p.1=none/\p.1≠X.env.locals/\p.1∉X.fs/\∀v,p.2.data≠.cell v):Inv X pins' G H s:=
 ⟨I.ok,I.os,I.bare,I.base,I.loc,I.cell,I.free,I.freeC,λp hp=>(mf.mp hp).elim (λz=>I.pin p (yz _ z)) (h p),I.hok,I.len⟩
theorem Sj (hN:N.Nodup){i j:Nat}{x:Str}(a:N[i]?=some x)(b:N[j]?=some x):i=j:=by
 obtain⟨h1,e1⟩:=fc.mp a;obtain⟨h2,e2⟩:=fc.mp b;exact(List.getElem_inj hN).mp (e1.trans e2.symm)
theorem jG {E:Za0}{i:Nat}{x:Str}{v:V}{u:ed}{Q:Unit->eg->Prop}(I:Inv X pins G H s)(hN:X.N.Nodup)(hi:X.N[i]?=some x)(hx:Loc X.env.scope x)(r:Bm v u)
  (h:∀s',Inv X pins (G.set i (some v)) H s'->(∃a,uq a s.heap s'.heap/\(a=X.env.locals\/X.env.cells.lookup x=some a))->Q () s')(hf:autoParam (X.fn x=true\/X.env.scope.names.lookup x=some .local) QH):wpAny M A (storeName X.env x u) Q E s:=by
 obtain⟨m,hn,hl⟩:=id I.loc;have hcls:(X.env.scope.kind==.class||(X.env.scope.kind==.module&&X.env.locals != X.env.globals))=false:=by rw[I.ok.kind];rfl
 have HR:i<G.length:=by rw[I.len];exact(fc.mp hi).1
 have cne:=I.cne;have tracked:∀{a:dw} {h':im},(∃o,s.heap.get? a=some o/\H a=none)->uq a s.heap h'->HOk X.prog X.w H h':=λ{a h'} ha hs b ob e=>by
  obtain⟨_,_,hfree⟩:=ha;refine(I.hok b ob e).stay (λc w' hc q=>(hs.2 c ?_).trans q) (λ_ q=>q) λ_ _ q=>q;rintro rfl;rcases hc with rfl|hc
  ·rw[hfree] at e;cases e
  ·rw[hfree] at hc;cases hc
 rcases hx with hk|hk
 ·refine wpAny_storeName_local hk hn (λh' hn' hs=>?_) hcls
  obtain⟨oL,_,_,hoL,_⟩:=id hn;refine h _ ⟨I.ok,I.os,I.bare,⟨λb o e n hb hx=>?_,λb o e n hb hx=>?_,I.base.free,λb o e hx=>?_,I.base.tups,I.base.frzs,I.base.tbls⟩,⟨_,hn',λj y v' e1 e2 e3=>?_⟩,λy c e=>?_,I.free,I.freeC,λp hp=>?_,tracked ⟨oL,hoL,I.free⟩ hs,by simpa using I.len⟩ ⟨_,hs,.inl rfl⟩
  ·exact(hs.2 b (fu (d7 (ee e) I.ok.above))).trans (I.base.keep b o e n hb hx)
  ·obtain⟨sl,e1⟩:=I.base.slot b o e n hb hx
   exact⟨sl,(hs.2 b (fu (d7 (ee e) I.ok.above))).trans e1⟩
  ·obtain⟨o',e1⟩:=I.base.there b o e hx
   exact⟨o',(hs.2 b (fu (d7 (ee e) I.ok.above))).trans e1⟩
  ·by_cases hj:j=i
   ·subst hj
    rw[hi] at e1;cases e1;rw[rl HR] at e2;cases e2;exact⟨u,r,.inl ⟨hk,by simp⟩⟩
   ·rw[sy (lz hj)] at e2
    obtain⟨u',r',q⟩:=hl j y v' e1 e2 e3;refine⟨u',r',?_⟩;rcases q with⟨k,e⟩|⟨k,c,e,z⟩
    ·refine .inl ⟨k,?_⟩
     have:y≠x:=λe=>hj (Sj hN e1 (e▸hi));simp[this,e]
    ·exact .inr ⟨k,c,e,z.sameBut hs (cne y c e)⟩
  ·obtain⟨w',z⟩:=I.cell y c e
   exact⟨w',z.sameBut hs (cne y c e)⟩
  ·obtain⟨e,n,ne,nf,d⟩:=I.pin p hp
   exact⟨(hs.2 p.1 ne).trans e,n,ne,nf,d⟩
 ·have hfn:X.fn x=true:=by
   rcases hf with z|z
   ·exact z
   ·rw[z] at hk;cases hk
  obtain⟨c,hc⟩:=I.ok.has x (.inl hk);obtain⟨w',z⟩:=I.cell x c hc;refine wpAny_storeName_cell I.ok.kind hk hc z (λh' hc' hs=>?_);obtain⟨oc,hoc,hocd⟩:=id z;refine h { s with heap:=h' } ⟨I.ok,I.os,I.bare,⟨λb o e n hb hx=>?_,λb o e n hb hx=>?_,I.base.free,λb o e hx=>?_,I.base.tups,I.base.frzs,I.base.tbls⟩,⟨m,hn.sameBut hs (lz (cne x c hc)),λj y v' e1 e2 e3=>?_⟩,λy c' e=>?_,I.free,I.freeC,λp hp=>?_,tracked ⟨oc,hoc,I.freeC x c hc⟩ hs,by simpa using I.len⟩ ⟨c,hs,.inr hc⟩
  ·exact(hs.2 b (fu (d7 (ee e) (I.ok.cab x c hfn hc)))).trans (I.base.keep b o e n hb hx)
  ·obtain⟨sl,e1⟩:=I.base.slot b o e n hb hx
   exact⟨sl,(hs.2 b (fu (d7 (ee e) (I.ok.cab x c hfn hc)))).trans e1⟩
  ·obtain⟨o',e1⟩:=I.base.there b o e hx
   exact⟨o',(hs.2 b (fu (d7 (ee e) (I.ok.cab x c hfn hc)))).trans e1⟩
  ·by_cases hj:j=i
   ·subst hj
    rw[hi] at e1;cases e1;rw[rl HR] at e2;cases e2;exact⟨u,r,.inr ⟨.inl hk,c,hc,hc'⟩⟩
   ·rw[sy (lz hj)] at e2
    obtain⟨u',r',q⟩:=hl j y v' e1 e2 e3;refine⟨u',r',?_⟩;rcases q with q|⟨k,c',e,z'⟩
    ·exact .inl q
    ·refine .inr ⟨k,c',e,z'.sameBut hs ?_⟩
     rintro rfl;exact hj (Sj hN e1 (I.ok.inj _ _ _ e hc▸hi))
  ·by_cases hcc:c'=c
   ·subst hcc;exact⟨_,hc'⟩
   ·obtain⟨w2,z2⟩:=I.cell y c' e
    exact⟨w2,z2.sameBut hs hcc⟩
  ·obtain⟨e,n,ne,nf,d⟩:=I.pin p hp
   refine⟨(hs.2 p.1 ?_).trans e,n,ne,nf,d⟩;intro q;rw[q,hoc] at e;have q':oc=p.2:=d0 e;exact d w' (by rw[<-q'];exact hocd)
theorem Np {E:Za0}{i:Nat}{x:Str}{v:V}{u:ed}{Q:Unit->eg->Prop}(I:Inv X pins G H s)(hN:X.N.Nodup)(hi:X.N[i]?=some x)(hx:Loc X.env.scope x)(r:Bm v u)
  (h:∀s',Inv X pins (G.set i (some v)) H s'->Q () s')(hf:autoParam (X.fn x=true\/X.env.scope.names.lookup x=some .local) QH):wpAny M A (storeName X.env x u) Q E s:=
 jG I hN hi hx r (λs' I' _=>h s' I') hf
theorem Inv.call' {s':eg}{ch:List dw}(I:Inv X pins G H s)(ho:s'.os=s.os)(u:Un (frs X.stack) ch H H' s.heap s'.heap)(hok:HOk X.prog X.w H' s'.heap)(hg:qr s'.gens)
  (hch:∀b∈ch,(b∈X.ex\/X.HA.heap.objs.size<=b)/\b≠X.env.locals/\(∀x c,X.env.cells.lookup x=some c->c≠b)/\∀p∈X.pn++pins,p.1≠b):Inv X pins G H' s':=by
 obtain⟨h',g',d',t',o'⟩:=s';have e:o'=s.os:=ho;subst e;exact I.call (g':=g') (t':=t') (d':=d') u hok hg hch
end
abbrev XK:=ed->Option dw->Hp->Prop
abbrev St:=List (Option V)
abbrev VK:=V->Hp->Prop
abbrev TE:=St->Hp->VK->Prop
abbrev TT:=St->Hp->(Bool->Hp->Prop)->Prop
abbrev TA:=St->Hp->(List V->Hp->Prop)->Prop
structure Ji where
 nx:St->Hp->Prop
 rt:VK
 bk:St->Hp->Prop:=λ_ _=>False
 ct:St->Hp->Prop:=λ_ _=>False
abbrev TS:=Ji->St->Hp->Prop
def EP (X:Cx)(pins:Za1)(G:St)(Q:VK)(u:ed)(s':eg):Prop:=∃v H',Inv X pins G H' s'/\Bm v u/\Q v H'
def TP (X:Cx)(pins:Za1)(G:St)(Q:Bool->Hp->Prop)(b:Bool)(s':eg):Prop:=∃H',Inv X pins G H' s'/\Q b H'
def AP (X:Cx)(pins:Za1)(G:St)(Q:List V->Hp->Prop)(us:Za3)(s':eg):Prop:=∃vs H',Inv X pins G H' s'/\A3 vs us/\Q vs H'
def SP (X:Cx)(pins:Za1)(D:Ji)(f:Flow)(s':eg):Prop:=
 match f with
 |.next=>∃mt H',Inv X pins mt H' s'/\D.nx mt H'
 |.brk=>∃mt H',Inv X pins mt H' s'/\D.bk mt H'
 |.cont=>∃mt H',Inv X pins mt H' s'/\D.ct mt H'
 |.ret u=>∃v mt H',Inv X pins mt H' s'/\Bm v u/\D.rt v H'
def PE (X:Cx)(e:gq)(t:TE):Prop:=
 ∀(pins:Za1) (s:eg) (G:St) (H:Hp) (Q:VK),Inv X pins G H s->t G H Q->wpAny (model X.prog X.w) X.A (eval e X.env) (EP X pins G Q) X.xe s
def PT (X:Cx)(e:gq)(t:TT):Prop:=
 ∀(pins:Za1) (s:eg) (G:St) (H:Hp) (Q:Bool->Hp->Prop),Inv X pins G H s->t G H Q->wpAny (model X.prog X.w) X.A (isTrue e X.env (eval e X.env)) (TP X pins G Q) X.xe s
def PW (X:Cx)(e:gq)(t:TT):Prop:=
 ∀(whole:Sem ed) (pins:Za1) (s:eg) (G:St) (H:Hp) (Q:Bool->Hp->Prop),Inv X pins G H s->t G H Q->wpAny (model X.prog X.w) X.A (isTrue e X.env whole) (TP X pins G Q) X.xe s
theorem PW.pt {e:gq}{t:TT}(h:PW X e t):PT X e t:=h _
def PA (X:Cx)(es:List gq)(t:TA):Prop:=
 ∀(pos:Pos) (pins:Za1) (s:eg) (G:St) (H:Hp) (Q:List V->Hp->Prop),Inv X pins G H s->t G H Q->wpAny (model X.prog X.w) X.A (spliced (backTo pos (starEach es X.env))) (AP X pins G Q) X.xe s
def PS (X:Cx)(st:io)(t:TS):Prop:=
 ∀(pins:Za1) (s:eg) (G:St) (H:Hp) (D:Ji),Inv X pins G H s->t D G H->wpAny (model X.prog X.w) X.A (exec st X.env) (SP X pins D) X.xe s
def PSs (X:Cx)(st:List io)(t:TS):Prop:=
 ∀(pins:Za1) (s:eg) (G:St) (H:Hp) (D:Ji),Inv X pins G H s->t D G H->wpAny (model X.prog X.w) X.A (execs st X.env) (SP X pins D) X.xe s
theorem thn {α:Type}{t:Sem α}{Q Q':α->eg->Prop}{E:Za0}(h:wpAny M A t Q E s)(hQ:∀a s,Q a s->Q' a s):wpAny M A t Q' E s:=iw h hQ λ_ _ x=>x
theorem thE {G:St}{e:gq}{t:TE}{Q:VK}{Q':Za0}(he:PE X e t)(I:Inv X pins G H s)(h:t G H Q)(k:∀u s1 x H1,Inv X pins G H1 s1->Bm x u->Q x H1->Q' u s1):wpAny (model X.prog X.w) X.A (eval e X.env) Q' X.xe s:=thn (he pins s G H Q I h) λu s1 ⟨x,H1,a,b,c⟩=>k u s1 x H1 a b c
theorem thA {G:St}{e:List gq}{t:TA}{Q:List V->Hp->Prop}{Q':Za3->eg->Prop}(he:PA X e t)(I:Inv X pins G H s)(h:t G H Q)(k:∀u s1 x H1,Inv X pins G H1 s1->A3 x u->Q x H1->Q' u s1):wpAny (model X.prog X.w) X.A (spliced (backTo pos (starEach e X.env))) Q' X.xe s:=thn (he pos pins s G H Q I h) λu s1 ⟨x,H1,a,b,c⟩=>k u s1 x H1 a b c
section
variable {X:Cx}
theorem bin {a b:gq}{ta tb:TE}(ha:PE X a ta)(hb:PE X b tb){G:St}{R:V->V->Hp->Prop}(I:Inv X pins G H s)(h:ta G H λx H1=>tb G H1 λy H2=>R x y H2)
  {α:Type}{Q:α->eg->Prop}{f:ed->ed->Sem α}
  (hf:∀v u s2 x y H2,Inv X pins G H2 s2->Bm x v->Bm y u->R x y H2->wpAny (model X.prog X.w) X.A (f v u) Q X.xe s2) :
  wpAny (model X.prog X.w) X.A (eval a X.env) (λv HB=>wpAny (model X.prog X.w) X.A (eval b X.env) (λu HE=>wpAny (model X.prog X.w) X.A (f v u) Q X.xe HE) X.xe HB) X.xe s:=by
 refine thE ha I h λv s1 x H1 I1 r1 q1=>?_;refine thE hb I1 q1 λu s2 y H2 I2 r2 q2=>?_;exact hf v u s2 x y H2 I2 r1 r2 q2
def rG (i:Nat):TE:=λG H Q=>∃v,G[i]?=some (some v)/\Q v H
def tC (v:V):TE:=λ_ H Q=>Q v H
theorem mO {i:Nat}{x:Str}(hN:X.N[i]?=some x)(hv:Vis X.env.scope x)(hd:autoParam ((x==("__debug__":Str))=false) QF)(hcd:autoParam ((x==("__classdict__":Str))=false) QF):PE X (.Name x pos) (rG i):=by
 k_in;obtain⟨v,e,h⟩:=h;obtain⟨m,hn,hl⟩:=I.loc;obtain⟨u,r,l⟩:=hl i x v hN e hv;have fin:EP X pins G Q u s:=⟨v,H,I,r,h⟩;rcases l with⟨hk,hm⟩|⟨hk,c,hc,hcell⟩
 ·exact BR (AO I.ok.kind hk hn hm fin) hd
 ·rcases hk with hk|hk
  ·exact BR (BE I.ok.kind hk hc hcell fin) hd
  ·exact BR (wpAny_loadName_free I.ok.kind hk hc hcell fin hcd) hd
theorem Ad {i j pos}:PE X (.Constant (.int i) j pos) (tC (.int i)):=λ_ _ _ H _ I h=>wpAny_Constant_int ⟨.int i,H,I.tok _,⟨_,rfl⟩,h⟩
theorem Gm {b j pos}:PE X (.Constant (.bool b) j pos) (tC (.bl b)):=λ_ _ _ H _ I h=>Constant_bool ⟨.bl b,H,I,rfl,h⟩
theorem C9 {j pos}:PE X (.Constant .none j pos) (tC .non):=λ_ _ _ H _ I h=>zg ⟨.non,H,I,rfl,h⟩
theorem Aw {x j pos}:PE X (.Constant (.str x) j pos) (tC (.str x)):=λ_ _ _ H _ I h=>zh ⟨.str x,H,I.tok _,⟨_,rfl⟩,h⟩
def Gl (X:Cx)(x:Str):Prop:=X.env.kindOf x=some .globalImplicit
theorem F9 {E:Za0}{G:St}{x:Str}{u:ed}{Q:Za0}(I:Inv X pins G H s)(hg:Gl X x)(hm:X.mg x=some u)(h:Q u s)
  (hd:autoParam ((x==("__debug__":Str))=false) QF):wpAny (model X.prog X.w) X.A (eval (.Name x pos) X.env) Q E s:=
 wf I.ok.kind hg (Calls.loadGlobal_global (by rw[I.ok.glob];exact I.mod.glob.keeps I.bk) hm h) hd
theorem Ev {E:Za0}{G:St}{x:Str}{u:ed}{Q:Za0}(I:Inv X pins G H s)(hg:Gl X x)(hm:X.mg x=none)(hv:bootBuiltins x=some u)(h:Q u s)
  (hn:autoParam (x≠"__name__") QF)(hd:autoParam ((x==("__debug__":Str))=false) QF):wpAny (model X.prog X.w) X.A (eval (.Name x pos) X.env) Q E s:=by
 obtain⟨mb,h1,h2⟩:=I.mod.blt;exact wf I.ok.kind hg (Calls.loadGlobal_builtin (by rw[I.ok.glob];exact I.mod.glob.keeps I.bk) hm (by rw[I.ok.blt];exact h1.keeps I.bk) ((h2 x hn).trans hv) h) hd
theorem Ly {x:Str}{v:V}{u:ed}(hg:Gl X x)(hm:X.mg x=some u)(r:Bm v u)(hd:autoParam ((x==("__debug__":Str))=false) QF):PE X (.Name x pos) (tC v):=
 λ_ _ _ H _ I h=>F9 I hg hm ⟨v,H,I,r,h⟩ hd
theorem Ic {x:Str}{v:V}{u:ed}(hg:Gl X x)(hm:X.mg x=none)(hv:bootBuiltins x=some u)(r:Bm v u)(hn:autoParam (x≠"__name__") QF)(hd:autoParam ((x==("__debug__":Str))=false) QF):PE X (.Name x pos) (tC v):=
 λ_ _ _ H _ I h=>Ev I hg hm hv ⟨v,H,I,r,h⟩ hn hd
variable {a b:gq} {ta tb:TE} {pos:Pos}
def PC (X:Cx)(op:ss)(a b:gq)(t:TE):Prop:=
 ∀(pins:Za1) (s:eg) (G:St) (H:Hp) (Q:VK),Inv X pins G H s->t G H Q ->
  wpAny (model X.prog X.w) X.A (eval a X.env) (λv HB=>wpAny (model X.prog X.w) X.A (eval b X.env) (λu HE=>wpAny (model X.prog X.w) X.A (compareOp op v u) (EP X pins G Q) X.xe HE) X.xe HB) X.xe s
theorem Yo (b:gq)(h:op≠.In)(h2:op≠.NotIn):behindInMarks op b=false:=by
 have e1:(op==FN)=false:=by cases op<;>first|rfl|exact absurd rfl h
 have e2:(op==CP)=false:=by cases op<;>first|rfl|exact absurd rfl h2
 cases b<;>simp[behindInMarks,e1,e2]
def xU (ta:TE):TE:=λG H Q=>ta G H λx H1=>Q (.bl (decide (x=.non))) H1
def uK (ta:TE):TE:=λG H Q=>ta G H λx H1=>Q (.bl (!decide (x=.non))) H1
theorem Bm.none_iff {x:V}{v:ed}(r:Bm x v):(v==ll)=decide (x=.non):=by
 cases x with
 |non=>cases r;rfl
 |bl _=>cases r;rfl
 |int _=>obtain⟨t,rfl⟩:=r;rfl
 |str _=>obtain⟨t,rfl⟩:=r;rfl
 |byt _=>obtain⟨t,rfl⟩:=r;rfl
 |flt _=>obtain⟨t,rfl⟩:=r;rfl
 |ref _=>cases r;rfl
 |ty _=>cases r;rfl
theorem U6 {j pos'}(ha:PE X a ta):PC X .Is a (.Constant .none j pos') (xU ta):=by
 k_in;refine thE ha I h λv s1 x H1 I1 r1 q1=>?_;exact zg (is_none_gen ⟨.bl _,H1,I1,by rw[r1.none_iff];rfl,q1⟩)
theorem M8 {j pos'}(ha:PE X a ta):PC X .IsNot a (.Constant .none j pos') (uK ta):=by
 k_in;refine thE ha I h λv s1 x H1 I1 r1 q1=>?_;exact zg (isnot_none_gen ⟨.bl _,H1,I1,by rw[r1.none_iff];rfl,q1⟩)
def tB (t:TE):TT:=λG H Q=>t G H λx H1=>∃c,x=.bl c/\Q c H1
theorem vA {t:TE}(h:PC X op a b t)(h1:behindInMarks op b=false:=by first|exact Yo _ (by decide) (by decide)|rfl):PE X (.Compare a [op] [b] pos) t:=λpins s G H Q I hw=>wpAny_Compare1 (h pins s G H Q I hw) h1
theorem K4 {t:TE}(h:PC X op a b t)(h1:behindInMarks op b=false:=by first|exact Yo _ (by decide) (by decide)|rfl):PT X (.Compare a [op] [b] pos) (tB t):=by
 intro pins s G H Q I hw;refine wpAny_isTrue_Compare1 (thn (h pins s G H _ I hw) λv s1 h1=>thn h1 λu s2 h2=>thn h2 λc s3 ⟨x,H1,I1,r1,q1⟩=>?_) h1;obtain⟨d,rfl,q⟩:=q1;cases r1;exact kb ⟨H1,I1,q⟩
theorem Cj {e:gq}{t:TE}(h:PE X e t)(he:autoParam (∀whole,isTrue e X.env whole=(do let v <-whole;standAt e.pos;holding [v] (truthy v))) QJ):PT X e (tB t):=by
 intro pins s G H Q I hw;refine isTrue_plain (thE h I hw λv s1 x H1 I1 r1 q1=>?_) (he _);obtain⟨d,rfl,q⟩:=q1;cases r1;exact kb ⟨H1,I1,q⟩
variable {tA tB':TT} {rest:List gq}
def xW (t u:TT):TT:=λG H Q=>t G H λc H1=>if c=true then u G H1 Q else Q false H1
def tOr (t u:TT):TT:=λG H Q=>t G H λc H1=>if c=true then Q true H1 else u G H1 Q
def zJ (t:TT):TT:=λG H Q=>t G H λc H1=>Q (!c) H1
theorem J5 (ha:PT X a tA):PW X (.BoolOp .And [a] pos) tA:=by
 intro wh pins s G H Q I h;refine isTrue_and (thn (ha pins s G H Q I h) λc s1 e=>?_)
 cases c with
 |true=>exact isTrue_and_nil e
 |false=>exact e
theorem Iv (ha:PT X a tA):PW X (.BoolOp .Or [a] pos) tA:=by
 intro wh pins s G H Q I h;refine isTrue_or (thn (ha pins s G H Q I h) λc s1 e=>?_)
 cases c with
 |false=>exact isTrue_or_nil e
 |true=>exact e
theorem Mr (ha:PT X a tA)(hb:PW X (.BoolOp .And (b::rest) pos) tB'):PW X (.BoolOp .And (a::b::rest) pos) (xW tA tB'):=by
 intro wh pins s G H Q I h;refine isTrue_and (thn (ha pins s G H _ I h) λc s1 ⟨H1,I1,q1⟩=>?_)
 cases c with
 |true=>exact hb wh pins s1 G H1 Q I1 q1
 |false=>exact⟨H1,I1,q1⟩
theorem Kk (ha:PT X a tA)(hb:PW X (.BoolOp .Or (b::rest) pos) tB'):PW X (.BoolOp .Or (a::b::rest) pos) (tOr tA tB'):=by
 intro wh pins s G H Q I h;refine isTrue_or (thn (ha pins s G H _ I h) λc s1 ⟨H1,I1,q1⟩=>?_)
 cases c with
 |true=>exact⟨H1,I1,q1⟩
 |false=>exact hb wh pins s1 G H1 Q I1 q1
theorem Ds (ha:PT X a tA):PT X (.UnaryOp .Not a pos) (zJ tA):=by
 k_in;exact isTrue_not (ha pins s G H (λc H1=>Q (!c) H1) I h)
def uE (ta tb:TE):TE:=λG H Q=>ta G H λx H1=>∃c,x=.bl c/\if c=true then tb G H1 Q else Q (.bl false) H1
def uJ (ta:TE):TE:=λG H Q=>ta G H λx H1=>∃c,x=.bl c/\Q (.bl (!c)) H1
theorem So {op}{t:TE}(h:PE X a t):PE X (.BoolOp op [a] pos) t:=λpins s G H Q I hw=>BoolOp_one (h pins s G H Q I hw)
theorem R4 (ha:PE X a ta)(hb:PE X (.BoolOp .And (b::rest) pos) tb):PE X (.BoolOp .And (a::b::rest) pos) (uE ta tb):=by
 k_in;refine BoolOp_and (thE ha I h λv s1 x H1 I1 r1 q1=>?_);obtain⟨c,rfl,q1⟩:=q1;cases r1;refine kb ?_
 cases c with
 |true=>exact hb pins s1 G H1 Q I1 q1
 |false=>exact⟨.bl false,H1,I1,rfl,q1⟩
theorem kM (ha:PE X a ta):PE X (.UnaryOp .Not a pos) (uJ ta):=by
 k_in;refine UnaryOp_ (thE ha I h λv s1 x H1 I1 r1 q1=>?_);obtain⟨c,rfl,q1⟩:=q1;cases r1;exact not_of (kb ⟨.bl (!c),H1,I1,rfl,q1⟩)
def tIf (t:TT)(ta tb:TE):TE:=λG H Q=>t G H λc H1=>if c=true then ta G H1 Q else tb G H1 Q
theorem Fa {c:gq}(hc:PT X c tA)(ha:PE X a ta)(hb:PE X b tb):PE X (.IfExp c a b pos) (tIf tA ta tb):=by
 k_in;refine wpAny_IfExp (thn (hc pins s G H _ I h) λd s1 ⟨H1,I1,q1⟩=>?_)
 cases d with
 |true=>exact ha pins s1 G H1 Q I1 q1
 |false=>exact hb pins s1 G H1 Q I1 q1
end
def SqL (K:dn)(H:Hp)(a:dw)(xs:List V):Prop:=
 Rd H a (.lst xs) \/
  ∃(o:Obj) (its:Array ed) (n:Nat),K.lookup a=some o/\o.cls=.type "list"/\o.dict=none/\o.data=.seq its n/\its.size<=sizeLine/\A3 xs its.toList
def SqT (K:dn)(H:Hp)(a:dw)(xs:List V):Prop:=
 Rd H a (.tup xs) \/
  ∃(o:Obj) (its:Array ed) (n:Nat),K.lookup a=some o/\o.cls=.type "tuple"/\o.data=.seq its n/\its.size<=sizeLine/\A3 xs its.toList
def Aap:ed->Option V
 |.none=>some .non
 |.bool b=>some (.bl b)
 |.int i _=>some (.int i)
 |.str x _=>some (.str x)
 |.bytes b _=>some (.byt b)
 |.float b _=>some (.flt b)
 |.ref a=>some (.ref a)
 |.type n=>some (.ty n)
 |_=>none
theorem Bm.abs {x:V}{u:ed}(r:Bm x u):Aap u=some x:=by
 cases x with
 |non=>cases r;rfl
 |bl _=>cases r;rfl
 |int _=>obtain⟨t,rfl⟩:=r;rfl
 |str _=>obtain⟨t,rfl⟩:=r;rfl
 |byt _=>obtain⟨t,rfl⟩:=r;rfl
 |flt _=>obtain⟨t,rfl⟩:=r;rfl
 |ref _=>cases r;rfl
 |ty _=>cases r;rfl
theorem Bm.inj {x:V}{u:ed}(r:Bm x u)(q:Bm y u):x=y:=d0 (r.abs.symm.trans q.abs)
theorem A3.inj:∀{xs ys:List V} {us:Za3},A3 xs us->A3 ys us->xs=ys
 |_,_,_,.nil,.nil=>rfl
 |_,_,_,.cons r t,.cons r' t'=>by rw[r.inj r',A3.inj t t']
section
variable {X:Cx} {pins:Za1} {G:St} {H:Hp} {s:eg} {a:dw} {xs ys:List V}
theorem SqL.of {K:dn}(h:H a=some (.lst xs)):SqL K H a xs:=.inl (.inl h)
theorem SqT.of {K:dn}(h:H a=some (.tup xs)):SqT K H a xs:=.inl (.inl h)
theorem Inv.list (I:Inv X pins G H s)(h:SqL X.K H a xs):∃its:Za3,A3 xs its/\PlainL s.heap a its.toArray/\xs.length<=sizeLine:=by
 rcases h with h|⟨o,its,n,hk,hc,hd,hs,hz,r⟩
 ·obtain⟨z,its,n,r,e⟩:=h.ok I.hok
  exact⟨its,r,⟨_,n,e,rfl,rfl,rfl⟩,z⟩
 ·refine⟨its.toList,r,⟨o,n,I.kIn a o hk,hc,hd,by simpa using hs⟩,?_⟩
  have e:=r.length;simp only[jb] at e;lia
theorem Inv.tuple (I:Inv X pins G H s)(h:SqT X.K H a xs):∃its:Za3,A3 xs its/\IsTup s.heap a its.toArray/\xs.length<=sizeLine:=by
 rcases h with h|⟨o,its,n,hk,hc,hs,hz,r⟩
 ·obtain⟨z,its,r,p⟩:=h.ok I.hok
  exact⟨its,r,p,z⟩
 ·refine⟨its.toList,r,⟨o,I.kIn a o hk,hc,n,by simpa using hs⟩,?_⟩
  have e:=r.length;simp only[jb] at e;lia
theorem Inv.list_inj (I:Inv X pins G H s)(h:SqL X.K H a xs)(h':SqL X.K H a ys):xs=ys:=by
 obtain⟨its,r,⟨o,n,e,_,_,d⟩,_⟩:=I.list h;obtain⟨its',r',⟨o',n',e',_,_,d'⟩,_⟩:=I.list h';rw[e] at e';cases e';rw[d] at d'
 injection d' with d1 _
 have:its=its':=by simpa using congrArg Array.toList d1
 subst this;exact r.inj r'
end
abbrev Cx.wish (X:Cx)(E:Za0):Cx:={ X with xe:=E }
abbrev Cx.nox (X:Cx):Cx:=X.wish λ_ _=>False
theorem Cx.Ok.wish (ok:X.Ok)(E:Za0):(X.wish E).Ok:=
 ⟨ok.mod,ok.kind,ok.glob,ok.blt,ok.above,ok.inj,ok.has,ok.cab,ok.hd,ok.frames,ok.stk,ok.exf,ok.bs,ok.bsz,ok.noex,ok.exfs,ok.funs,ok.frf⟩
theorem Cx.Ok.unwish {E:Za0}(ok:(X.wish E).Ok):X.Ok:=
 ⟨ok.mod,ok.kind,ok.glob,ok.blt,ok.above,ok.inj,ok.has,ok.cab,ok.hd,ok.frames,ok.stk,ok.exf,ok.bs,ok.bsz,ok.noex,ok.exfs,ok.funs,ok.frf⟩
section
variable {X:Cx} {pins:Za1} {G:St} {H:Hp} {s:eg} {E:Za0}
theorem Inv.wish (I:Inv X pins G H s)(E:Za0):Inv (X.wish E) pins G H s:=⟨I.ok.wish E,I.os,I.bare,I.base,I.loc,I.cell,I.free,I.freeC,I.pin,I.hok,I.len⟩
theorem Inv.unwish (I:Inv (X.wish E) pins G H s):Inv X pins G H s:=⟨I.ok.unwish,I.os,I.bare,I.base,I.loc,I.cell,I.free,I.freeC,I.pin,I.hok,I.len⟩
theorem SP.unwish {D:Ji}{f:Flow}{s':eg}(h:SP (X.wish E) pins D f s'):SP X pins D f s':=by
 cases f with
 |next=>obtain⟨mt,H',I,q⟩:=h;exact⟨mt,H',I.unwish,q⟩
 |brk=>obtain⟨mt,H',I,q⟩:=h;exact⟨mt,H',I.unwish,q⟩
 |cont=>obtain⟨mt,H',I,q⟩:=h;exact⟨mt,H',I.unwish,q⟩
 |ret u=>obtain⟨v,mt,H',I,r,q⟩:=h;exact⟨v,mt,H',I.unwish,r,q⟩
theorem PSs.nox {st:List io}{t:TS}(h:PSs X.nox st t):PSs X st t:=λpins s G H D I hw=>
 iw (h pins s G H D (I.wish _) hw) (λ_ _ q=>q.unwish) λ_ _ z=>jm z
end
section
variable {X:Cx} {st:io} {rest:List io} {t u:TS} {e:gq} {te:TE} {pos:Pos}
def tV:TS:=λD G H=>D.nx G H
def uU (t u:TS):TS:=λD G H=>t { D with nx:=u D } G H
theorem At:PSs X [] tV:=λ_ _ G H _ I h=>n8 ⟨G,H,I,h⟩
theorem Ab (h1:PS X st t)(h2:PSs X rest u):PSs X (st::rest) (uU t u):=by
 k_end;refine wpAny_execs_cons (thn (h1 pins s G H { D with nx:=u D } I h) λf s1 q=>?_)
 cases f with
 |next=>
  obtain⟨mt,H',I',q⟩:=q;exact h2 pins s1 mt H' D I' q
 |ret v=>exact q
 |brk=>exact q
 |cont=>exact q
theorem Ae (h1:PS X st t):PSs X [st] t:=by
 k_end;refine wpAny_execs_cons (thn (h1 pins s G H D I h) λf s1 q=>?_)
 cases f with
 |next=>exact n8 q
 |ret v=>exact q
 |brk=>exact q
 |cont=>exact q
theorem Inv.quiet {G:St}(I:Inv X pins G H s):interactive X.env=false:=by simp[interactive,I.ok.kind]
def nU (te:TE):TS:=λD G H=>te G H λ_ H1=>D.nx G H1
theorem Bl (he:PE X e te)(hs:autoParam (swapsWith e none pos.line X.env=pure false) QD):PS X (.Expr e pos) (nU te):=by
 k_end;exact wpAny_Expr_any (thE he I h λv s1 x H1 I1 r1 q1=>⟨G,H1,I1,q1⟩) I.quiet hs
def yY (te:TE):TS:=λD G H=>te G H D.rt
theorem An (he:PE X e te):PS X (.Return (some e) pos) (yY te):=by
 k_end;exact wpAny_Return_some (thE he I h λv s1 x H1 I1 r1 q1=>⟨x,G,H1,I1,r1,q1⟩)
def uV (c:TT)(t u:TS):TS:=λD G H=>c G H λb H1=>if b=true then t D G H1 else u D G H1
theorem Bj {c:gq}{a b:List io}{tc:TT}(hc:PT X c tc)(ha:PSs X a t)(hb:PSs X b u):PS X (.If c a b pos) (uV tc t u):=by
 k_end;refine wpAny_If (thn (hc pins s G H _ I h) λd s1 ⟨H1,I1,q1⟩=>?_)
 cases d with
 |true=>exact ha pins s1 G H1 D I1 q1
 |false=>exact hb pins s1 G H1 D I1 q1
def wA:TS:=λ_ _ _=>False
theorem Cl:PS X st wA:=λ_ _ _ _ _ _ h=>h.elim
end
abbrev TG:=V->St->Hp->(St->Hp->Prop)->Prop
abbrev TGs:=List V->St->Hp->(St->Hp->Prop)->Prop
def PG (X:Cx)(target:gq)(t:TG):Prop:=
 ∀(pins:Za1) (s:eg) (G:St) (H:Hp) (v:V) (u:ed) (Q:St->Hp->Prop),Inv X pins G H s->Bm v u->t v G H Q ->
  wpAny (model X.prog X.w) X.A (assign target X.env u) (λ_ s'=>∃mt H',Inv X pins mt H' s'/\Q mt H') X.xe s
def PGs (X:Cx)(ts:List gq)(t:TGs):Prop:=
 ∀(pins:Za1) (s:eg) (G:St) (H:Hp) (vs:List V) (us:Za3) (Q:St->Hp->Prop),Inv X pins G H s->A3 vs us->t vs G H Q ->
  wpAny (model X.prog X.w) X.A (assignInOrder ((assignEach ts X.env).map (·.2)) us) (λ_ s'=>∃mt H',Inv X pins mt H' s'/\Q mt H') X.xe s
abbrev TIp:=V->V->Hp->VK->Prop
def PIp (X:Cx)(op:AU)(t:TIp):Prop:=
 ∀(pins:Za1) (s:eg) (G:St) (H:Hp) (x y:V) (v u:ed) (Q:VK),Inv X pins G H s->Bm x v->Bm y u->t x y H Q ->
  wpAny (model X.prog X.w) X.A (inplaceOp op v u) (EP X pins G Q) X.xe s
section
variable {X:Cx} {pos:Pos}
def Eh (i:Nat):TG:=λv G H Q=>Q (G.set i (some v)) H
theorem Lx {i:Nat}{x:Str}(hN:X.N.Nodup)(hi:X.N[i]?=some x)(hx:Loc X.env.scope x)(hf:autoParam (X.fn x=true\/X.env.scope.names.lookup x=some .local) QH):PG X (.Name x pos) (Eh i):=by
 intro pins s G H v u Q I r h;exact wpAny_assign_Name (Np I hN hi hx r (λs' I'=>⟨_,H,I',h⟩) hf)
def kI:TGs:=λvs G H Q=>vs=[]/\Q G H
def Ku (t:TG)(u:TGs):TGs:=λvs G H Q=>∃v r,vs=v::r/\t v G H λmt H'=>u r mt H' Q
theorem M9:PGs X [] kI:=by
 intro pins s G H vs us Q I r h;obtain⟨e,h⟩:=h;subst e;cases r;exact assignInOrder_nil ⟨G,H,I,h⟩
theorem Ek {e:gq}{es:List gq}{t:TG}{u:TGs}(h1:PG X e t)(h2:PGs X es u)
  (hs:autoParam ((assignEach (e::es) X.env).map (·.2)=assign e X.env::(assignEach es X.env).map (·.2)) QD):PGs X (e::es) (Ku t u):=by
 intro pins s G H vs us Q I r h;obtain⟨v,vr,e1,h⟩:=h;subst e1
 cases r with
 |cons r rr=>
  rw[hs];refine assignInOrder_cons (thn (h1 pins s G H _ _ _ I r h) λ_ s1 ⟨HP,H1,I1,q1⟩=>?_);exact h2 pins s1 HP H1 _ _ Q I1 rr q1
def kD (K:dn)(n:Nat)(t:TGs):TG:=λv G H Q=>∃a xs,v=.ref a/\SqT K H a xs/\xs.length=n/\t xs G H Q
theorem Sy {es:List gq}{k:Nat}{t:TGs}{n:Nat}(hc:X.calm=true)(h:PGs X es t)
  (hn:autoParam ((assignEach es X.env).length=n) QD)(hst:autoParam ((assignEach es X.env).findIdx? (·.1)=none) QD):PG X (.Tuple es k pos) (kD X.K n t):=by
 intro pins s G H v u Q I r hw;obtain⟨a,xs,e1,hq,hl,hw⟩:=hw;subst e1;cases r;obtain⟨its,rv,ht,hz⟩:=I.tuple hq;refine assign_Tuple_tuple (I.ok.hd hc) ht (by simp[hn,<-hl,rv.length]) hst λh' hx=>?_;have I1:Inv X pins G H { s with heap:=h' }:=I.kept (t':=s.toks) λb o e=>hx b o (fu (ee e)) e;exact h pins _ G H xs _ Q I1 (by simpa using rv) hw
def kE (te:TE)(g:TG):TS:=λD G H=>te G H λx H1=>g x G H1 D.nx
theorem Mu {i:Nat}{x:Str}{e:gq}{pos':Pos}(hN:X.N.Nodup)(hi:X.N[i]?=some x)(hx:Loc X.env.scope x)(he:PE X e te)(hs:autoParam (swapsWith e (some (.Name x pos')) pos.line X.env=pure false) QD)(hf:autoParam (X.fn x=true\/X.env.scope.names.lookup x=some .local) QH) :
  PS X (.Assign [.Name x pos'] e pos) (kE te (Eh i)):=by
 k_end;refine wpAny_Assign_Name (thE he I h λv s1 y H1 I1 r1 q1=>?_) hs;exact Np I1 hN hi hx r1 (λs2 I2=>⟨_,H1,I2,q1⟩) hf
def wQ (i:Nat)(te:TE)(ti:TIp):TS:=λD G H=>∃x,G[i]?=some (some x)/\te G H λy H1=>ti x y H1 λz H2=>D.nx (G.set i (some z)) H2
theorem vH {i:Nat}{x:Str}{e:gq}{op:AU}{ti:TIp}{pos':Pos}(hN:X.N.Nodup)(hi:X.N[i]?=some x)(hx:Loc X.env.scope x)(he:PE X e te)(ho:PIp X op ti)(hf:autoParam (X.fn x=true\/X.env.scope.names.lookup x=some .local) QH) :
  PS X (.AugAssign (.Name x pos') op e pos) (wQ i te ti):=by
 k_end;obtain⟨v,e1,h⟩:=h;obtain⟨m,hn,hl⟩:=I.loc;have vis:Vis X.env.scope x:=by rcases hx with k|k;exact .inl k;exact .inr (.inl k)
 obtain⟨u,r,l⟩:=hl i x v hi e1 vis;refine wpAny_AugAssign_Name ?_;have go:wpAny (model X.prog X.w) X.A (eval e X.env) (λw HE=>wpAny (model X.prog X.w) X.A (inplaceOp op u w) (λr HK=>wpAny (model X.prog X.w) X.A (storeName X.env x r) (λ_=>SP X pins D .next) X.xe HK) X.xe HE) X.xe s:=by
  refine thE he I h λw s1 y H1 I1 r1 q1=>?_;refine thn (ho pins s1 G H1 v y u w _ I1 r r1 q1) λz s2 ⟨zv,H2,I2,r2,q2⟩=>?_;exact Np I2 hN hi hx r2 (λs3 I3=>⟨_,H2,I3,q2⟩) hf
 rcases l with⟨hk,hm⟩|⟨hk,c,hc,hcell⟩
 ·exact AO I.ok.kind hk hn hm go
 ·rcases hk with hk|hk
  ·exact BE I.ok.kind hk hc hcell go
  ·rcases hx with k|k
   ·have:X.env.scope.names.lookup x=some .free:=hk
    rw[k] at this;cases this
   ·have:X.env.scope.names.lookup x=some .free:=hk
    rw[k] at this;cases this
def ipI (f:Int->Int->Int):TIp:=λx y H Q=>∃i j,x=.int i/\y=.int j/\Q (.int (f i j)) H
theorem pV:PIp X .Add (ipI λi j=>i+j):=by
 intro pins s G H x y v u Q I r1 r2 h;obtain⟨i,j,e1,e2,q⟩:=h;subst e1;subst e2;obtain⟨t,rfl⟩:=r1;obtain⟨t',rfl⟩:=r2;exact iadd_int ⟨.int _,H,I.tok _,⟨_,rfl⟩,q⟩
theorem vU:PIp X .Sub (ipI λi j=>i-j):=by
 intro pins s G H x y v u Q I r1 r2 h;obtain⟨i,j,e1,e2,q⟩:=h;subst e1;subst e2;obtain⟨t,rfl⟩:=r1;obtain⟨t',rfl⟩:=r2;exact isub_int ⟨.int _,H,I.tok _,⟨_,rfl⟩,q⟩
end
section
variable {X:Cx} {pos:Pos}
def mR (c:TT)(tb:TS):TS:=λD G H=>∃W:Nat->St->Hp->Prop,(∃m,W m G H)/\∀m G H,W m G H ->
 c G H λb H1=>if b=true then ∃N:St->Hp->Prop,(∀mt H',N mt H'->∃m',m'<m/\W m' mt H')/\tb { D with nx:=N,ct:=N,bk:=D.nx } G H1 else D.nx G H1
theorem Sm {c:gq}{body:List io}{tc:TT}{tb:TS}(hp:PassesOwn (model X.prog X.w) X.A X.env X.xe)(hc:PT X c tc)(hb:PSs X body tb):PS X (.While c body [] pos) (mR tc tb):=by
 k_end;obtain⟨W,⟨m0,w0⟩,turn⟩:=h;refine wpAny_While (codeAny_whileLoop (λn s'=>∃mt H',Inv X pins mt H' s'/\W n mt H') ?_ m0 ⟨G,H,I,w0⟩);rintro n s1 ⟨HP,H1,I1,w1⟩;refine wpAny_passesOwn hp (thn (hc pins s1 HP H1 _ I1 (turn n HP H1 w1)) λb s2 ⟨H2,I2,q2⟩=>?_)
 cases b with
 |true=>
  obtain⟨N,hN,q2⟩:=q2;rw[if_pos rfl];refine wpAny_passesOwn hp (thn (hb pins s2 HP H2 _ I2 q2) λf s3 q3=>?_)
  cases f with
  |next=>
   obtain⟨HH,H3,I3,n3⟩:=q3;obtain⟨m',hm,w3⟩:=hN HH H3 n3;exact⟨m',hm,HH,H3,I3,w3⟩
  |cont=>
   obtain⟨HH,H3,I3,n3⟩:=q3;obtain⟨m',hm,w3⟩:=hN HH H3 n3;exact⟨m',hm,HH,H3,I3,w3⟩
  |brk=>exact q3
  |ret v=>exact q3
 |false=>
  rw[if_neg gg];exact n8 ⟨HP,H2,I2,q2⟩
end
structure It where
 go:Nat->Hp->Prop
 yld:Nat->Hp->V->Hp->Prop
 stop:Nat->Hp->Prop
def Nw (X:Cx)(pins:Za1)(H:Hp)(b:dw):Prop:=
 H b=none/\b≠X.env.locals/\b∉X.fs/\(b∈X.ex\/X.HA.heap.objs.size<=b)/\(∀x c,X.env.cells.lookup x=some c->c≠b)/\∀p∈X.pn++pins,p.1≠b
theorem Inv.fpOk {G:St}{b:dw}(I:Inv X pins G H s)(hb:s.heap.objs.size<=b)(hn:H' b=none):Nw X pins H' b:=by
 refine⟨hn,ji (d7 I.lt hb),I.nofs hb,.inr (ie I.sz hb),λx c e z=>?_,λp hp z=>?_⟩
 ·obtain⟨v,q⟩:=I.cell x c e
  exact absurd (d7 q.lt (by rw[z];exact hb)) (jj _)
 ·exact absurd (d7 (ee (I.pin p hp).1) (by rw[z];exact hb)) (jj _)
structure Ob (P:fq) (w:gr) (K:dn) (tg:gq) (J:It) (fp:List dw) (it:dw) (tn:Nat->im->Prop):Prop where
 mem:it∈fp
 obj:∀i h,tn i h->∀b∈fp,∃o,h.get? b=some o/\∀v,o.data≠.cell v
 keep:∀i h h',tn i h->(∀b∈fp,∀o,h.get? b=some o->h'.get? b=some o)->tn i h'
 item:∀(X:Cx),X.prog=P->X.w=w->X.K=K->X.calm=true->∀(i:Nat) (pins:Za1) (s:eg) (G:St) (H:Hp) (E:Za0),Inv X pins G H s->(∀b∈fp,Nw X pins H b)->tn i s.heap->J.go i H ->
  wpAny (model P w) X.A (pyNext (.ref it)) (λr s1=>∃u,r=some u /\
   wpAny (model P w) X.A (letOwnedTupleGo tg (.ref it) u) (λ_ s2=>∃x H',Inv X pins G H' s2/\Bm x u/\J.yld i H x H'/\tn (i+1) s2.heap/\∀b∈fp,H' b=none) E s1) E s
 done:∀(X:Cx),X.prog=P->X.w=w->X.K=K->X.calm=true->∀(i:Nat) (pins:Za1) (s:eg) (G:St) (H:Hp) (E:Za0),Inv X pins G H s->(∀b∈fp,Nw X pins H b)->tn i s.heap->J.stop i H ->
  wpAny (model P w) X.A (pyNext (.ref it)) (λr s1=>r=none/\Inv X pins G H s1) E s
 self:∀(A:ii) (i:Nat) (s:eg) (Q:Za0) (E:Za0),tn i s.heap->Q (.ref it) s->wpAny (model P w) A (pyIter (.ref it)) Q E s
abbrev TI:=St->Hp->(It->Hp->Prop)->Prop
def PIE (X:Cx)(pins:Za1)(G:St)(tg:gq)(R:It->Hp->Prop)(itv:ed)(s2:eg):Prop:=
 ∃(it:dw) (fp:List dw) (tn:Nat->im->Prop) (J:It) (H':Hp),itv=.ref it/\Inv X pins G H' s2/\Ob X.prog X.w X.K tg J fp it tn/\tn 0 s2.heap/\(∀b∈fp,Nw X pins H' b)/\R J H'
def PI (X:Cx)(tg iter:gq)(wi:TI):Prop:=
 ∀(pins:Za1) (s:eg) (G:St) (H:Hp) (R:It->Hp->Prop),Inv X pins G H s->wi G H R ->
  wpAny (model X.prog X.w) X.A (eval iter X.env) (λv s1=>wpAny (model X.prog X.w) X.A (pyIter v) (PIE X pins G tg R) X.xe s1) X.xe s
theorem kT {E:Za0}{u:ed}{o:Obj}{n:String}{vs:Array ed}{Q:Unit->eg->Prop}(ho:s.heap.get? it=some o)(hc:o.cls=.type n)(hd:o.data=.fields vs)
    (hn : ["enumerate", "zip", "dict_itemiterator", "dict_reverseitemiterator", "odict_iterator", "itertools.zip_longest", "itertools.pairwise"].contains n = false)(hQ : Q () s) : wpAny M A (letOwnedTupleGo tg (.ref it) u) Q E s := by
  unfold letOwnedTupleGo;cases tg <;> first
    | exact ez hQ
    | (cases u <;> first
        | exact ez hQ
        | (refine wpAny_bind (wpAny_load ho ?_)
           rw [hc, hd];show wpAny M A (if (["enumerate", "zip", "dict_itemiterator", "dict_reverseitemiterator", "odict_iterator", "itertools.zip_longest", "itertools.pairwise"].contains n && vs[0]? == some (rawInt _)) = true then _ else _) Q E s;rw [if_neg (by intro h; rw [hn, wq] at h; cases h)];exact ez hQ))
def Itl (K:dn)(a:dw):It:=
 ⟨λi H=>∃xs x,SqL K H a xs/\xs[i]?=some x,λi H x H'=>H'=H/\∀xs,SqL K H a xs->xs[i]?=some x,λi H=>∃xs,SqL K H a xs/\xs.length<=i⟩
def Itr (lo:Int)(n:Nat):It:=⟨λi _=>i<n,λi H x H'=>H'=H/\x=.int (lo+i),λi _=>n<=i⟩
theorem iH {P:fq}{K:dn}(a it:dw):Ob P w K tg (Itl K a) [it] it (λi h=>h.IsListIter it a i) where
 mem:=by simp
 obj:=λi h st b hb=>by
  have e:b=it:=by simpa using hb
  subst e;obtain⟨o,e,c,d⟩:=st;exact⟨o,e,λv z=>by rw[d] at z;cases z⟩
 keep:=λi h h' st k=>st.at λo e=>k it (by simp) o e
 item:=by
  intro X hP hw hK hc i pins s G H E I hf st hg;subst hP hw hK;obtain⟨xs,x,hq,hx⟩:=hg;obtain⟨its,rv,p,hz⟩:=I.list hq;obtain⟨u,hu,ru⟩:=rv.get hx;obtain⟨f0,f1,f2,f3,f4,f5⟩:=hf it (by simp);refine wpAny_pyNext_list_item st p.isList (x:=u) (by simpa using hu) λh' st' sb=>?_;have I1:Inv X pins G H { s with heap:=h' }:=I.turned (t':=s.toks) (λb o hb e=>(sb.2 b hb).trans e) f0 f1 f3 f4 f5;obtain⟨o,e,c,d⟩:=id st';exact⟨u,rfl,kT (s:={ s with heap:=h' }) e c d (by decide) ⟨x,H,I1,ru,⟨rfl,λys hy=>by rw[I.list_inj hy hq];exact hx⟩,st',λb hb=>(hf b hb).1⟩⟩
 done:=by
  intro X hP hw hK hc i pins s G H E I hf st hg;subst hP hw hK;obtain⟨xs,hq,hx⟩:=hg;obtain⟨its,rv,p,hz⟩:=I.list hq;obtain⟨f0,f1,f2,f3,f4,f5⟩:=hf it (by simp);have hl:=rv.length;exact wpAny_pyNext_list_end (I.ok.hd hc) st p.isList (by simp;lia) λh' eb=>⟨rfl,I.turned (t':=s.toks) (λb o hb e=>eb b o hb e) f0 f1 f3 f4 f5⟩
 self:=λ_ _ _ _ _ st h=>wpAny_pyIter_listiter st h
theorem Zi {P:fq}{K:dn}(it:dw)(lo:Int)(n:Nat):Ob P w K tg (Itr lo n) [it] it (λi h=>IsRangeIter h it (lo+(i:Nat)*1) ((n:Int)-(i:Nat)) 1) where
 mem:=by simp
 obj:=λi h st b hb=>by
  have e:b=it:=by simpa using hb
  subst e;exact⟨_,st,λv z=>by
   have z':DQ _=Data.cell v:=z;cases z'⟩
 keep:=λi h h' st k=>k it (by simp) _ st
 item:=by
  intro X hP hw hK hc i pins s G H E I hf st hg;subst hP hw hK;obtain⟨f0,f1,f2,f3,f4,f5⟩:=hf it (by simp);have W:=Walks.range (prog:=X.prog) (w:=X.w) (I.ok.hd hc) it lo 1 n;refine W.item i s _ _ hg st λv h' tk hv st' kk=>?_;obtain⟨t,rfl⟩:=hv;have I1:Inv X pins G H { s with heap:=h',toks:=tk }:=I.turned (λb o hb e=>kk b o (by simpa using hb) e) f0 f1 f3 f4 f5;refine⟨_,rfl,kT (s:={ s with heap:=h',toks:=tk }) (n:="range_iterator") st' rfl rfl (by decide) ⟨.int (lo+i),H,I1,⟨t,?_⟩,⟨rfl,rfl⟩,st',λb hb=>(hf b hb).1⟩⟩;rw[Int.mul_one]
 done:=by
  intro X hP hw hK hc i pins s G H E I hf st hg;subst hP hw hK;obtain⟨f0,f1,f2,f3,f4,f5⟩:=hf it (by simp);exact wpAny_pyNext_range_end (I.ok.hd hc) st (by have:n<=i:=hg;lia) λh' eb=>⟨rfl,I.turned (t':=s.toks) (λb o hb e=>eb b o hb e) f0 f1 f3 f4 f5⟩
 self:=λ_ _ _ _ _ st h=>wpAny_pyIter_rangeiter st h
section
variable {X:Cx} {tg:gq}
def tI (K:dn)(tl:TE):TI:=λG H R=>tl G H λx H1=>∃a,x=.ref a/\(∃xs,SqL K H1 a xs)/\R (Itl K a) H1
theorem Ct {l:gq}{tl:TE}(hl:PE X l tl):PI X tg l (tI X.K tl):=by
 intro pins s G H R I h;refine thE hl I h λv s1 x H1 I1 r1 q1=>?_;obtain⟨a,e,⟨xs,hq⟩,q⟩:=q1;subst e;cases r1;obtain⟨its,rv,p,hz⟩:=I1.list hq;refine BZ p.isList ?_;refine⟨s1.heap.objs.size,[s1.heap.objs.size],_,_,H1,rfl,I1.kept (t':=s1.toks) λb o e=>d4 _ e,iH a _,⟨_,gk _ rfl,rfl,rfl⟩,λb hb=>?_,q⟩;have e:b=s1.heap.objs.size:=by simpa using hb
 subst e;exact I1.fpOk (d3 _) (I1.hok.fresh (d3 _))
theorem Xn {G:St}{R:It->Hp->Prop}{E:Za0}{lo hi:Int}{t u v:Tok}{tk:Nat}(I:Inv X pins G H s)(h1:-(2 ^ 62)<=lo)(h2:lo<2 ^ 62)(h3:-(2 ^ 62)<=hi)(h4:hi<2 ^ 62)
  (q:R (Itr lo (hi-lo).toNat) H):wpAny (model X.prog X.w) X.A (pyIter (.ref s.heap.objs.size)) (PIE X pins G tg R) E { s with heap:=s.heap.push { cls:=.type "range",data:=.fields #[.int lo t,.int hi u,.int 1 v] },toks:=tk }:=by
 refine wpAny_pyIter_range (BM ..) (small_one h1 h2 h3 h4) ?_;have I1:Inv X pins G H { s with heap:=s.heap.push { cls:=.type "range",data:=.fields #[.int lo t,.int hi u,.int 1 v] },toks:=tk }:=I.kept λb o e=>d4 _ e;refine⟨(s.heap.push { cls:=.type "range",data:=.fields #[.int lo t,.int hi u,.int 1 v] }).objs.size,[(s.heap.push { cls:=.type "range",data:=.fields #[.int lo t,.int hi u,.int 1 v] }).objs.size],_,_,H,rfl,
  I1.kept (t':=tk) λb o e=>d4 _ e,Zi _ lo (hi-lo).toNat,?_,λb hb=>?_,q⟩
 ·have e1:lo+((0:Nat):Int)*1=lo:=by simp
  have e2:(((hi-lo).toNat:Nat):Int)-((0:Nat):Int)=ur lo hi 1:=by rw[FP];split<;>lia
  show IsRangeIter _ _ (lo+((0:Nat):Int)*1) ((((hi-lo).toNat:Nat):Int)-((0:Nat):Int)) 1;rw[e1,e2];exact gk _ rfl
 ·have e:b=(s.heap.push { cls:=.type "range",data:=.fields #[.int lo t,.int hi u,.int 1 v] }).objs.size:=by simpa using hb
  subst e;exact I1.fpOk (d3 _) (I1.hok.fresh (d3 _))
def tT (ta:TA):TI:=λG H R=>ta G H λvs H1=>∃j:Int,vs=[.int j]/\-(2 ^ 62)<=j/\j<2 ^ 62/\R (Itr 0 j.toNat) H1
def uM (ta:TA):TI:=λG H R=>ta G H λvs H1=>∃i j:Int,vs=[.int i,.int j]/\(-(2 ^ 62)<=i/\i<2 ^ 62/\-(2 ^ 62)<=j/\j<2 ^ 62)/\R (Itr i (j-i).toNat) H1
theorem Js {a:gq}{ta:TA}{p:Pos}(hg:Gl X "range")(hm:X.mg "range"=none)(ha:PA X [a] ta)(hs:autoParam (starEach [a] X.env=[(false,eval a X.env)]) QD):PI X tg (.Call (.Name "range" p) [a] [] pos) (tT ta):=by
 intro pins s G H R I h;refine Call_ (Ev I hg hm boot_range (il (thA ha I h λus s1 vs H1 I1 r1 q1=>?_) hs rfl));obtain⟨j,e,q1,q2,q⟩:=q1;subst e
 cases r1 with
 |cons r rr=>
  cases rr;obtain⟨t,rfl⟩:=r;exact GO (Xn I1 (by lia) (by lia) q1 q2 (by simpa using q))
theorem Ow {a b:gq}{ta:TA}{p:Pos}(hg:Gl X "range")(hm:X.mg "range"=none)(ha:PA X [a,b] ta)(hs:autoParam (starEach [a,b] X.env=[(false,eval a X.env),(false,eval b X.env)]) QD)(hs2:autoParam (starEach [b] X.env=[(false,eval b X.env)]) QD) :
  PI X tg (.Call (.Name "range" p) [a,b] [] pos) (uM ta):=by
 intro pins s G H R I h;refine Call_ (Ev I hg hm boot_range (il (thA ha I h λus s1 vs H1 I1 r1 q1=>?_) (by rw[hs,hs2]) (by rw[hs2];rfl)));obtain⟨i,j,e,⟨q1,q2,q3,q4⟩,q⟩:=q1;subst e
 cases r1 with
 |cons r rr=>
  cases rr with
  |cons r' rr=>
   cases rr;obtain⟨t,rfl⟩:=r;obtain⟨t',rfl⟩:=r';exact call_range_2 (Xn I1 q1 q2 q3 q4 q)
def yQ (wi:TI)(g:TG)(tb:TS):TS:=λD G H=>wi G H λJ H1=>∃W:Nat->Nat->St->Hp->Prop,(∃m,W 0 m G H1)/\∀i m G H,W i m G H ->
 (J.stop i H/\D.nx G H)\/(J.go i H/\∃N:St->Hp->Prop,(∀mt H',N mt H'->∃m',m'<m/\W (i+1) m' mt H')/\∀x H',J.yld i H x H'->g x G H' λHF H2=>tb { D with nx:=N,ct:=N,bk:=D.nx } HF H2)
def Oy (fp:List dw)(h:im):Za1:=fp.filterMap λb=>(h.get? b).map λo=>(b,o)
theorem Fz {b:dw}{o:Obj}(hb:b∈fp)(e:h.get? b=some o):(b,o)∈Oy fp h:=qd.mpr ⟨b,hb,by rw[e];rfl⟩
theorem jE {p:dw×Obj}(hp:p∈Oy fp h):p.1∈fp/\h.get? p.1=some p.2:=by
 obtain⟨b,hb,e⟩:=qd.mp hp
 cases q:h.get? b with
 |none=>rw[q] at e;cases e
 |some o=>
  rw[q] at e;have e':(b,o)=p:=d0 e;subst e';exact⟨hb,q⟩
theorem Inv.pinned {G:St}(I:Inv X pins G H s)(hf:∀b∈fp,Nw X pins H b)(ho:∀b∈fp,∃o,s.heap.get? b=some o/\∀v,o.data≠.cell v):Inv X (pins++Oy fp s.heap) G H s:=
 I.pins_of λp hp=>(mf.mp hp).elim (λz=>I.pin p (gh _ z)) λz=>by
  obtain⟨hb,e⟩:=jE z;obtain⟨f0,f1,f2,_⟩:=hf p.1 hb;obtain⟨o,e',d⟩:=ho p.1 hb;rw[e] at e';cases e';exact⟨e,f0,f1,f2,d⟩
theorem Inv.unpinned {pl:Za1}{G:St}(I:Inv X (pins++pl) G H s):Inv X pins G H s:=I.pins_of λp hp=>I.pin p (gh _ (yz _ hp))
theorem Fe {iter:gq}{body:List io}{g:TG}{tb:TS}(hp:PassesOwn (model X.prog X.w) X.A X.env X.xe)(hc:X.calm=true)(hi:PI X tg iter wi)(hg:PG X tg g)(hb:PSs X body tb)
  (hs:autoParam (∀x,foldedSetIterable iter X.env x=pure x) QJ):PS X (.For tg iter body [] pos) (yQ wi g tb):=by
 k_end;refine wpAny_For (thn (hi pins s G H _ I h) λv s1 h1=>thn h1 λitv s2 h2=>?_) hs;obtain⟨it,fp,tn,J,H2,e,I2,T,st2,f2,W,⟨m0,w0⟩,turn⟩:=h2;subst e
 -- what stays true of the iterator's objects through the loop
 have stat:∀{H':Hp},(∀b∈fp,H' b=none)->∀b∈fp,Nw X pins H' b:=λhn b hb=>⟨hn b hb,(f2 b hb).2⟩;refine codeAny_forLoop_any (λn s'=>∃i mt H',Inv X pins mt H' s'/\tn i s'.heap/\(∀b∈fp,H' b=none)/\W i n mt H') ?_ m0 ⟨0,G,H2,I2,st2,λb hb=>(f2 b hb).1,w0⟩;rintro n s3 ⟨i,HH,H3,I3,st3,fr3,w3⟩;rcases turn i n HH H3 w3 with⟨stop,qn⟩|⟨go,N,hN,step⟩
 ·refine wpAny_passesOwn hp (thn (T.done X rfl rfl rfl hc i pins s3 HH H3 X.xe I3 (stat fr3) st3 stop) λr s4 ⟨hr,I4⟩=>?_)
  subst hr;exact n8 ⟨HH,H3,I4,qn⟩
 ·refine wpAny_passesOwn hp (thn (T.item X rfl rfl rfl hc i pins s3 HH H3 X.xe I3 (stat fr3) st3 go) λr s4 ⟨u,hr,h4⟩=>?_)
  subst hr;refine wpAny_passesOwn hp (thn h4 λ_ s5 ⟨x,H5,I5,r5,y5,st5,fr5⟩=>?_);have I5':=I5.pinned (stat fr5) (T.obj _ _ st5);refine wpAny_passesOwn hp (thn (hg _ s5 HH H5 x u _ I5' r5 (step x H5 y5)) λ_ s6 ⟨σ6,H6,I6,q6⟩=>?_);refine wpAny_passesOwn hp (thn (hb _ s6 σ6 H6 _ I6 q6) λf s7 q7=>?_);have again:∀{HI:St} {H7:Hp},Inv X (pins++Oy fp s5.heap) HI H7 s7->N HI H7->∃m,m<n/\∃i mt H',Inv X pins mt H' s7/\tn i s7.heap/\(∀b∈fp,H' b=none)/\W i m mt H':=λ{HI H7} I7 n7=>by
   obtain⟨m',hm,w7⟩:=hN HI H7 n7;refine⟨m',hm,i+1,HI,H7,I7.unpinned,T.keep _ _ _ st5 λb hb o e=>(I7.pin (b,o) (gh _ (gh _ (Fz hb e)))).1,λb hb=>?_,w7⟩;obtain⟨o,e,d⟩:=T.obj _ _ st5 b hb;exact(I7.pin (b,o) (gh _ (gh _ (Fz hb e)))).2.1
  cases f with
  |next=>obtain⟨HI,H7,I7,n7⟩:=q7;exact again I7 n7
  |cont=>obtain⟨HI,H7,I7,n7⟩:=q7;exact again I7 n7
  |brk=>obtain⟨HI,H7,I7,q7⟩:=q7;exact⟨HI,H7,I7.unpinned,q7⟩
  |ret v=>obtain⟨x7,HI,H7,I7,r7,q7⟩:=q7;exact⟨x7,HI,H7,I7.unpinned,r7,q7⟩
end
theorem Nb {K:dn}{a:dw}{g:TG}{tb:TS}{D:Ji}{G:St}(Pv:Nat->St->Hp->Prop)(h0:Pv 0 G H)(hl:∀i G H,i<=xs.length->Pv i G H->SqL K H a xs)
  (hs:∀i x G H,xs[i]?=some x->Pv i G H->g x G H λHF H2=>tb { D with nx:=Pv (i+1),ct:=Pv (i+1),bk:=D.nx } HF H2)(hd:∀G H,Pv xs.length G H->D.nx G H) :
  ∃W:Nat->Nat->St->Hp->Prop,(∃m,W 0 m G H)/\∀i m G H,W i m G H ->
   ((Itl K a).stop i H/\D.nx G H)\/((Itl K a).go i H/\∃N:St->Hp->Prop,(∀mt H',N mt H'->∃m',m'<m/\W (i+1) m' mt H')/\∀x H',(Itl K a).yld i H x H'->g x G H' λHF H2=>tb { D with nx:=N,ct:=N,bk:=D.nx } HF H2):=by
 refine⟨λi m G H=>m=xs.length-i/\i<=xs.length/\Pv i G H,⟨xs.length,by simp,fg _,h0⟩,?_⟩;rintro i m G H ⟨rfl,hi,p⟩;have q:=hl i G H hi p
 by_cases hlt:i<xs.length
 ·refine .inr ⟨⟨xs,xs[i],q,by simp[hlt]⟩,Pv (i+1),λmt H' p'=>⟨xs.length-(i+1),by lia,rfl,hlt,p'⟩,λx H' y=>?_⟩
  obtain⟨e,y⟩:=y;subst e;exact hs i x G _ (y xs q) p
 ·have e:i=xs.length:=by lia
  subst e;exact .inl ⟨⟨xs,q,d3 _⟩,hd G H p⟩
theorem Ln {lo:Int}{n:Nat}{g:TG}{tb:TS}{D:Ji}{G:St}(Pv:Nat->St->Hp->Prop)(h0:Pv 0 G H)
  (hs:∀i G H,i<n->Pv i G H->g (.int (lo+i)) G H λHF H2=>tb { D with nx:=Pv (i+1),ct:=Pv (i+1),bk:=D.nx } HF H2)(hd:∀G H,Pv n G H->D.nx G H) :
  ∃W:Nat->Nat->St->Hp->Prop,(∃m,W 0 m G H)/\∀i m G H,W i m G H ->
   ((Itr lo n).stop i H/\D.nx G H)\/((Itr lo n).go i H/\∃N:St->Hp->Prop,(∀mt H',N mt H'->∃m',m'<m/\W (i+1) m' mt H')/\∀x H',(Itr lo n).yld i H x H'->g x G H' λHF H2=>tb { D with nx:=N,ct:=N,bk:=D.nx } HF H2):=by
 refine⟨λi m G H=>m=n-i/\i<=n/\Pv i G H,⟨n,by simp,fg _,h0⟩,?_⟩;rintro i m G H ⟨rfl,hi,p⟩
 by_cases hlt:i<n
 ·refine .inr ⟨hlt,Pv (i+1),λmt H' p'=>⟨n-(i+1),by lia,rfl,hlt,p'⟩,λx H' y=>?_⟩
  obtain⟨e,y⟩:=y;subst e y;exact hs i G _ hlt p
 ·have e:i=n:=by lia
  subst e;exact .inl ⟨d3 _,hd G H p⟩
abbrev R2:=V->V->Hp->VK->Prop
def OpR (X:Cx)(f:ed->ed->Sem ed)(r:R2):Prop:=
 ∀(pins:Za1) (s:eg) (G:St) (H:Hp) (x y:V) (v u:ed) (Q:VK),Inv X pins G H s->Bm x v->Bm y u->r x y H Q ->
  wpAny (model X.prog X.w) X.A (f v u) (EP X pins G Q) X.xe s
def UnR (X:Cx)(f:ed->Sem ed)(r:V->Hp->VK->Prop):Prop:=
 ∀(pins:Za1) (s:eg) (G:St) (H:Hp) (x:V) (v:ed) (Q:VK),Inv X pins G H s->Bm x v->r x H Q ->
  wpAny (model X.prog X.w) X.A (f v) (EP X pins G Q) X.xe s
def Ht (X:Cx)(f:ed)(r:List V->Hp->VK->Prop):Prop:=
 ∀(pins:Za1) (s:eg) (G:St) (H:Hp) (xs:List V) (us:Za3) (Q:VK),Inv X pins G H s->A3 xs us->r xs H Q ->
  wpAny (model X.prog X.w) X.A (call f us) (EP X pins G Q) X.xe s
def tOp (r:R2)(ta tb:TE):TE:=λG H Q=>ta G H λx H1=>tb G H1 λy H2=>r x y H2 Q
def tUn (r:V->Hp->VK->Prop)(ta:TE):TE:=λG H Q=>ta G H λx H1=>r x H1 Q
def rI (C:Int->Int->Prop)(g:Int->Int->V):R2:=λx y H Q=>∃i j,x=.int i/\y=.int j/\C i j/\Q (g i j) H
def rI0 (g:Int->Int->V):R2:=λx y H Q=>∃i j,x=.int i/\y=.int j/\Q (g i j) H
def rU (g:Int->V):V->Hp->VK->Prop:=λx H Q=>∃i,x=.int i/\Q (g i) H
section
variable {X:Cx} {a b c:gq} {ta tb tc:TE} {pos:Pos}
theorem xM (ha:PE X a ta)(hb:PE X b tb){G:St}{R:V->V->Hp->Prop}(I:Inv X pins G H s)
  (h:ta G H λx H1=>tb G H1 λy H2=>R x y H2){Q:Za0}{f:ed->ed->Sem ed}
  (hf:∀v u s2 x y H2,Inv X pins G H2 s2->Bm x v->Bm y u->R x y H2->wpAny (model X.prog X.w) X.A (f v u) Q X.xe s2) :
  wpAny (model X.prog X.w) X.A (eval a X.env) (λv HB=>wpAny (model X.prog X.w) X.A (eval b X.env) (λu HE=>wpAny (model X.prog X.w) X.A (f v u) Q X.xe HE) X.xe HB) X.xe s:=by
 refine thE ha I h λv s1 x H1 I1 r1 q1=>?_;refine thE hb I1 q1 λu s2 y H2 I2 r2 q2=>?_;exact hf v u s2 x y H2 I2 r1 r2 q2
theorem Al {op:AU}{r:R2}(ho:OpR X (binaryOp op) r)(ha:PE X a ta)(hb:PE X b tb):PE X (.BinOp a op b pos) (tOp r ta tb):=by
 k_in;exact wpAny_BinOp (xM ha hb I h λv u s2 x y H2 I2 rx ry q=>ho pins s2 G H2 x y v u Q I2 rx ry q)
theorem Cg {op:UnaryOp}{r:V->Hp->VK->Prop}(ho:UnR X (unaryOp op) r)(ha:PE X a ta):PE X (.UnaryOp op a pos) (tUn r ta):=by
 k_in;exact UnaryOp_ (thE ha I h λv s1 x H1 I1 r1 q1=>ho pins s1 G H1 x v Q I1 r1 q1)
theorem opI {f:ed->ed->Sem ed}{C:Int->Int->Prop}{g:Int->Int->Int}
  (rule:∀(i j:Int) (t u:Tok) (s:eg) (Q:Za0) (E:Za0),C i j->Q (.int (g i j) s.toks) { s with toks:=s.toks+1 }->wpAny (model X.prog X.w) X.A (f (.int i t) (.int j u)) Q E s) :
  OpR X f (rI C λi j=>.int (g i j)):=by
 intro pins s G H x y v u Q I rx ry h;obtain⟨i,j,rfl,rfl,hc,q⟩:=h;obtain⟨t,rfl⟩:=rx;obtain⟨t',rfl⟩:=ry;exact rule i j t t' s _ _ hc ⟨.int (g i j),H,I.tok _,⟨_,rfl⟩,q⟩
theorem yJ {f:ed->ed->Sem ed}{g:Int->Int->Int}
  (rule:∀(i j:Int) (t u:Tok) (s:eg) (Q:Za0) (E:Za0),Q (.int (g i j) s.toks) { s with toks:=s.toks+1 }->wpAny (model X.prog X.w) X.A (f (.int i t) (.int j u)) Q E s) :
  OpR X f (rI0 λi j=>.int (g i j)):=by
 intro pins s G H x y v u Q I rx ry h;obtain⟨i,j,rfl,rfl,q⟩:=h;obtain⟨t,rfl⟩:=rx;obtain⟨t',rfl⟩:=ry;exact rule i j t t' s _ _ ⟨.int (g i j),H,I.tok _,⟨_,rfl⟩,q⟩
theorem sB {f:ed->ed->Sem ed}{g:Int->Int->Bool}
  (rule:∀(i j:Int) (t u:Tok) (s:eg) (Q:Za0) (E:Za0),Q (.bool (g i j)) s->wpAny (model X.prog X.w) X.A (f (.int i t) (.int j u)) Q E s) :
  OpR X f (rI0 λi j=>.bl (g i j)):=by
 intro pins s G H x y v u Q I rx ry h;obtain⟨i,j,rfl,rfl,q⟩:=h;obtain⟨t,rfl⟩:=rx;obtain⟨t',rfl⟩:=ry;exact rule i j t t' s _ _ ⟨.bl (g i j),H,I,rfl,q⟩
def yL (i j:Int):Prop:=0<j/\j<1073741824
def Aa6 (i j:Int):Prop:=0<=j/\j<=1000000/\i.natAbs<2 ^ 64
def mF (i j:Int):Prop:=(-(2 ^ 64)<i/\i<2 ^ 64)\/(-(2 ^ 64)<j/\j<2 ^ 64)
theorem mF.ok {i j:Int}(h:mF i j):IntMulOk i j:=by
 rcases h with⟨h1,h2⟩|⟨h1,h2⟩
 ·exact .of_left (FR h1 h2)
 ·exact .of_right (FR h1 h2)
theorem A0:OpR X (binaryOp .Add) (rI0 λi j=>.int (i+j)):=yJ λ_ _ _ _ _ _ _ q=>add_int q
theorem C5:OpR X (binaryOp .Sub) (rI0 λi j=>.int (i-j)):=yJ λ_ _ _ _ _ _ _ q=>sub_int q
theorem Io:OpR X (binaryOp .Mult) (rI mF λi j=>.int (i*j)):=opI λ_ _ _ _ _ _ _ hc q=>mul_int q hc.ok
theorem F8:OpR X (binaryOp .FloorDiv) (rI yL λi j=>.int (i/j)):=opI λi j _ _ _ _ _ hc q=>by
 have h1:(0:Int)<j:=hc.1;have h2:j<1073741824:=hc.2;exact floordiv_int (by lia) (by rw[Int.fdiv_eq_ediv_of_nonneg i (by lia)];exact q) (.inl (PyProof.noPylong_small (by lia)))
theorem Dl:OpR X (binaryOp .Mod) (rI (λ_ j=>0<j) λi j=>.int (i%j)):=opI λi j _ _ _ _ _ hc q=>by
 have h1:(0:Int)<j:=hc;exact mod_int' (by lia) (by rw[Int.fmod_eq_emod_of_nonneg i (by lia)];exact q)
theorem wJ:OpR X (binaryOp .Pow) (rI Aa6 λi j=>.int (i ^ j.toNat)):=opI λ_ _ _ _ _ _ _ hc q=>pow_int_small hc.1 hc.2.1 hc.2.2 q
theorem unI {f:ed->Sem ed}{g:Int->Int}
  (rule:∀(i:Int) (t:Tok) (s:eg) (Q:Za0) (E:Za0),Q (.int (g i) s.toks) { s with toks:=s.toks+1 }->wpAny (model X.prog X.w) X.A (f (.int i t)) Q E s) :
  UnR X f (rU λi=>.int (g i)):=by
 intro pins s G H x v Q I rx h;obtain⟨i,rfl,q⟩:=h;obtain⟨t,rfl⟩:=rx;exact rule i t s _ _ ⟨.int (g i),H,I.tok _,⟨_,rfl⟩,q⟩
theorem Bn:UnR X (unaryOp .USub) (rU λi=>.int (-i)):=unI λ_ _ _ _ _ q=>neg_int q
end
def rD:V->V->Bool
 |.non,.non=>true|.non,.int _=>true|.int _,.non=>true|.non,.bl _=>true|.bl _,.non=>true|.non,.str _=>true|.str _,.non=>true
 |.int _,.int _=>true|.bl _,.bl _=>true|.str _,.str _=>true|.byt _,.byt _=>true
 |.int _,.str _=>true|.str _,.int _=>true|.bl _,.str _=>true|.str _,.bl _=>true
 |_,_=>false
def rEq:R2:=λx y H Q=>rD x y=true/\Q (.bl (decide (x=y))) H
def rNe:R2:=λx y H Q=>rD x y=true/\Q (.bl (!decide (x=y))) H
theorem eX {i j:Int}:decide (V.int i=V.int j)=(i==j):=by
 rw[sd];simp
theorem lR {i j:Bool}:decide (V.bl i=V.bl j)=(i==j):=by
 rw[sd];simp
theorem eO {i j:Str}:decide (V.str i=V.str j)=(i==j):=by
 rw[sd];simp
theorem fV {i j:Array UInt8}:decide (V.byt i=V.byt j)=(i.toList==j.toList):=by
 rw[sd];cases i;cases j;simp
section
variable {X:Cx} {a b c:gq} {ta tb tc:TE} {pos:Pos}
theorem Br {G:St}{Q:VK}{k k':Bool}(I:Inv X pins G H s)(q:Q (.bl k) H)(e:k=k'):EP X pins G Q (.bool k') s:=by
 subst e;exact⟨.bl k,H,I,rfl,q⟩
theorem Fo:OpR X (compareOp .Eq) rEq:=by
 intro pins s G H x y v u Q I rx ry h;obtain⟨hs,q⟩:=h
 cases x with
 |non=>
  cases rx
  cases y with
  |non=>cases ry;exact EM (Br I q (by simp))
  |bl j=>cases ry;exact EO (Br I q (by simp))
  |int j=>obtain⟨t',rfl⟩:=ry;exact EN (Br I q (by simp))
  |str j=>obtain⟨t',rfl⟩:=ry;exact EL (Br I q (by simp))
  |_=>exact absurd (show false=true from hs) gg
 |bl i=>
  cases rx
  cases y with
  |non=>cases ry;exact ER (Br I q (by simp))
  |bl j=>cases ry;exact eq_bool (Br I q lR)
  |str j=>obtain⟨t',rfl⟩:=ry;exact DG (Br I q (by simp))
  |_=>exact absurd (show false=true from hs) gg
 |int i=>
  obtain⟨t,rfl⟩:=rx
  cases y with
  |non=>cases ry;exact EQ (Br I q (by simp))
  |int j=>obtain⟨t',rfl⟩:=ry;exact eq_int (Br I q eX)
  |str j=>obtain⟨t',rfl⟩:=ry;exact DF (Br I q (by simp))
  |_=>exact absurd (show false=true from hs) gg
 |str i=>
  obtain⟨t,rfl⟩:=rx
  cases y with
  |non=>cases ry;exact EK (Br I q (by simp))
  |bl j=>cases ry;exact DE (Br I q (by simp))
  |int j=>obtain⟨t',rfl⟩:=ry;exact DD (Br I q (by simp))
  |str j=>obtain⟨t',rfl⟩:=ry;exact eq_str (Br I q eO)
  |_=>exact absurd (show false=true from hs) gg
 |byt i=>
  obtain⟨t,rfl⟩:=rx
  cases y with
  |byt j=>obtain⟨t',rfl⟩:=ry;exact PySem.W.eq_bytes (Br I q fV)
  |_=>exact absurd (show false=true from hs) gg
 |_=>cases y<;>exact absurd (show false=true from hs) gg
theorem Re:OpR X (compareOp .NotEq) rNe:=by
 intro pins s G H x y v u Q I rx ry h;obtain⟨hs,q⟩:=h
 cases x with
 |non=>
  cases rx
  cases y with
  |non=>cases ry;exact EF (Br I q (by simp))
  |bl j=>cases ry;exact EH (Br I q (by simp))
  |int j=>obtain⟨t',rfl⟩:=ry;exact EG (Br I q (by simp))
  |str j=>obtain⟨t',rfl⟩:=ry;exact EE (Br I q (by simp))
  |_=>exact absurd (show false=true from hs) gg
 |bl i=>
  cases rx
  cases y with
  |non=>cases ry;exact EJ (Br I q (by simp))
  |bl j=>cases ry;exact ne_bool (Br I q (congrArg not lR))
  |str j=>obtain⟨t',rfl⟩:=ry;exact DC (Br I q (by simp))
  |_=>exact absurd (show false=true from hs) gg
 |int i=>
  obtain⟨t,rfl⟩:=rx
  cases y with
  |non=>cases ry;exact EI (Br I q (by simp))
  |int j=>obtain⟨t',rfl⟩:=ry;exact ne_int (Br I q (congrArg not eX))
  |str j=>obtain⟨t',rfl⟩:=ry;exact DB (Br I q (by simp))
  |_=>exact absurd (show false=true from hs) gg
 |str i=>
  obtain⟨t,rfl⟩:=rx
  cases y with
  |non=>cases ry;exact ED (Br I q (by simp))
  |bl j=>cases ry;exact DA (Br I q (by simp))
  |int j=>obtain⟨t',rfl⟩:=ry;exact CZ (Br I q (by simp))
  |str j=>obtain⟨t',rfl⟩:=ry;exact ne_str (Br I q (congrArg not eO))
  |_=>exact absurd (show false=true from hs) gg
 |byt i=>
  obtain⟨t,rfl⟩:=rx
  cases y with
  |byt j=>obtain⟨t',rfl⟩:=ry;exact PySem.W.ne_bytes (Br I q (congrArg not fV))
  |_=>exact absurd (show false=true from hs) gg
 |_=>cases y<;>exact absurd (show false=true from hs) gg
theorem Mh:OpR X (compareOp .Lt) (rI0 λi j=>.bl (decide (i<j))):=sB λ_ _ _ _ _ _ _ q=>lt_int q
theorem Nf:OpR X (compareOp .LtE) (rI0 λi j=>.bl (decide (i<=j))):=sB λ_ _ _ _ _ _ _ q=>le_int q
theorem Mg:OpR X (compareOp .Gt) (rI0 λi j=>.bl (decide (j<i))):=sB λ_ _ _ _ _ _ _ q=>gt_int q
theorem lW:OpR X (compareOp .GtE) (rI0 λi j=>.bl (decide (j<=i))):=sB λ_ _ _ _ _ _ _ q=>ge_int q
theorem nL (b:gq)(h:autoParam (op≠.In) QF)(h2:autoParam (op≠.NotIn) QF):behindInMarks op b=false:=by
 have e1:(op==FN)=false:=by cases op<;>first|rfl|exact absurd rfl h
 have e2:(op==CP)=false:=by cases op<;>first|rfl|exact absurd rfl h2
 cases b<;>simp[behindInMarks,e1,e2]
theorem rR {r:R2}(ho:OpR X (compareOp op) r)(ha:PE X a ta)(hb:PE X b tb)(hm:behindInMarks op b=false):PE X (.Compare a [op] [b] pos) (tOp r ta tb):=by
 k_in;exact wpAny_Compare1 (xM ha hb I h λv u s2 x y H2 I2 rx ry q=>ho pins s2 G H2 x y v u Q I2 rx ry q) hm
def gU (t:TE):TT:=λG H Q=>t G H λx H'=>∃k,x=.bl k/\Q k H'
theorem P2 {r:R2}(ho:OpR X (compareOp op) r)(ha:PE X a ta)(hb:PE X b tb)(hm:behindInMarks op b=false):PT X (.Compare a [op] [b] pos) (gU (tOp r ta tb)):=by
 k_in;refine wpAny_isTrue_Compare1 (thE ha I h λv s1 x H1 I1 r1 q1=>thE hb I1 q1 λu s2 y H2 I2 r2 q2=>
  thn (ho pins s2 G H2 x y v u _ I2 r1 r2 q2) λc s3 ⟨z,H3,I3,r3,k,e,q3⟩=>?_) hm
 subst e;cases r3;exact kb ⟨H3,I3,q3⟩
def dW (r r':R2)(ta tb tc:TE):TE:=λG H Q=>ta G H λx H1=>tb G H1 λy H2=>r x y H2 λz H3=>∃k,z=.bl k /\
 (if k=true then tc G H3 λw' H4=>r' y w' H4 Q else Q (.bl false) H3)
theorem Yl {op':ss}{r r':R2}(ho:OpR X (compareOp op) r)(ho':OpR X (compareOp op') r')(ha:PE X a ta)(hb:PE X b tb)(hc:PE X c tc)
  (hm:lastMarks [op,op'] [b,c]=false:=by with_unfolding_all rfl):PE X (.Compare a [op,op'] [b,c] pos) (dW r r' ta tb tc):=by
 k_in;refine Compare_chain (thE ha I h λv s1 x H1 I1 r1 q1=>chain_link (thE hb I1 q1 λu s2 y H2 I2 r2 q2=>
  thn (ho pins s2 G H2 x y v u _ I2 r1 r2 q2) λd s3 ⟨z,H3,I3,r3,k,e,q3⟩=>?_)) hm
 subst e;cases r3;refine kb ?_
 cases k with
 |false=>exact ite_ff ⟨.bl false,H3,I3,rfl,q3⟩
 |true=>exact ite_tt (chain_last (thn (hc pins s3 G H3 _ I3 q3) λw' s4 ⟨z',H4,I4,r4,q4⟩=>ho' pins s4 G H4 y z' u w' Q I4 r2 r4 q4))
theorem Rg {op':ss}{r r':R2}(ho:OpR X (compareOp op) r)(ho':OpR X (compareOp op') r')(ha:PE X a ta)(hb:PE X b tb)(hc:PE X c tc)
  (hm:lastMarks [op,op'] [b,c]=false:=by with_unfolding_all rfl):PT X (.Compare a [op,op'] [b,c] pos) (gU (dW r r' ta tb tc)):=by
 k_in;refine isTrue_chain (thE ha I h λv s1 x H1 I1 r1 q1=>test_link (thE hb I1 q1 λu s2 y H2 I2 r2 q2=>
  thn (ho pins s2 G H2 x y v u _ I2 r1 r2 q2) λd s3 ⟨z,H3,I3,r3,k,e,q3⟩=>?_)) hm
 subst e;cases r3;refine kb ?_
 cases k with
 |false=>
  obtain⟨k',e',q'⟩:=q3;cases e';exact ite_ff ⟨H3,I3,q'⟩
 |true=>
  refine ite_tt (test_last (thn (hc pins s3 G H3 _ I3 q3) λw' s4 ⟨z',H4,I4,r4,q4⟩=>thn (ho' pins s4 G H4 y z' u w' _ I4 r2 r4 q4) λd' s5 ⟨z2,H5,I5,r5,k2,e2,q5⟩=>?_));subst e2;cases r5;exact kb ⟨H5,I5,q5⟩
theorem Op:(sizeLine:Nat)<2 ^ 63:=by rw[AQ];decide
theorem Hl:OpR X (binaryOp .Add) (λx y H Q=>∃i j,x=.str i/\y=.str j/\i.length+j.length<=sizeLine/\Q (.str (i++j)) H):=by
 intro pins s G H x y v u Q I rx ry h;obtain⟨i,j,rfl,rfl,hz,q⟩:=h;obtain⟨t,rfl⟩:=rx;obtain⟨t',rfl⟩:=ry;exact add_str (λt' tk=>⟨.str (i++j),H,I.tok _,⟨_,rfl⟩,q⟩) hz
theorem Ef {x:V}(r:A3 [x] us):∃u,us=[u]/\Bm x u:=by
 cases r with
 |cons r1 r2=>cases r2;exact⟨_,rfl,r1⟩
theorem Sc {x:V}(r:A3 [x,y] us):∃u w',us=[u,w']/\Bm x u/\Bm y w':=by
 cases r with
 |cons r1 r2=>
  cases r2 with
  |cons r3 r4=>cases r4;exact⟨_,_,rfl,r1,r3⟩
theorem kQ:Ht X (.builtin "abs") (λxs H Q=>∃i,xs=[.int i]/\Q (.int (if i<0 then -i else i)) H):=by
 intro pins s G H xs us Q I r h;obtain⟨i,rfl,q⟩:=h;obtain⟨u,rfl,t,rfl⟩:=Ef r;exact call_abs_int λu tk=>⟨.int (if i<0 then -i else i),H,I.tok _,⟨_,rfl⟩,q⟩
theorem iY (hc:X.calm=true):Ht X (.builtin "max") (λxs H Q=>∃i j,xs=[.int i,.int j]/\Q (.int (if j>i then j else i)) H):=by
 intro pins s G H xs us Q I r h;obtain⟨i,j,rfl,q⟩:=h;obtain⟨u,w',rfl,⟨t,rfl⟩,⟨t',rfl⟩⟩:=Sc r;refine max_two_ints (I.ok.hd hc) λh' tk k=>⟨_,H,I.kept k,?_,q⟩
 by_cases hj:j>i
 ·rw[if_pos hj,if_pos hj];exact⟨_,rfl⟩
 ·rw[if_neg hj,if_neg hj];exact⟨_,rfl⟩
theorem jD (hc:X.calm=true):Ht X (.builtin "min") (λxs H Q=>∃i j,xs=[.int i,.int j]/\Q (.int (if j<i then j else i)) H):=by
 intro pins s G H xs us Q I r h;obtain⟨i,j,rfl,q⟩:=h;obtain⟨u,w',rfl,⟨t,rfl⟩,⟨t',rfl⟩⟩:=Sc r;refine min_two_ints (I.ok.hd hc) λh' tk k=>⟨_,H,I.kept k,?_,q⟩
 by_cases hj:j<i
 ·rw[if_pos hj,if_pos hj];exact⟨_,rfl⟩
 ·rw[if_neg hj,if_neg hj];exact⟨_,rfl⟩
theorem jP:Ht X (.type "int") (λxs H Q=>(∃i,xs=[.int i]/\Q (.int i) H)\/∃k,xs=[.bl k]/\Q (.int (if k then 1 else 0)) H):=by
 intro pins s G H xs us Q I r h;rcases h with⟨i,rfl,q⟩|⟨k,rfl,q⟩
 ·obtain⟨u,rfl,t,rfl⟩:=Ef r
  exact call_int_int ⟨.int i,H,I,⟨_,rfl⟩,q⟩
 ·obtain⟨u,rfl,r1⟩:=Ef r
  cases r1;exact call_int_bool ⟨.int (if k then 1 else 0),H,I.tok _,⟨_,rfl⟩,q⟩
end
structure Zk (h:im) (x dx C:dw) (mA:Za2):Prop where
 obj:h.get? x=some (instObj C dx)
 ns:h.Ns1 dx mA
 ne:dx≠x
theorem jQ {mA:Za2}(n:h.Ns1 dx mA):∃od,h.get? dx=some od/\∀name,lookIn name od=some (mA name):=by
 obtain⟨o,es,ep,ho,hd,hk,_,hm⟩:=n;refine⟨o,ho,λname=>?_⟩;have e:=hm name;unfold nsFind findBy at e;rw[<-Array.find?_toList] at e;unfold lookIn;rw[hd];dsimp only;split
 ·rename_i y q
  rw[q] at e;exact congrArg some e
 ·rename_i q
  rw[q] at e;have a:es.toList.any (·.refKey)=false:=by
   rw[List.any_eq_false];intro y hy;obtain⟨z,t,hkey⟩:=hk y (Array.mem_toList_iff.mp hy);simp[GS,hkey]
  have a':¬ es.toList.any (·.refKey)=true:=by rw[a];exact gg
  rw[if_neg a'];exact congrArg some e
theorem Zk.look {x:dw}{mA:Za2}(I:Zk h x dx C mA):∃od,PySem.W.InstAt h x (instObj C dx) C (some od)/\∀name,lookIn name od=some (mA name):=
 let ⟨od,ho,hl⟩:=jQ I.ns
 ⟨od,⟨I.obj,rfl,rfl,ho⟩,hl⟩
section
variable {prog:fq} {w:gr} {A:ii} {E:Za0} {s:eg} {K:dn} {x dx C f:dw} {mA:Za2} {name:Str} {v:ed}
theorem sU {expr:Bool}{Q:Za0}(X:K.In s.heap)(I:Zk s.heap x dx C mA)(hg:qp K C name=true)(hh:ue K C=true)
  (ha:i4 K (.ref C) name=some none)(hv:mA name=some v)(hv':zd v=true)(h:Q v { s with toks:=s.toks+1 }) :
  wpAny (model prog w) A (getAttr (.ref x) name expr) Q E s:=by
 obtain⟨od,J,hl⟩:=I.look;exact PySem.W.get_value X J (sj hg).1 (PySem.W.findObj_own hh ha rfl (by rw[hl,hv])) hv' h
theorem lN {Q:ed×Za3->eg->Prop}(X:K.In s.heap)(I:Zk s.heap x dx C mA)(hg:qp K C name=true)
  (hf:i4 K (.ref C) name=some (some (.ref f)))(ht:nh K (.ref f)=true)(hv:mA name=none)(h:Q (.ref f,[.ref x]) s) :
  wpAny (model prog w) A (getMethod (.ref x) name pl) Q E s:=by
 obtain⟨od,J,hl⟩:=I.look;exact PySem.W.method_fn X J (sj hg).1 (sj hg).2 hf (beq_iff_eq.mp ht) (by show(lookIn name od).map (·.isSome)=some false;rw[hl,hv];rfl) h
theorem qP {ns:Za6}{Q:Unit->eg->Prop}(X:K.In s.heap)(I:Zk s.heap x dx C mA)
  (hs:i4 K (.ref C) "__setattr__"=some (some (.builtin "object.__setattr__")))(hp:yv K C=true)(ht:ux K C name=some none)(hh:ue K C=true)
  (hw:xr mA ns)(hsz:ns.length<=sizeLine)
  (h:∀h',Zk h' x dx C (λy=>if y=name then some v else mA y)->uq dx s.heap h'->Q () { s with heap:=h',toks:=s.toks+2 }) :
  wpAny (model prog w) A (setAttr (.ref x) name v) Q E s:=by
 obtain⟨od,J,hl⟩:=I.look;refine PySem.W.set_plain X J hs (PySem.W.osa_open (s:={ s with toks:=s.toks+1 }) (r:=none) X J hp ht λb=>?_);obtain⟨cd,hc,hd'⟩:=PySem.W.any_some hh;have hx:s.heap.get? x=some ⟨.ref C,some dx,.plain,#[]⟩:=I.obj;refine wpAny_bind (ez (wpAny_bind (wpAny_bind (uj hx (wpAny_bind (CY (s:={ s with toks:=s.toks+1 }) (PySem.W.looks_clsIn X hc) ?_))))));rw[hd'];refine ez (a:=some dx) (wpAny_bind (ez (wpAny_bind ?_)));refine GL (s:={ s with toks:=s.toks+1 }) I.ns λh' hn2 hs2=>?_;obtain⟨oD,esD,epD,hoD,hdD,hcD⟩:=hn2.count (DZ name v hw);refine wpAny_bind (CQ hoD (by rw[hdD];exact CU (ie hcD (by rw[fj];lia))) ?_);exact ez (h _ ⟨(hs2.2 _ (lz I.ne)).trans I.obj,hn2,I.ne⟩ hs2)
theorem Ze {R:vg->eg->Prop}{kw:List (Str×ed)}(X:K.In s.heap)(hm:zl K C=true)
  (hi:i4 K (.ref C) "__init__"=some (some (.ref f)))(hf:PySem.W.typeIn K (.ref f)=some (.type "function"))
  (h:codeAny (model prog w) (A.under (.builtin "type.__call__" ⟨.ref C::vs,kw⟩)) (.call (.ref f) ⟨.ref (s.heap.objs.size+1)::vs,kw⟩) (PySem.W.InitBack (s.heap.objs.size+1) R)
   { s with heap:=(s.heap.push jy).push (instObj C s.heap.objs.size) }) :
  codeAny (model prog w) A (.call (.ref C) ⟨vs,kw⟩) R s:=by
 obtain⟨hh,g,d,t,os⟩:=s;exact PySem.W.make_core (PySem.W.makes_of X hm) (PySem.W.looks_findIn X hi) (λself=>PySem.W.bind_fn X self hf) (.inl rfl) h
end
def C4 (f : Str)(v : V) : List (Str × V)->List (Str × V)
  | [] => [(f, v)]
  | (g, x) :: r => if g = f then (g, v) :: r else (g, x) :: C4 f v r
theorem Pd (f g:Str)(v:V):∀ fs:List (Str×V),(C4 f v fs).lookup g=if g=f then some v else fs.lookup g
  | [] => by
    show l5 g [(f, v)] = _
    by_cases h : g = f
    · have hb : (g == f) = true := beq_iff_eq.mpr h
      simp only [l5, hb, if_pos h]
    · have hb : (g == f) = false := beq_eq_false_iff_ne.mpr h
      simp only [l5, hb, if_neg h]
  | (k, x) :: r => by
    have ih := Pd f g v r;rw [show C4 f v ((k, x) :: r) = (if k = f then (k, v) :: r else (k, x) :: C4 f v r) from rfl]
    by_cases hk : k = f
    · rw [if_pos hk]
      by_cases h : g = k
      · have hb : (g == k) = true := beq_iff_eq.mpr h
        simp only [l5, hb, if_pos (h.trans hk)]
      · have hb : (g == k) = false := beq_eq_false_iff_ne.mpr h
        simp only [l5, hb, if_neg (λe : g = f => h (e.trans hk.symm))]
    · rw [if_neg hk]
      by_cases h : g = k
      · have hb : (g == k) = true := beq_iff_eq.mpr h
        simp only [l5, hb, if_neg (λe : g = f => hk (h.symm.trans e))]
      · have hb : (g == k) = false := beq_eq_false_iff_ne.mpr h
        simp only [l5, hb];exact ih
theorem Oz (f:Str)(v:V):∀ fs:List (Str×V),f∈(C4 f v fs).map (·.1)/\∀ g,g∈fs.map (·.1)->g∈(C4 f v fs).map (·.1)
  | [] => ⟨by simp [C4], λg h => by simp at h⟩
  | (k, x) :: r => by
    obtain ⟨i1, i2⟩ := Oz f v r;rw [show C4 f v ((k, x) :: r) = (if k = f then (k, v) :: r else (k, x) :: C4 f v r) from rfl]
    by_cases hk : k = f
    · rw [if_pos hk]
      subst hk;exact ⟨by simp, λg h => by simpa using h⟩
    · rw [if_neg hk]
      refine ⟨?_, λg h => ?_⟩
      · rw [ju]
        exact ik _ i1
      · rw [ju] at h ⊢
        rcases gd.mp h with e | e
        · exact gd.mpr (.inl e)
        · exact ik _ (i2 g e)
theorem Pk (f:Str)(v:V):∀ fs:List (Str×V),(C4 f v fs).length<=fs.length+1
  | [] => by simp [C4]
  | (k, x) :: r => by
    have ih := Pk f v r;rw [show C4 f v ((k, x) :: r) = (if k = f then (k, v) :: r else (k, x) :: C4 f v r) from rfl]
    by_cases hk : k = f
    · rw [if_pos hk, fj, fj]; lia
    · rw [if_neg hk, fj, fj]; lia
theorem Pq.some_of {v:V}{o:Za7}(r:Pq (some v) o):∃u,o=some u/\Bm v u:=by
 cases o with
 |none=>exact(show False from r).elim
 |some u=>exact⟨u,rfl,r⟩
theorem Pq.none_of {o:Za7}(r:Pq none o):o=none:=by
 cases o with
 |none=>rfl
 |some u=>exact(show False from r).elim
theorem iU {v:V}{u:ed}(r:Bm v u):zd u=true:=by
 cases v with
 |non=>cases(show u=ll from r);rfl
 |bl b=>cases(show u=wd b from r);rfl
 |int i=>obtain⟨t,e⟩:=(show ∃t,u=mq i t from r);cases e;rfl
 |str x=>obtain⟨t,e⟩:=(show ∃t,u=sv x t from r);cases e;rfl
 |byt b=>obtain⟨t,e⟩:=(show ∃t,u=CB b t from r);cases e;rfl
 |flt b=>obtain⟨t,e⟩:=(show ∃t,u=yl b t from r);cases e;rfl
 |ref a=>cases(show u=ia a from r);rfl
 |ty n=>cases(show u=iz n from r);rfl
section
variable {P:fq} {w:gr} {H H':Hp} {h h':im} {a C dx:dw} {fs fs':List (Str×V)}
theorem P6 (hok:HOk P w H h)(e:H a=some (.ins C dx fs)):∃mA,Zk h a dx C mA/\(∀f,Pq (fs.lookup f) (mA f))/\xr mA (fs.map (·.1))/\fs.length<=1000/\H dx=some (.own a):=by
 obtain⟨d,z,ne,ob,mA,n,r,q⟩:=(show Ce P w H h a (.ins C dx fs) from hok a _ e);exact⟨mA,⟨ob,n,ne⟩,r,q,z,d⟩
end
structure Cls (K:dn) (C:dw):Prop where
 pg:qp K C t9=true
 hd:ue K C=true
 po:yv K C=true
 sa:i4 K (.ref C) "__setattr__"=some (some (.builtin "object.__setattr__"))
theorem Cls.get {K:dn}(c:Cls K C)(f:Str):qp K C f=true:=c.pg
def Ch (K:dn)(C:dw)(f:Str):Prop:=i4 K (.ref C) f=some none
theorem Ch.taker {K:dn}{f:Str}(n:Ch K C f):ux K C f=some none:=by
 unfold ux;rw[show i4 K (.ref C) f=some none from n];rfl
structure jK (K:dn) (C:dw) (m:Str) (f:dw):Prop where
 at_:i4 K (.ref C) m=some (some (.ref f))
 fn:nh K (.ref f)=true
 kp:jg K (.ref f)=true
section
variable {X:Cx} {pins:Za1} {G:St} {H:Hp} {s:eg} {a C dx:dw} {fs:List (Str×V)} {f:Str} {v:V} {A:ii} {E:Za0}
theorem eE {b:Bool}{Q:Za0}(I:Inv X pins G H s)(e:H a=some (.ins C dx fs))(c:Cls X.K C)(n:Ch X.K C f)(l:fs.lookup f=some v)
  (h:∀u s',Inv X pins G H s'->Bm v u->Q u s'):wpAny (model X.prog X.w) A (getAttr (.ref a) f b) Q E s:=by
 obtain⟨mA,O,r,_,_,_⟩:=P6 I.hok e;obtain⟨u,hu,ru⟩:=Pq.some_of (v:=v) (o:=mA f) (by rw[<-l];exact r f);exact sU I.kIn O (c.get f) c.hd n hu (iU ru) (h u _ (I.tok _) ru)
theorem Hj {m:Str}{g:dw}{Q:ed×Za3->eg->Prop}(I:Inv X pins G H s)(e:H a=some (.ins C dx fs))(c:Cls X.K C)(k:jK X.K C m g)(l:fs.lookup m=none)
  (h:Q (.ref g,[.ref a]) s):wpAny (model X.prog X.w) A (getMethod (.ref a) m pl) Q E s:=by
 obtain⟨mA,O,r,_,_,_⟩:=P6 I.hok e;have hn:mA m=none:=Pq.none_of (by rw[<-l];exact r m);exact lN I.kIn O (c.get m) k.at_ k.fn hn h
theorem Z3 {u:ed}{Q:Unit->eg->Prop}(I:Inv X pins G H s)(e:H a=some (.ins C dx fs))(c:Cls X.K C)(n:Ch X.K C f)(hl:fs.length<1000)(ry:Bm y u)
  (h:∀s',Inv X pins G (upd H a (.ins C dx (C4 f y fs))) s'->Q () s'):wpAny (model X.prog X.w) A (setAttr (.ref a) f u) Q E s:=by
 obtain⟨mA,O,r,wi,_,ho⟩:=P6 I.hok e;have hz:(fs.map (·.1)).length<=sizeLine:=by rw[du,AQ];lia
 refine qP I.kIn O c.sa c.po n.taker c.hd wi hz λh' O' sb=>h _ ?_;have hd:∃o,h'.get? dx=some o:=let ⟨o,_,_,e',_⟩:=O'.ns;⟨o,e'⟩;refine I.write (x:=a) (e:=dx) (by rw[e];exact l8) (.inr ho) (λb q hb z=>(sb.2 b hb).trans z) hd ?_;refine⟨by rw[Aj O.ne];exact ho,?_,O.ne,O'.obj,_,O'.ns,λg=>?_,λg hg=>?_⟩
 ·have:=Pk f y fs;lia
 ·show Pq ((C4 f y fs).lookup g) (if g=f then some u else mA g)
  rw[Pd]
  by_cases q:g=f
  ·rw[if_pos q,if_pos q];exact ry
  ·rw[if_neg q,if_neg q];exact r g
 ·by_cases q:g=f
  ·rw[q];exact(Oz f y fs).1
  ·refine(Oz f y fs).2 g (wi g λz=>hg ?_)
   show(if g=f then some u else mA g)=none;rw[if_neg q];exact z
theorem Inv.made (I:Inv X pins G H s):Inv X pins G (upd (upd H s.heap.objs.size (.own (s.heap.objs.size+1))) (s.heap.objs.size+1) (.ins C s.heap.objs.size []))
  { s with heap:=(s.heap.push jy).push (instObj C s.heap.objs.size) }:=by
 have e1:(s.heap.push jy).get? s.heap.objs.size=some jy:=gk s.heap rfl;have e2:((s.heap.push jy).push (instObj C s.heap.objs.size)).get? (s.heap.objs.size+1)=some (instObj C s.heap.objs.size):=by
  have:=gk (s.heap.push jy) (o:=instObj C s.heap.objs.size) rfl
  rwa [k9] at this
 have e3:(s.heap.push jy).Ns s.heap.objs.size (λ_=>none):=⟨jy,#[],_,e1,rfl,(λe he=>absurd he (by simp)),λ_=>rfl⟩;have I1:=I.laid (a:=s.heap.objs.size) (o:=.own (s.heap.objs.size+1)) (h':=s.heap.push jy) (t':=s.toks) (λb u q=>d4 _ q) (d3 _) ⟨_,e1⟩;refine I1.laid (a:=s.heap.objs.size+1) (o:=.ins C s.heap.objs.size []) (t':=s.toks) (λb u q=>d4 _ q) (oj (k9 _ _)) ?_;have ne:s.heap.objs.size≠s.heap.objs.size+1:=fu (pf _);refine⟨by rw[Aj ne,Ac],fg _,ne,e2,λ_=>none,(yr e3).at λo q=>d4 _ q,λ_=>l8,λy hy=>absurd rfl hy⟩
theorem eW {prog:fq}{e:gq}{f:Str}{Q:Za0}(hb:attributeBase e f env (eval e env)=eval e env)
  (h:wpAny (model prog w) A (eval e env) (λo HB=>wpAny (model prog w) A (getAttr o f true) Q E HB) E s):wpAny (model prog w) A (eval (.Attribute e f pos) env) Q E s:=
 Attribute_any_ h (by rw[arm_eval_Attribute,hb])
end
def tG (K:dn)(ta:TE)(f:Str):TE:=λG H Q=>ta G H λx H1=>∃a C dx fs v,x=.ref a/\H1 a=some (.ins C dx fs)/\Cls K C/\Ch K C f/\fs.lookup f=some v/\Q v H1
def wN (K:dn)(ta tv:TE)(f:Str):TS:=λD G H=>tv G H λy H1=>ta G H1 λx H2=>∃a C dx fs,x=.ref a/\H2 a=some (.ins C dx fs)/\Cls K C/\Ch K C f/\fs.length<1000 /\
 D.nx G (upd H2 a (.ins C dx (C4 f y fs)))
section
variable {X:Cx} {o e value:gq} {f:Str} {pos pos' tpos:Pos} {ta tv:TE}
theorem oB (he:PE X e ta)(hb:attributeBase e f X.env (eval e X.env)=eval e X.env):PE X (.Attribute e f pos) (tG X.K ta f):=by
 k_in;refine eW hb (thE he I h λu s1 x H1 I1 rx ⟨a,C,dx,fs,v,ex,ea,c,n,l,q⟩=>?_);subst ex;obtain rfl:u=ia a:=rx;exact eE I1 ea c n l λu' s2 I2 ru=>⟨v,H1,I2,ru,q⟩
theorem xC (ha:PE X o ta)(hv:PE X value tv)(hs:swapsWith value (some (.Attribute o f pos')) pos.line X.env=pure false):PS X (.Assign [.Attribute o f pos'] value pos) (wN X.K ta tv f):=by
 k_end;refine plainObj_wpAny_Assign_Attribute (thE hv I h λu s1 y H1 I1 ry q=>thE ha I1 q λov s2 x H2 I2 rx ⟨a,C,dx,fs,ex,ea,c,n,l,q2⟩=>?_) hs;subst ex;obtain rfl:ov=ia a:=rx;exact Z3 I2 ea c n l ry λs3 I3=>⟨G,_,I3,q2⟩
theorem uG {m:Str}{apos:Pos}{args:List gq}{G:St}{Q:Za0}(he:PE X e te)(I:Inv X pins G H s)
  (h:te G H λx H1=>∃a C dx fs g,x=.ref a/\H1 a=some (.ins C dx fs)/\Cls X.K C/\jK X.K C m g/\fs.lookup m=none /\
   ∀s1,Inv X pins G H1 s1->wpAny (model X.prog X.w) X.A (callWith pos (.ref g) [.ref a] (backTo pos (starEach args X.env)) (backToKw pos (keywordEach [] X.env))) Q X.xe s1)
  (ht:eval (.Call (.Attribute e m apos) args [] pos) X.env=(do
   let ov <-eval e X.env
   standAt apos.atName
   let (f,first) <-holding [ov] (getMethod ov m pl)
   callWith pos f first (backTo pos (starEach args X.env)) (backToKw pos (keywordEach [] X.env)))) :
  wpAny (model X.prog X.w) X.A (eval (.Call (.Attribute e m apos) args [] pos) X.env) Q X.xe s:=by
 refine me (pl:=pl) (thE he I h λu s1 x H1 I1 rx ⟨a,C,dx,fs,g,ex,ea,c,k,l,q⟩=>?_) ht;subst ex;obtain rfl:u=ia a:=rx;exact Hj I1 ea c k l (q s1 I1)
end
section
variable {X:Cx} {pins:Za1} {G:St} {H:Hp} {s:eg} {A:ii} {E:Za0} {Q:Za0} {c:ed} {b:Bool}
inductive Gj (K:dn) (H:Hp):V->ed->Prop where
 |non:Gj K H .non (.type "NoneType")
 |bl (x:Bool):Gj K H (.bl x) (.type "bool")
 |int (i:Int):Gj K H (.int i) (.type "int")
 |str (x:Str):Gj K H (.str x) (.type "str")
 |flt (x:UInt64):Gj K H (.flt x) (.type "float")
 |lst {a:dw} {xs:List V} (e:H a=some (.lst xs)):Gj K H (.ref a) (.type "list")
 |frz {a:dw} {o:Obj} {xs:List V} (e:H a=some (.frz o (.lst xs))):Gj K H (.ref a) (.type "list")
 |tup {a:dw} {xs:List V} (e:H a=some (.tup xs)):Gj K H (.ref a) (.type "tuple")
 |dK {a:dw} {kvs:List (Key×V)} (e:H a=some (.dK kvs)):Gj K H (.ref a) (.type "dict")
 |dT {a:dw} {kvs:List (List Key×V)} (e:H a=some (.dT kvs)):Gj K H (.ref a) (.type "dict")
 |ins {a C dx:dw} {fs:List (Str×V)} (e:H a=some (.ins C dx fs)) (cl:Cls K C) (ha:i4 K (.ref C) "__class__"=some (some (.builtin "object.__class__")))
   (hn:yu K (.builtin "object.__class__") "__get__"=some (some (.builtin "getset_descriptor.__get__"))) (htk:PySem.W.takesIn K (.builtin "object.__class__")=some true)
   (hm:PySem.W.mroIn K C (.type "object")=some true):Gj K H (.ref a) (.ref C)
theorem jF {x:V}{u t:ed}(I:Inv X pins G H s)(rx:Bm x u)(ty:Gj X.K H x t)(e:kitOne X.K t c=some b)(h:∀tk,Q (.bool b) { s with toks:=tk }) :
  wpAny (model X.prog X.w) A (call (.builtin "isinstance") [u,c]) Q E s:=by
 cases ty with
 |non=>cases(show u=ll from rx);exact pd PySem.W.kitx_none I.kIn l8 e (λz=>nomatch z) h
 |bl y=>cases(show u=wd y from rx);exact pd PySem.W.kitx_bool I.kIn l8 e (λz=>nomatch z) h
 |int i=>obtain⟨t,q⟩:=(show ∃t,u=mq i t from rx);cases q;exact pd PySem.W.kitx_int I.kIn l8 e (λz=>nomatch z) h
 |str y=>obtain⟨t,q⟩:=(show ∃t,u=sv y t from rx);cases q;exact pd PySem.W.kitx_str I.kIn l8 e (λz=>nomatch z) h
 |flt y=>obtain⟨t,q⟩:=(show ∃t,u=yl y t from rx);cases q;exact pd PySem.W.kitx_float I.kIn l8 e (λz=>nomatch z) h
 | @lst a xs ea=>
  cases(show u=ia a from rx);obtain⟨_,_,n,_,h1⟩:=(show Ce X.prog X.w H s.heap a (.lst xs) from I.hok a _ ea);exact pd yw I.kIn ⟨_,h1,rfl⟩ e (λz=>nomatch z) h
 | @frz a ob xs ea=>
  cases(show u=ia a from rx);obtain⟨_,_,_,n,_,h1⟩:=(show Ce X.prog X.w H s.heap a (.frz ob (.lst xs)) from I.hok a _ ea);exact pd yw I.kIn ⟨_,h1,rfl⟩ e (λz=>nomatch z) h
 | @tup a xs ea=>
  cases(show u=ia a from rx);obtain⟨_,_,_,p⟩:=(show Ce X.prog X.w H s.heap a (.tup xs) from I.hok a _ ea);obtain⟨o,h1,h2,_⟩:=p;exact pd PySem.W.kitx_tuple I.kIn ⟨o,h1,h2⟩ e (λz=>nomatch z) h
 | @dK a kvs ea=>
  cases(show u=ia a from rx);obtain⟨_,_,vs,_,p⟩:=(show Ce X.prog X.w H s.heap a (.dK kvs) from I.hok a _ ea);obtain⟨o,es,ep,h1,h2,_⟩:=p;exact pd yx I.kIn ⟨o,h1,h2.1⟩ e (λz=>nomatch z) h
 | @dT a kvs ea=>
  cases(show u=ia a from rx);obtain⟨_,_,xs,_,o,es,ep,h1,h2,_⟩:=(show Ce X.prog X.w H s.heap a (.dT kvs) from I.hok a _ ea);exact pd yx I.kIn ⟨o,h1,h2.1⟩ e (λz=>nomatch z) h
 | @ins a C dx fs ea cl ha hn htk hm=>
  cases(show u=ia a from rx);obtain⟨mA,O,_⟩:=P6 I.hok ea;obtain⟨od,J,_⟩:=O.look;exact pd (PySem.W.kitx_own (cl.get _) cl.hd ha hn htk hm) I.kIn J e (λz=>nomatch z) h
end
structure B3 (k:Nat) (A:ii):Prop where
 hd:A.handled=none
 dp:A.depth+3*k+5<recursionLimit
 un:A.units+16*k+200<cLine
theorem B3.mono {j k:Nat}(r:B3 k A)(h:j<=k):B3 j A:=⟨r.hd,by have:=r.dp;lia,by have:=r.un;lia⟩
theorem B3.m {j k:Nat}(r:B3 k A)(h:autoParam (j<=k) QF):B3 j A:=r.mono h
theorem B3.deeper {k:Nat}(r:B3 (k+1) A)(env:Env):B3 k (A.deeper env):=
 ⟨r.hd,by have:=r.dp;show A.depth+1+3*k+5<_;lia,by have:=r.un;show A.units+3+16*k+200<_;lia⟩
theorem dJ {kw:List (Str×ed)}:(A.under (.builtin "type.__call__" ⟨.ref C::us,kw⟩)).depth=A.depth+1:=by
 first|rfl|simp[xp,Code.weight,Code.isCreation,Code.isGuard,Code.isCaller,DR,yh,guardIds]
theorem Z8 {kw:List (Str×ed)}:(A.under (.builtin "type.__call__" ⟨.ref C::us,kw⟩)).units=A.units+1:=by
 first|rfl|simp[xp,Code.cUnits,DR,yh]
theorem B3.make {k:Nat}(r:B3 (k+1) A)(C:dw)(us:Za3)(kw:List (Str×ed)):B3 k (A.under (.builtin "type.__call__" ⟨.ref C::us,kw⟩)):=
 ⟨r.hd,by have:=r.dp;rw[dJ];lia,by have:=r.un;rw[Z8];lia⟩
theorem B3.depth {k:Nat}(r:B3 k A):A.depth<recursionLimit:=by have:=r.dp;lia
theorem B3.units {k:Nat}(r:B3 k A):A.units+64<cLine:=by have:=r.un;lia
def Ld:TA:=λ_ H Q=>Q [] H
def Fp (ta:TE)(tr:TA):TA:=λG H Q=>ta G H λx H1=>tr G H1 λxs H2=>Q (x::xs) H2
section
variable {X:Cx} {e:gq} {es:List gq} {te:TE} {t:TA} {pos:Pos}
theorem Aa:PA X [] Ld:=λ_ _ _ _ H Q I h=>qo ⟨[],H,I,.nil,h⟩
theorem gI (ha:PE X e te)(hr:PA X es t)(hs:autoParam (starEach (e::es) X.env=(false,eval e X.env)::starEach es X.env) QD):PA X (e::es) (Fp te t):=by
 intro pos pins s G H Q I h;rw[hs];show wpAny _ _ (spliced ((false,eval e X.env)::backTo pos (starEach es X.env))) _ _ s;refine l7 (thE ha I h λu s1 x H1 I1 r1 q1=>?_);exact thA hr I1 q1 λus s2 xs H2 I2 r2 q2=>⟨x::xs,H2,I2,.cons r1 r2,q2⟩
def zX (t:TA):TE:=λG H Q=>t G H λxs H1=>xs.length<=sizeLine/\∀p,H1 p=none->Q (.ref p) (upd H1 p (.tup xs))
def Th (t:TA):TE:=λG H Q=>t G H λxs H1=>xs.length<=sizeLine/\∀p,H1 p=none->Q (.ref p) (upd H1 p (.lst xs))
theorem Ux {x1}(h:PA X es t):PE X (.Tuple es x1 pos) (zX t):=by
 intro pins s G H Q I hq;refine wpAny_Tuple_spliced (thA h I hq λus s1 xs H1 I1 r ⟨z,q⟩=>⟨by rw[<-r.length];exact z,?_⟩);have hf:H1 s1.heap.objs.size=none:=I1.hok.fresh (d3 _);refine⟨.ref s1.heap.objs.size,upd H1 s1.heap.objs.size (.tup xs),I1.laid (t':=s1.toks) (λb u e=>d4 _ e) (d3 _) ?_,rfl,q _ hf⟩;exact⟨z,us,r,⟨_,gk _ rfl,rfl,_,rfl⟩⟩
theorem Ap (h:PA X es t):PE X (.List es pos) (Th t):=by
 intro pins s G H Q I hq;refine wpAny_List_spliced (thA h I hq λus s1 xs H1 I1 r ⟨z,q⟩=>⟨by rw[<-r.length];exact z,?_⟩);have hf:H1 s1.heap.objs.size=none:=I1.hok.fresh (d3 _);refine⟨.ref s1.heap.objs.size,upd H1 s1.heap.objs.size (.lst xs),I1.laid (t':=s1.toks) (λb u e=>d4 _ e) (d3 _) ?_,rfl,q _ hf⟩;exact⟨z,us,0,r,gk _ rfl⟩
end
abbrev Sp:=List V->Hp->VK->XK->Prop
abbrev CXT:=List Env->Hp->eg->XK->Za0
structure Tg (P:fq) (w:gr) (K:dn) (mg:Za2) (base:im) (A:ii) (outer:List Env) (s:eg) (H:Hp):Prop where
 frames:A.frames=some outer
 mod:Mod K mg base
 bs:∀b o,base.get? b=some o->s.heap.get? b=some o/\H b=none
 bsz:base.objs.size<=s.heap.objs.size
 funs:s.heap.FunFrames base outer
 frf:∀b∈frs outer,H b=none
 hok:HOk P w H s.heap
 bare:qr s.gens
def CE (outer:List Env)(P:fq)(w:gr)(H:Hp)(s:eg)(Q:VK)(u:ed)(s':eg):Prop:=
 ∃v H',s'.os=s.os/\qr s'.gens/\Un (frs outer) [] H H' s.heap s'.heap/\HOk P w H' s'.heap/\Bm v u/\Q v H'
def CR (CX:CXT)(outer:List Env)(P:fq)(w:gr)(H:Hp)(s:eg)(Q:VK)(E:XK)(r:vg)(s':eg):Prop:=
 match r with
 |.ok (.ret u)=>CE outer P w H s Q u s'
 |.ok _=>False
 |.error e=>CX outer H s E e s'
structure Ay (P:fq) (w:gr) (K:dn) (mg:Za2) (base:im) (CX:CXT) (k:Nat) (f:dw) (fd:i3) (ps:Za6) (sp:Sp):Prop where
 len:∀vs H Q E,sp vs H Q E->vs.length=ps.length
 run:∀(A:ii) (outer:List Env) (s:eg) (H:Hp) (args:Args) (us:Za3) (vs:List V) (Q:VK) (E:XK),B3 k A->Tg P w K mg base A outer s H->yi s fd args (ps.zip us)->A3 vs us->sp vs H Q E ->
  codeAny (model P w) A (.call (.ref f) args) (CR CX outer P w H s Q E) s
theorem Tg.make {P:fq}{K:dn}{mg:Za2}(e:Tg P w K mg base A outer s H)(C:dw)(us:Za3)(kw:List (Str×ed)) :
  Tg P w K mg base (A.under (.builtin "type.__call__" ⟨.ref C::us,kw⟩)) outer s H:=⟨by first|exact e.frames|(simpa [xp,Code.envs,yh,pushEnvs] using e.frames),e.mod,e.bs,e.bsz,e.funs,e.frf,e.hok,e.bare⟩
section
variable {X:Cx} {pins:Za1} {G:St} {H:Hp} {s s':eg}
theorem Inv.env0 (I:Inv X pins G H s):Tg X.prog X.w X.K X.mg X.base X.A X.stack s H:=
 ⟨I.ok.frames,I.ok.mod,I.bs,ie I.ok.bsz I.sz,I.stack,I.stkFree,I.hok,I.bare⟩
theorem Inv.after {Q:VK}{u:ed}(I:Inv X pins G H s)(h:CE X.stack X.prog X.w H s Q u s'):EP X pins G Q u s':=by
 obtain⟨v,H',os,bare,un,hok,r,q⟩:=h;obtain⟨hh,g,d,t,os'⟩:=s';obtain rfl:os'=s.os:=os;exact⟨v,H',I.call (h':=hh) (g':=g) (d':=d) (t':=t) (ch:=[]) un hok bare (λb z=>absurd z (by simp)),r,q⟩
end
def Xg (sp:Sp)(dvs:List V)(E:XK)(t:TA):TE:=λG H Q=>t G H λvs H1=>sp (vs++dvs) H1 Q E
def Pf (C:dw)(m:Str)(sp:Sp)(dvs:List V)(E:XK)(ta:TE)(t:TA):TE:=λG H Q=>ta G H λx H1=>∃a dx fs,x=.ref a/\H1 a=some (.ins C dx fs)/\fs.lookup m=none /\
 t G H1 λvs H2=>sp (x::(vs++dvs)) H2 Q E
def X5 (C:dw)(sp:Sp)(dvs:List V)(E:XK)(t:TA):TE:=λG H Q=>t G H λvs H1=>∀x dx,H1 x=none->H1 dx=none->dx≠x ->
 sp (.ref x::(vs++dvs)) (upd (upd H1 dx (.own x)) x (.ins C dx [])) (λv H2=>v=.non/\Q (.ref x) H2) E
def Ed (K:dn)(fd:i3)(ps:Za6)(ds:Za3):Prop:=
 ∀(s:eg) (us:Za3),K.In s.heap->(us++ds).length=ps.length->yi s fd ⟨us,[]⟩ (ps.zip (us++ds))
theorem Ed.all {K:dn}(h:∀us:Za3,us.length=ps.length->bindArgs fd ⟨us,[]⟩=pure (ps.zip us)):Ed K fd ps []:=λs us _ hl=>by
 rw[kq] at hl ⊢;exact .of_eq (h us hl)
def Gi (CX:CXT)(X:Cx)(E:XK):Prop:=∀(pins:Za1) (G:St) (H:Hp) (s:eg) (e:ed) (s':eg),Inv X pins G H s->CX X.stack H s E e s'->X.xe e s'
section
variable {X:Cx} {CX:CXT} {k:Nat} {f C:dw} {fd:i3} {ps:Za6} {sp:Sp} {dvs:List V} {ds:Za3} {E:XK} {x m:Str} {p pos apos:Pos} {e o:gq} {es:List gq} {ta:TE} {t:TA}
theorem Vk {G:St}{Q:VK}{vs:List V}(F:Ay X.prog X.w X.K X.mg X.base CX k f fd ps sp)(hr:B3 k X.A)(hb:Ed X.K fd ps ds)(hd:A3 dvs ds)(hx:Gi CX X E)
  (I:Inv X pins G H s)(r:A3 vs us)(h:sp (vs++dvs) H Q E):wpAny (model X.prog X.w) X.A (call (.ref f) us) (EP X pins G Q) X.xe s:=by
 have r2:A3 (vs++dvs) (us++ds):=r.append hd;have hl:(us++ds).length=ps.length:=by rw[<-r2.length];exact F.len _ _ _ _ h
 refine lh (la (F.run X.A X.stack s H ⟨us,[]⟩ (us++ds) (vs++dvs) Q E hr I.env0 (hb s us I.kIn hl) r2 h) λr s' hq=>?_)
 cases r with
 |error e=>exact hx pins G H s e s' I hq
 |ok fl=>
  cases fl with
  |ret u=>exact I.after hq
  |next=>exact jm hq
  |brk=>exact jm hq
  |cont=>exact jm hq
theorem hX (F:Ay X.prog X.w X.K X.mg X.base CX k f fd ps sp)(hr:B3 k X.A)(hg:Gl X x)(hm:X.mg x=some (.ref f))(hk:jg X.K (.ref f)=true)(hb:Ed X.K fd ps ds)(hd:A3 dvs ds)(hx:Gi CX X E)
  (ha:PA X (e::es) t)(hdb:autoParam ((x==("__debug__":Str))=false) QF)(he:autoParam (starEach (e::es) X.env=(false,eval e X.env)::starEach es X.env) QD)(hpl:autoParam ((backTo pos (starEach es X.env)).any (·.1)=false) QD) :
  PE X (.Call (.Name x p) (e::es) [] pos) (Xg sp dvs E t):=by
 k_in;refine wpAny_Call_Name_kw (F9 I hg hm ?_ hdb);refine callWith_K (h₀:=X.base) I.ok.mod.kin hk (thA ha I h λus s1 vs H1 I1 r q=>⟨I1.kIn,?_⟩) he hpl;exact Vk F hr hb hd hx I1 r q
theorem fN (he:PE X o ta)(c:Cls X.K C)(hm:jK X.K C m f)(F:Ay X.prog X.w X.K X.mg X.base CX k f fd ps sp)(hr:B3 k X.A)(hb:Ed X.K fd ps ds)(hd:A3 dvs ds)(hx:Gi CX X E)(ha:PA X (e::es) t)
  (hst:autoParam (starEach (e::es) X.env=(false,eval e X.env)::starEach es X.env) QD)(hpl:autoParam ((backTo pos (starEach es X.env)).any (·.1)=false) QD)
  (ht:autoParam (eval (.Call (.Attribute o m apos) (e::es) [] pos) X.env=(do
   let ov <-eval o X.env
   standAt apos.atName
   let (f,first) <-holding [ov] (getMethod ov m pl)
   callWith pos f first (backTo pos (starEach (e::es) X.env)) (backToKw pos (keywordEach [] X.env)))) QD) :
  PE X (.Call (.Attribute o m apos) (e::es) [] pos) (Pf C m sp dvs E ta t):=by
 k_in;refine me (pl:=pl) (thE he I h λu s1 x H1 I1 rx ⟨a,dx,fs,ex,ea,l,q⟩=>?_) ht;subst ex;obtain rfl:u=ia a:=rx;refine Hj I1 ea c hm l ?_;refine callWith_K (first:=[.ref a]) (h₀:=X.base) I.ok.mod.kin hm.kp (thA ha I1 q λus s2 vs H2 I2 r q2=>⟨I2.kIn,?_⟩) hst hpl;exact Vk (us:=.ref a::us) (vs:=.ref a::vs) F hr hb hd hx I2 (.cons rfl r) q2
theorem nO (he:PE X o ta)(c:Cls X.K C)(hm:jK X.K C m f)(F:Ay X.prog X.w X.K X.mg X.base CX k f fd ps sp)(hr:B3 k X.A)(hb:Ed X.K fd ps ds)(hd:A3 dvs ds)(hx:Gi CX X E)
  (ht:autoParam (eval (.Call (.Attribute o m apos) [] [] pos) X.env=(do
   let ov <-eval o X.env
   standAt apos.atName
   let (f,first) <-holding [ov] (getMethod ov m pl)
   callWith pos f first (backTo pos (starEach [] X.env)) (backToKw pos (keywordEach [] X.env)))) QD) :
  PE X (.Call (.Attribute o m apos) [] [] pos) (Pf C m sp dvs E ta Ld):=by
 k_in;refine me (pl:=pl) (thE he I h λu s1 x H1 I1 rx ⟨a,dx,fs,ex,ea,l,q⟩=>?_) ht;subst ex;obtain rfl:u=ia a:=rx;refine Hj I1 ea c hm l ?_;exact xz (first:=[.ref a]) I1.kIn hm.kp (Vk (us:=[.ref a]) (vs:=[.ref a]) F hr hb hd hx I1 (.cons rfl .nil) q)
structure Mk (K:dn) (C f:dw):Prop where
 makes:zl K C=true
 init:i4 K (.ref C) "__init__"=some (some (.ref f))
 fn:nh K (.ref f)=true
 kp:jg K (.ref C)=true
theorem mU {G:St}{Q:VK}{vs:List V}(M:Mk X.K C f)(F:Ay X.prog X.w X.K X.mg X.base CX k f fd ps sp)(hr:B3 (k+1) X.A)(hb:Ed X.K fd ps ds)(hd:A3 dvs ds)
  (hx:Gi CX X E)(I:Inv X pins G H s)(r:A3 vs us)
  (h:∀x dx,H x=none->H dx=none->dx≠x->sp (.ref x::(vs++dvs)) (upd (upd H dx (.own x)) x (.ins C dx [])) (λv H2=>v=.non/\Q (.ref x) H2) E) :
  wpAny (model X.prog X.w) X.A (call (.ref C) us) (EP X pins G Q) X.xe s:=by
 have hq:=h (s.heap.objs.size+1) s.heap.objs.size (I.hok.fresh (vx _)) (I.hok.fresh (d3 _)) (fu (pf _));have I2:=Inv.made (C:=C) I;have r2:A3 (V.ref (s.heap.objs.size+1)::(vs++dvs)) (ia (s.heap.objs.size+1)::(us++ds)):=.cons rfl (r.append hd);have hl:(ia (s.heap.objs.size+1)::us++ds).length=ps.length:=by
  have e:=r2.length;rw[F.len _ _ _ _ hq] at e;exact e.symm
 refine lh (Ze (f:=f) I.kIn M.makes M.init (beq_iff_eq.mp M.fn) (la (F.run _ X.stack _ _ ⟨ia (s.heap.objs.size+1)::us,[]⟩ (ia (s.heap.objs.size+1)::(us++ds)) _ _ E (hr.make C us [])
  (I2.env0.make C us []) (hb _ (ia (s.heap.objs.size+1)::us) I2.kIn hl) r2 hq) λr s' hq'=>?_))
 cases r with
 |error e=>exact hx pins G _ _ e s' I2 hq'
 |ok fl=>
  cases fl with
  |ret u=>
   obtain⟨v,H',I3,rv,ev,q3⟩:=I2.after hq';subst ev;exact⟨rv,⟨V.ref (s.heap.objs.size+1),H',I3,rfl,q3⟩⟩
  |next=>exact jm hq'
  |brk=>exact jm hq'
  |cont=>exact jm hq'
theorem gP (M:Mk X.K C f)(F:Ay X.prog X.w X.K X.mg X.base CX k f fd ps sp)(hr:B3 (k+1) X.A)(hg:Gl X x)(hm:X.mg x=some (.ref C))(hb:Ed X.K fd ps ds)(hd:A3 dvs ds)(hx:Gi CX X E)
  (ha:PA X (e::es) t)(hdb:autoParam ((x==("__debug__":Str))=false) QF)(he:autoParam (starEach (e::es) X.env=(false,eval e X.env)::starEach es X.env) QD)(hpl:autoParam ((backTo pos (starEach es X.env)).any (·.1)=false) QD) :
  PE X (.Call (.Name x p) (e::es) [] pos) (X5 C sp dvs E t):=by
 k_in;refine wpAny_Call_Name_kw (F9 I hg hm ?_ hdb);refine callWith_K (h₀:=X.base) I.ok.mod.kin M.kp (thA ha I h λus s1 vs H1 I1 r q=>⟨I1.kIn,?_⟩) he hpl;exact mU M F hr hb hd hx I1 r q
end
def PK (X:Cx)(kws:List yf)(t:TA):Prop:=
 ∀(pos:Pos) (pins:Za1) (s:eg) (G:St) (H:Hp) (Q:List V->Hp->Prop),Inv X pins G H s->t G H Q->wpAny (model X.prog X.w) X.A (evalAll ((backToKw pos (keywordEach kws X.env)).map (·.2))) (AP X pins G Q) X.xe s
section
variable {X:Cx} {CX:CXT} {k:Nat} {f C:dw} {fd:i3} {ps ks:Za6} {sp:Sp} {E:XK} {x m:Str} {p pos apos kpos:Pos} {e o:gq} {es:List gq} {kws:List yf} {te ta:TE} {t tk:TA} {nm:Option Str}
theorem Zs:PK X [] Ld:=λ_ _ _ _ H Q I h=>wpAny_evalAll_nil ⟨[],H,I,.nil,h⟩
theorem Va (ha:PE X e te)(hr:PK X kws t):PK X (⟨nm,e,kpos⟩::kws) (Fp te t):=by
 intro pos pins s G H Q I h;show wpAny _ _ (evalAll ((do let v <-eval e X.env;standAt pos;pure v)::(backToKw pos (keywordEach kws X.env)).map (·.2))) _ _ s;refine wpAny_evalAll_cons (wpAny_bind (thE ha I h λu s1 x H1 I1 r1 q1=>wpAny_bind (mm (ez ?_))));exact thn (hr pos pins s1 G H1 _ I1 q1) λus s2 ⟨xs,H2,I2,r2,q2⟩=>⟨x::xs,H2,I2,.cons r1 r2,q2⟩
variable {g:Za3->Za3->Za3} {gV:List V->List V->List V}
end
structure Ak (N P:Za6) (sc:lm):Prop where
 kind:sc.kind=.function
 co:sc.isCoroutine=false
 gen:sc.isGenerator=false
 nd:N.Nodup
 pre:N.take P.length=P
 par:∀x∈P,sc.names.lookup x=some .local\/sc.names.lookup x=some .cell
 nofree:∀y∈sc.names,y.2≠.free
theorem T6 {kindOf:Str->Option ph}{x:Str}:∀ {binds:List (Str×ed)} {m:Za2},(∀ v,(x,v)∉binds)->bindL kindOf binds m x=m x
  | [], _, _ => rfl
  | (n, v) :: r, m, h => by
    unfold bindL;rw [T6 λw hw => h w (ik _ hw)];split
    · have : x ≠ n := by rintro rfl; exact h v jo
      simp [this]
    · rfl
theorem T4 {kindOf:Str->Option ph}{x:Str}:∀ {binds:List (Str×ed)} {m:Za2},(∀ v,(x,v)∉binds)->bindC kindOf binds m x=m x
  | [], _, _ => rfl
  | (n, v) :: r, m, h => by
    unfold bindC;rw [T4 λw hw => h w (ik _ hw)];split
    · rfl
    · have : x ≠ n := by rintro rfl; exact h v jo
      simp [this]
theorem Um {kindOf:Str->Option ph}{x:Str}{v:ed}:∀{P:Za6} {vs:Za3} {i:Nat} {m:Za2},P.Nodup->P[i]?=some x->vs[i]?=some v->kindOf x=some .local ->
  bindL kindOf (P.zip vs) m x=some v
 |[],_,_,_,_,h,_,_=>by simp at h
 |_::_,[],_,_,_,_,h,_=>by simp at h
 |p::P,w::vs,0,m,nd,h1,h2,hk=>by
  simp at h1 h2;subst h1;subst h2;show bindL kindOf ((p,w)::P.zip vs) m p=_;unfold bindL;rw[T6 λv hv=>(pr.mp nd).1 (vy hv).1,if_pos hk];simp
 |p::P,w::vs,i+1,m,nd,h1,h2,hk=>by
  show bindL kindOf ((p,w)::P.zip vs) m x=_;unfold bindL;exact Um (i:=i) (pr.mp nd).2 (by simpa using h1) (by simpa using h2) hk
theorem Uf {kindOf:Str->Option ph}{x:Str}{v:ed}:∀{P:Za6} {vs:Za3} {i:Nat} {m:Za2},P.Nodup->P[i]?=some x->vs[i]?=some v->kindOf x≠some .local ->
  bindC kindOf (P.zip vs) m x=some v
 |[],_,_,_,_,h,_,_=>by simp at h
 |_::_,[],_,_,_,_,h,_=>by simp at h
 |p::P,w::vs,0,m,nd,h1,h2,hk=>by
  simp at h1 h2;subst h1;subst h2;show bindC kindOf ((p,w)::P.zip vs) m p=_;unfold bindC;rw[T4 λv hv=>(pr.mp nd).1 (vy hv).1,if_neg hk];simp
 |p::P,w::vs,i+1,m,nd,h1,h2,hk=>by
  show bindC kindOf ((p,w)::P.zip vs) m x=_;unfold bindC;exact Uf (i:=i) (pr.mp nd).2 (by simpa using h1) (by simpa using h2) hk
def Mi (N:Za6)(vs:List V):St:=vs.map some++dv (N.length-vs.length) none
def Bx (CX:CXT)(P:fq)(w:gr)(K:dn)(mg:Za2)(base:im)(N:Za6)(qual:Str)(scope:lm)(f:dw)(cd:ed)(A:ii)(outer:List Env)(s:eg)(H:Hp)(E:XK):Cx where
 prog:=P
 w:=w
 K:=K
 mg:=mg
 base:=base
 A:=A.deeper (envOfC qual scope s.heap.objs.size f cd)
 N:=N
 HA:=s
 HC:=H
 env:=envOfC qual scope s.heap.objs.size f cd
 outer:=outer
 stack:=envOfC qual scope s.heap.objs.size f cd::outer
 ex:=[]
 calm:=true
 fn:=λ_=>true
 pn:=[]
 xe:=λe s'=>wpAny (model P w) (A.deeper (envOfC qual scope s.heap.objs.size f cd)) (leaving (envOfC qual scope s.heap.objs.size f cd) e) (λ_ s''=>CX outer H s E e s'') (λe' s''=>CX outer H s E e' s'') s'
theorem Zb {sc:lm}{n:Nat}{x:Str}(h:sc.names.lookup x=some .cell):∃c,(cellsFrom n sc.names []).lookup x=some c:=by
 have q:=wy sc.names n [] (.inl h);exact iv.mp q
theorem iG {P:fq}{K:dn}{mg:Za2}{f:dw}{cd:ed}{s1:eg}{E:XK}{vs:List V}
  (S:Ak N ps scope)(hd:A.handled=none)(e0:Tg P w K mg base A outer s H)(hl:vs.length=ps.length)(r:A3 vs us)
  (x:InCallC s s.heap.objs.size (bindL (envOfC qual scope s.heap.objs.size f cd).kindOf (ps.zip us) λ_=>none) (cellsFrom (s.heap.objs.size+1) scope.names []) (bindC (envOfC qual scope s.heap.objs.size f cd).kindOf (ps.zip us) λ_=>none) s1) :
  Inv (Bx CX P w K mg base N qual scope f cd A outer s H E) [] (Mi N vs) H s1:=by
 have hpl:ps.length<=N.length:=by have:=congrArg k6 S.pre;rw[d9] at this;lia
 obtain⟨h1,tk,rfl,hk⟩:=x.done;have noA:∀b:dw,b∉(Bx CX P w K mg base N qual scope f cd A outer s H E).ex:=λb z=>absurd (show b∈([]:List dw) from z) (by simp);refine⟨⟨e0.mod,S.kind,rfl,rfl,d3 _,λy z c h1 h2=>?_,λy hy=>?_,λy c _ h=>?_,λ_=>hd,yj e0.frames,.inr ⟨rfl,rfl⟩,λb z=>absurd z (noA b),e0.bs,e0.bsz,λb _ _=>noA b,λb z=>absurd z (noA b),e0.funs,e0.frf⟩,
  rfl,e0.bare,Un.kept hk,⟨_,x.toInCall.ns,λi y v h1 h2 h3=>?_⟩,λy c h=>⟨_,x.cell y c h⟩,e0.hok.fresh (d3 _),λy c h=>?_,λp hp=>absurd (show p∈([]:Za1) from hp) (by simp),e0.hok.kept hk,?_⟩
 ·exact name_of_addr x.apart (i9 h1) (i9 h2)
 ·have hy:scope.names.lookup y=some .cell\/scope.names.lookup y=some .free:=hy
  rcases hy with hy|hy
  ·exact Zb hy
  ·exact absurd rfl (S.nofree _ (i9 hy))
 ·exact fk (x.above y c (i9 h))
 ·have hi:i<vs.length:=by
   unfold Mi at h2
   by_cases hi:i<vs.length
   ·exact hi
   ·rw[e9 (by simpa using hi)] at h2
    rw[nj] at h2;split at h2<;>cases h2
  have ha:vs[i]?=some v:=by
   unfold Mi at h2;rw[fb (by simpa using hi),d8] at h2
   cases e:vs[i]? with
   |none=>rw[e] at h2;cases h2
   |some a=>rw[e] at h2;cases h2;rfl
  obtain⟨u,hu,rv⟩:=r.get ha;have hp:ps[i]?=some y:=by
   rw[<-S.pre,fe (by lia)];exact h1
  have ndP:ps.Nodup:=by rw[<-S.pre];exact S.nd.sublist (List.take_sublist _ _)
  refine⟨u,rv,?_⟩;rcases S.par y (ir hp) with k|k
  ·exact .inl ⟨k,Um ndP hp hu k⟩
  ·obtain⟨c,e⟩:=Zb (n:=s.heap.objs.size+1) k
   refine .inr ⟨.inl k,c,e,?_⟩;have q:=x.cell y c e;rw[Uf ndP hp hu (by show scope.names.lookup y≠_;rw[k];decide)] at q;exact q
 ·exact e0.hok.fresh (fk (x.above y c (i9 h)))
 ·unfold Mi
  show _=N.length;rw[d5,du,gm];lia
theorem oI {P:fq}{K:dn}{mg:Za2}{k:Nat}{f:dw}{name:Str}{body:List io}{dV kV doc cdv ct oc:ed}{an:Option dw}
  {osl:Array (Za7)}(lk:K.lookup f=some ⟨oc,od,.func (jr name qual params body scope dV kV doc pm an cdv ct),osl⟩)(hcd:kz K cdv qual=true)(S:Ak N ps scope)
  (len:∀vs H Q E,sp vs H Q E->vs.length=ps.length)
  (hbody:∀(A:ii) (outer:List Env) (s:eg) (H:Hp) (vs:List V) (Q:VK) (E:XK),B3 k (A.deeper (envOfC qual scope s.heap.objs.size f cdv))->sp vs H Q E ->
   ∃t,PSs (Bx CX P w K mg base N qual scope f cdv A outer s H E) body t/\t { nx:=λ_ H'=>Q .non H',rt:=Q } (Mi N vs) H) :
  Ay P w K mg base CX (k+1) f (jr name qual params body scope dV kV doc pm an cdv ct) ps sp:=by
 refine⟨len,λA outer s H args us vs Q E hr e0 hb r hsp=>?_⟩;have hl:=len _ _ _ _ hsp;have KX:K.In s.heap:=e0.mod.kin.keeps λb o e=>(e0.bs b o e).1;have lim:s.heap.NoLimit:=e0.mod.nolimit.keeps λb o e=>(e0.bs b o e).1;have hkind:∀y∈ps.zip us,scope.names.lookup y.1=some .local\/(scope.names.lookup y.1=some .cell/\((cellsFrom (s.heap.objs.size+1) scope.names []).lookup y.1).isSome=true):=λ⟨n,v⟩ hy=>by
  rcases S.par n (vy hy).1 with q|q
  ·exact .inl q
  ·exact .inr ⟨q,wy _ _ _ (.inl q)⟩
 refine codeAny_call_function hr.depth (KX _ _ lk) rfl S.co S.gen rfl (PySem.W.codeRec_of KX hcd) (hb _ _ _ _ ?_);refine wpAny_newFunctionEnv_cells S.kind hkind λenv he s1 x=>?_;subst he;refine⟨lim.keeps x.toInCall.keep,codeAny_func ?_⟩;obtain⟨t,ht,hq⟩:=hbody A outer s H vs Q E (hr.deeper _) hsp;have I:Inv (Bx CX P w K mg base N qual scope f cdv A outer s H E) [] (Mi N vs) H s1:=iG S hr.hd e0 hl r x;refine iw (ht [] s1 (Mi N vs) H _ I hq) (λfl s' hs=>?_) λe s' hs=>hs;have fin:∀{mt:St} {H':Hp} {v:V} {u:ed},Inv (Bx CX P w K mg base N qual scope f cdv A outer s H E) [] mt H' s'->Bm v u->Q v H'->CE outer P w H s Q u s':=
  λ{mt H' v u} J rv q=>⟨v,H',J.os,J.bare,J.base,J.hok,rv,q⟩
 cases fl with
 |ret u=>
  obtain⟨v,mt,H',J,rv,q⟩:=hs;exact fin J rv q
 |next=>
  obtain⟨mt,H',J,q⟩:=hs;exact fin (v:=V.non) (u:=ll) J rfl q
 |brk=>
  obtain⟨_,_,_,q⟩:=hs;exact jm q
 |cont=>
  obtain⟨_,_,_,q⟩:=hs;exact jm q
section
variable {X:Cx} {x:Str} {p pos:Pos} {e:gq} {es:List gq} {t:TA} {id T:String} {r:List V->Hp->VK->Prop}
def tCB (r:List V->Hp->VK->Prop)(t:TA):TE:=λG H Q=>t G H λvs H1=>r vs H1 Q
theorem Ao (hc:Ht X (.builtin id) r)(hg:Gl X x)(hm:X.mg x=none)(hv:bootBuiltins x=some (.builtin id))(ha:PA X (e::es) t)(hn:autoParam (x≠"__name__") QF)(hdb:autoParam ((x==("__debug__":Str))=false) QF)
  (he:autoParam (starEach (e::es) X.env=(false,eval e X.env)::starEach es X.env) QD)(hpl:autoParam ((backTo pos (starEach es X.env)).any (·.1)=false) QD):PE X (.Call (.Name x p) (e::es) [] pos) (tCB r t):=by
 k_in;refine wpAny_Call_Name_kw (Ev I hg hm hv ?_ hn hdb);exact EV (thA ha I h λus s1 vs H1 I1 r1 q1=>hc pins s1 G H1 vs us Q I1 r1 q1) he hpl
theorem Om (hc:Ht X (.type T) r)(hg:Gl X x)(hm:X.mg x=none)(hv:bootBuiltins x=some (.type T))(ha:PA X (e::es) t)(hn:autoParam (x≠"__name__") QF)(hdb:autoParam ((x==("__debug__":Str))=false) QF)
  (he:autoParam (starEach (e::es) X.env=(false,eval e X.env)::starEach es X.env) QD)(hpl:autoParam ((backTo pos (starEach es X.env)).any (·.1)=false) QD):PE X (.Call (.Name x p) (e::es) [] pos) (tCB r t):=by
 k_in;refine wpAny_Call_Name_kw (Ev I hg hm hv ?_ hn hdb);exact il (thA ha I h λus s1 vs H1 I1 r1 q1=>hc pins s1 G H1 vs us Q I1 r1 q1) he hpl
end
end L2
namespace HT
open PySem PyProof.Rows
section
open PySem.SeqAt
open PySem.AutoSeq1 (wpAny_loadPart')
open PySem.MeetsSeq PySem.MeetsSeq2 PySem.MeetsSeq3
end
section
variable {prog:fq} {w:gr} {A:ii} {E:Za0} {s:eg}
def sIx (n d:Nat):Option Int->Nat
 |none=>d
 |some v=>if v<0 then(v+(n:Int)).toNat else min v.toNat n
theorem sIx_nat (n d k:Nat):sIx n d (some (k:Int))=min k n:=by
 show(if(k:Int)<0 then((k:Int)+(n:Int)).toNat else min (k:Int).toNat n)=min k n;rw[if_neg (by lia),gz]
theorem sIx_le (n d:Nat)(hd:d<=n)(o:Option Int):sIx n d o<=n:=by
 cases o with
 |none=>exact hd
 |some v=>
  show(if v<0 then(v+(n:Int)).toNat else min v.toNat n)<=n
  by_cases hv:v<0
  ·rw[if_pos hv];lia
  ·rw[if_neg hv];exact AV _ _
end
end HT
namespace L2
open PySem PySem.Spec PyProof.Rows
variable {C CS Pt dx i1 i2 it l1 l2 z:dw} {params:lu} {A:ii} {CX:CXT} {op:ss} {X:Cx} {env:Env} {tg:gq} {fd:i3} {base h h' h1:im} {H H' H1 H2:Hp} {J:It} {pins:Za1} {fp:List dw} {outer:List Env} {elts:List gq} {ns:List Int} {ix:Za4} {N ps:Za6} {ts:List Tb} {xs:List V} {us vs:Za3} {M:rk} {off t':Nat} {oT:Obj} {od:Option dw} {pos:Pos} {scope:lm} {pl:Sem Bool} {s s2:eg} {sp:Sp} {st:io} {qual:Str} {tk:TA} {te:TE} {wi:TI} {y:V} {pm:ed} {w:gr}
abbrev TO:=St->Hp->(Option Int->Hp->Prop)->Prop
def PO (X:Cx)(e:Option gq)(t:TO):Prop:=
 ∀(pins:Za1) (s:eg) (G:St) (H:Hp) (Q:Option Int->Hp->Prop),Inv X pins G H s->t G H Q ->
  wpAny (model X.prog X.w) X.A (evalPart e X.env) (λu s'=>∃o H',Inv X pins G H' s'/\IsPart u o/\Q o H') X.xe s
def fS:TO:=λ_ H Q=>Q none H
def uH (t:TE):TO:=λG H Q=>t G H λx H1=>∃i,x=.int i/\Q (some i) H1
theorem Ri:∀{us:Za3},A3 (ns.map V.int) us->yg us ns:=by
 induction ns with
 |nil=>intro us r;rw[yb] at r;cases r;exact .nil
 |cons n ns ih=>
  intro us r;rw[ju] at r
  cases r with
  |cons r1 r2=>
   obtain⟨t,e⟩:=r1;subst e;exact .cons n t (ih r2)
section
variable {X:Cx} {e:gq} {te:TE} {lo hi:Option gq} {tl th:TO} {pos p2:Pos}
theorem Ve:PO X none fS:=by
 k_in;rw[FT];exact ez ⟨none,H,I,.none,h⟩
theorem E7 (h:PE X e te):PO X (some e) (uH te):=by
 intro pins s G H Q I hw;rw[evalPart_some];refine thE h I hw λu s1 x H1 I1 r1 q1=>?_;obtain⟨i,rfl,q⟩:=q1;obtain⟨t,rfl⟩:=r1;exact⟨some i,H1,I1,.int i t,q⟩
def SlR (X:Cx)(r:V->Option Int->Option Int->Hp->VK->Prop):Prop:=
 ∀(pins:Za1) (s:eg) (G:St) (H:Hp) (x:V) (v vl vu:ed) (lo hi:Option Int) (sl:dw) (Q:VK),Inv X pins G H s->Bm x v->s.heap.IsSliceOf sl vl vu .none->IsPart vl lo->IsPart vu hi->r x lo hi H Q ->
  ∃T id,typeLookup (.type T) "__getitem__"=pure (some (.builtin id))/\s.TypeIs v T/\wpAny (model X.prog X.w) X.A (getItem v (.ref sl)) (EP X pins G Q) X.xe s
def tSl (r:V->Option Int->Option Int->Hp->VK->Prop)(te:TE)(tl th:TO):TE:=λG H Q=>te G H λx H1=>tl G H1 λl H2=>th G H2 λu H3=>r x l u H3 Q
theorem G9 {r:V->Option Int->Option Int->Hp->VK->Prop}(hr:SlR X r)(he:PE X e te)(hl:PO X lo tl)(hu:PO X hi th):PE X (.Subscript e (.Slice lo hi none p2) pos) (tSl r te tl th):=by
 k_in;refine Subscript_ (thE he I h λv s1 x H1 I1 r1 q1=>?_);refine wpAny_Slice (thn (hl pins s1 G H1 _ I1 q1) λvl s2 ⟨l,H2,I2,pl,q2⟩=>thn (hu pins s2 G H2 _ I2 q2) λvu s3 ⟨u,H3,I3,pu,q3⟩=>?_);rw[FT];refine ez ?_;have I4:Inv X pins G H3 { s3 with heap:=s3.heap.push { cls:=.type "slice",data:=.fields #[vl,vu,.none] } }:=I3.kept (t':=s3.toks) λb ob q=>d4 _ q;obtain⟨T,id,hT,ht,hg⟩:=hr pins { s3 with heap:=s3.heap.push { cls:=.type "slice",data:=.fields #[vl,vu,.none] } } G H3 x v vl vu l u s3.heap.objs.size Q I4 r1 (CK ..) pl pu q3;show wpAny (model X.prog X.w) X.A (subscriptTail e (.Slice lo hi none p2) v (.ref s3.heap.objs.size)) (EP X pins G Q) X.xe { s3 with heap:=s3.heap.push { cls:=.type "slice",data:=.fields #[vl,vu,.none] } };exact tail_any (ops:=[.ref s3.heap.objs.size,v]) ht hT hg (by with_unfolding_all rfl)
def L4 (xs:List V)(lo hi:Option Int):List V:=(xs.drop (HT.sIx xs.length 0 lo)).take (HT.sIx xs.length xs.length hi-HT.sIx xs.length 0 lo)
theorem Y6 (xs:List V)(lo hi:Option Int):(L4 xs lo hi).length<=xs.length:=by
 unfold L4;rw[d9,ib];exact ie (AV _ _) (Nat.sub_le _ _)
end
def ixN (n:Nat)(i:Int):Option Nat:=if 0<=i then(if i<n then some i.toNat else none) else if -(n:Int)<=i then some (i+n).toNat else none
def atI {α:Type}(xs:List α)(i:Int):Option α:=(ixN xs.length i).bind λj=>xs[j]?
theorem qJ {n:Nat}{i:Int}{j:Nat}(h:ixN n i=some j):seqIndex? i n=some j/\j<n/\-(n:Int)<=i/\i<n:=by
 unfold ixN at h
 by_cases h0:0<=i
 ·rw[if_pos h0] at h
  by_cases h1:i<n
  ·rw[if_pos h1] at h
   have e:i.toNat=j:=d0 h;exact⟨by rw[seqIndex_of h0 h1,e],by lia,by lia,h1⟩
  ·rw[if_neg h1] at h;cases h
 ·rw[if_neg h0] at h
  by_cases h1:-(n:Int)<=i
  ·rw[if_pos h1] at h
   have e:(i+n).toNat=j:=d0 h;exact⟨by rw[GN (by lia) h1,e],by lia,h1,by lia⟩
  ·rw[if_neg h1] at h;cases h
theorem fO {α:Type}{xs:List α}{i:Int}{v:α}(h:atI xs i=some v):∃j,seqIndex? i xs.length=some j/\xs[j]?=some v/\j<xs.length/\-(xs.length:Int)<=i/\i<xs.length:=by
 unfold atI at h
 cases e:ixN xs.length i with
 |none=>rw[e] at h;cases h
 |some j=>
  rw[e] at h;obtain⟨h1,h2,h3,h4⟩:=qJ e;exact⟨j,h1,h,h2,h3,h4⟩
theorem Bf {α:Type}{xs:List α}{j:Nat}{v:α}(h:xs[j]?=some v):atI xs (j:Int)=some v:=by
 have hj:j<xs.length:=(fc.mp h).1;have e:ixN xs.length (j:Int)=some j:=by
  unfold ixN;rw[if_pos (by lia),if_pos (by lia)];simp
 unfold atI;rw[e];exact h
theorem N0 {α:Type}(xs:List α)(v:α):atI (xs++[v]) (-1)=some v:=by
 have hl:(xs++[v]).length=xs.length+1:=by simp
 have e:ixN (xs++[v]).length (-1)=some xs.length:=by
  unfold ixN;rw[hl,if_neg (by decide),if_pos (by lia)];congr 1;lia
 unfold atI;rw[e];show(xs++[v])[xs.length]?=some v;simp
def gZ (b:gq):Prop:=∀o i,subscripted b false o i=operate [o,i] (getItem o i)
def IxR (X:Cx)(r:R2):Prop:=
 ∀(value slice:gq) (pins:Za1) (s:eg) (G:St) (H:Hp) (x y:V) (v u:ed) (Q:VK),Inv X pins G H s->Bm x v->Bm y u->r x y H Q ->
  subscripted slice false v u=operate [v,u] (getItem v u)->wpAny (model X.prog X.w) X.A (subscriptTail value slice v u) (EP X pins G Q) X.xe s
def MtR (X:Cx)(id:String)(r:V->List V->Hp->VK->Prop):Prop:=
 ∀(pins:Za1) (s:eg) (G:St) (H:Hp) (x:V) (xs:List V) (v:ed) (us:Za3) (Q:VK),Inv X pins G H s->Bm x v->A3 xs us->r x xs H Q ->
  wpAny (model X.prog X.w) X.A (call (.builtin id) (v::us)) (EP X pins G Q) X.xe s
section
variable {X:Cx} {a b:gq} {ta tb:TE} {pos:Pos}
theorem xT {r:R2}(hr:IxR X r)(ha:PE X a ta)(hb:PE X b tb)(hs:gZ b):PE X (.Subscript a b pos) (tOp r ta tb):=by
 k_in;exact Subscript_ (xM ha hb I h λv u s2 x y H2 I2 rx ry q=>hr a b pins s2 G H2 x y v u Q I2 rx ry q (hs _ _))
def xD (K:dn):R2:=λx y H Q=>∃p xs i v,x=.ref p/\y=.int i/\SqL K H p xs/\atI xs i=some v/\Q v H
def uY (K:dn):R2:=λx y H Q=>∃p xs i v,x=.ref p/\y=.int i/\SqT K H p xs/\atI xs i=some v/\Q v H
theorem Az:IxR X (xD X.K):=by
 intro value slice pins s G H x y v u Q I rx ry h hs;obtain⟨p,xs,i,z,rfl,rfl,hq,he,q⟩:=h;cases rx;obtain⟨t,rfl⟩:=ry;obtain⟨its,r,pl,hz⟩:=I.list hq;obtain⟨j,h1,h2,h3,h4,h5⟩:=fO he;obtain⟨w,ew,rw'⟩:=r.get h2;have hl:=r.length;have hn:=Op;have fin:EP X pins G Q w s:=⟨z,H,I,rw',q⟩
 by_cases h0:0<=i
 ·have hj:i.toNat=j:=by
   rw[seqIndex_of h0 h5] at h1;exact d0 h1
  exact item_listR pl.isList h0 (by lia) (by rw[hj];simpa using ew) fin hs
 ·have hj:(i+(its.toArray.size:Int)).toNat=j:=by
   rw[GN (by lia) h4] at h1;rw[gl,<-hl];exact d0 h1
  exact zt (x:=w) pl.isList.typeIs slot_list_getitem.lookup
   (wpAny_getItem_list_neg (Q:=λr s'=>r=w/\EP X pins G Q r s') pl.isList (by lia) (by rw[gl]<;>lia) (by lia) (by rw[hj];simpa using ew) ⟨rfl,fin⟩) hs
theorem U2:IxR X (uY X.K):=by
 intro value slice pins s G H x y v u Q I rx ry h hs;obtain⟨p,xs,i,z,rfl,rfl,hq,he,q⟩:=h;cases rx;obtain⟨t,rfl⟩:=ry;obtain⟨its,r,pl,hz⟩:=I.tuple hq;obtain⟨j,h1,h2,h3,h4,h5⟩:=fO he;obtain⟨w,ew,rw'⟩:=r.get h2;have hl:=r.length;have hn:=Op;have fin:EP X pins G Q w s:=⟨z,H,I,rw',q⟩;exact zt (x:=w) pl.typeIs slot_tuple_getitem.lookup
  (getItem_tuple (j:=j) (Q:=λr s'=>r=w/\EP X pins G Q r s') pl (by lia) (by lia) (by rw[gl,<-hl];exact h1) (by simpa using ew) ⟨rfl,fin⟩) hs
theorem Vf (lo hi:Option Int)(n:Nat):(sliceBounds lo hi none n).1=((HT.sIx n 0 lo:Nat):Int)/\(sliceBounds lo hi none n).2.1=((HT.sIx n n hi:Nat):Int)/\(sliceBounds lo hi none n).2.2=1:=by
 refine⟨?_,?_,rfl⟩
 ·cases lo with
  |none=>simp[sliceBounds,HT.sIx]
  |some i=>
   simp only[sliceBounds,HT.sIx,zm,show(1:Int)>0 by decide,if_true]
   by_cases h:i<0
   ·simp only[h,if_true]<;>lia
   ·simp only[h,if_false]
    obtain⟨m,rfl⟩:=jw (Int.not_lt.mp h);rw[gz];lia
 ·cases hi with
  |none=>simp[sliceBounds,HT.sIx]
  |some i=>
   simp only[sliceBounds,HT.sIx,zm,show(1:Int)>0 by decide,if_true]
   by_cases h:i<0
   ·simp only[h,if_true]<;>lia
   ·simp only[h,if_false]<;>lia
theorem S5 (its:Za3)(lo hi:Option Int):slicePick its.toArray lo hi none=((its.drop (HT.sIx its.length 0 lo)).take (HT.sIx its.length its.length hi-HT.sIx its.length 0 lo)).toArray:=by
 obtain⟨h1,h2,h3⟩:=Vf lo hi its.toArray.size;unfold slicePick;rw[h1,h2,h3];simp only[FE,pick_run,gl]<;>rfl
def Aaq (K:dn):V->Option Int->Option Int->Hp->VK->Prop:=λx lo hi H Q=>∃a xs,x=.ref a/\SqL K H a xs/\∀p,H p=none->Q (.ref p) (upd H p (.lst (L4 xs lo hi)))
theorem Nc:SlR X (Aaq X.K):=by
 intro pins s G H x v vl vu lo hi sl Q I rx hs pl pu h;obtain⟨a,xs,rfl,hx,q⟩:=h;cases rx;obtain⟨its,r,ht,hz⟩:=I.list hx;have hlen:=r.length;refine⟨"list",_,slot_list_getitem.lookup,ht.isList.typeIs,?_⟩;refine wpAny_getItem_list_slice ht.isList hs pl pu .none (by simp) ?_ (by rw[gl]<;>lia)
 rw[S5,<-hlen];refine⟨.ref s.heap.objs.size,_,I.laid (t':=s.toks) (o:=.lst (L4 xs lo hi)) (λb ob q=>d4 _ q) (d3 _) ?_,rfl,q _ (I.hok.fresh (d3 _))⟩;exact⟨ie (Y6 xs lo hi) hz,_,0,(r.drop (HT.sIx xs.length 0 lo)).take (HT.sIx xs.length xs.length hi-HT.sIx xs.length 0 lo),gk _ rfl⟩
def Cy:V->Bool
 |.non=>true
 |.bl _=>true
 |.int _=>true
 |.str _=>true
 |_=>false
def eqV:V->V->Bool
 |.non,.non=>true
 |.bl a,.bl b=>a==b
 |.bl a,.int b=>(if a then 1 else 0)==b
 |.int a,.bl b=>a==(if b then 1 else 0)
 |.int a,.int b=>a==b
 |.str a,.str b=>a==b
 |_,_=>false
theorem dG {x:V}{u v:ed}(ry:Bm y u)(rx:Bm x v)(fy:Cy y=true)(fx:Cy x=true):uc A s u v (eqV y x):=by
 cases y with
 |non=>
  cases ry
  cases x with
  |non=>cases rx;exact uh _
  |bl b=>cases rx;exact GB b
  |int b=>obtain⟨t,rfl⟩:=rx;exact GA b t
  |str b=>obtain⟨t,rfl⟩:=rx;exact FZ b t
  |_=>exact absurd (show false=true from fx) gg
 |bl a=>
  cases ry
  cases x with
  |non=>cases rx;exact GH a
  |bl b=>cases rx;exact GJ a b
  |int b=>obtain⟨t,rfl⟩:=rx;exact GI a b t
  |str b=>obtain⟨t,rfl⟩:=rx;exact GG a b t
  |_=>exact absurd (show false=true from fx) gg
 |int a=>
  obtain⟨t',rfl⟩:=ry
  cases x with
  |non=>cases rx;exact GC a t'
  |bl b=>cases rx;exact GF a t' b
  |int b=>obtain⟨t,rfl⟩:=rx;exact GE a t' b t
  |str b=>obtain⟨t,rfl⟩:=rx;exact xi a t' b t
  |_=>exact absurd (show false=true from fx) gg
 |str a=>
  obtain⟨t',rfl⟩:=ry
  cases x with
  |non=>cases rx;exact FX a t'
  |bl b=>cases rx;exact FY a t' b
  |int b=>obtain⟨t,rfl⟩:=rx;exact xg a t' b t
  |str b=>obtain⟨t,rfl⟩:=rx;exact FW a t' b t
  |_=>exact absurd (show false=true from fx) gg
 |_=>exact absurd (show false=true from fy) gg
def eqU (x:V)(u:ed):Bool:=match u with
 |.none=>eqV .non x
 |.bool b=>eqV (.bl b) x
 |.int i _=>eqV (.int i) x
 |.str z _=>eqV (.str z) x
 |_=>false
theorem Vd {x:V}{u:ed}(r:Bm y u)(f:Cy y=true):eqU x u=eqV y x:=by
 cases y with
 |non=>cases r;rfl
 |bl b=>cases r;rfl
 |int i=>obtain⟨t,rfl⟩:=r;rfl
 |str z=>obtain⟨t,rfl⟩:=r;rfl
 |_=>exact absurd (show false=true from f) gg
theorem N3 {x:V}:∀{xs:List V} {us:Za3},A3 xs us->xs.all Cy=true->us.any (eqU x)=xs.any λy=>eqV y x
 |_,_,.nil,_=>rfl
 |y::xs,u::us,.cons r t,f=>by
  rw[xo,mw] at f;rw[BY,BY,Vd r f.1,N3 t f.2]
theorem Hh {A:ii}{s:eg}{x:V}{v:ed}(rx:Bm x v)(fx:Cy x=true):∀{xs:List V} {us:Za3},A3 xs us->xs.all Cy=true->∀u∈us,uc A s u v (eqU x u)
 |_,_,.nil,_=>λu hu=>by cases hu
 |y::xs,u::us,.cons r t,f=>λu' hu=>by
  rw[xo,mw] at f;rcases gd.mp hu with rfl|hu
  ·rw[Vd r f.1];exact dG r rx f.1 fx
  ·exact Hh rx fx t f.2 u' hu
def inV (x:V)(xs:List V):Bool:=xs.any λy=>eqV y x
def rIn (K:dn)(neg:Bool):R2:=λx y H Q=>∃p xs,y=.ref p/\(SqL K H p xs\/SqT K H p xs)/\Cy x=true/\xs.all Cy=true/\Q (.bl (if neg then !inV x xs else inV x xs)) H
theorem iP:OpR X (compareOp .In) (rIn X.K false):=by
 intro pins s G H x y v u Q I rx ry h;obtain⟨p,xs,rfl,hq,fx,fs,q⟩:=h;cases ry;rcases hq with hq|hq
 ·obtain⟨its,r,pl,hz⟩:=I.list hq
  refine SeqAt.in_listAt (eqU x) pl.isList (λw hw=>Hh rx fx r fs w (by simpa using hw)) ⟨.bl _,H,I,rfl,?_⟩;rw[show its.toArray.any (eqU x)=its.any (eqU x) by simp,N3 r fs];exact q
 ·obtain⟨its,r,pl,hz⟩:=I.tuple hq
  refine SeqAt.in_tupleAt (eqU x) pl (λw hw=>Hh rx fx r fs w (by simpa using hw)) ⟨.bl _,H,I,rfl,?_⟩;rw[show its.toArray.any (eqU x)=its.any (eqU x) by simp,N3 r fs];exact q
theorem Vl:OpR X (compareOp .NotIn) (rIn X.K true):=by
 intro pins s G H x y v u Q I rx ry h;obtain⟨p,xs,rfl,hq,fx,fs,q⟩:=h;cases ry;rcases hq with hq|hq
 ·obtain⟨its,r,pl,hz⟩:=I.list hq
  refine SeqAt.notIn_listAt (eqU x) pl.isList (λw hw=>Hh rx fx r fs w (by simpa using hw)) ⟨.bl _,H,I,rfl,?_⟩;rw[show its.toArray.any (eqU x)=its.any (eqU x) by simp,N3 r fs];exact q
 ·obtain⟨its,r,pl,hz⟩:=I.tuple hq
  refine SeqAt.notIn_tupleAt (eqU x) pl (λw hw=>Hh rx fx r fs w (by simpa using hw)) ⟨.bl _,H,I,rfl,?_⟩;rw[show its.toArray.any (eqU x)=its.any (eqU x) by simp,N3 r fs];exact q
theorem Wm:OpR X (compareOp .NotIn) (λx y H Q=>∃i j,x=.str i/\y=.str j/\Q (.bl (!(!(qb j i 0 j.length 1).isEmpty))) H):=by
 intro pins s G H x y v u Q I rx ry h;obtain⟨i,j,rfl,rfl,q⟩:=h;obtain⟨t,rfl⟩:=rx;obtain⟨t',rfl⟩:=ry;exact notIn_str ⟨.bl _,H,I,rfl,q⟩
theorem Av:Ht X (.builtin "len") (λxs H Q=>∃p ys,xs=[.ref p]/\(SqL X.K H p ys\/SqT X.K H p ys)/\Q (.int ys.length) H):=by
 intro pins s G H xs us Q I r h;obtain⟨p,ys,rfl,hq,q⟩:=h;obtain⟨u,rfl,rx⟩:=Ef r;cases rx;have hn:=Op;rcases hq with hq|hq
 ·obtain⟨its,r',pl,hz⟩:=I.list hq
  have hlen:=r'.length;exact Calls.call_len_list pl.isList (by simp only[gl]<;>lia) ⟨.int ys.length,H,I.tok _,⟨s.toks+1,by rw[gl,hlen]⟩,q⟩
 ·obtain⟨its,r',pl,hz⟩:=I.tuple hq
  have hlen:=r'.length;exact len_tuple pl (by simp only[gl]<;>lia) ⟨.int ys.length,H,I.tok _,⟨s.toks+1,by rw[gl,hlen]⟩,q⟩
theorem Ca:Ht X (.builtin "len") (λxs H Q=>∃z,xs=[.str z]/\z.length<=sizeLine/\Q (.int z.length) H):=by
 intro pins s G H xs us Q I r h;obtain⟨z,rfl,hz,q⟩:=h;obtain⟨u,rfl,t,rfl⟩:=Ef r;have hn:=Op;exact len_str (by lia) ⟨.int z.length,H,I.tok _,⟨_,rfl⟩,q⟩
theorem N1:Ht X (.type "list") (λxs H Q=>∃p ys,xs=[.ref p]/\(SqL X.K H p ys\/SqT X.K H p ys)/\∀l,H l=none->Q (.ref l) (upd H l (.lst ys))):=by
 intro pins s G H xs us Q I r h;obtain⟨p,ys,rfl,hq,q⟩:=h;obtain⟨u,rfl,rx⟩:=Ef r;cases rx;have fin:∀(its:Za3),A3 ys its->ys.length<=sizeLine->∀(h':im) (c':Nat),(∀b o',s.heap.get? b=some o'->h'.get? b=some o') ->
   h'.get? s.heap.objs.size=some { cls:=.type "list",dict:=none,data:=.seq its.toArray c',slots:=#[] }->EP X pins G Q (.ref s.heap.objs.size) { s with heap:=h' }:=λits r' hz h' c' kp e=>
  ⟨.ref s.heap.objs.size,_,I.laid (t':=s.toks) kp (d3 _) (show Ce X.prog X.w _ h' _ (.lst ys) from⟨hz,its,c',r',e⟩),rfl,q _ (I.hok.fresh (d3 _))⟩
 rcases hq with hq|hq
 ·obtain⟨its,r',pl,hz⟩:=I.list hq
  have hlen:=r'.length;obtain⟨o,ho,hc,n,hd⟩:=pl.isList;exact FU p (.inl rfl) ho hc hd (λh' c' kp e=>fin its r' hz h' c' kp e) (by simp only[gl]<;>lia)
 ·obtain⟨its,r',pl,hz⟩:=I.tuple hq
  have hlen:=r'.length;obtain⟨o,ho,hc,n,hd⟩:=pl;exact FU p (.inr rfl) ho hc hd (λh' c' kp e=>fin its r' hz h' c' kp e) (by simp only[gl]<;>lia)
def tyV (K:dn)(T:String)(x:V)(H:Hp):Prop:=match x with
 |.str _=>T="str"
 |.int _=>T="int"
 |.ref p=>(T="list"/\∃xs,SqL K H p xs)\/(T="tuple"/\∃o,K.lookup p=some o/\o.cls=.type "tuple"/\o.dict=none) \/
   (T="dict"/\((∃kvs,H p=some (.dK kvs))\/∃kvs,H p=some (.dT kvs)))\/(T="set"/\∃S n,H p=some (.set S n))
 |_=>False
theorem nG {G:St}{T:String}{x:V}{v:ed}(I:Inv X pins G H s)(r:Bm x v)(ty:tyV X.K T x H) :
  s.TypeIs v T/\∀a,v=.ref a->∃ob,s.heap.get? a=some ob/\ob.dict=none:=by
 cases x with
 |str z=>
  obtain⟨t,rfl⟩:=r;cases(show T="str" from ty);exact⟨typeIs_str s z t,λ_ e=>nomatch e⟩
 |int i=>
  obtain⟨t,rfl⟩:=r;cases(show T="int" from ty);exact⟨BS s i t,λ_ e=>nomatch e⟩
 |ref p=>
  cases r;rcases ty with⟨rfl,xs,hq⟩|⟨rfl,o,hk,hc,hd⟩|⟨rfl,hk⟩|⟨rfl,S,n,hk⟩
  ·obtain⟨its,_,pl,_⟩:=I.list hq
   refine⟨pl.isList.typeIs,λa e=>?_⟩;cases e;obtain⟨o,n,e,c,hd,_⟩:=pl;exact⟨o,e,hd⟩
  ·refine⟨⟨o,I.kIn p o hk,hc⟩,λa e=>?_⟩
   cases e;exact⟨o,I.kIn _ o hk,hd⟩
  ·have z:∃o,s.heap.get? p=some o/\o.ExactDict:=by
    rcases hk with⟨kvs,hk⟩|⟨kvs,hk⟩
    ·obtain⟨_,_,_,_,o,_,_,e,ex,_⟩:=I.hok p _ hk
     exact⟨o,e,ex⟩
    ·obtain⟨_,_,_,_,o,_,_,e,ex,_⟩:=I.hok p _ hk
     exact⟨o,e,ex⟩
   obtain⟨o,e,ex⟩:=z;refine⟨⟨o,e,ex.1⟩,λa e2=>?_⟩;cases e2;exact⟨o,e,ex.2.1⟩
  ·obtain⟨o,_,_,_,e,ex,_⟩:=I.hok p _ hk
   refine⟨⟨o,e,ex.1⟩,λa e2=>?_⟩;cases e2;exact⟨o,e,ex.2.1⟩
 |_=>exact jm ty
def Aaa (K:dn)(T:String)(r:V->List V->Hp->VK->Prop)(to:TE):TE:=λG H Q=>to G H λx H1=>tyV K T x H1/\r x [] H1 Q
def tBM (K:dn)(T:String)(r:V->List V->Hp->VK->Prop)(to:TE)(t:TA):TE:=λG H Q=>to G H λx H1=>tyV K T x H1/\t G H1 λxs H2=>r x xs H2 Q
variable {o e:gq} {es:List gq} {to:TE} {t:TA} {name:Str} {apos cpos:Pos} {T id:String} {r:V->List V->Hp->VK->Prop}
theorem eF (pa:PlainAttrs T)(slot:Slot T name id)(hty:typeOf (.builtin id)=pure (.type "method_descriptor"))(hm:MtR X id r)(ho:PE X o to)
  (hbase:autoParam (attributeBase o name X.env (eval o X.env)=eval o X.env) QD)(hline:autoParam ((apos.endLine==cpos.line)=true) QD):PE X (.Call (.Attribute o name apos) [] [] cpos) (Aaa X.K T r to):=by
 k_in;refine wpAny_Call_method0_late hbase hline (thE ho I h λv s1 x H1 I1 r1 ⟨ty,q1⟩=>?_);obtain⟨h1,h2⟩:=nG I1 r1 ty;exact⟨T,id,pa,slot,hty,h1,h2,ri rfl (PySem.evalArgs_none (hm pins s1 G H1 x [] v [] Q I1 r1 .nil q1))⟩
theorem Dz (pa:PlainAttrs T)(slot:Slot T name id)(hty:typeOf (.builtin id)=pure (.type "method_descriptor"))(hm:MtR X id r)(ho:PE X o to)(ha:PA X (e::es) t)
  (hbase:autoParam (attributeBase o name X.env (eval o X.env)=eval o X.env) QD)
  (hfew:autoParam (((backTo cpos (starEach (e::es) X.env)).all (λx=>!x.1)&&(backToKw cpos (keywordEach [] X.env)).all (λx=>x.1.isSome)
   && decide ((e::es).length+([]:List yf).length+(if([]:List yf).isEmpty then 0 else 1)<30))=true) QD)
  (hline:autoParam ((apos.endLine==cpos.line)=true) QD)(hs:autoParam (starEach (e::es) X.env=(false,eval e X.env)::starEach es X.env) QD)(hplain:autoParam ((backTo cpos (starEach es X.env)).any (·.1)=false) QD) :
  PE X (.Call (.Attribute o name apos) (e::es) [] cpos) (tBM X.K T r to t):=by
 k_in;refine wpAny_Call_method_late hbase hfew hline rfl (thE ho I h λv s1 x H1 I1 r1 ⟨ty,q1⟩=>?_);obtain⟨h1,h2⟩:=nG I1 r1 ty;refine⟨T,id,pa,slot,hty,h1,h2,?_⟩;have hA:=ha cpos pins s1 G H1 _ I1 q1;rw[hs] at hA ⊢;refine ri (by show(false||(backTo cpos (starEach es X.env)).any (·.1))=false;rw[hplain]<;>rfl) (pk ?_)
 exact thn hA λus s2 ⟨vs,H2,I2,r2,q2⟩=>hm pins s2 G H2 x vs v us Q I2 r1 r2 q2
/- xs.append(e),list.index on a module's tuple .. are MtR facts of 06m -/
end
def MtM (X:Cx)(id:String)(r:V->List V->Hp->VK->Prop):Prop:=
 ∀(pins:Za1) (s:eg) (G:St) (H:Hp) (x:V) (xs:List V) (v:ed) (us:Za3) (Q:VK),Inv X pins G H s->Bm x v->A3 xs us->r x xs H Q ->
  wpAny (model X.prog X.w) X.A (call (.builtin id) (v::us)) (EP X pins G Q) X.xe s
theorem A3.one:∀{x:V} {us:Za3},A3 [x] us->∃u,us=[u]/\Bm x u
 |_,_,.cons r .nil=>⟨_,rfl,r⟩
theorem A3.zero:∀{us:Za3},A3 [] us->us=[]
 |_,.nil=>rfl
theorem A3.dropLast (h:A3 xs us):A3 xs.dropLast us.dropLast:=by
 induction h with
 |nil=>exact .nil
 |cons r t ih=>
  cases t with
  |nil=>exact .nil
  |cons q t'=>exact .cons r ih
theorem A3.rep {xs:List V}{us:Za3}(h:A3 xs us):∀k:Nat,A3 (dv k xs).flatten (dv k us).flatten
 |0=>.nil
 |k+1=>by
  rw[ig,ig,jl,jl];exact A3.append h (A3.rep h k)
theorem dE {α:Type}(l:List α):l.eraseIdx (l.length-1)=l.dropLast:=by
 induction l with
 |nil=>rfl
 |cons a r ih=>
  cases r with
  |nil=>rfl
  |cons b r=>
   have e:(a::b::r).length-1=((b::r).length-1)+1:=by
    have h1:(a::b::r).length=r.length+2:=rfl;have h2:(b::r).length=r.length+1:=rfl;lia
   rw[e,List.eraseIdx_cons_succ,ih]
   all_goals rfl
theorem Uk (its:Za3):∀(k:Nat) (acc:Za3),
  zq (λx1 x2=>x1++x2) acc.toArray (dv k its.toArray)=(acc++(dv k its).flatten).toArray
 |0,acc=>by simp
 |k+1,acc=>by
  have e:acc.toArray++its.toArray=(acc++its).toArray:=by simp
  have e2:(acc++its)++(dv k its).flatten=acc++(dv (k+1) its).flatten:=by
   rw[ig,jl,gj]
  rw[<-e2,<-Uk its k (acc++its),<-e,ig,wa]
section
variable {X:Cx} {pins:Za1} {G:St} {H:Hp} {s:eg} {l b:dw} {xs ys zs:List V}
theorem Inv.lset {its its':Za3}{n:Nat}{f:Array ed->Array ed}(I:Inv X pins G H s)(hH:H l=some (.lst xs))
  (e:s.heap.get? l=some { cls:=.type "list",data:=.seq its.toArray n })(hf:f its.toArray=its'.toArray)(hv:A3 ys its')(hz:ys.length<=sizeLine) :
  Inv X pins G (upd H l (.lst ys)) { s with heap:=s.heap.update l (lb f),toks:=t' }:=by
 have q:=GP e f;rw[hf] at q;refine I.write (x:=l) (e:=l) (by rw[hH];exact trivial) (.inl rfl) (λb' u hb hu=>(gu s.heap (lb f) (lz hb)).trans hu) ⟨_,q⟩ ?_;exact⟨hz,its',_,hv,q⟩
theorem Inv.lnew {its:Za3}(I:Inv X pins G H s)(hv:A3 ys its)(hz:ys.length<=sizeLine) :
  Inv X pins G (upd H s.heap.objs.size (.lst ys)) { s with heap:=s.heap.push { cls:=.type "list",data:=.seq its.toArray },toks:=t' }:=
 I.laid (λ_ _ q=>d4 _ q) (d3 _) ⟨hz,its,0,hv,gk _ rfl⟩
theorem Inv.fresh (I:Inv X pins G H s):H s.heap.objs.size=none:=I.hok.fresh (d3 _)
theorem Inv.lstM (I:Inv X pins G H s)(hH:H l=some (.lst xs)):xs.length<=sizeLine/\∃(its:Za3) (n:Nat),A3 xs its/\xs.length=its.length/\s.heap.get? l=some { cls:=.type "list",data:=.seq its.toArray n }:=by
 obtain⟨z,its,n,r,e⟩:=I.hok l _ hH;exact⟨z,its,n,r,r.length,e⟩
theorem X8 {n:Nat}(h:n<=sizeLine):mj n=false:=by
 unfold mj;exact decide_eq_false (by lia)
end
section
variable {X:Cx}
def fP:V->List V->Hp->VK->Prop:=λx vs H Q=>∃l xs y,x=.ref l/\vs=[y]/\H l=some (.lst xs)/\xs.length<sizeLine/\Q .non (upd H l (.lst (xs++[y])))
theorem Bt:MtM X "list.append" fP:=by
 intro pins s G H x vs v us Q I rx rv h;obtain⟨l,xs,y,rfl,rfl,hH,hz,q⟩:=h;cases rx;obtain⟨u,rfl,ru⟩:=rv.one;obtain⟨z,its,n,r,hl,e⟩:=I.lstM hH;refine qv F.slot_list_append ⟨_,e,rfl⟩ F.entry_list_append (F.args_list_append_2 _ _) (PySem.list_append l its.toArray n u (by rw[gl];lia)) ⟨e,?_⟩;refine⟨.non,_,I.lset (its':=its++[u]) hH e (by simp) (r.append (.cons ru .nil)) ?_,rfl,q⟩;rw[d5,jk];lia
def qW:V->List V->Hp->VK->Prop:=λx vs H Q=>∃l b xs zs,x=.ref l/\vs=[.ref b]/\H l=some (.lst xs)/\H b=some (.lst zs)/\xs.length+zs.length<=sizeLine/\Q .non (upd H l (.lst (xs++zs)))
theorem xQ:MtM X "list.extend" qW:=by
 intro pins s G H x vs v us Q I rx rv h;obtain⟨l,b,xs,zs,rfl,rfl,hH,hB,hz,q⟩:=h;cases rx;obtain⟨u,rfl,ru⟩:=rv.one;cases ru;obtain⟨z,its,n,r,hl,e⟩:=I.lstM hH;obtain⟨z2,its2,n2,r2,hl2,e2⟩:=I.lstM hB;have hsz:its.toArray.size+its2.toArray.size<=sizeLine:=by rw[gl,gl];lia
 have hlong:¬(!its.toArray.isEmpty&&mj (its.toArray.size+its2.toArray.size))=true:=by
  rw[X8 hsz,qi];exact gg
 refine qv F.slot_list_extend ⟨_,e,rfl⟩ F.entry_list_extend (F.args_list_extend_2 _ _)
  (AutoSeq1.list_extend_list_list_0 l its.toArray n b its2.toArray n2 hlong (by rw[gl];lia) (by lia)) ⟨e,e2,?_⟩
 refine⟨.non,_,I.lset (its':=its++its2) hH e (by simp) (r.append r2) ?_,rfl,q⟩;rw[d5];lia
def Aa0:V->List V->Hp->VK->Prop:=λx vs H Q=>∃l xs y,x=.ref l/\vs=[]/\H l=some (.lst xs)/\xs[xs.length-1]?=some y/\Q y (upd H l (.lst xs.dropLast))
theorem Zj:MtM X "list.pop" Aa0:=by
 intro pins s G H x vs v us Q I rx rv h;obtain⟨l,xs,y,rfl,rfl,hH,hy,q⟩:=h;cases rx;have hus:=rv.zero;subst hus;obtain⟨z,its,n,r,hl,e⟩:=I.lstM hH;obtain⟨u,hu,ru⟩:=r.get hy;have hy':its.toArray[its.toArray.size-1]?=some u:=by
  show its.toArray[its.length-1]?=some u;rw[<-mi,<-hl];exact hu
 refine qv F.slot_list_pop ⟨_,e,rfl⟩ F.entry_list_pop (F.args_list_pop_1 _) (MeetsSeq.list_pop_last l its.toArray n u hy' (by rw[gl];lia)) ⟨e,?_⟩;refine⟨y,_,I.lset (its':=its.dropLast) hH e ?_ r.dropLast ?_,ru,q⟩
 ·show its.toArray.eraseIdxIfInBounds (its.toArray.size-1)=its.dropLast.toArray
  rw[gl,List.eraseIdxIfInBounds_toArray,dE]
 ·rw[List.length_dropLast]
  lia
def Aa1:R2:=λx y H Q=>∃l b xs zs,x=.ref l/\y=.ref b/\H l=some (.lst xs)/\H b=some (.lst zs)/\xs.length+zs.length<=sizeLine/\∀p,H p=none->Q (.ref p) (upd H p (.lst (xs++zs)))
theorem Hm:OpR X (binaryOp .Add) Aa1:=by
 intro pins s G H x y v u Q I rx ry h;obtain⟨l,b,xs,zs,rfl,rfl,hH,hB,hz,q⟩:=h;cases rx;cases ry;obtain⟨z,its,n,r,hl,e⟩:=I.lstM hH;obtain⟨z2,its2,n2,r2,hl2,e2⟩:=I.lstM hB;refine PySem.P.add_list e e2 ?_ (by rw[gl,gl];lia);have ea:its.toArray++its2.toArray=(its++its2).toArray:=by simp
 rw[ea];exact⟨.ref _,_,I.lnew (t':=s.toks) (r.append r2) (by rw[d5];lia),rfl,q _ I.fresh⟩
def Aa2:R2:=λx y H Q=>∃l k xs,x=.ref l/\y=.int k/\H l=some (.lst xs)/\-(2 ^ 63)<=k/\k<2 ^ 63/\xs.length*k.toNat<=sizeLine /\
 ∀p,H p=none->Q (.ref p) (upd H p (.lst (dv k.toNat xs).flatten))
theorem eV {α:Type}(xs:List α)(k:Nat):(dv k xs).flatten.length=k*xs.length:=by
 induction k with
 |zero=>simp
 |succ k ih=>rw[ig,jl,d5,ih,yn,yo]
theorem U7:OpR X (binaryOp .Mult) Aa2:=by
 intro pins s G H x y v u Q I rx ry h;obtain⟨l,k,xs,rfl,rfl,hH,h1,h2,hz,q⟩:=h;cases rx;obtain⟨t,rfl⟩:=ry;obtain⟨z,its,n,r,hl,e⟩:=I.lstM hH;have hlen:its.toArray.size*k.toNat<=sizeLine:=by rw[gl,<-hl];exact hz
 have hcap:¬ its.toArray.size*k.toNat>(2 ^ 63-1)/8:=by
  have:(sizeLine:Nat)<=(2 ^ 63-1)/8:=by decide
  lia
 have hfit:¬(!FC k)=true:=by
  rw[fitsIndex_both h1 h2];exact gg
 have hlong:¬ mj (its.toArray.size*k.toNat)=true:=by
  rw[X8 hlen];exact gg
 have hnew:zq (λx1 x2=>x1++x2) #[] (dv (if its.toArray.isEmpty=true then 0 else k.toNat) its.toArray)=(dv k.toNat its).flatten.toArray:=by
  have f0:∀m:Nat,zq (λx1 x2=>x1++x2) #[] (dv m its.toArray)=(dv m its).flatten.toArray:=λm=>by
   have:=Uk its m [];rw[List.nil_append] at this;exact this
  rw[f0]
  cases its with
  |nil=>simp
  |cons a r'=>rw[if_neg (by simp)]
 refine wpAny_binaryOp_repeat_ref (T:="list") (U:="int") (by decide) ⟨_,e,rfl⟩ (λs'=>BS s' k t) noFill_list_mul F.fills_int_mul CM repeat_list F.slot_int_index.lookup
  (qv CM (BS s k t) F.entry_int_rmul (F.args_int_rmul_2 _ _) (int___rmul___int_list k t l its.toArray n)
   ⟨e,rfl,⟨_,e,rfl⟩,qv F.slot_list_mul ⟨_,e,rfl⟩ F.entry_list_mul (F.args_list_mul_2 _ _) (GT l its.toArray n k t hfit hcap hlong) ⟨e,?_⟩⟩)
 rw[hnew];exact⟨.ref _,_,I.lnew (t':=s.toks) (r.rep k.toNat) (by rw[eV,DI];exact hz),rfl,q _ I.fresh⟩
end
end L2
namespace Att
open PySem PySem.W PySem.Calls PyProof.Rows
theorem Ps {P:xb}{h:im}:∀(ns:List Int) (vs:Za3),WellAll P h vs (ns.map DV)->yg vs ns:=by
 intro ns
 induction ns with
 |nil=>
  intro vs w;rw[yb] at w;cases w;exact .nil
 |cons n ns ih=>
  intro vs w;rw[ju] at w
  cases w with
  |cons a b=>
   cases a;exact .cons _ _ (ih _ b)
theorem jH {l:GR}{n:Nat}(hn:l.most=some n){P:xb}{h:im}{args:List WData}{vals:Za3}
    (hpre : l.row.toRowW.claim.pre args = true)(hwl : WellAll P h vals args) :
    ∃ a vs ns, vals = [ia a]/\args = [WData.list (ns.map DV)]/\h.get? a = some { cls := .type "list", data := .seq vs.toArray }/\yg vs ns/\ns.length <= n := by
  have hsh : WShape.hasAll [] args [.list .int] = true := (pre_splitW hpre).1;have hc : l.pre.holds [] { args := args } = true := (pre_splitW hpre).2;obtain ⟨d, r, rfl, h1, h2⟩ := hasAllW_cons hsh;obtain rfl := hasAllW_nil h2;obtain ⟨xs, rfl, h3⟩ := hasW_list h1;obtain ⟨ns, rfl⟩ := items_int h3;have hlen : ns.length <= n := by
    unfold OpenLaw.pre at hc;have h4 : (WTm.not (.lt (.lit (.int (n : Int))) (.len (.arg 0)))).holds [] { args := [.list (ns.map .int)] } = true := by
      have h4 := (holds_andW hc).1;rw [hn] at h4;exact h4
    have h5 := condW_of h4 (w_not (w_lt w_lit (w_len_list (w_arg rfl))));rw [du] at h5;refine AW λq => ?_;have q' : (n : Int) < ((ns.length : Nat) : Int) := by lia
    first
      | (rw [decide_eq_true q'] at h5; exact absurd h5 (by decide))
      | (simp at h5; lia)
  cases hwl with
  | cons w1 w2 =>
    cases w2
    cases w1 with
    | list ho hall => exact ⟨_, _, ns, rfl, rfl, ho, Ps ns _ hall, hlen⟩
theorem jN (l:GR)(args:List WData):l.row.toRowW.claim.post args (.bool true) args=true:=
 postW_of (r:=l.row.toRowW) (X:=(true==true))
  (show CA [] (.bool true) .bool=true by first|rfl|decide|simp[CA,WShape.arms,WShape.armsAll])
  (show(WTm.eq .res (.lit (.bool true))).value [] { args:=args,res:=some (.bool true),after:=args }=some (.bool (true==true)) from w_eq_bool (w_res rfl) w_lit) rfl
theorem attach_call {l:GR}{n:Nat}{q:fq}{loose:Za6}{XP:(Za2)->im->Prop}{YP:gr->im->Prop}{d:FM}
  (hn:l.most=some n)(hdf:d.params.defaults=[])
  (call:∀(w:gr) (HA HB:eg) (mg mb:Za2) (fa:dw) (o:Obj) (pm cd doc:ed) (a:dw) (vs:Za3) (ns:List Int),
   Ground q loose [] XP w HA mg mb HB.heap->YP w HB.heap ->
   HB.heap.get? fa=some o->o.data=.func (docDef d.name d.params d.body d.scope pm cd doc)->HB.heap.CodeRec cd d.name->mg d.name=some (.ref fa) ->
   HB.heap.get? a=some { cls:=.type "list",data:=.seq vs.toArray }->yg vs ns->ns.length<=n->HB.gens=#[] ->
   codeAny (model l.prog w) callerA (.call (.ref fa) ⟨[.ref a],[]⟩) (λr s'=>r=.ok (.ret (.bool true))/\OldK HB.heap s'.heap/\s'.os=HB.os/\qr s'.gens) HB) :
  WalkO q loose XP YP l.row.toRowW d [] (λf vs=>zc f vs):=by
 intro w HA HB mg mb G Y fa o pm cd doc dV kV ho hd hcd hD hmg hg args vals as hpre hlay hrd hwl hlo;obtain rfl:dV=.none:=Dflts.none hD hdf;obtain rfl:kV=.none:=Dflts.noKw hD;obtain⟨a,vs,ns,rfl,rfl,hobj,hints,hlen⟩:=jH hn hpre hwl;refine enter_call (la (call w HA HB mg mb fa o pm cd doc a vs ns G Y ho (fd_plain hd) hcd hmg hobj hints hlen hg) λr s' hq=>?_);obtain⟨rfl,h2,h3,h4⟩:=hq;exact⟨.inl ⟨.bool true,.bool true,[],rfl,λ_=>rfl,.bool true,jN l _,λ_=>⟨DN,λ_ hm=>(nomatch hm)⟩⟩,h2,h3,h4⟩
section
variable {prog:fq} {w:gr} {A:ii} {E:Za0} {s:eg} {K:BA}
end
end Att
namespace L2
open PySem PySem.Spec PyProof.Rows
variable {C CS Pt dx i1 i2 it l1 l2 z:dw} {params:lu} {A:ii} {CX:CXT} {op:ss} {X:Cx} {env:Env} {tg:gq} {fd:i3} {base h h' h1:im} {H H' H1 H2:Hp} {J:It} {pins:Za1} {fp:List dw} {outer:List Env} {elts:List gq} {ns:List Int} {ix:Za4} {N ps:Za6} {ts:List Tb} {xs:List V} {us vs:Za3} {M:rk} {off t':Nat} {oT:Obj} {od:Option dw} {pos:Pos} {scope:lm} {pl:Sem Bool} {s s2:eg} {sp:Sp} {st:io} {qual:Str} {tk:TA} {te:TE} {wi:TI} {y:V} {pm:ed} {w:gr}
theorem Ug:∀{vs:Za3} {ns:List Int},yg vs ns->A3 (ns.map V.int) vs
 |_,_,.nil=>.nil
 |_,_,.cons n t h=>.cons ⟨t,rfl⟩ (Ug h)
def Ax (s:io)(j:Nat):io:=match s with
 |.ClassDef _ _ _ body _ _ _ _ _ _ _=>body.getD j (.Pass ⟨0,0,0,0⟩)
 |_=>.Pass ⟨0,0,0,0⟩
def Cn (s:io):lu:=match s with
 |.FunctionDef _ a _ _ _ _ _ _ _ _=>a
 |_=>{ posonlyargs:=[],args:=[],vararg:=none,kwonlyargs:=[],kw_defaults:=[],kwarg:=none,defaults:=[] }
def B0 (s:io):List io:=match s with
 |.FunctionDef _ _ b _ _ _ _ _ _ _=>b
 |_=>[]
def Af (s:io):lm:=match s with
 |.FunctionDef _ _ _ _ _ _ sc _ _ _=>sc
 |_=>{ kind:=.function,names:=[],isGenerator:=false,isCoroutine:=false }
abbrev CX0:CXT:=λ_ _ _ _ _ _=>False
abbrev E0:XK:=λ_ _ _=>False
theorem Yj:Gi CX0 X E0:=λ_ _ _ _ _ _ _ h=>h.elim
structure Fun (K:dn) (x qual:Str) (st:io) (f:dw) (fd:i3):Prop where
 ex:∃(oc:ed) (od:Option dw) (kV doc pm:ed) (an:Option dw) (cdv ct:ed) (osl:Array (Za7)),
  fd=jr x qual (Cn st) (B0 st) (Af st) .none kV doc pm an cdv ct/\K.lookup f=some ⟨oc,od,.func fd,osl⟩/\kz K cdv qual=true
 kp:jg K (.ref f)=true
section
variable {P:fq} {w:gr} {K:dn} {mg:Za2} {base:im}
theorem Fun.ok {x:Str}{f:dw}{k:Nat}(F:Fun K x qual st f fd)(S:Ak N ps (Af st))(len:∀vs H Q E,sp vs H Q E->vs.length=ps.length)
  (hbody:∀(cdv:ed) (A:ii) (outer:List Env) (s:eg) (H:Hp) (vs:List V) (Q:VK) (E:XK),B3 k (A.deeper (envOfC qual (Af st) s.heap.objs.size f cdv))->sp vs H Q E ->
   ∃t,PSs (Bx CX0 P w K mg base N qual (Af st) f cdv A outer s H E).nox (B0 st) t/\t { nx:=λ_ H'=>Q .non H',rt:=Q } (Mi N vs) H):Ay P w K mg base CX0 (k+1) f fd ps sp:=by
 obtain⟨oc,od,kV,doc,pm,an,cdv,ct,osl,rfl,lk,hcd⟩:=F.ex;refine oI lk hcd S len λA outer s H vs Q E hr hsp=>?_;obtain⟨t,h,q⟩:=hbody cdv A outer s H vs Q E hr hsp;exact⟨t,h.nox,q⟩
theorem Fun.binds {x:Str}{f:dw}(F:Fun K x qual st f fd)
  (h:∀(kV doc pm:ed) (an:Option dw) (cdv ct:ed) (us:Za3),us.length=ps.length->bindArgs (jr x qual (Cn st) (B0 st) (Af st) .none kV doc pm an cdv ct) ⟨us,[]⟩=pure (ps.zip us)):Ed K fd ps []:=by
 obtain⟨oc,od,kV,doc,pm,an,cdv,ct,osl,rfl,lk,hcd⟩:=F.ex;exact .all (h kV doc pm an cdv ct)
theorem Wu {x:Str}{f:dw}{oc:ed}{an:Option dw}{osl:Array (Za7)}{kV doc cdv ct:ed}(l:K.lookup f=some ⟨oc,od,.func (jr x qual (Cn st) (B0 st) (Af st) .none kV doc pm an cdv ct),osl⟩)
  (c:kz K cdv qual=true)(k:jg K (.ref f)=true):Fun K x qual st f (jr x qual (Cn st) (B0 st) (Af st) .none kV doc pm an cdv ct):=⟨⟨oc,od,kV,doc,pm,an,cdv,ct,osl,rfl,l,c⟩,k⟩
end
theorem G6 {n:Nat}(h:n<=1000):n<sizeLine:=qk h (by decide)
section
variable {X:Cx}
theorem pv (i:Nat){x:Str}(hN:autoParam (X.N[i]?=some x) QD)(hv:Vis X.env.scope x:=by first|exact xl rfl|exact vv (xl rfl)|exact vv (vv rfl))(hd:autoParam ((x==("__debug__":Str))=false) QF)
  (hcd:autoParam ((x==("__classdict__":Str))=false) QF):PE X (.Name x pos) (rG i):=mO hN hv hd hcd
end
theorem Aal {A B:Prop}(h:B):if false=true then A else B:=by
 rw[if_neg gg];exact h
theorem Aat {A B:Prop}(h:A):if true=true then A else B:=by
 rw[if_pos rfl];exact h
def Ah (H H':Hp):Prop:=∀b o,H b=some o->H' b=some o
theorem Ah.refl (H:Hp):Ah H H:=λ_ _ h=>h
theorem Ah.trans (a:Ah H H1)(b:Ah H1 H2):Ah H H2:=λc o h=>b c o (a c o h)
theorem Ah.free (e:Ah H H'){l:dw}(h:H' l=BW):H l=BW:=by
 cases q:H l with
 |none=>rfl
 |some o=>
  rw[e l o q] at h;cases h
theorem Ah.seq {K:dn}{a:dw}(e:Ah H H')(h:SqL K H a xs):SqL K H' a xs:=by
 rcases h with(h|⟨o,h⟩)|h
 ·exact .inl (.inl (e _ _ h))
 ·exact .inl (.inr ⟨o,e _ _ h⟩)
 ·exact .inr h
end L2
section
namespace L2
open PySem PySem.Spec PyProof.Rows
variable {C CS Pt dx i1 i2 it l1 l2 z:dw} {params:lu} {A:ii} {CX:CXT} {op:ss} {X:Cx} {env:Env} {tg:gq} {fd:i3} {base h h' h1:im} {H H' H1 H2:Hp} {J:It} {pins:Za1} {fp:List dw} {outer:List Env} {elts:List gq} {ns:List Int} {ix:Za4} {N ps:Za6} {ts:List Tb} {xs:List V} {us vs:Za3} {M:rk} {off t':Nat} {oT:Obj} {od:Option dw} {pos:Pos} {scope:lm} {pl:Sem Bool} {s s2:eg} {sp:Sp} {st:io} {qual:Str} {tk:TA} {te:TE} {wi:TI} {y:V} {pm:ed} {w:gr}
section
variable {prog:fq} {w:gr} {A:ii} {R:vg->eg->Prop} {s:eg}
def hV (ifs:List gq)(env:Env):Sem Bool:=
 forIn ifs true λc r=>if r=true then do let ok <-isTrue c env (eval c env);pure (y6 ok) else pure (y6 r)
theorem gY {elt tg iter:gq}{ifs:List gq}{scope:lm}{pos:Pos}{it acc:ed}{env:Env}(J:Nat->eg->Prop)
  (turn:∀n s,J n s->wpAny (model prog w) A (pyNext it) (λr s1=>match r with
   |none=>R (.ok .next) s1
   |some v=>wpAny (model prog w) A (letOwnedTupleGo tg it v) (λ_ s2=>wpAny (model prog w) A (assign tg env v) (λ_ s3=>wpAny (model prog w) A (hV ifs env) (λok s4=>
     if ok=true then wpAny (model prog w) A (eval elt env) (λx s5=>wpAny (model prog w) A (call (.builtin "list.append") [acc,x]) (λ_ s6=>∃m,m<n/\J m s6) (λ_ _=>False) s5) (λ_ _=>False) s4
     else ∃m,m<n/\J m s4) (λ_ _=>False) s3) (λ_ _=>False) s2) (λ_ _=>False) s1) (λ_ _=>False) s)
  (n:Nat)(h:J n s):codeAny (model prog w) A (.compLoop (.ListComp elt [⟨tg,iter,ifs,0⟩] scope pos) 0 it acc env) R s:=by
 refine codeAny_loop rfl J (λn s hJ=>?_) n h;show wpAny _ A (Sem.onRaise (compTurn (.ListComp elt [⟨tg,iter,ifs,0⟩] scope pos) 0 it acc env) _) _ _ s;refine wpAny_noted ?_;rw[compTurn_list];refine wpAny_bind (mm (wpAny_bind (iw (turn n s hJ) (λr s1 h1=>?_) (λ_ _ z=>z.elim))))
 cases r with
 |none=>exact ez h1
 |some v=>
  refine wpAny_bind (iw h1 (λ_ s2 h2=>wpAny_bind (iw h2 (λ_ s3 h3=>wpAny_bind (iw h3 (λok s4 h4=>?_) (λ_ _ z=>z.elim))) (λ_ _ z=>z.elim))) (λ_ _ z=>z.elim))
  cases ok with
  |false=>exact ez ⟨rfl,h4⟩
  |true=>exact wpAny_bind (wpAny_bind (iw h4 (λx s5 h5=>wpAny_bind (iw h5 (λ_ s6 h6=>ez (ez ⟨rfl,h6⟩)) (λ_ _ z=>z.elim))) (λ_ _ z=>z.elim)))
end
def Dn (env:Env):List (Str×ph)->List (Str×dw)->List (Str×dw)
 |[],cs=>cs
 |y::r,cs=>if y.2=.free then Dn env r ((y.1,(env.cells.lookup y.1).getD 0)::cs) else Dn env r cs
theorem Vj {env:Env}(f:Str×ph->List (Str×dw)->Sem (ForInStep (List (Str×dw))))
  (h1:∀y cs c,y.2=.free->env.cells.lookup y.1=some c->f y cs=pure (.yield ((y.1,c)::cs)))(h2:∀y cs,y.2≠.free->f y cs=pure (.yield cs)) :
  ∀(ns:List (Str×ph)) (cs:List (Str×dw)),(∀y∈ns,y.2=.free->∃c,env.cells.lookup y.1=some c)->forIn ns cs f=(pure (Dn env ns cs):Sem (List (Str×dw)))
 |[],cs,_=>by simp[Dn]
 |y::r,cs,h=>by
  have hr:∀z∈r,z.2=.free->∃c,env.cells.lookup z.1=some c:=λz hz=>h z (ik _ hz);rw[vz]
  by_cases hy:y.2=.free
  ·obtain⟨c,hc⟩:=h y jo hy
   rw[h1 y cs c hy hc];simp only[Dn,if_pos hy,hc,om];exact Vj f h1 h2 r _ hr
  ·rw[h2 y cs hy]
   simp only[Dn,if_neg hy];exact Vj f h1 h2 r _ hr
theorem G8 (h:∀y∈scope.names,y.2=.free->∃c,env.cells.lookup y.1=some c):closureFor scope env=pure (Dn env scope.names []):=by
 unfold closureFor;dsimp only;rw[Vj (env:=env) _ (λy cs c hy hc=>?_) (λy cs hy=>?_) scope.names [] h]
 ·rfl
 ·obtain⟨n,k⟩:=y
  dsimp only at hy hc ⊢;subst hy;simp only[cellOf,hc,beq_self_eq_true,if_true];rfl
 ·obtain⟨n,k⟩:=y
  have e:(k==mr)=false:=by simpa using hy
  simp only[e,md,if_false]
theorem Jm {env:Env}:∀(ns:List (Str×ph)) (cs:List (Str×dw)) (x:Str) (c:dw),(∀y∈ns,y.2=.free->∃c,env.cells.lookup y.1=some c) ->
  (∀z d,cs.lookup z=some d->env.cells.lookup z=some d)->(Dn env ns cs).lookup x=some c->env.cells.lookup x=some c
 |[],cs,x,c,_,hc,h=>hc x c h
 |y::r,cs,x,c,hy,hc,h=>by
  have hr:∀z∈r,z.2=.free->∃c,env.cells.lookup z.1=some c:=λz hz=>hy z (ik _ hz);unfold Dn at h;split at h
  ·rename_i hk
   obtain⟨d,hd⟩:=hy y jo hk;rw[hd] at h;refine Jm r _ x c hr (λz e hz=>?_) h;rw[ow] at hz;split at hz
   ·rename_i hzy
    cases hz;rw[eq_of_beq hzy];exact hd
   ·exact hc z e hz
  ·exact Jm r _ x c hr hc h
theorem Mp {env:Env}:∀(ns:List (Str×ph)) (cs:List (Str×dw)) (x:Str),(cs.lookup x).isSome=true->((Dn env ns cs).lookup x).isSome=true
 |[],_,_,h=>h
 |y::r,cs,x,h=>by
  unfold Dn;split
  ·refine Mp r _ x ?_
   rw[ow];split
   ·rfl
   ·exact h
  ·exact Mp r _ x h
theorem Ez {env:Env}:∀(ns:List (Str×ph)) (cs:List (Str×dw)) (x:Str),(x,mr)∈ns->((Dn env ns cs).lookup x).isSome=true
 |[],_,_,h=>by simp at h
 |y::r,cs,x,h=>by
  rcases gd.mp h with e|e
  ·subst e
   unfold Dn;rw[if_pos rfl];exact Mp r _ x (by simp)
  ·unfold Dn
   split
   ·exact Ez r _ x e
   ·exact Ez r _ x e
theorem Jz {x:Str}{k:ph}(h:(relabel scope env).names.lookup x=some k):(x,k)∈scope.names\/((x,mr)∈scope.names/\k=zx):=by
 have m:=i9 h;obtain⟨⟨n,k'⟩,hm,e⟩:=lj.mp m;dsimp only at e;split at e
 ·rename_i hk
  cases e;simp only[mw,beq_iff_eq] at hk;rw[hk.1.1] at hm;exact .inr ⟨hm,rfl⟩
 ·cases e
  exact .inl hm
theorem Ny (hk:env.scope.kind=.function){x:Str}(hx:env.kindOf x=some .cell)(h:scope.names.lookup x=some .free):(relabel scope env).names.lookup x=some .cell:=by
 unfold relabel;show(scope.names.map _).lookup x=some zx;generalize scope.names=ns at h
 induction ns with
 |nil=>simp at h
 |cons y r ih=>
  obtain⟨n,k⟩:=y;rw[ow] at h;rw[ju];split at h
  ·rename_i hn
   cases h;rw[<-eq_of_beq hn];simp[hk,hx]
  ·rename_i hn
   dsimp only;split
   ·rw[ow,hn];exact ih h
   ·rw[ow,hn];exact ih h
def E6 (X:Cx)(scope:lm)(N:Za6)(C:dw)(s:eg)(H:Hp)(fp:List dw):Cx:=
 { X with N:=N,HA:=s,HC:=H,env:=compEnvC scope (Dn X.env scope.names []) C X.env,outer:=X.stack,ex:=fp,fn:=λ_=>false,pn:=[],xe:=λ_ _=>False }
structure Bq (HL:Za6) (HM sc:lm) (x:Str) (N:Za6) (ix:Za4):Prop where
 kind:sc.kind=.function
 nocell:∀y∈sc.names,y.2≠.cell
 names:∀y∈sc.names,y.2=.local->sc.names.lookup y.1=some .local
 free:∀y∈sc.names,y.2=.free->HM.names.lookup y.1=some .cell
 nd:N.Nodup
 hd:N.head?=some x
 loc:sc.names.lookup x=some .local
 len:N.length=ix.length+1
 at_:∀p∈N.tail.zip ix,HL[p.2]?=some p.1/\sc.names.lookup p.1=some .free
def frV (G:St)(ix:Za4):St:=ix.map λj=>(G[j]?).getD none
def PIf (X:Cx)(ifs:List gq)(t:TT):Prop:=
 ∀(pins:Za1) (s:eg) (G:St) (H:Hp) (Q:Bool->Hp->Prop),Inv X pins G H s->t G H Q->wpAny (model X.prog X.w) X.A (hV ifs X.env) (TP X pins G Q) X.xe s
def Aac:TT:=λ_ H Q=>Q true H
theorem F6:PIf X [] Aac:=λpins s G H Q I h=>wpAny_tests_nil ⟨H,I,h⟩
theorem Gr {c:gq}{t:TT}(h:PT X c t):PIf X [c] t:=λpins s G H Q I hw=>wpAny_tests_one (h pins s G H Q I hw)
def Vm (J:It)(H1:Hp)(fr:St)(tc:TT)(te:TE)(Q:VK):Prop:=∀D,H1 D=none->∃W:Nat->Nat->Hp->Prop,(∃m,W 0 m (upd H1 D (.lst [])))/\∀i m H,W i m H ->
 (J.stop i H/\Q (.ref D) H)\/(J.go i H/\∀x H',J.yld i H x H'->tc (some x::fr) H' λb H3=>
  if b=true then te (some x::fr) H3 λy H4=>∃ys,H4 D=some (.lst ys)/\ys.length<sizeLine/\∃m',m'<m/\W (i+1) m' (upd H4 D (.lst (ys++[y]))) else ∃m',m'<m/\W (i+1) m' H3)
def tLc (wi:TI)(ix:Za4)(tc:TT)(te:TE):TE:=λG H Q=>wi G H λJ H1=>Vm J H1 (frV G ix) tc te Q
section
variable {X:Cx} {scope:lm} {N:Za6} {ix:Za4} {x:Str} {px:Pos} {elt iter:gq} {ifs:List gq} {tc:TT} {te:TE} {pos:Pos}
theorem Aad {G:St}{tn:Nat->im->Prop}(L:Bq X.N X.env.scope scope x N ix)(I2:Inv X pins G H2 s2)
  (T:Ob X.prog X.w X.K tg J fp it tn)(st2:tn 0 s2.heap)(f2:∀b∈fp,Nw X pins H2 b){s3 s4:eg}{H3:Hp}(I3:Inv X pins G H3 s3)(I4:Inv X pins G H3 s4)(hle:s2.heap.objs.size<=s3.heap.objs.size)
  (hC:C=s3.heap.objs.size)(ho:s4.os=s3.os)(kp:∀b u,s3.heap.get? b=some u->s4.heap.get? b=some u){m:Za2}(hns:s4.heap.Ns C m):Inv (E6 X scope N C s3 H3 fp) [] (none::frV G ix) H3 s4:=by
 have hfree:∀y∈scope.names,y.2=.free->∃c,X.env.cells.lookup y.1=some c:=λy hy hf=>I2.ok.has y.1 (.inl (L.free y hy hf));have sub:∀y c,(Dn X.env scope.names []).lookup y=some c->X.env.cells.lookup y=some c:=λy c h=>Jm _ _ y c hfree (λ_ _ z=>by simp at z) h;have lt2:∀b∈fp,b<s2.heap.objs.size:=λb hb=>by obtain⟨o,e,_⟩:=T.obj _ _ st2 b hb;exact ee e
 have okY:(E6 X scope N C s3 H3 fp).Ok:=by
  refine⟨I2.ok.mod,L.kind,I2.ok.glob,I2.ok.blt,oj hC.symm,λy z c h1 h2=>I2.ok.inj y z c (sub y c h1) (sub z c h2),λy hy=>?_,λy c z _=>?_,I2.ok.hd,I2.ok.frames,.inl rfl,λb hb=>⟨?_,λy c h=>(f2 b hb).2.2.2.2.1 y c (sub y c h)⟩,
   I3.bs,ie I3.ok.bsz I3.sz,λb o e hb=>?_,λb hb z=>?_,I3.stack,I3.stkFree⟩
  ·have hk:(y,mr)∈scope.names:=by
    rcases hy with hy|hy
    ·rcases Jz hy with q|q
     ·exact absurd rfl (L.nocell _ q)
     ·exact q.1
    ·rcases Jz hy with q|q
     ·exact q
     ·exact absurd q.2 (by decide)
   exact iv.mp (Ez _ _ y hk)
  ·cases(show false=true from z)
  ·have l:=lt2 b hb
   show b≠C;rw[hC];exact fu (d7 l hle)
  ·rcases(f2 b hb).2.2.2.1 with q|q
   ·exact I2.ok.noex b o e q
   ·exact absurd (d7 (ee e) (ie I2.ok.bsz q)) (jj _)
  ·rcases gd.mp (I2.stkSub b z) with q|q
   ·exact(f2 b hb).2.1 q
   ·exact(f2 b hb).2.2.1 q
 refine⟨okY,ho,I4.bare,Un.kept kp,⟨m,hns,λi y v h1 h2 h3=>?_⟩,λy c e=>I4.cell y c (sub y c e),?_,λy c e=>I4.freeC y c (sub y c e),λp hp=>absurd (show p∈([]:Za1) from hp) (by simp),I4.hok,?_⟩
 ·cases i with
  |zero=>cases(show some none=some (some v) from h2)
  |succ k=>
   have h2:(frV G ix)[k]?=some (some v):=h2;have h1:N[k+1]?=some y:=h1;unfold frV at h2;rw[d8] at h2
   cases hj:ix[k]? with
   |none=>rw[hj] at h2;cases h2
   |some j=>
    rw[hj] at h2;have h2:(G[j]?).getD none=some v:=d0 h2;have h2':G[j]?=some (some v):=by
     cases e:G[j]? with
     |none=>rw[e] at h2;cases h2
     |some z=>rw[e] at h2;exact congrArg some h2
    have ht:N.tail[k]?=some y:=by rw[qf];exact h1
    have hz:(y,j)∈N.tail.zip ix:=ir (i:=k) (by rw[qm];exact⟨ht,hj⟩);obtain⟨q1,q2⟩:=L.at_ _ hz;have hm:=i9 q2;have hcell:=L.free _ hm rfl;obtain⟨m',hn',hl'⟩:=I4.loc;obtain⟨u,r,lk⟩:=hl' j y v q1 h2' (.inr (.inl hcell));refine⟨u,r,.inr ⟨.inl (Ny I2.ok.kind hcell q2),?_⟩⟩;rcases lk with lk|⟨_,c,e,z⟩
    ·rw[show X.env.kindOf y=some .cell from hcell] at lk
     cases lk.1
    ·obtain⟨c',e'⟩:=iv.mp (Ez (env:=X.env) scope.names [] y hm)
     have e2:=sub y c' e';rw[e] at e2;cases e2;exact⟨c,e',z⟩
 ·show H3 C=none
  exact I3.hok.fresh (oj hC.symm)
 ·show(none::frV G ix).length=N.length
  rw[L.len];simp[frV]
theorem oW {tgt:gq}(htg:tgt=.Name x px){G:St}{tn:Nat->im->Prop}(hc:X.calm=true)(L:Bq X.N X.env.scope scope x N ix)(I2:Inv X pins G H2 s2)
  (T:Ob X.prog X.w X.K tgt J fp it tn)(st2:tn 0 s2.heap)(f2:∀b∈fp,Nw X pins H2 b)
  (hif:∀C s H,PIf (E6 X scope N C s H fp) ifs tc)(he:∀C s H,PE (E6 X scope N C s H fp) elt te){Q:VK}(rd:Vm J H2 (frV G ix) tc te Q){RR:ed->dw->vg->eg->Prop}{E:Za0}
  (fin:∀D C H' s' m,Inv X pins G H' s'->s2.heap.objs.size<=C->H' C=none->s'.heap.Ns C m->Q (.ref D) H'->RR (.ref D) C (.ok .next) s') :
  wpAny (model X.prog X.w) X.A (newList []) (λacc s3=>wpAny (model X.prog X.w) X.A (newFunctionEnv scope X.env.globals (Dn X.env scope.names []) [] X.env.qual none .none (some X.env)) (λcenv s4=>
   codeAny (model X.prog X.w) X.A (.compStart (.ListComp elt [⟨tgt,iter,ifs,0⟩] scope pos) 0 (.ref it) acc { cenv with scope:=relabel scope X.env }) (RR acc cenv.locals) s4) E s3) E s2:=by
 refine wb (ui L.nocell (by intro y hy;simp at hy) (λh1 hns hsb=>?_) L.kind);dsimp only at hns hsb ⊢;have I3:Inv X pins G (upd H2 s2.heap.objs.size (.lst [])) { s2 with heap:=s2.heap.push { cls:=.type "list",dict:=none,data:=.seq ([]:Za3).toArray } }:=I2.lnew (its:=[]) (t':=s2.toks) .nil (fg _);generalize hH3:s2.heap.push { cls:=.type "list",dict:=none,data:=.seq ([]:Za3).toArray }=h3 at hns hsb I3 ⊢;have hsz:h3.objs.size=s2.heap.objs.size+1:=by rw[<-hH3,k9]
 have kp34:∀b u,h3.get? b=some u->h1.get? b=some u:=λb u e=>hsb.extBut b u (fu (ee e)) (d4 _ e);have I4:Inv X pins G (upd H2 s2.heap.objs.size (.lst [])) { s2 with heap:=h1,toks:=s2.toks+([]:List (Str×ed)).length }:=I3.kept (t':=s2.toks+([]:List (Str×ed)).length) kp34;have kp24:∀b u,s2.heap.get? b=some u->h1.get? b=some u:=λb u e=>kp34 b u (by rw[<-hH3];exact d4 _ e);have IY:=Aad (C:=h3.objs.size) (s3:={ s2 with heap:=h3 }) L I2 T st2 f2 I3 I4 (by show s2.heap.objs.size<=h3.objs.size;lia) rfl rfl kp34 hns;have fD:H2 s2.heap.objs.size=none:=I2.hok.fresh (d3 _);have lt2:∀b∈fp,b<s2.heap.objs.size:=λb hb=>by obtain⟨o,e,_⟩:=T.obj _ _ st2 b hb;exact ee e
 have st4:tn 0 h1:=T.keep _ _ _ st2 λb _ o e=>kp24 b o e;have stat:∀{pn:Za1} {H':Hp},pn=[]->(∀b∈fp,H' b=none)->∀b∈fp,Nw (E6 X scope N h3.objs.size { s2 with heap:=h3 } (upd H2 s2.heap.objs.size (.lst [])) fp) pn H' b:=λhp hn b hb=>by
  subst hp;exact⟨hn b hb,(IY.ok.exf b hb).1,IY.ok.exfs b hb,.inl hb,(IY.ok.exf b hb).2,λp hp=>absurd (show p∈([]:Za1) from hp) (by simp)⟩
 obtain⟨W,⟨m0,w0⟩,turn⟩:=rd _ fD;have loop:codeAny (model X.prog X.w) X.A (.compLoop (.ListComp elt [⟨tgt,iter,ifs,0⟩] scope pos) 0 (.ref it) (.ref s2.heap.objs.size) (compEnvC scope (Dn X.env scope.names []) h3.objs.size X.env)) (RR (.ref s2.heap.objs.size) h3.objs.size)
   { s2 with heap:=h1,toks:=s2.toks+([]:List (Str×ed)).length }:=by
  refine gY (λn s'=>∃i H',Inv (E6 X scope N h3.objs.size { s2 with heap:=h3 } (upd H2 s2.heap.objs.size (.lst [])) fp) [] (none::frV G ix) H' s'/\tn i s'.heap/\(∀b∈fp,H' b=none)/\W i n H') ?_ m0
   ⟨0,_,IY,st4,λb hb=>by rw[Aj (fu (lt2 b hb))];exact(f2 b hb).1,w0⟩
  rintro n s5 ⟨i,H5,I5,st5,fr5,w5⟩;rcases turn i n H5 w5 with⟨stop,q⟩|⟨go,step⟩
  ·refine thn (T.done (E6 X scope N h3.objs.size { s2 with heap:=h3 } (upd H2 s2.heap.objs.size (.lst [])) fp) rfl rfl rfl hc i [] s5 _ H5 (λ_ _=>False) I5 (stat rfl fr5) st5 stop) λr s6 ⟨hr,I6⟩=>?_
   subst hr;obtain⟨m6,hn6,_⟩:=I6.loc;have u1:Un (frs X.stack) fp H2 (upd H2 s2.heap.objs.size (.lst [])) s2.heap h3:=Un.laid (λb u e=>by rw[<-hH3];exact d4 _ e) (d3 _) fD;have back:Inv X pins G H5 s6:=I2.call' (ch:=fp) (I6.os.trans rfl) (u1.trans I6.base) I6.hok I6.bare λb hb=>⟨(f2 b hb).2.2.2.1,(f2 b hb).2.1,(f2 b hb).2.2.2.2.1,(f2 b hb).2.2.2.2.2⟩;exact fin _ _ H5 s6 m6 back (by lia) I6.free hn6 q
  ·refine thn (T.item (E6 X scope N h3.objs.size { s2 with heap:=h3 } (upd H2 s2.heap.objs.size (.lst [])) fp) rfl rfl rfl hc i [] s5 _ H5 (λ_ _=>False) I5 (stat rfl fr5) st5 go) λr s6 ⟨u,hr,h6⟩=>?_
   subst hr;refine thn h6 λ_ s7 ⟨y,H7,I7,r7,y7,st7,fr7⟩=>?_;have I7':=I7.pinned (stat rfl fr7) (T.obj _ _ st7);have hg:PG (E6 X scope N h3.objs.size { s2 with heap:=h3 } (upd H2 s2.heap.objs.size (.lst [])) fp) tgt (Eh 0):=by
    rw[htg];have hi:N[0]?=some x:=by have:=L.hd;rwa [yc] at this
    exact Lx L.nd hi (.inl (lv L.loc)) (.inr (lv L.loc))
   refine thn (hg _ s7 _ H7 y u (λmt H'=>mt=some y::frV G ix/\H'=H7) I7' r7 ⟨rfl,rfl⟩) λ_ s8 ⟨HQ,H8,I8,e8,e8'⟩=>?_;subst e8 e8';refine thn (hif _ _ _ _ s8 _ _ _ I8 (step y _ y7)) λok s9 ⟨H9,I9,q9⟩=>?_;have again:∀{sz:eg} {Hz:Hp} {m':Nat},Inv (E6 X scope N h3.objs.size { s2 with heap:=h3 } (upd H2 s2.heap.objs.size (.lst [])) fp) ([]++Oy fp s7.heap) (some y::frV G ix) Hz sz->m'<n->W (i+1) m' Hz ->
     ∃m,m<n/\∃i H',Inv (E6 X scope N h3.objs.size { s2 with heap:=h3 } (upd H2 s2.heap.objs.size (.lst [])) fp) [] (none::frV G ix) H' sz/\tn i sz.heap/\(∀b∈fp,H' b=none)/\W i m H':=λ{sz Hz m'} Iz hm wz=>by
    refine⟨m',hm,i+1,Hz,Iz.unpinned.weak (by simp) (λj v e=>?_),T.keep _ _ _ st7 λb hb o e=>(Iz.pin (b,o) (gh _ (gh _ (Fz hb e)))).1,λb hb=>?_,wz⟩
    ·cases j with
     |zero=>cases e
     |succ j=>exact e
    ·obtain⟨o,e,d⟩:=T.obj _ _ st7 b hb
     exact(Iz.pin (b,o) (gh _ (gh _ (Fz hb e)))).2.1
   cases ok with
   |false=>
    obtain⟨m',hm,wz⟩:=q9;exact again I9 hm wz
   |true=>
    refine thn (he _ _ _ _ s9 _ _ _ I9 q9) λxv s10 ⟨z,H10,I10,r10,ys,hD,hl,m',hm,wz⟩=>?_;refine thn (Bt _ s10 _ H10 (.ref s2.heap.objs.size) [z] (.ref s2.heap.objs.size) [xv] (λ_ Hz=>Hz=upd H10 s2.heap.objs.size (.lst (ys++[z]))) I10 rfl (.cons r10 .nil) ⟨_,ys,z,rfl,rfl,hD,hl,rfl⟩) λ_ s11 ⟨_,H11,I11,_,q11⟩=>?_;subst q11;exact again I11 hm wz
 exact zu loop (T.self X.A 0 _ _ _ st4 loop)
theorem K0 (hc:X.calm=true)(L:Bq X.N X.env.scope scope x N ix)(hi:PI X (.Name x px) iter wi)(hif:∀C s H fp,PIf (E6 X scope N C s H fp) ifs tc)(he:∀C s H fp,PE (E6 X scope N C s H fp) elt te)
  (hs:autoParam (∀z,foldedSetIterable iter X.env z=pure z) QJ):PE X (.ListComp elt [⟨.Name x px,iter,ifs,0⟩] scope pos) (tLc wi ix tc te):=by
 k_in;have hfree:∀y∈scope.names,y.2=.free->∃c,X.env.cells.lookup y.1=some c:=λy hy hf=>I.ok.has y.1 (.inl (L.free y hy hf));rw[FS];refine ny (use:=none) rfl hs (G8 hfree) L.kind L.names (thn (hi pins s G H _ I h) λv s1 h1=>thn h1 λitv s2 h2=>?_);obtain⟨it,fp,tn,J,H2,e,I2,T,st2,f2,rd⟩:=h2;subst e;refine oW (RR:=λacc C=>compPost (model X.prog X.w) X.A X.xe none _ acc C) rfl hc L I2 T st2 f2 (λC s H=>hif C s H fp) (λC s H=>he C s H fp) rd λD C H' s' m I' hC hf hn q=>?_;refine⟨m,hn,λh' hsb=>⟨.ref D,H',?_,rfl,q⟩⟩;have l2:=I2.lt;refine I'.turned (t':=s'.toks) (it:=C) (λb o hb e=>hsb.extBut b o hb e) hf (ji (d7 l2 hC)) (.inr (ie I2.sz hC)) (λy c e=>?_) λp hp=>?_
 ·obtain⟨v,hv⟩:=I2.cell y c e
  exact fu (d7 hv.lt hC)
 ·exact fu (d7 (ee (I2.pin p hp).1) hC)
theorem Xq {i:Nat}{y:Str}{py spos:Pos}(hc:X.calm=true)(L:Bq X.N X.env.scope scope x N ix)(hN:X.N.Nodup)(hy:X.N[i]?=some y)(hl:X.env.scope.names.lookup y=some .local)
  (hi:PI X (.Name x px) iter wi)(hif:∀C s H fp,PIf (E6 X scope N C s H fp) ifs tc)(he:∀C s H fp,PE (E6 X scope N C s H fp) elt te)
  (hsw:autoParam (swapsWith (.ListComp elt [⟨.Name x px,iter,ifs,0⟩] scope pos) (some (.Name y py)) spos.line X.env=pure true) QD)
  (hs:autoParam (∀z,foldedSetIterable iter X.env z=pure z) QJ):PS X (.Assign [.Name y py] (.ListComp elt [⟨.Name x px,iter,ifs,0⟩] scope pos) spos) (kE (tLc wi ix tc te) (Eh i)):=by
 k_end;have hfree:∀y∈scope.names,y.2=.free->∃c,X.env.cells.lookup y.1=some c:=λy hy hf=>I.ok.has y.1 (.inl (L.free y hy hf));rw[z6 _ _ _ _ hsw];refine wpAny_bind (mm (wpAny_bind ?_));show wpAny _ X.A (do let _ <-comprehension (.ListComp elt [⟨.Name x px,iter,ifs,0⟩] scope pos) scope X.env _ (newList []) false (eval iter X.env) (some (assign (.Name y py) X.env))) _ _ s;refine wpAny_bind (thn (Q:=λ_ s'=>SP X pins D .next s') (ny (use:=some (assign (.Name y py) X.env)) rfl hs (G8 hfree) L.kind L.names (thn (hi pins s G H _ I h) λv s1 h1=>thn h1 λitv s2 h2=>?_)) λ_ s' hq=>ez (ez hq));obtain⟨it,fp,tn,J,H2,e,I2,T,st2,f2,rd⟩:=h2;subst e;refine oW (RR:=λacc C=>compPost (model X.prog X.w) X.A X.xe (some (assign (.Name y py) X.env)) _ acc C) rfl hc L I2 T st2 f2 (λC s H=>hif C s H fp) (λC s H=>he C s H fp) rd λDa C H' s' m I' hC hf hn q=>?_;have l2:=I2.lt;have nC:C≠X.env.locals:=ji (d7 l2 hC);have nF:C∉X.fs:=I2.nofs hC;obtain⟨oC,es,ep,hget,hdat,hrest⟩:=id hn;have Ip:Inv X (pins++[(C,oC)]) G H' s':=I'.pins_of λp hp=>(mf.mp hp).elim (λz=>I'.pin p (gh _ z)) λz=>by
  have e:p=(C,oC):=by simpa using z
  subst e;exact⟨hget,hf,nC,nF,λv z=>by rw[hdat] at z;cases z⟩
 have hg:PG X (.Name y py) (Eh i):=Lx hN hy (.inl hl) (.inr hl);show wpAny _ X.A (assign (.Name y py) X.env (.ref Da)) _ _ s';refine thn (hg _ s' G H' (.ref Da) (.ref Da) D.nx Ip rfl q) λ_ s'' ⟨HW,H'',I'',q''⟩=>?_;obtain⟨g1,g2,_⟩:=I''.pin (C,oC) (gh _ (gh _ (by simp)));refine⟨m,⟨oC,es,ep,g1,hdat,hrest⟩,λh' hsb=>⟨HW,H'',?_,q''⟩⟩;refine I''.unpinned.turned (t':=s''.toks) (it:=C) (λb o hb e=>hsb.extBut b o hb e) g2 nC (.inr (ie I2.sz hC)) (λy c e=>?_) λp hp=>?_
 ·obtain⟨v,hv⟩:=I2.cell y c e
  exact fu (d7 hv.lt hC)
 ·exact fu (d7 (ee (I2.pin p hp).1) hC)
end
theorem Ai {D:dw}{o:HO}(h:H D=none):Ah H (upd H D o):=λb u e=>by rw[Aj (Am e h)];exact e
theorem As {D:dw}{o:HO}(h:H D=none):Ah H (upd H D o)/\upd H D o D=some o:=⟨Ai h,Ac⟩
theorem iA {fr:St}{tc:TT}{Q:VK}(n:Nat)(item:Nat->V)(acc:Nat->List V)(h0:acc 0=[])(hz:∀i,i<n->(acc i).length<sizeLine)
  (hgo:∀i H,i<n->Ah H1 H->J.go i H)(hy:∀i H x H',i<n->Ah H1 H->J.yld i H x H'->x=item i/\H'=H)(hst:∀H,Ah H1 H->J.stop n H)
  (turn:∀i H (R:Hp->Prop) (A:VK),i<n->Ah H1 H->(acc (i+1)=acc i->∀H',Ah H H'->R H')->(∀y H',acc (i+1)=acc i++[y]->Ah H H'->A y H') ->
   tc (some (item i)::fr) H λb H3=>if b=true then te (some (item i)::fr) H3 A else R H3)
  (fin:∀D H,H1 D=none->Ah H1 H->H D=some (.lst (acc n))->Q (.ref D) H):Vm J H1 fr tc te Q:=by
 intro D hD;refine⟨λi m H=>i<=n/\m=n-i/\Ah H1 H/\H D=some (.lst (acc i)),⟨n,fg _,rfl,Ai hD,by rw[Ac,h0]⟩,?_⟩;rintro i m H ⟨hi,rfl,sm,hl⟩
 by_cases h:i=n
 ·subst h
  exact .inl ⟨hst H sm,fin D H hD sm hl⟩
 ·have hlt:i<n:=jt hi h
  refine .inr ⟨hgo i H hlt sm,λx H' hyl=>?_⟩;obtain⟨rfl,rfl⟩:=hy i H x H' hlt sm hyl;refine turn i H' _ _ hlt sm (λea H3 s3=>?_) (λy H4 ea s4=>?_)
  ·exact⟨n-(i+1),by lia,by lia,rfl,sm.trans s3,by rw[ea];exact s3 _ _ hl⟩
  ·refine⟨acc i,s4 _ _ hl,hz i hlt,n-(i+1),by lia,by lia,rfl,λb u e=>?_,by rw[Ac,ea]⟩
   rw[Aj (Am e hD)];exact s4 _ _ (sm _ _ e)
theorem R3 {lo:Int}{n:Nat}{fr:St}{tc:TT}{Q:VK}(acc:Nat->List V)(h0:acc 0=[])(hz:∀i,i<n->(acc i).length<sizeLine)
  (turn:∀(i:Nat) H (R:Hp->Prop) (A:VK),i<n->Ah H1 H->(acc (i+1)=acc i->∀H',Ah H H'->R H')->(∀y H',acc (i+1)=acc i++[y]->Ah H H'->A y H') ->
   tc (some (.int (lo+i))::fr) H λb H3=>if b=true then te (some (.int (lo+i))::fr) H3 A else R H3)
  (fin:∀D H,H1 D=none->Ah H1 H->H D=some (.lst (acc n))->Q (.ref D) H):Vm (Itr lo n) H1 fr tc te Q:=
 iA n (λi=>.int (lo+i)) acc h0 hz (λi H hi _=>hi) (λi H x H' _ _ h=>⟨h.2,h.1⟩) (λH _=>d3 n) turn fin
theorem Ie {K:dn}{a:dw}{fr:St}{tc:TT}{Q:VK}(hl:SqL K H1 a xs)(acc:Nat->List V)(h0:acc 0=[])(hz:∀i,i<xs.length->(acc i).length<sizeLine)
  (turn:∀(i:Nat) x H (R:Hp->Prop) (A:VK),xs[i]?=some x->Ah H1 H->(acc (i+1)=acc i->∀H',Ah H H'->R H')->(∀y H',acc (i+1)=acc i++[y]->Ah H H'->A y H') ->
   tc (some x::fr) H λb H3=>if b=true then te (some x::fr) H3 A else R H3)
  (fin:∀D H,H1 D=none->Ah H1 H->H D=some (.lst (acc xs.length))->Q (.ref D) H):Vm (Itl K a) H1 fr tc te Q:=by
 refine iA xs.length (λi=>xs.getD i .non) acc h0 hz (λi H hi sm=>⟨xs,xs[i],sm.seq hl,by simp[hi]⟩) (λi H x H' hi sm h=>⟨?_,h.1⟩) (λH sm=>⟨xs,sm.seq hl,d3 _⟩) (λi H R A hi sm=>turn i _ H R A (by simp[hi]) sm) fin;have:=h.2 xs (sm.seq hl);simp[ge,this]
theorem lX:bootBuiltins "int"=some (.type "int"):=by decide +kernel
theorem yA:bootBuiltins "str"=some (.type "str"):=by decide +kernel
theorem kO:bootBuiltins "bool"=some (.type "bool"):=by decide +kernel
theorem Og:bootBuiltins "list"=some (.type "list"):=by decide +kernel
theorem Cd:bootBuiltins "len"=some (.builtin "len"):=by decide +kernel
theorem Bi:bootBuiltins "isinstance"=some (.builtin "isinstance"):=by decide +kernel
theorem zB:bootBuiltins "sum"=some (.builtin "sum"):=by decide +kernel
theorem pZ:bootBuiltins "min"=some (.builtin "min"):=by decide +kernel
theorem uL:bootBuiltins "max"=some (.builtin "max"):=by decide +kernel
structure Cal (P:fq) (w:gr) (K:dn) (mg:Za2) (base:im) (name:Str) (k:Nat) (ps:Za6) (sp:Sp):Prop where
 ex:∃(f:dw) (fd:i3),Ay P w K mg base CX0 k f fd ps sp/\Ed K fd ps []/\mg name=some (.ref f)/\jg K (.ref f)=true
section
variable {X:Cx} {k:Nat} {ps:Za6} {sp:Sp} {name m:Str} {p pos apos:Pos} {e o:gq} {es:List gq} {ta:TE} {t:TA}
theorem A4 (C:Cal X.prog X.w X.K X.mg X.base name k ps sp)(hr:B3 k X.A)(ha:PA X (e::es) t)(hg:autoParam (Gl X name) QD)(hdb:autoParam ((name==("__debug__":Str))=false) QF)
  (he:autoParam (starEach (e::es) X.env=(false,eval e X.env)::starEach es X.env) QD)(hpl:autoParam ((backTo pos (starEach es X.env)).any (·.1)=false) QD):PE X (.Call (.Name name p) (e::es) [] pos) (Xg sp [] E0 t):=by
 obtain⟨f,fd,F,b,hm,hk⟩:=C.ex;exact hX F hr hg hm hk b .nil Yj ha hdb he hpl
end
section
variable {X:Cx}
def Aa5 (K:dn):List V->Hp->VK->Prop:=λxs H Q=>∃x n t b,xs=[x,.ty n]/\Gj K H x t/\kitOne K t (.type n)=some b/\Q (.bl b) H
theorem Du:Ht X (.builtin "isinstance") (Aa5 X.K):=by
 intro pins s G H xs us Q I r h;obtain⟨x,n,t,b,rfl,ty,e,q⟩:=h;obtain⟨u,w',rfl,ru,rw'⟩:=Sc r;cases(show w'=iz n from rw');exact jF I ru ty e λtk=>⟨.bl b,H,I.tok tk,rfl,q⟩
theorem Xj {K:dn}:kitOne K (.type "str") (.type "str")=some true:=by rfl
end
theorem Ih {x y:Str}(h:x.cps.toList=y.cps.toList):x=y:=by
 obtain⟨a⟩:=x;obtain⟨b⟩:=y;have:a=b:=Array.toList_inj.mp h;rw[this]
def sgn (c:Nat):Str:=⟨#[c]⟩
def K2 (x:Str)(k:Nat):Str:=⟨(dv k x.cps.toList).flatten.toArray⟩
theorem Kt (x:Str)(k:Nat):(K2 x k).length=k*x.length:=by
 show(dv k x.cps.toList).flatten.toArray.size=k*x.cps.size;rw[gl,eV];simp
theorem Uc (a:Array Nat):∀(k:Nat) (acc:Array Nat),((dv k a).foldl (·++·) acc).toList=acc.toList++(dv k a.toList).flatten
 |0,acc=>by simp
 |k+1,acc=>by
  rw[ig,wa,Uc a k,ig];simp[gj]
section
variable {X:Cx}
def yI:R2:=λx y H Q=>∃z k,x=.str z/\y=.int k/\-(2 ^ 40)<k/\k<2 ^ 40/\z.length*k.toNat<=sizeLine/\z.length<=sizeLine/\Q (.str (K2 z k.toNat)) H
theorem N2:OpR X (binaryOp .Mult) yI:=by
 intro pins s G H x y v u Q I rx ry h;obtain⟨z,k,rfl,rfl,k1,k2,hz,hz2,q⟩:=h;obtain⟨t,rfl⟩:=rx;obtain⟨t',rfl⟩:=ry;have hs:=Op;have hs':=AQ;refine PySem.P.mul_str ?_ ?_ ?_ ?_
 ·rw[decide_eq_false (by lia),decide_eq_false (by lia)];rfl
 ·intro h1 _ hgt
  have hk:k<=2 ^ 40:=by lia
  have:(z.length:Int)<=(2 ^ 63-1)/k:=by
   rw[Int.le_ediv_iff_mul_le (by lia)];have e:(z.length:Int)*k=((z.length*k.toNat:Nat):Int):=by
    rw[BN,uf (by lia)]
   rw[e];lia
  lia
 ·intro _ _
  unfold FO
  simpa using hz
 ·split
  ·rename_i h1
   have e:K2 z k.toNat=t9:=by
    rw[show k.toNat=0 by lia];rfl
   rw[e] at q;exact⟨by decide,.str t9,H,I.tok _,⟨_,rfl⟩,q⟩
  ·rename_i h1
   split
   ·rename_i h2
    have e:K2 z k.toNat=z:=by
     refine Ih ?_;show(dv k.toNat z.cps.toList).flatten.toArray.toList=_;rcases Bool.or_eq_true_iff.mp h2 with h2|h2
     ·have:k=1:=by simpa using h2
      subst this;simp
     ·have:z.length=0:=by simpa using h2
      have e0:z.cps.toList=[]:=by
       have:z.cps.size=0:=this
       simpa using this
      rw[e0];simp
    rw[e] at q;exact⟨.str z,H,I,⟨_,rfl⟩,q⟩
   ·have e:(⟨(dv k.toNat z.cps).foldl (·++·) #[]⟩:Str)=K2 z k.toNat:=by
     refine Ih ?_;show((dv k.toNat z.cps).foldl (·++·) #[]).toList=_;rw[Uc];simp[K2]
    refine⟨?_,.str (K2 z k.toNat),H,I.tok _,⟨s.toks,by rw[e]⟩,q⟩;rw[e,Kt,DI];exact hz
theorem dL {ys:Za6}:∀{us:Za3},A3 (ys.map V.str) us->StrsAre us ys:=by
 induction ys with
 |nil=>intro us r;rw[yb] at r;cases r;exact .nil
 |cons y ys ih=>
  intro us r;rw[ju] at r
  cases r with
  |cons r1 r2=>
   obtain⟨t,e⟩:=r1;subst e;exact .cons y t (ih r2)
def tW (K:dn):V->List V->Hp->VK->Prop:=λx vs H Q=>∃sep p ys,x=.str sep/\vs=[.ref p]/\SqL K H p (ys.map V.str)/\(ys.map (·.length)).sum+ys.length*sep.length<=16777216/\Q (.str (zb sep ys)) H
theorem Vg:MtM X "str.join" (tW X.K):=by
 intro pins s G H x vs v us Q I rx rv h;obtain⟨sep,p,ys,rfl,rfl,hp,hz,q⟩:=h;obtain⟨t,rfl⟩:=rx;obtain⟨u,rfl,ru⟩:=rv.one;cases ru;obtain⟨its,r,pl,_⟩:=I.list hp;exact join_list pl.isList (by simpa using dL r) hz λt' k=>⟨.str (zb sep ys),H,I.tok k,⟨t',rfl⟩,q⟩
theorem Ul:∀(ys:Za6) (a:Array Nat),(ys.foldl (λacc p=>acc++("":Str).cps++p.cps) a).toList=a.toList++(ys.map λy=>y.cps.toList).flatten
 |[],a=>by simp
 |y::r,a=>by
  rw[wa,Ul r];have e:("":Str).cps=#[]:=rfl;rw[e];simp[gj]
theorem dS (ys:Za6):(zb ("":Str) ys).cps.toList=(ys.map λy=>y.cps.toList).flatten:=by
 show((ys.drop 1).foldl (λacc p=>acc++("":Str).cps++p.cps) (ys.headD t9).cps).toList=_;rw[Ul]
 cases ys with
 |nil=>rfl
 |cons y r=>simp
end
def Vv:gq->Bool
 |.Starred ..=>false
 |_=>true
theorem Yh {e:gq}{es:List gq}(h:Vv e=true):starEach (e::es) env=(false,eval e env)::starEach es env:=by
 cases e<;>first|rfl|cases h
section
variable {X:Cx} {e:gq} {es:List gq} {te:TE} {t:TA}
theorem xZ (ha:PE X e te)(hr:PA X es t)(hs:Vv e=true):PA X (e::es) (Fp te t):=gI ha hr (Yh hs)
end
structure PAi (X:Cx) (es:List gq) (t:TA):Prop where
 h:PA X es t
structure PEi (X:Cx) (e:gq) (t:TE):Prop where
 h:PE X e t
structure PSi (X:Cx) (st:io) (t:TS):Prop where
 h:PS X st t
structure rZ (X:Cx) (sts:List io) (t:TS):Prop where
 h:PSs X sts t
section
variable {X:Cx} {e a b:gq} {es:List gq} {te ta tb:TE} {t:TA} {pos:Pos} {st:io} {rest:List io} {u u2:TS}
theorem qE:PAi X [] Ld:=⟨Aa⟩
theorem Ki (ha:PE X e te)(hr:PAi X es t)(hs:Vv e=true):PAi X (e::es) (Fp te t):=⟨xZ ha hr.h hs⟩
theorem kW (h:PAi X es t):PEi X (.List es pos) (Th t):=⟨Ap h.h⟩
theorem si (h:PS X st u):PSi X st u:=⟨h⟩
theorem oG {i:Nat}{x:Str}{pos':Pos}(hN:X.N.Nodup)(hi:X.N[i]?=some x)(hx:Loc X.env.scope x)(he:PEi X e te)(hs:autoParam (swapsWith e (some (.Name x pos')) pos.line X.env=pure false) QD)(hf:autoParam (X.fn x=true\/X.env.scope.names.lookup x=some .local) QH) :
  PSi X (.Assign [.Name x pos'] e pos) (kE te (Eh i)):=⟨Mu hN hi hx he.h hs hf⟩
theorem Il (h1:PSi X st u)(h2:rZ X rest u2):rZ X (st::rest) (uU u u2):=⟨Ab h1.h h2.h⟩
theorem xJ (h1:PSi X st u):rZ X [st] u:=⟨Ae h1.h⟩
end
theorem us2 {P:Za3->Prop}(h:∀a b,P [a,b]):∀us:Za3,us.length=2->P us
 |[_,_],_=>h _ _
section
variable {G:St} {H:Hp} {D:Ji} {Q:VK} {t u:TS} {te ta tb:TE} {QB:Bool->Hp->Prop}
theorem xR (h:t { D with nx:=u D } G H):uU t u D G H:=h
theorem wS (h:D.nx G H):tV D G H:=h
theorem zI {g:TG}(h:te G H λx H1=>g x G H1 D.nx):kE te g D G H:=h
theorem sA {i:Nat}{v:V}{R:St->Hp->Prop}(h:R (G.set i (some v)) H):Eh i v G H R:=h
theorem zN (h:te G H D.rt):yY te D G H:=h
theorem vC (h:te G H λ_ H1=>D.nx G H1):nU te D G H:=h
theorem zH {c:TT}(h:c G H λb H1=>if b=true then t D G H1 else u D G H1):uV c t u D G H:=h
theorem yG {i:Nat}{ti:TIp}{x:V}(e:G[i]?=some (some x))(h:te G H λy H1=>ti x y H1 λz H2=>D.nx (G.set i (some z)) H2):wQ i te ti D G H:=⟨x,e,h⟩
theorem zC {i:Nat}{v:V}(e:G[i]?=some (some v))(h:Q v H):rG i G H Q:=⟨v,e,h⟩
theorem r_c {v:V}(h:Q v H):tC v G H Q:=h
theorem Aav {r:R2}(h:ta G H λx H1=>tb G H1 λy H2=>r x y H2 Q):tOp r ta tb G H Q:=h
theorem Aay {r:V->Hp->VK->Prop}(h:ta G H λx H1=>r x H1 Q):tUn r ta G H Q:=h
theorem Aax {g:Int->V}{i:Int}(h:Q (g i) H):rU g (.int i) H Q:=⟨i,rfl,h⟩
theorem yE {g:Int->Int->V}{i j:Int}(h:Q (g i j) H):rI0 g (.int i) (.int j) H Q:=⟨i,j,rfl,rfl,h⟩
theorem zG {f:Int->Int->Int}{i j:Int}(h:Q (.int (f i j)) H):ipI f (.int i) (.int j) H Q:=⟨i,j,rfl,rfl,h⟩
theorem xV {x:V}(e:rD x y=true)(h:Q (.bl (decide (x=y))) H):rEq x y H Q:=⟨e,h⟩
theorem zF {x:V}(e:rD x y=true)(h:Q (.bl (!decide (x=y))) H):rNe x y H Q:=⟨e,h⟩
theorem vY (h:te G H λx H'=>∃k,x=.bl k/\QB k H'):gU te G H QB:=h
theorem Aai (h:te G H λx H'=>∃k,x=.bl k/\QB k H'):tB te G H QB:=h
theorem Aar {k:Bool}{P:Bool->Prop}(h:P k):∃k',V.bl k=.bl k'/\P k':=⟨k,rfl,h⟩
theorem yD {c:TT}(h:c G H λb H1=>QB (!b) H1):zJ c G H QB:=h
theorem xS {c d:TT}(h:c G H λb H1=>if b=true then d G H1 QB else QB false H1):xW c d G H QB:=h
theorem Aaj {c d:TT}(h:c G H λb H1=>if b=true then QB true H1 else d G H1 QB):tOr c d G H QB:=h
theorem xH (h:ta G H λx H1=>∃c,x=.bl c/\if c=true then tb G H1 Q else Q (.bl false) H1):uE ta tb G H Q:=h
theorem vX (h:ta G H λx H1=>∃c,x=.bl c/\Q (.bl (!c)) H1):uJ ta G H Q:=h
theorem zT {c:TT}(h:c G H λb H1=>if b=true then ta G H1 Q else tb G H1 Q):tIf c ta tb G H Q:=h
theorem Aab (h:ta G H λx H1=>Q (.bl (decide (x=.non))) H1):xU ta G H Q:=h
theorem uW (h:ta G H λx H1=>Q (.bl (!decide (x=.non))) H1):uK ta G H Q:=h
theorem rK {r r':R2}{tc:TE}(h:ta G H λx H1=>tb G H1 λy H2=>r x y H2 λz H3=>∃k,z=.bl k/\(if k=true then tc G H3 λw' H4=>r' y w' H4 Q else Q (.bl false) H3)):dW r r' ta tb tc G H Q:=h
theorem zY (h:QB true H):Aac G H QB:=h
variable {tA tR:TA} {QA:List V->Hp->Prop}
theorem zL (h:QA [] H):Ld G H QA:=h
theorem xO (h:te G H λx H1=>tR G H1 λxs H2=>QA (x::xs) H2):Fp te tR G H QA:=h
theorem vW {E:XK}(h:tA G H λvs H1=>sp (vs++[]) H1 Q E):Xg sp [] E tA G H Q:=h
theorem Aak {r:List V->Hp->VK->Prop}(h:tA G H λvs H1=>r vs H1 Q):tCB r tA G H Q:=h
theorem yX (h:tA G H λxs H1=>xs.length<=sizeLine/\∀p,H1 p=none->Q (.ref p) (upd H1 p (.lst xs))):Th tA G H Q:=h
theorem zQ (h:tA G H λxs H1=>xs.length<=sizeLine/\∀p,H1 p=none->Q (.ref p) (upd H1 p (.tup xs))):zX tA G H Q:=h
theorem Aao {K:dn}{T:String}{r:V->List V->Hp->VK->Prop}(h:te G H λx H1=>tyV K T x H1/\tA G H1 λxs H2=>r x xs H2 Q):tBM K T r te tA G H Q:=h
theorem Aaf {r:V->Option Int->Option Int->Hp->VK->Prop}{tl th:TO}(h:te G H λx H1=>tl G H1 λl H2=>th G H2 λu H3=>r x l u H3 Q):tSl r te tl th G H Q:=h
theorem kY {QO:Option Int->Hp->Prop}(h:QO none H):fS G H QO:=h
theorem uX {QO:Option Int->Hp->Prop}(h:te G H λx H1=>∃i,x=.int i/\QO (some i) H1):uH te G H QO:=h
theorem yO {P:Int->Prop}{i:Int}(h:P i):∃j,V.int i=.int j/\P j:=⟨i,rfl,h⟩
def lQ (J:It)(g:TG)(tb:TS)(D:Ji)(G:St)(H1:Hp):Prop:=∃W:Nat->Nat->St->Hp->Prop,(∃m,W 0 m G H1)/\∀i m G H,W i m G H ->
 (J.stop i H/\D.nx G H)\/(J.go i H/\∃N:St->Hp->Prop,(∀mt H',N mt H'->∃m',m'<m/\W (i+1) m' mt H')/\∀x H',J.yld i H x H'->g x G H' λHF H2=>tb { D with nx:=N,ct:=N,bk:=D.nx } HF H2)
theorem zE {g:TG}(h:wi G H λJ H1=>lQ J g t D G H1):yQ wi g t D G H:=h
theorem wC {R:It->Hp->Prop}(h:tA G H λvs H1=>∃j:Int,vs=[.int j]/\-(2 ^ 62)<=j/\j<2 ^ 62/\R (Itr 0 j.toNat) H1):tT tA G H R:=h
theorem vO {R:It->Hp->Prop}(h:tA G H λvs H1=>∃i j:Int,vs=[.int i,.int j]/\(-(2 ^ 62)<=i/\i<2 ^ 62/\-(2 ^ 62)<=j/\j<2 ^ 62)/\R (Itr i (j-i).toNat) H1):uM tA G H R:=h
theorem sX {K:dn}{R:It->Hp->Prop}(h:te G H λx H1=>∃a,x=.ref a/\(∃xs,SqL K H1 a xs)/\R (Itl K a) H1):tI K te G H R:=h
theorem Aas {tc:TT}(h:wi G H λJ H1=>Vm J H1 (frV G ix) tc te Q):tLc wi ix tc te G H Q:=h
theorem Bk {K:dn}{p:dw}{i:Int}{v:V}(hs:SqL K H p xs)(e:atI xs i=some v)(h:Q v H):xD K (.ref p) (.int i) H Q:=⟨p,xs,i,v,rfl,rfl,hs,e,h⟩
theorem Xb {K:dn}{p:dw}{i:Int}{v:V}(hs:SqT K H p xs)(e:atI xs i=some v)(h:Q v H):uY K (.ref p) (.int i) H Q:=⟨p,xs,i,v,rfl,rfl,hs,e,h⟩
theorem Bv {l:dw}(hl:H l=some (.lst xs))(hz:xs.length<sizeLine)(h:Q .non (upd H l (.lst (xs++[y])))):fP (.ref l) [y] H Q:=⟨l,xs,y,rfl,rfl,hl,hz,h⟩
end
theorem Rn {c:TT}{tb:TS}{D:Ji}{G:St}(Pv:St->Hp->Prop)(μ:St->Hp->Nat)(h0:Pv G H)
  (hs:∀m G H,Pv G H->μ G H=m->c G H λb H1=>if b=true then ∃N:St->Hp->Prop,(∀mt H',N mt H'->∃m',m'<m/\(Pv mt H'/\μ mt H'=m'))/\tb { D with nx:=N,ct:=N,bk:=D.nx } G H1 else D.nx G H1):mR c tb D G H:=
 ⟨λm G H=>Pv G H/\μ G H=m,⟨_,h0,rfl⟩,λm G H h=>hs m G H h.1 h.2⟩
theorem Zv {tb:TS}{rt:VK}{bk:St->Hp->Prop}{G:St}{Pv:St->Hp->Prop}{μ:St->Hp->Nat}{m:Nat}
  (h:tb { nx:=λmt H'=>Pv mt H'/\μ mt H'<m,rt:=rt,bk:=bk,ct:=λmt H'=>Pv mt H'/\μ mt H'<m } G H1) :
  ∃N:St->Hp->Prop,(∀mt H',N mt H'->∃m',m'<m/\(Pv mt H'/\μ mt H'=m'))/\tb { nx:=N,rt:=rt,bk:=bk,ct:=N } G H1:=⟨_,λmt H' z=>⟨_,z.2,z.1,rfl⟩,h⟩
section
variable {H:Hp} {Q:VK} {g:Int->Int->V} {i j:Int}
theorem tN (c:0<j)(h:Q (g i j) H):rI (λ_ j=>0<j) g (.int i) (.int j) H Q:=⟨i,j,rfl,rfl,c,h⟩
theorem tZ (c1:0<j)(c2:j<1073741824)(h:Q (g i j) H):rI yL g (.int i) (.int j) H Q:=⟨i,j,rfl,rfl,⟨c1,c2⟩,h⟩
theorem Rb (c1:-(2 ^ 64)<j)(c2:j<2 ^ 64)(h:Q (g i j) H):rI mF g (.int i) (.int j) H Q:=⟨i,j,rfl,rfl,.inr ⟨c1,c2⟩,h⟩
theorem mH (c1:-(2 ^ 64)<i)(c2:i<2 ^ 64)(h:Q (g i j) H):rI mF g (.int i) (.int j) H Q:=⟨i,j,rfl,rfl,.inl ⟨c1,c2⟩,h⟩
end
theorem B5 {c A B:Prop}[Decidable c](h1:c->A)(h2:¬ c->B):if decide c=true then A else B:=by
 by_cases h:c
 ·rw[decide_eq_true h,if_pos rfl]
  exact h1 h
 ·rw[decide_eq_false h,if_neg gg]
  exact h2 h
theorem Uv {c A B:Prop}[Decidable c](h1:¬ c->A)(h2:c->B):if(!decide c)=true then A else B:=by
 by_cases h:c
 ·rw[decide_eq_true h,if_neg (by decide)]
  exact h2 h
 ·rw[decide_eq_false h,if_pos (by decide)]
  exact h1 h
def yT (c:TT)(t u:TS):TS:=λD G H=>∃J:St->Hp->Prop,(∀G H,J G H->D.nx G H)/\c G H λb H1=>if b=true then t { D with nx:=J } G H1 else u { D with nx:=J } G H1
theorem Ot {c:gq}{a b:List io}{tc:TT}{t u:TS}(hc:PT X c tc)(ha:PSs X a t)(hb:PSs X b u):PS X (.If c a b pos) (yT tc t u):=by
 k_end;obtain⟨J,hJ,h⟩:=h;refine thn (Bj hc ha hb pins s G H { D with nx:=J } I h) λf s' q=>?_
 cases f with
 |next=>
  obtain⟨mt,H',I',q'⟩:=q;exact⟨mt,H',I',hJ _ _ q'⟩
 |brk=>exact q
 |cont=>exact q
 |ret u=>exact q
theorem Uo {c:TT}{t u:TS}{D:Ji}{G:St}(J:St->Hp->Prop)(h:c G H λb H1=>if b=true then t { D with nx:=J } G H1 else u { D with nx:=J } G H1)(hJ:∀G H,J G H->D.nx G H):yT c t u D G H:=⟨J,hJ,h⟩
theorem rL {α:Type}{xs:List α}{i:Int}{v:α}(h0:0<=i)(h:xs[i.toNat]?=some v):atI xs i=some v:=by
 have:=Bf (xs:=xs) (j:=i.toNat) h
 rwa [uf h0] at this
def Its (z:Str):It:=⟨λi _=>i<z.cps.size,λi H x H'=>H'=H/\∃c,z.cps[i]?=some c/\x=.str (sgn c),λi _=>z.cps.size<=i⟩
section
variable {X:Cx} {tg:gq}
def yZ (tl:TE):TI:=λG H R=>tl G H λx H1=>∃z,x=.str z/\R (Its z) H1
theorem pQ {P:fq}{K:dn}{z:Str}{ty:String}{t:Tok}(hty:ty="str_ascii_iterator"\/ty="str_iterator")
  (W:∀A':ii,A'.handled=none->Walks P w A' it [it] [it] z.cps.size (SignAt z) (λi h=>h.IsStrIter it ty z t i))
  (hself:∀(A:ii) (i:Nat) (s:eg) (Q:Za0) (E:Za0),s.heap.IsStrIter it ty z t i->Q (.ref it) s->wpAny (model P w) A (pyIter (.ref it)) Q E s):Ob P w K tg (Its z) [it] it (λi h=>h.IsStrIter it ty z t i) where
 mem:=by simp
 obj:=λi h st b hb=>by
  have e:b=it:=by simpa using hb
  subst e;obtain⟨o,e,c,d⟩:=st;exact⟨o,e,λv z=>by rw[d] at z;cases z⟩
 keep:=λi h h' st k=>let ⟨o,ho,r⟩:=st;⟨o,k it (by simp) o ho,r⟩
 item:=by
  intro X hP hw hK hc i pins s G H E I hf st hg;subst hP hw hK;obtain⟨f0,f1,f2,f3,f4,f5⟩:=hf it (by simp);refine(W X.A (I.ok.hd hc)).item i s _ _ hg st λv h' tk hv st' kk=>?_;obtain⟨c,u,hc',rfl⟩:=hv;have I1:Inv X pins G H { s with heap:=h',toks:=tk }:=I.turned (λb o hb e=>kk b o (by simpa using hb) e) f0 f1 f3 f4 f5;obtain⟨o,e,cc,d⟩:=id st';exact⟨_,rfl,kT (s:={ s with heap:=h',toks:=tk }) e cc d (by rcases hty with rfl|rfl<;>decide) ⟨.str (sgn c),H,I1,⟨u,rfl⟩,⟨rfl,c,hc',rfl⟩,st',λb hb=>(hf b hb).1⟩⟩
 done:=by
  intro X hP hw hK hc i pins s G H E I hf st hg;subst hP hw hK;obtain⟨f0,f1,f2,f3,f4,f5⟩:=hf it (by simp);rcases hty with rfl|rfl
  ·exact wpAny_pyNext_ascii_end (I.ok.hd hc) st (n6 hg) λh' eb=>⟨rfl,I.turned (t':=s.toks) (λb o hb e=>eb b o hb e) f0 f1 f3 f4 f5⟩
  ·exact wpAny_pyNext_wide_end (I.ok.hd hc) st (n6 hg) λh' eb=>⟨rfl,I.turned (t':=s.toks) (λb o hb e=>eb b o hb e) f0 f1 f3 f4 f5⟩
 self:=λA i s Q E st h=>hself A i s Q E st h
theorem pG {l:gq}{tl:TE}(hl:PE X l tl):PI X tg l (yZ tl):=by
 intro pins s G H R I h;refine thE hl I h λv s1 x H1 I1 r1 q1=>?_;obtain⟨z,e,q⟩:=q1;subst e;obtain⟨t,rfl⟩:=r1;have fin:∀(o:Obj) (ty:String),(ty="str_ascii_iterator"\/ty="str_iterator")->(∀A':ii,A'.handled=none->Walks X.prog X.w A' s1.heap.objs.size [s1.heap.objs.size] [s1.heap.objs.size] z.cps.size (SignAt z) (λi h=>h.IsStrIter s1.heap.objs.size ty z t i)) ->
   (∀(A:ii) (i:Nat) (s:eg) (Q:Za0) (E:Za0),s.heap.IsStrIter s1.heap.objs.size ty z t i->Q (.ref s1.heap.objs.size) s->wpAny (model X.prog X.w) A (pyIter (.ref s1.heap.objs.size)) Q E s) ->
   (s1.heap.push o).IsStrIter s1.heap.objs.size ty z t 0->PIE X pins G tg R (.ref s1.heap.objs.size) { s1 with heap:=s1.heap.push o }:=λo ty hty W hs h0=>by
  refine⟨s1.heap.objs.size,[s1.heap.objs.size],_,_,H1,rfl,I1.kept (t':=s1.toks) λb o e=>d4 _ e,pQ hty W hs,h0,λb hb=>?_,q⟩;have e:b=s1.heap.objs.size:=by simpa using hb
  subst e;exact I1.fpOk (d3 _) (I1.hok.fresh (d3 _))
 cases ha:z.cps.all (· < 128)
 ·exact wpAny_pyIter_wide ha (fin _ _ (.inr rfl) (λA' hA=>Walks.strWide hA _ z t) (λA i s Q E st h=>wpAny_pyIter_striter_wide st h) ⟨_,gk _ rfl,rfl,rfl⟩)
 ·exact wpAny_pyIter_ascii ha (fin _ _ (.inl rfl) (λA' hA=>Walks.strAscii hA _ z t) (λA i s Q E st h=>wpAny_pyIter_striter_ascii st h) ⟨_,gk _ rfl,rfl,rfl⟩)
end
theorem xI {tl:TE}{G:St}{R:It->Hp->Prop}(h:tl G H λx H1=>∃z,x=.str z/\R (Its z) H1):yZ tl G H R:=h
def oE (z:Str)(lo hi:Option Int):Str:=⟨((z.cps.toList.drop (HT.sIx z.cps.size 0 lo)).take (HT.sIx z.cps.size z.cps.size hi-HT.sIx z.cps.size 0 lo)).toArray⟩
def Aag:V->Option Int->Option Int->Hp->VK->Prop:=λx lo hi H Q=>∃z,x=.str z/\z.length<=sizeLine/\Q (.str (oE z lo hi)) H
theorem yB (lo hi:Option Int)(n:Nat):ou lo hi 1 n=(et (HT.sIx n n hi-HT.sIx n 0 lo)).map (HT.sIx n 0 lo + ·):=by
 have e:ou lo hi 1 n=sliceRange ((HT.sIx n 0 lo:Nat):Int) ((HT.sIx n n hi:Nat):Int) 1:=by
  unfold ou;dsimp only;congr 1
  ·cases lo with
   |none=>simp[HT.sIx]
   |some i=>
    simp only[HT.sIx,show(1:Int)>0 by decide,if_true]
    by_cases h:i<0
    ·simp only[h,if_true]
     lia
    ·simp only[h,if_false]
     lia
  ·cases hi with
   |none=>simp[HT.sIx]
   |some i=>
    simp only[HT.sIx,show(1:Int)>0 by decide,if_true]
    by_cases h:i<0
    ·simp only[h,if_true]
     lia
    ·simp only[h,if_false]
     lia
 rw[e,FE]
theorem nQ (z:Str)(t:Tok)(l u:Option (Int×Tok)):(sliceMade z t l u none=.val (.str z t)/\oE z (l.map (·.1)) (u.map (·.1))=z)\/sliceMade z t l u none=.str (oE z (l.map (·.1)) (u.map (·.1))):=by
 have hp:slicePicked z l u none=(et (HT.sIx z.length z.length (u.map (·.1))-HT.sIx z.length 0 (l.map (·.1)))).map (HT.sIx z.length 0 (l.map (·.1)) + ·):=yB _ _ _;have hc:(slicePicked z l u none).filterMap (z.cps[·]?)=(oE z (l.map (·.1)) (u.map (·.1))).cps.toList:=by
  rw[hp,pick_run];rfl
 unfold sliceMade;split
 ·rename_i hw
  left
  refine⟨rfl,Ih ?_⟩;have hlen:(slicePicked z l u none).length=z.length:=by simpa using hw
  rw[hp,du,fh] at hlen;have h1:=HT.sIx_le z.length 0 (fg _) (l.map (·.1));have h2:=HT.sIx_le z.length z.length (d3 _) (u.map (·.1));have e1:HT.sIx z.length 0 (l.map (·.1))=0\/z.length=0:=by lia
  show((z.cps.toList.drop (HT.sIx z.cps.size 0 (l.map (·.1)))).take _).toArray.toList=_;rw[show z.cps.size=z.length from rfl] at *;rcases e1 with e1|e1
  ·rw[e1,mz] at hlen
   rw[e1,hlen,mz,td,ku];exact fm (by simp[Str.length])
  ·have:z.cps.toList=[]:=by
    have:z.cps.size=0:=e1
    simpa using this
   rw[this];simp
 ·right
  rw[hc]
section
variable {X:Cx}
theorem pD:SlR X Aag:=by
 intro pins s G H x v vl vu lo hi sl Q I rx hs pl pu h;obtain⟨z,rfl,hz,q⟩:=h;obtain⟨t,rfl⟩:=rx;refine⟨"str",_,PySem.F.slot_str_getitem.lookup,typeIs_str _ _ _,?_⟩;obtain⟨l,el,el'⟩:∃l:Option (Int×Tok),vl=partValue l/\lo=l.map (·.1):=by
  cases pl with
  |none=>exact⟨none,rfl,rfl⟩
  |int i t=>exact⟨some (i,t),rfl,rfl⟩
 obtain⟨u,eu,eu'⟩:∃u:Option (Int×Tok),vu=partValue u/\hi=u.map (·.1):=by
  cases pu with
  |none=>exact⟨none,rfl,rfl⟩
  |int i t=>exact⟨some (i,t),rfl,rfl⟩
 subst el el' eu eu';refine wpAny_getItem_str_slice (l:=l) (u:=u) (st:=none) hs rfl ?_;rcases nQ z t l u with⟨e,e2⟩|e
 ·rw[e]
  rw[e2] at q;exact⟨.str z,H,I,⟨t,rfl⟩,q⟩
 ·rw[e]
  refine⟨?_,.str _,H,I.tok _,⟨_,rfl⟩,q⟩;refine ie ?_ hz;show(FJ _ (FK _ z.cps.toList)).toArray.size<=z.cps.size;rw[gl,d9,ib];simp;lia
end
theorem tM:bootBuiltins "zip"=some (.type "zip"):=by decide +kernel
theorem Hy:bootBuiltins "enumerate"=some (.type "enumerate"):=by decide +kernel
theorem Inv.turnT {G:List (Option V)}{wr:List dw}{T:dw}(I:Inv X pins G H s)
  (k:∀b o,b∉wr->s.heap.get? b=some o->h'.get? b=some o)(hf:∀b∈wr,Nw X pins H b)(hT:s.heap.objs.size<=T)(hI:h'.IsTuple T us.toArray)(rv:A3 xs us)(hz:xs.length<=sizeLine) :
  Inv X pins G (upd H T (.tup xs)) { s with heap:=h',toks:=t' }:=by
 have hn:H T=none:=I.hok.fresh hT;have nT:∀b u,H b=some u->b≠T:=λb u e=>Am e hn;have nW:∀b u,H b=some u->b∉wr:=λb u e z=>by rw[(hf b z).1] at e;cases e
 refine I.step (g':=s.gens) (d':=s.drawn) (ch:=wr) (λb hb=>?_) (λb o _ _ hc e _=>k b o hc e) (λb o _ _ hc e _=>⟨o.slots,k b o hc e⟩) (λb o hc e n=>?_)
  (λb o hc e=>⟨o,k b o hc e⟩) (λb xs e=>by rw[Aj (nT _ _ e)];exact e) (λb o u e=>by rw[Aj (nT _ _ e)];exact e) (λb ps e=>⟨#[],by rw[Aj (nT _ _ e),e];simp⟩) (λm hm=>?_) (λb u e=>?_) I.bare
 ·obtain⟨_,f1,_,f3,f4,f5⟩:=hf b hb
  exact⟨f3,f1,f4,f5⟩
 ·rw[Aj (fu (d7 (ee e) hT))]
  exact n
 ·obtain⟨o,es,ep,ho,r⟩:=hm
  exact⟨o,es,ep,k _ o (λz=>(hf _ z).2.1 rfl) ho,r⟩
 ·by_cases hb:b=T
  ·subst hb
   rw[Ac] at e;cases e;exact⟨hz,us,rv,hI⟩
  ·rw[Aj hb] at e
   refine(I.hok b u e).stay (λc v hc q=>k c v ?_ q) (λc q=>by rw[Aj (nT _ _ q)];exact q) λc ys q=>by rw[Aj (nT _ _ q)];exact q
   rcases hc with z|z
   ·rw[z];exact nW b u e
   ·exact nW c _ z
theorem Inv.turnW {G:List (Option V)}{wr:List dw}(I:Inv X pins G H s)
  (k:∀b o,b∉wr->s.heap.get? b=some o->h'.get? b=some o)(hf:∀b∈wr,Nw X pins H b):Inv X pins G H { s with heap:=h',toks:=t' }:=by
 have nW:∀b u,H b=some u->b∉wr:=λb u e z=>by rw[(hf b z).1] at e;cases e
 refine I.step (g':=s.gens) (d':=s.drawn) (ch:=wr) (λb hb=>?_) (λb o _ _ hc e _=>k b o hc e) (λb o _ _ hc e _=>⟨o.slots,k b o hc e⟩) (λb o hc e n=>n)
  (λb o hc e=>⟨o,k b o hc e⟩) (λ_ _ e=>e) (λ_ _ _ e=>e) (λb ps e=>⟨#[],by rw[e];simp⟩) (λm hm=>?_) (λb u e=>?_) I.bare
 ·obtain⟨_,f1,_,f3,f4,f5⟩:=hf b hb
  exact⟨f3,f1,f4,f5⟩
 ·obtain⟨o,es,ep,ho,r⟩:=hm
  exact⟨o,es,ep,k _ o (λz=>(hf _ z).2.1 rfl) ho,r⟩
 ·refine(I.hok b u e).stay (λc v hc q=>k c v ?_ q) (λ_ q=>q) λ_ _ q=>q
  rcases hc with z|z
  ·rw[z];exact nW b u e
  ·exact nW c _ z
theorem Eb {a b:dw}{o u:Obj}(h1:h.get? a=some o)(h2:h.get? b=some u)(d:o.cls≠u.cls):a≠b:=λe=>by
 subst e;rw[h1] at h2;cases h2;exact d rfl
def Itz (K:dn)(a b:dw):It:=
 ⟨λi H=>∃xs ys x y,SqL K H a xs/\SqL K H b ys/\xs[i]?=some x/\ys[i]?=some y,
  λi H v H'=>∃t x y,H t=none/\v=.ref t/\(∀xs,SqL K H a xs->xs[i]?=some x)/\(∀ys,SqL K H b ys->ys[i]?=some y)/\H'=upd H t (.tup [x,y]),
  λi H=>∃xs ys,SqL K H a xs/\SqL K H b ys/\i=min xs.length ys.length⟩
def StZ (z TI TO i1 i2 l1 l2:dw)(i:Nat)(h:im):Prop:=IsZip h z TI TO .none/\pj h TI (.ref i1) (.ref i2)/\(∃a b,pj h TO a b)/\h.IsListIter i1 l1 i/\h.IsListIter i2 l2 i
structure Zg (z TI TO i1 i2:dw):Prop where
 TIz:TI≠z
 TOz:TO≠z
 i1z:i1≠z
 i2z:i2≠z
 TITO:TI≠TO
 TIi1:TI≠i1
 TIi2:TI≠i2
 TOi1:TO≠i1
 TOi2:TO≠i2
 i12:i1≠i2
theorem Z7 {TI TO a b:dw}{i:Nat}{xs ys:Array ed}(D:Zg z TI TO i1 i2)(st:StZ z TI TO i1 i2 a b i h)(ha:h.IsList a xs)(hb:h.IsList b ys):wc z TI TO i1 i2 a b:=by
 obtain⟨hz,hTI,⟨u,v,hTO⟩,⟨o1,e1,c1,_⟩,⟨o2,e2,c2,_⟩⟩:=st;obtain⟨oa,ea,ca,_⟩:=ha;obtain⟨ob,eb,cb,_⟩:=hb;refine⟨D.TIz,D.TOz,D.i1z,D.i2z,D.TITO,D.TIi1,D.TIi2,D.TOi1,D.TOi2,D.i12,Eb ea hz ?_,Eb ea hTO ?_,Eb ea e1 ?_,Eb ea e2 ?_,Eb eb hz ?_,Eb eb hTO ?_,Eb eb e1 ?_,Eb eb e2 ?_⟩
 ·rw[ca];exact show iz "list"≠iz "zip" by decide
 ·rw[ca];exact show iz "list"≠iz "tuple" by decide
 ·rw[ca,c1];decide
 ·rw[ca,c2];decide
 ·rw[cb];exact show iz "list"≠iz "zip" by decide
 ·rw[cb];exact show iz "list"≠iz "tuple" by decide
 ·rw[cb,c1];decide
 ·rw[cb,c2];decide
theorem Ru (n:Nat):Zg (n+4) (n+2) (n+3) n (n+1):=by
 constructor<;>(intro h;have h:(_:Nat)=_:=h;lia)
theorem zD {n c:Nat}(h:c=n+4\/c=n+2\/c=n+3\/c=n\/c=n+1):n<=c:=by lia
theorem fZ {n c:Nat}(h:c=n+1\/c=n):n<=c:=by lia
theorem fC (n:Nat):n+1≠n:=by lia
theorem nK {P:fq}{K:dn}{k:Nat}(z TI TO i1 i2 a b:dw)(D:Zg z TI TO i1 i2) :
  Ob P w K (.Tuple elts k pos) (Itz K a b) [z,TI,TO,i1,i2] z (StZ z TI TO i1 i2 a b) where
 mem:=by simp
 obj:=λi h st c hc=>by
  obtain⟨hz,hTI,⟨u,v,hTO⟩,⟨o1,e1,c1,d1⟩,⟨o2,e2,c2,d2⟩⟩:=st;simp only[gd,i5,or_false] at hc;rcases hc with rfl|rfl|rfl|rfl|rfl
  ·exact⟨_,hz,λv z=>by cases z⟩
  ·exact⟨_,hTI,λv z=>by cases z⟩
  ·exact⟨_,hTO,λv z=>by cases z⟩
  ·exact⟨_,e1,λv z=>by rw[d1] at z;cases z⟩
  ·exact⟨_,e2,λv z=>by rw[d2] at z;cases z⟩
 keep:=λi h h' st kk=>by
  obtain⟨hz,hTI,⟨u,v,hTO⟩,h1,h2⟩:=st;exact⟨kk _ (by simp) _ hz,kk _ (by simp) _ hTI,⟨u,v,kk _ (by simp) _ hTO⟩,h1.at λo e=>kk _ (by simp) o e,h2.at λo e=>kk _ (by simp) o e⟩
 item:=by
  intro X hP hw hK hc i pins s G H E I hf st hg;subst hP hw hK;obtain⟨xs,ys,x,y,ha,hb,hx,hy⟩:=hg;obtain⟨its,rv,p,hz⟩:=I.list ha;obtain⟨its2,rv2,p2,hz2⟩:=I.list hb;have W:=BU (prog:=X.prog) (w:=X.w) (A:=X.A) (I.ok.hd hc) z TI TO i1 i2 a b (Z7 D st p.isList p2.isList) its.toArray its2.toArray;obtain⟨u1,hu1,ru1⟩:=rv.get hx;obtain⟨u2,hu2,ru2⟩:=rv2.get hy;have l1:=(fc.mp hu1).1;have l2:=(fc.mp hu2).1;obtain⟨s1,s2,s3,s4,s5⟩:=id st;refine W.item i s _ _ (by simp;lia) ⟨s1,s2,s3,s4,s5,p.isList,p2.isList⟩ λT vals h' tk hv hT hTu mid kk=>?_;obtain⟨v1,v2,e1,e2,rfl⟩:=hv;have e1:v1=u1:=by have:=e1;simp only[ot] at this;rw[hu1] at this;exact(d0 this).symm
  have e2:v2=u2:=by have:=e2;simp only[ot] at this;rw[hu2] at this;exact(d0 this).symm
  subst e1 e2;have nT:=W.apart i T h' mid;refine⟨.ref T,rfl,W.go elts k pos i T { s with heap:=h',toks:=tk } _ _ mid λh'' st'' kk2=>?_⟩;have hTu2:h''.IsTuple T ([v1,v2]:Za3).toArray:=by
   obtain⟨o,e,r⟩:=hTu;exact⟨o,kk2 T o nT e,r⟩
  have I2:Inv X pins G (upd H T (.tup [x,y])) { s with heap:=h'',toks:=tk }:=I.turnT (t':=tk) (λb o hb e=>kk2 b o hb (kk b o hb e)) (λb hb=>hf b (by simp at hb ⊢;rcases hb with rfl|rfl|rfl|rfl<;>simp)) hT hTu2 (.cons ru1 (.cons ru2 .nil)) (show 2<=sizeLine by decide)
  refine⟨.ref T,_,I2,rfl,⟨T,x,y,I.hok.fresh hT,rfl,λxs' h=>by rw[I.list_inj h ha];exact hx,λys' h=>by rw[I.list_inj h hb];exact hy,rfl⟩,⟨st''.1,st''.2.1,st''.2.2.1,st''.2.2.2.1,st''.2.2.2.2.1⟩,λc hc'=>?_⟩;have hlt:c<s.heap.objs.size:=by
   obtain⟨q,⟨t1,t2,t3⟩⟩:c∈[z,TI,TO,i1,i2]/\(IsZip s.heap z TI TO .none/\pj s.heap TI (.ref i1) (.ref i2)/\True):=⟨hc',s1,s2,trivial⟩;obtain⟨u,v,s3⟩:=s3;obtain⟨o4,s4,_⟩:=s4;obtain⟨o5,s5,_⟩:=s5;simp only[gd,i5,or_false] at hc';rcases hc' with rfl|rfl|rfl|rfl|rfl
   ·exact ee s1
   ·exact ee s2
   ·exact ee s3
   ·exact ee s4
   ·exact ee s5
  rw[Aj (fu (d7 hlt hT))];exact(hf c hc').1
 done:=by
  intro X hP hw hK hc i pins s G H E I hf st hg;subst hP hw hK;obtain⟨xs,ys,ha,hb,hi⟩:=hg;obtain⟨its,rv,p,hz⟩:=I.list ha;obtain⟨its2,rv2,p2,hz2⟩:=I.list hb;have W:=BU (prog:=X.prog) (w:=X.w) (A:=X.A) (I.ok.hd hc) z TI TO i1 i2 a b (Z7 D st p.isList p2.isList) its.toArray its2.toArray;have hl:=rv.length;have hl2:=rv2.length;have hi2:i=min its.toArray.size its2.toArray.size:=by rw[hi,hl,hl2];simp
  obtain⟨s1,s2,s3,s4,s5⟩:=id st;refine W.done s _ _ (by rw[<-hi2];exact⟨s1,s2,s3,s4,s5,p.isList,p2.isList⟩) λh' tk kk=>⟨rfl,?_⟩;exact I.turnW (t':=tk) kk λb hb=>hf b (by simp at hb ⊢;rcases hb with rfl|rfl|rfl|rfl<;>simp)
 self:=λ_ _ _ _ _ st h=>wu st.1 h
section
variable {X:Cx} {elts:List gq} {k:Nat} {tpos:Pos}
def yM (K:dn)(ta:TA):TI:=λG H R=>ta G H λvs H1=>∃a b,vs=[.ref a,.ref b]/\(∃xs,SqL K H1 a xs)/\(∃ys,SqL K H1 b ys)/\R (Itz K a b) H1
theorem eA {a b:gq}{ta:TA}{p:Pos}(hg:Gl X "zip")(hm:X.mg "zip"=none)(ha:PA X [a,b] ta)(hs:autoParam (starEach [a,b] X.env=[(false,eval a X.env),(false,eval b X.env)]) QD)(hs2:autoParam (starEach [b] X.env=[(false,eval b X.env)]) QD) :
  PI X (.Tuple elts k tpos) (.Call (.Name "zip" p) [a,b] [] pos) (yM X.K ta):=by
 intro pins s G H R I h;refine Call_ (Ev I hg hm tM (il (thA ha I h λus s1 vs H1 I1 r1 q1=>?_) (by rw[hs,hs2]) (by rw[hs2];rfl)));obtain⟨a,b,e,⟨xs,hx⟩,⟨ys,hy⟩,q⟩:=q1;subst e;obtain⟨u,v,rfl,ru,rv⟩:=Sc r1;cases ru;cases rv;obtain⟨its,rv,p,hz⟩:=I1.list hx;obtain⟨its2,rv2,p2,hz2⟩:=I1.list hy;refine call_zip_2 p.isList p2.isList λh' g1 g2 g3 g4 g5 hsz kk=>?_;refine wu (s:={ s1 with heap:=h' }) g1 ?_;refine⟨s1.heap.objs.size+4,[s1.heap.objs.size+4,s1.heap.objs.size+2,s1.heap.objs.size+3,s1.heap.objs.size,s1.heap.objs.size+1],_,_,H1,rfl,I1.kept (t':=s1.toks) kk,
  nK _ _ _ _ _ a b (Ru _),⟨g1,g2,⟨_,_,g3⟩,g4,g5⟩,λc hc=>?_,q⟩
 have hle:s1.heap.objs.size<=c:=by
  simp only[gd,i5,or_false] at hc;exact zD hc
 exact I1.fpOk hle (I1.hok.fresh hle)
end
def Ite (K:dn)(a:dw):It:=
 ⟨λi H=>∃xs x,SqL K H a xs/\xs[i]?=some x,
  λi H v H'=>∃t x,H t=none/\v=.ref t/\(∀xs,SqL K H a xs->xs[i]?=some x)/\H'=upd H t (.tup [.int i,x]),
  λi H=>∃xs,SqL K H a xs/\i=xs.length⟩
def StE (e it l:dw)(i:Nat)(h:im):Prop:=(∃old,zy h e it i old)/\h.IsListIter it l i
theorem iR {P:fq}{K:dn}{k:Nat}(e it a:dw)(D:e≠it) :
  Ob P w K (.Tuple elts k pos) (Ite K a) [e,it] e (StE e it a) where
 mem:=by simp
 obj:=λi h st c hc=>by
  obtain⟨⟨old,he⟩,⟨o1,e1,c1,d1⟩⟩:=st;simp only[gd,i5,or_false] at hc;rcases hc with rfl|rfl
  ·exact⟨_,he,λv z=>by cases z⟩
  ·exact⟨_,e1,λv z=>by rw[d1] at z;cases z⟩
 keep:=λi h h' st kk=>by
  obtain⟨⟨old,he⟩,h1⟩:=st;exact⟨⟨old,kk _ (by simp) _ he⟩,h1.at λo e=>kk _ (by simp) o e⟩
 item:=by
  intro X hP hw hK hc i pins s G H E I hf st hg;subst hP hw hK;obtain⟨xs,x,ha,hx⟩:=hg;obtain⟨its,rv,p,hz⟩:=I.list ha;obtain⟨⟨old,s1⟩,s2⟩:=id st;have n1:a≠e:=by obtain⟨oa,ea,ca,_⟩:=p.isList;exact Eb ea s1 (by rw[ca];exact show iz "list"≠iz "enumerate" by decide)
  have n2:a≠it:=by obtain⟨oa,ea,ca,_⟩:=p.isList;obtain⟨o1,e1,c1,_⟩:=s2;exact Eb ea e1 (by rw[ca,c1];decide)
  have W:=zk (prog:=X.prog) (w:=X.w) (A:=X.A) (I.ok.hd hc) e it a D n1 n2 its.toArray;obtain⟨u1,hu1,ru1⟩:=rv.get hx;have l1:=(fc.mp hu1).1;refine W.item i s _ _ (by simpa using l1) ⟨⟨old,s1⟩,s2,p.isList⟩ λT vals h' tk hv hT hTu mid kk=>?_;obtain⟨t,v1,e1,rfl⟩:=hv;have e1:v1=u1:=by have:=e1;simp only[ot] at this;rw[hu1] at this;exact(d0 this).symm
  subst e1;have nT:=W.apart i T h' mid;refine⟨.ref T,rfl,W.go elts k pos i T { s with heap:=h',toks:=tk } _ _ mid λh'' st'' kk2=>?_⟩;have hTu2:h''.IsTuple T ([mq (i:Int) t,v1]:Za3).toArray:=by
   obtain⟨o,e,r⟩:=hTu;exact⟨o,kk2 T o nT e,r⟩
  have I2:Inv X pins G (upd H T (.tup [.int i,x])) { s with heap:=h'',toks:=tk }:=I.turnT (t':=tk) (λb o hb e=>kk2 b o hb (kk b o hb e)) (λb hb=>hf b hb) hT hTu2 (.cons ⟨t,rfl⟩ (.cons ru1 .nil)) (show 2<=sizeLine by decide);refine⟨.ref T,_,I2,rfl,⟨T,x,I.hok.fresh hT,rfl,λxs' h=>by rw[I.list_inj h ha];exact hx,rfl⟩,⟨?_,st''.2.1⟩,λc hc'=>?_⟩
  ·exact st''.1
  have hlt:c<s.heap.objs.size:=by
   obtain⟨o5,s5,_⟩:=s2;simp only[gd,i5,or_false] at hc';rcases hc' with rfl|rfl
   ·exact ee s1
   ·exact ee s5
  rw[Aj (fu (d7 hlt hT))];exact(hf c hc').1
 done:=by
  intro X hP hw hK hc i pins s G H E I hf st hg;subst hP hw hK;obtain⟨xs,ha,hi⟩:=hg;obtain⟨its,rv,p,hz⟩:=I.list ha;obtain⟨⟨old,s1⟩,s2⟩:=id st;have n1:a≠e:=by obtain⟨oa,ea,ca,_⟩:=p.isList;exact Eb ea s1 (by rw[ca];exact show iz "list"≠iz "enumerate" by decide)
  have n2:a≠it:=by obtain⟨oa,ea,ca,_⟩:=p.isList;obtain⟨o1,e1,c1,_⟩:=s2;exact Eb ea e1 (by rw[ca,c1];decide)
  have W:=zk (prog:=X.prog) (w:=X.w) (A:=X.A) (I.ok.hd hc) e it a D n1 n2 its.toArray;have hl:=rv.length;have hi2:i=its.toArray.size:=by rw[hi,hl];simp
  refine W.done s _ _ (by rw[<-hi2];exact⟨⟨old,s1⟩,s2,p.isList⟩) λh' tk kk=>⟨rfl,?_⟩;exact I.turnW (t':=tk) kk λb hb=>hf b hb
 self:=λ_ _ _ _ _ st h=>kx (nr st.1) h
section
variable {X:Cx} {elts:List gq} {k:Nat} {tpos:Pos}
def uA (K:dn)(ta:TA):TI:=λG H R=>ta G H λvs H1=>∃a,vs=[.ref a]/\(∃xs,SqL K H1 a xs)/\R (Ite K a) H1
theorem sQ {a:gq}{ta:TA}{p:Pos}(hg:Gl X "enumerate")(hm:X.mg "enumerate"=none)(ha:PA X [a] ta)(hs:autoParam (starEach [a] X.env=[(false,eval a X.env)]) QD) :
  PI X (.Tuple elts k tpos) (.Call (.Name "enumerate" p) [a] [] pos) (uA X.K ta):=by
 intro pins s G H R I h;refine Call_ (Ev I hg hm Hy (il (thA ha I h λus s1 vs H1 I1 r1 q1=>?_) hs rfl));obtain⟨a,e,⟨xs,hx⟩,q⟩:=q1;subst e;obtain⟨u,rfl,ru⟩:=Ef r1;cases ru;obtain⟨its,rv,p,hz⟩:=I1.list hx;refine call_enumerate_list p.isList λh' g1 g2 hsz kk=>?_;refine kx (s:={ s1 with heap:=h' }) g1 ?_;refine⟨s1.heap.objs.size+1,[s1.heap.objs.size+1,s1.heap.objs.size],_,_,H1,rfl,I1.kept (t':=s1.toks) kk,
  iR _ _ a (fC _),⟨⟨_,g1⟩,g2⟩,λc hc=>?_,q⟩
 have hle:s1.heap.objs.size<=c:=by
  simp only[gd,i5,or_false] at hc;exact fZ hc
 exact I1.fpOk hle (I1.hok.fresh hle)
end
structure Ee (HL:Za6) (HM sc:lm) (x1 x2:Str) (N:Za6) (ix:Za4):Prop where
 kind:sc.kind=.function
 nocell:∀y∈sc.names,y.2≠.cell
 names:∀y∈sc.names,y.2=.local->sc.names.lookup y.1=some .local
 free:∀y∈sc.names,y.2=.free->HM.names.lookup y.1=some .cell
 nd:N.Nodup
 hd:N[0]?=some x1
 hd2:N[1]?=some x2
 loc:sc.names.lookup x1=some .local
 loc2:sc.names.lookup x2=some .local
 len:N.length=ix.length+2
 at_:∀p∈N.tail.tail.zip ix,HL[p.2]?=some p.1/\sc.names.lookup p.1=some .free
def Km (K:dn)(J:It)(H1:Hp)(fr:St)(tc:TT)(te:TE)(Q:VK):Prop:=∀D,H1 D=none->∃W:Nat->Nat->Hp->Prop,(∃m,W 0 m (upd H1 D (.lst [])))/\∀i m H,W i m H ->
 (J.stop i H/\Q (.ref D) H)\/(J.go i H/\∀v H',J.yld i H v H'->∃a x y,v=.ref a/\SqT K H' a [x,y]/\tc (some x::some y::fr) H' λb H3=>
  if b=true then te (some x::some y::fr) H3 λy H4=>∃ys,H4 D=some (.lst ys)/\ys.length<sizeLine/\∃m',m'<m/\W (i+1) m' (upd H4 D (.lst (ys++[y]))) else ∃m',m'<m/\W (i+1) m' H3)
def wX (K:dn)(wi:TI)(ix:Za4)(tc:TT)(te:TE):TE:=λG H Q=>wi G H λJ H1=>Km K J H1 (frV G ix) tc te Q
section
variable {X:Cx} {scope:lm} {N:Za6} {ix:Za4} {x1 x2:Str} {px px2 ppos:Pos} {kk:Nat} {elt iter:gq} {ifs:List gq} {tc:TT} {te:TE} {pos:Pos}
theorem wT {G:St}{tn:Nat->im->Prop}(L:Ee X.N X.env.scope scope x1 x2 N ix)(I2:Inv X pins G H2 s2)
  (T:Ob X.prog X.w X.K tg J fp it tn)(st2:tn 0 s2.heap)(f2:∀b∈fp,Nw X pins H2 b){s3 s4:eg}{H3:Hp}(I3:Inv X pins G H3 s3)(I4:Inv X pins G H3 s4)(hle:s2.heap.objs.size<=s3.heap.objs.size)
  (hC:C=s3.heap.objs.size)(ho:s4.os=s3.os)(kp:∀b u,s3.heap.get? b=some u->s4.heap.get? b=some u){m:Za2}(hns:s4.heap.Ns C m):Inv (E6 X scope N C s3 H3 fp) [] (none::none::frV G ix) H3 s4:=by
 have hfree:∀y∈scope.names,y.2=.free->∃c,X.env.cells.lookup y.1=some c:=λy hy hf=>I2.ok.has y.1 (.inl (L.free y hy hf));have sub:∀y c,(Dn X.env scope.names []).lookup y=some c->X.env.cells.lookup y=some c:=λy c h=>Jm _ _ y c hfree (λ_ _ z=>by simp at z) h;have lt2:∀b∈fp,b<s2.heap.objs.size:=λb hb=>by obtain⟨o,e,_⟩:=T.obj _ _ st2 b hb;exact ee e
 have okY:(E6 X scope N C s3 H3 fp).Ok:=by
  refine⟨I2.ok.mod,L.kind,I2.ok.glob,I2.ok.blt,oj hC.symm,λy z c h1 h2=>I2.ok.inj y z c (sub y c h1) (sub z c h2),λy hy=>?_,λy c z _=>?_,I2.ok.hd,I2.ok.frames,.inl rfl,λb hb=>⟨?_,λy c h=>(f2 b hb).2.2.2.2.1 y c (sub y c h)⟩,
   I3.bs,ie I3.ok.bsz I3.sz,λb o e hb=>?_,λb hb z=>?_,I3.stack,I3.stkFree⟩
  ·have hk:(y,mr)∈scope.names:=by
    rcases hy with hy|hy
    ·rcases Jz hy with q|q
     ·exact absurd rfl (L.nocell _ q)
     ·exact q.1
    ·rcases Jz hy with q|q
     ·exact q
     ·exact absurd q.2 (by decide)
   exact iv.mp (Ez _ _ y hk)
  ·cases(show false=true from z)
  ·have l:=lt2 b hb
   show b≠C;rw[hC];exact fu (d7 l hle)
  ·rcases(f2 b hb).2.2.2.1 with q|q
   ·exact I2.ok.noex b o e q
   ·exact absurd (d7 (ee e) (ie I2.ok.bsz q)) (jj _)
  ·rcases gd.mp (I2.stkSub b z) with q|q
   ·exact(f2 b hb).2.1 q
   ·exact(f2 b hb).2.2.1 q
 refine⟨okY,ho,I4.bare,Un.kept kp,⟨m,hns,λi y v h1 h2 h3=>?_⟩,λy c e=>I4.cell y c (sub y c e),?_,λy c e=>I4.freeC y c (sub y c e),λp hp=>absurd (show p∈([]:Za1) from hp) (by simp),I4.hok,?_⟩
 ·cases i with
  |zero=>cases(show some none=some (some v) from h2)
  |succ k=>
   cases k with
   |zero=>cases(show some none=some (some v) from h2)
   |succ k=>
   have h2:(frV G ix)[k]?=some (some v):=h2;have h1:N[k+1+1]?=some y:=h1;unfold frV at h2;rw[d8] at h2
   cases hj:ix[k]? with
   |none=>rw[hj] at h2;cases h2
   |some j=>
    rw[hj] at h2;have h2:(G[j]?).getD none=some v:=d0 h2;have h2':G[j]?=some (some v):=by
     cases e:G[j]? with
     |none=>rw[e] at h2;cases h2
     |some z=>rw[e] at h2;exact congrArg some h2
    have ht:N.tail.tail[k]?=some y:=by rw[qf,qf];exact h1
    have hz:(y,j)∈N.tail.tail.zip ix:=ir (i:=k) (by rw[qm];exact⟨ht,hj⟩);obtain⟨q1,q2⟩:=L.at_ _ hz;have hm:=i9 q2;have hcell:=L.free _ hm rfl;obtain⟨m',hn',hl'⟩:=I4.loc;obtain⟨u,r,lk⟩:=hl' j y v q1 h2' (.inr (.inl hcell));refine⟨u,r,.inr ⟨.inl (Ny I2.ok.kind hcell q2),?_⟩⟩;rcases lk with lk|⟨_,c,e,z⟩
    ·rw[show X.env.kindOf y=some .cell from hcell] at lk
     cases lk.1
    ·obtain⟨c',e'⟩:=iv.mp (Ez (env:=X.env) scope.names [] y hm)
     have e2:=sub y c' e';rw[e] at e2;cases e2;exact⟨c,e',z⟩
 ·show H3 C=none
  exact I3.hok.fresh (oj hC.symm)
 ·show(none::none::frV G ix).length=N.length
  rw[L.len];simp[frV]
theorem fA {tgt:gq}(htg:tgt=.Tuple [.Name x1 px,.Name x2 px2] kk ppos){G:St}{tn:Nat->im->Prop}(hc:X.calm=true)(L:Ee X.N X.env.scope scope x1 x2 N ix)(I2:Inv X pins G H2 s2)
  (T:Ob X.prog X.w X.K tgt J fp it tn)(st2:tn 0 s2.heap)(f2:∀b∈fp,Nw X pins H2 b)
  (hif:∀C s H,PIf (E6 X scope N C s H fp) ifs tc)(he:∀C s H,PE (E6 X scope N C s H fp) elt te){Q:VK}(rd:Km X.K J H2 (frV G ix) tc te Q){RR:ed->dw->vg->eg->Prop}{E:Za0}
  (fin:∀D C H' s' m,Inv X pins G H' s'->s2.heap.objs.size<=C->H' C=none->s'.heap.Ns C m->Q (.ref D) H'->RR (.ref D) C (.ok .next) s') :
  wpAny (model X.prog X.w) X.A (newList []) (λacc s3=>wpAny (model X.prog X.w) X.A (newFunctionEnv scope X.env.globals (Dn X.env scope.names []) [] X.env.qual none .none (some X.env)) (λcenv s4=>
   codeAny (model X.prog X.w) X.A (.compStart (.ListComp elt [⟨tgt,iter,ifs,0⟩] scope pos) 0 (.ref it) acc { cenv with scope:=relabel scope X.env }) (RR acc cenv.locals) s4) E s3) E s2:=by
 refine wb (ui L.nocell (by intro y hy;simp at hy) (λh1 hns hsb=>?_) L.kind);dsimp only at hns hsb ⊢;have I3:Inv X pins G (upd H2 s2.heap.objs.size (.lst [])) { s2 with heap:=s2.heap.push { cls:=.type "list",dict:=none,data:=.seq ([]:Za3).toArray } }:=I2.lnew (its:=[]) (t':=s2.toks) .nil (fg _);generalize hH3:s2.heap.push { cls:=.type "list",dict:=none,data:=.seq ([]:Za3).toArray }=h3 at hns hsb I3 ⊢;have hsz:h3.objs.size=s2.heap.objs.size+1:=by rw[<-hH3,k9]
 have kp34:∀b u,h3.get? b=some u->h1.get? b=some u:=λb u e=>hsb.extBut b u (fu (ee e)) (d4 _ e);have I4:Inv X pins G (upd H2 s2.heap.objs.size (.lst [])) { s2 with heap:=h1,toks:=s2.toks+([]:List (Str×ed)).length }:=I3.kept (t':=s2.toks+([]:List (Str×ed)).length) kp34;have kp24:∀b u,s2.heap.get? b=some u->h1.get? b=some u:=λb u e=>kp34 b u (by rw[<-hH3];exact d4 _ e);have IY:=wT (C:=h3.objs.size) (s3:={ s2 with heap:=h3 }) L I2 T st2 f2 I3 I4 (by show s2.heap.objs.size<=h3.objs.size;lia) rfl rfl kp34 hns;have fD:H2 s2.heap.objs.size=none:=I2.hok.fresh (d3 _);have lt2:∀b∈fp,b<s2.heap.objs.size:=λb hb=>by obtain⟨o,e,_⟩:=T.obj _ _ st2 b hb;exact ee e
 have st4:tn 0 h1:=T.keep _ _ _ st2 λb _ o e=>kp24 b o e;have stat:∀{pn:Za1} {H':Hp},pn=[]->(∀b∈fp,H' b=none)->∀b∈fp,Nw (E6 X scope N h3.objs.size { s2 with heap:=h3 } (upd H2 s2.heap.objs.size (.lst [])) fp) pn H' b:=λhp hn b hb=>by
  subst hp;exact⟨hn b hb,(IY.ok.exf b hb).1,IY.ok.exfs b hb,.inl hb,(IY.ok.exf b hb).2,λp hp=>absurd (show p∈([]:Za1) from hp) (by simp)⟩
 obtain⟨W,⟨m0,w0⟩,turn⟩:=rd _ fD;have loop:codeAny (model X.prog X.w) X.A (.compLoop (.ListComp elt [⟨tgt,iter,ifs,0⟩] scope pos) 0 (.ref it) (.ref s2.heap.objs.size) (compEnvC scope (Dn X.env scope.names []) h3.objs.size X.env)) (RR (.ref s2.heap.objs.size) h3.objs.size)
   { s2 with heap:=h1,toks:=s2.toks+([]:List (Str×ed)).length }:=by
  refine gY (λn s'=>∃i H',Inv (E6 X scope N h3.objs.size { s2 with heap:=h3 } (upd H2 s2.heap.objs.size (.lst [])) fp) [] (none::none::frV G ix) H' s'/\tn i s'.heap/\(∀b∈fp,H' b=none)/\W i n H') ?_ m0
   ⟨0,_,IY,st4,λb hb=>by rw[Aj (fu (lt2 b hb))];exact(f2 b hb).1,w0⟩
  rintro n s5 ⟨i,H5,I5,st5,fr5,w5⟩;rcases turn i n H5 w5 with⟨stop,q⟩|⟨go,step⟩
  ·refine thn (T.done (E6 X scope N h3.objs.size { s2 with heap:=h3 } (upd H2 s2.heap.objs.size (.lst [])) fp) rfl rfl rfl hc i [] s5 _ H5 (λ_ _=>False) I5 (stat rfl fr5) st5 stop) λr s6 ⟨hr,I6⟩=>?_
   subst hr;obtain⟨m6,hn6,_⟩:=I6.loc;have u1:Un (frs X.stack) fp H2 (upd H2 s2.heap.objs.size (.lst [])) s2.heap h3:=Un.laid (λb u e=>by rw[<-hH3];exact d4 _ e) (d3 _) fD;have back:Inv X pins G H5 s6:=I2.call' (ch:=fp) (I6.os.trans rfl) (u1.trans I6.base) I6.hok I6.bare λb hb=>⟨(f2 b hb).2.2.2.1,(f2 b hb).2.1,(f2 b hb).2.2.2.2.1,(f2 b hb).2.2.2.2.2⟩;exact fin _ _ H5 s6 m6 back (by lia) I6.free hn6 q
  ·refine thn (T.item (E6 X scope N h3.objs.size { s2 with heap:=h3 } (upd H2 s2.heap.objs.size (.lst [])) fp) rfl rfl rfl hc i [] s5 _ H5 (λ_ _=>False) I5 (stat rfl fr5) st5 go) λr s6 ⟨u,hr,h6⟩=>?_
   subst hr;refine thn h6 λ_ s7 ⟨y,H7,I7,r7,y7,st7,fr7⟩=>?_;have I7':=I7.pinned (stat rfl fr7) (T.obj _ _ st7);have hg:PG (E6 X scope N h3.objs.size { s2 with heap:=h3 } (upd H2 s2.heap.objs.size (.lst [])) fp) tgt (kD X.K 2 (Ku (Eh 0) (Ku (Eh 1) kI))):=by
    rw[htg];exact Sy hc (Ek (Lx L.nd L.hd (.inl (lv L.loc)) (.inr (lv L.loc))) (Ek (Lx L.nd L.hd2 (.inl (lv L.loc2)) (.inr (lv L.loc2))) M9))
   obtain⟨ta,y1,y2,ey,hTu,hst⟩:=step y _ y7;refine thn (hg _ s7 _ H7 y u (λmt H'=>mt=some y1::some y2::frV G ix/\H'=H7) I7' r7 ⟨ta,[y1,y2],ey,hTu,rfl,y1,[y2],rfl,y2,[],rfl,rfl,rfl,rfl⟩) λ_ s8 ⟨HQ,H8,I8,e8,e8'⟩=>?_;subst e8 e8';refine thn (hif _ _ _ _ s8 _ _ _ I8 hst) λok s9 ⟨H9,I9,q9⟩=>?_;have again:∀{sz:eg} {Hz:Hp} {m':Nat},Inv (E6 X scope N h3.objs.size { s2 with heap:=h3 } (upd H2 s2.heap.objs.size (.lst [])) fp) ([]++Oy fp s7.heap) (some y1::some y2::frV G ix) Hz sz->m'<n->W (i+1) m' Hz ->
     ∃m,m<n/\∃i H',Inv (E6 X scope N h3.objs.size { s2 with heap:=h3 } (upd H2 s2.heap.objs.size (.lst [])) fp) [] (none::none::frV G ix) H' sz/\tn i sz.heap/\(∀b∈fp,H' b=none)/\W i m H':=λ{sz Hz m'} Iz hm wz=>by
    refine⟨m',hm,i+1,Hz,Iz.unpinned.weak (by simp) (λj v e=>?_),T.keep _ _ _ st7 λb hb o e=>(Iz.pin (b,o) (gh _ (gh _ (Fz hb e)))).1,λb hb=>?_,wz⟩
    ·cases j with
     |zero=>cases e
     |succ j=>
      cases j with
      |zero=>cases e
      |succ j=>exact e
    ·obtain⟨o,e,d⟩:=T.obj _ _ st7 b hb
     exact(Iz.pin (b,o) (gh _ (gh _ (Fz hb e)))).2.1
   cases ok with
   |false=>
    obtain⟨m',hm,wz⟩:=q9;exact again I9 hm wz
   |true=>
    refine thn (he _ _ _ _ s9 _ _ _ I9 q9) λxv s10 ⟨z,H10,I10,r10,ys,hD,hl,m',hm,wz⟩=>?_;refine thn (Bt _ s10 _ H10 (.ref s2.heap.objs.size) [z] (.ref s2.heap.objs.size) [xv] (λ_ Hz=>Hz=upd H10 s2.heap.objs.size (.lst (ys++[z]))) I10 rfl (.cons r10 .nil) ⟨_,ys,z,rfl,rfl,hD,hl,rfl⟩) λ_ s11 ⟨_,H11,I11,_,q11⟩=>?_;subst q11;exact again I11 hm wz
 exact zu loop (T.self X.A 0 _ _ _ st4 loop)
theorem dA (hc:X.calm=true)(L:Ee X.N X.env.scope scope x1 x2 N ix)(hi:PI X (.Tuple [.Name x1 px,.Name x2 px2] kk ppos) iter wi)(hif:∀C s H fp,PIf (E6 X scope N C s H fp) ifs tc)(he:∀C s H fp,PE (E6 X scope N C s H fp) elt te)
  (hs:autoParam (∀z,foldedSetIterable iter X.env z=pure z) QJ):PE X (.ListComp elt [⟨.Tuple [.Name x1 px,.Name x2 px2] kk ppos,iter,ifs,0⟩] scope pos) (wX X.K wi ix tc te):=by
 k_in;have hfree:∀y∈scope.names,y.2=.free->∃c,X.env.cells.lookup y.1=some c:=λy hy hf=>I.ok.has y.1 (.inl (L.free y hy hf));rw[FS];refine ny (use:=none) rfl hs (G8 hfree) L.kind L.names (thn (hi pins s G H _ I h) λv s1 h1=>thn h1 λitv s2 h2=>?_);obtain⟨it,fp,tn,J,H2,e,I2,T,st2,f2,rd⟩:=h2;subst e;refine fA (RR:=λacc C=>compPost (model X.prog X.w) X.A X.xe none _ acc C) rfl hc L I2 T st2 f2 (λC s H=>hif C s H fp) (λC s H=>he C s H fp) rd λD C H' s' m I' hC hf hn q=>?_;refine⟨m,hn,λh' hsb=>⟨.ref D,H',?_,rfl,q⟩⟩;have l2:=I2.lt;refine I'.turned (t':=s'.toks) (it:=C) (λb o hb e=>hsb.extBut b o hb e) hf (ji (d7 l2 hC)) (.inr (ie I2.sz hC)) (λy c e=>?_) λp hp=>?_
 ·obtain⟨v,hv⟩:=I2.cell y c e
  exact fu (d7 hv.lt hC)
 ·exact fu (d7 (ee (I2.pin p hp).1) hC)
theorem On {i:Nat}{y:Str}{py spos:Pos}(hc:X.calm=true)(L:Ee X.N X.env.scope scope x1 x2 N ix)(hN:X.N.Nodup)(hy:X.N[i]?=some y)(hl:X.env.scope.names.lookup y=some .local)
  (hi:PI X (.Tuple [.Name x1 px,.Name x2 px2] kk ppos) iter wi)(hif:∀C s H fp,PIf (E6 X scope N C s H fp) ifs tc)(he:∀C s H fp,PE (E6 X scope N C s H fp) elt te)
  (hsw:autoParam (swapsWith (.ListComp elt [⟨.Tuple [.Name x1 px,.Name x2 px2] kk ppos,iter,ifs,0⟩] scope pos) (some (.Name y py)) spos.line X.env=pure true) QD)
  (hs:autoParam (∀z,foldedSetIterable iter X.env z=pure z) QJ):PS X (.Assign [.Name y py] (.ListComp elt [⟨.Tuple [.Name x1 px,.Name x2 px2] kk ppos,iter,ifs,0⟩] scope pos) spos) (kE (wX X.K wi ix tc te) (Eh i)):=by
 k_end;have hfree:∀y∈scope.names,y.2=.free->∃c,X.env.cells.lookup y.1=some c:=λy hy hf=>I.ok.has y.1 (.inl (L.free y hy hf));rw[z6 _ _ _ _ hsw];refine wpAny_bind (mm (wpAny_bind ?_));show wpAny _ X.A (do let _ <-comprehension (.ListComp elt [⟨.Tuple [.Name x1 px,.Name x2 px2] kk ppos,iter,ifs,0⟩] scope pos) scope X.env _ (newList []) false (eval iter X.env) (some (assign (.Name y py) X.env))) _ _ s;refine wpAny_bind (thn (Q:=λ_ s'=>SP X pins D .next s') (ny (use:=some (assign (.Name y py) X.env)) rfl hs (G8 hfree) L.kind L.names (thn (hi pins s G H _ I h) λv s1 h1=>thn h1 λitv s2 h2=>?_)) λ_ s' hq=>ez (ez hq));obtain⟨it,fp,tn,J,H2,e,I2,T,st2,f2,rd⟩:=h2;subst e;refine fA (RR:=λacc C=>compPost (model X.prog X.w) X.A X.xe (some (assign (.Name y py) X.env)) _ acc C) rfl hc L I2 T st2 f2 (λC s H=>hif C s H fp) (λC s H=>he C s H fp) rd λDa C H' s' m I' hC hf hn q=>?_;have l2:=I2.lt;have nC:C≠X.env.locals:=ji (d7 l2 hC);have nF:C∉X.fs:=I2.nofs hC;obtain⟨oC,es,ep,hget,hdat,hrest⟩:=id hn;have Ip:Inv X (pins++[(C,oC)]) G H' s':=I'.pins_of λp hp=>(mf.mp hp).elim (λz=>I'.pin p (gh _ z)) λz=>by
  have e:p=(C,oC):=by simpa using z
  subst e;exact⟨hget,hf,nC,nF,λv z=>by rw[hdat] at z;cases z⟩
 have hg:PG X (.Name y py) (Eh i):=Lx hN hy (.inl hl) (.inr hl);show wpAny _ X.A (assign (.Name y py) X.env (.ref Da)) _ _ s';refine thn (hg _ s' G H' (.ref Da) (.ref Da) D.nx Ip rfl q) λ_ s'' ⟨HW,H'',I'',q''⟩=>?_;obtain⟨g1,g2,_⟩:=I''.pin (C,oC) (gh _ (gh _ (by simp)));refine⟨m,⟨oC,es,ep,g1,hdat,hrest⟩,λh' hsb=>⟨HW,H'',?_,q''⟩⟩;refine I''.unpinned.turned (t':=s''.toks) (it:=C) (λb o hb e=>hsb.extBut b o hb e) g2 nC (.inr (ie I2.sz hC)) (λy c e=>?_) λp hp=>?_
 ·obtain⟨v,hv⟩:=I2.cell y c e
  exact fu (d7 hv.lt hC)
 ·exact fu (d7 (ee (I2.pin p hp).1) hC)
end
theorem wG {K:dn}{tA:TA}{G:St}{R:It->Hp->Prop}(h:tA G H λvs H1=>∃a b,vs=[.ref a,.ref b]/\(∃xs,SqL K H1 a xs)/\(∃ys,SqL K H1 b ys)/\R (Itz K a b) H1):yM K tA G H R:=h
theorem rQ {K:dn}{tA:TA}{G:St}{R:It->Hp->Prop}(h:tA G H λvs H1=>∃a,vs=[.ref a]/\(∃xs,SqL K H1 a xs)/\R (Ite K a) H1):uA K tA G H R:=h
theorem zO {K:dn}{G:St}{Q:VK}{tc:TT}(h:wi G H λJ H1=>Km K J H1 (frV G ix) tc te Q):wX K wi ix tc te G H Q:=h
theorem Wv {K:dn}{G:St}{R:St->Hp->Prop}{a:dw}{x:V}{i j:Nat}(hs:SqT K H a [x,y])(h:R ((G.set i (some x)).set j (some y)) H):kD K 2 (Ku (Eh i) (Ku (Eh j) kI)) (.ref a) G H R:=
 ⟨a,[x,y],rfl,hs,rfl,x,[y],rfl,y,[],rfl,rfl,h⟩
theorem Rh {K:dn}{fr:St}{tc:TT}{Q:VK}(n:Nat)(f1 f2:Nat->V)(acc:Nat->List V)(h0:acc 0=[])(hz:∀i,i<n->(acc i).length<sizeLine)
  (hgo:∀i H,i<n->Ah H1 H->J.go i H)(hy:∀i H v H',i<n->Ah H1 H->J.yld i H v H'->∃a,v=.ref a/\SqT K H' a [f1 i,f2 i]/\Ah H H')(hst:∀H,Ah H1 H->J.stop n H)
  (turn:∀i H (R:Hp->Prop) (A:VK),i<n->Ah H1 H->(acc (i+1)=acc i->∀H',Ah H H'->R H')->(∀y H',acc (i+1)=acc i++[y]->Ah H H'->A y H') ->
   tc (some (f1 i)::some (f2 i)::fr) H λb H3=>if b=true then te (some (f1 i)::some (f2 i)::fr) H3 A else R H3)
  (fin:∀D H,H1 D=none->Ah H1 H->H D=some (.lst (acc n))->Q (.ref D) H):Km K J H1 fr tc te Q:=by
 intro D hD;refine⟨λi m H=>i<=n/\m=n-i/\Ah H1 H/\H D=some (.lst (acc i)),⟨n,fg _,rfl,Ai hD,by rw[Ac,h0]⟩,?_⟩;rintro i m H ⟨hi,rfl,sm,hl⟩
 by_cases h:i=n
 ·subst h
  exact .inl ⟨hst H sm,fin D H hD sm hl⟩
 ·have hlt:i<n:=jt hi h
  refine .inr ⟨hgo i H hlt sm,λv H' hyl=>?_⟩;obtain⟨a,rfl,ht,s2⟩:=hy i H v H' hlt sm hyl;refine⟨a,_,_,rfl,ht,turn i H' _ _ hlt (sm.trans s2) (λea H3 s3=>?_) (λy H4 ea s4=>?_)⟩
  ·exact⟨n-(i+1),by lia,by lia,rfl,(sm.trans s2).trans s3,by rw[ea];exact s3 _ _ (s2 _ _ hl)⟩
  ·refine⟨acc i,s4 _ _ (s2 _ _ hl),hz i hlt,n-(i+1),by lia,by lia,rfl,λb u e=>?_,by rw[Ac,ea]⟩
   rw[Aj (Am e hD)];exact s4 _ _ (s2 _ _ (sm _ _ e))
theorem uT {K:dn}{a b:dw}{ys:List V}{fr:St}{tc:TT}{Q:VK}(ha:SqL K H1 a xs)(hb:SqL K H1 b ys)(acc:Nat->List V)(h0:acc 0=[])(hz:∀i,i<min xs.length ys.length->(acc i).length<sizeLine)
  (turn:∀(i:Nat) x y H (R:Hp->Prop) (A:VK),xs[i]?=some x->ys[i]?=some y->Ah H1 H->(acc (i+1)=acc i->∀H',Ah H H'->R H')->(∀y H',acc (i+1)=acc i++[y]->Ah H H'->A y H') ->
   tc (some x::some y::fr) H λb H3=>if b=true then te (some x::some y::fr) H3 A else R H3)
  (fin:∀D H,H1 D=none->Ah H1 H->H D=some (.lst (acc (min xs.length ys.length)))->Q (.ref D) H):Km K (Itz K a b) H1 fr tc te Q:=by
 refine Rh (min xs.length ys.length) (λi=>xs.getD i .non) (λi=>ys.getD i .non) acc h0 hz (λi H hi sm=>⟨xs,ys,xs[i]'(by lia),ys[i]'(by lia),sm.seq ha,sm.seq hb,by simp,by simp⟩) (λi H v H' hi sm h=>?_)
  (λH sm=>⟨xs,ys,sm.seq ha,sm.seq hb,rfl⟩) (λi H R A hi sm=>turn i _ _ H R A (by simp[show i<xs.length by lia]) (by simp[show i<ys.length by lia]) sm) fin
 obtain⟨t,x,y,hn,rfl,h1,h2,rfl⟩:=h;have e1:=h1 xs (sm.seq ha);have e2:=h2 ys (sm.seq hb);refine⟨t,rfl,?_,Ai hn⟩;simp only[ge,e1,e2,om];exact SqT.of Ac
theorem qG {K:dn}{a:dw}{i1 i2:Nat}{tb:TS}{D:Ji}{G:St}(Pv:Nat->St->Hp->Prop)(h0:Pv 0 G H)(hl:∀i G H,i<=xs.length->Pv i G H->SqL K H a xs)
  (step:∀i x G H t,xs[i]?=some x->Pv i G H->H t=none->tb { D with nx:=Pv (i+1),ct:=Pv (i+1),bk:=D.nx } ((G.set i1 (some (.int i))).set i2 (some x)) (upd H t (.tup [.int i,x])))
  (fin:∀G H,Pv xs.length G H->D.nx G H):lQ (Ite K a) (kD K 2 (Ku (Eh i1) (Ku (Eh i2) kI))) tb D G H:=by
 refine⟨λi m G H=>i<=xs.length/\m=xs.length-i/\Pv i G H,⟨_,fg _,rfl,h0⟩,?_⟩;rintro i m G H ⟨hi,rfl,hp⟩
 by_cases h:i=xs.length
 ·exact .inl ⟨⟨xs,hl i G H hi hp,h⟩,fin G H (h▸hp)⟩
 ·have hlt:i<xs.length:=jt hi h
  refine .inr ⟨⟨xs,xs[i],hl i G H hi hp,by simp⟩,Pv (i+1),λmt H' q=>⟨xs.length-(i+1),by lia,hlt,rfl,q⟩,λv H' hy=>?_⟩;obtain⟨t,x,hn,rfl,hx,rfl⟩:=hy;exact Wv (SqT.of Ac) (step i x G H t (hx xs (hl i G H hi hp)) hp hn)
def rC (z:Str):It:=
 ⟨λi _=>i<z.cps.size,λi H v H'=>∃t c,H t=none/\v=.ref t/\z.cps[i]?=some c/\H'=upd H t (.tup [.int i,.str (sgn c)]),λi _=>i=z.cps.size⟩
theorem Z0 {P:fq}{K:dn}{k:Nat}{e:dw}{z:Str}{ty:String}{t:Tok}(hne:e≠it)
  (D:∀A':ii,A'.handled=none->CO P w A' it [it] z.cps.size (λi v=>∃c u,z.cps[i]?=some c/\v=.str ⟨#[c]⟩ u) (λi h=>h.IsStrIter it ty z t i)) :
  Ob P w K (.Tuple elts k pos) (rC z) [e,it] e (λi h=>(∃old,zy h e it i old)/\h.IsStrIter it ty z t i) where
 mem:=by simp
 obj:=λi h st c hc=>by
  obtain⟨⟨old,he⟩,⟨o1,e1,c1,d1⟩⟩:=st;simp only[gd,i5,or_false] at hc;rcases hc with rfl|rfl
  ·exact⟨_,he,λv z=>by cases z⟩
  ·exact⟨_,e1,λv z=>by rw[d1] at z;cases z⟩
 keep:=λi h h' st kk=>by
  obtain⟨⟨old,he⟩,⟨o,ho,r⟩⟩:=st;exact⟨⟨old,kk _ (by simp) _ he⟩,⟨o,kk _ (by simp) o ho,r⟩⟩
 item:=by
  intro X hP hw hK hc i pins s G H E I hf st hg;subst hP hw hK;have W:=mh (D X.A.in1 (I.ok.hd hc)) e hne (by simpa using hne) (by simp);refine W.item i s _ _ hg st λT vals h' tk hv hT hTu mid kk=>?_;obtain⟨t1,x,⟨c,u,hc',rfl⟩,rfl⟩:=hv;have nT:=W.apart i T h' mid;refine⟨.ref T,rfl,W.go elts k pos i T { s with heap:=h',toks:=tk } _ _ mid λh'' st'' kk2=>?_⟩;have hTu2:h''.IsTuple T ([mq (i:Int) t1,sv ⟨#[c]⟩ u]:Za3).toArray:=by
   obtain⟨o,e,r⟩:=hTu;exact⟨o,kk2 T o nT e,r⟩
  have I2:Inv X pins G (upd H T (.tup [.int i,.str (sgn c)])) { s with heap:=h'',toks:=tk }:=I.turnT (t':=tk) (λb o hb e=>kk2 b o hb (kk b o hb e)) (λb hb=>hf b hb) hT hTu2 (.cons ⟨t1,rfl⟩ (.cons ⟨u,rfl⟩ .nil)) (show 2<=sizeLine by decide);refine⟨.ref T,_,I2,rfl,⟨T,c,I.hok.fresh hT,rfl,hc',rfl⟩,st'',λb hb=>?_⟩;have hlt:b<s.heap.objs.size:=by
   obtain⟨⟨old,s1⟩,⟨o5,s5,_⟩⟩:=id st;simp only[gd,i5,or_false] at hb;rcases hb with rfl|rfl
   ·exact ee s1
   ·exact ee s5
  rw[Aj (fu (d7 hlt hT))];exact(hf b hb).1
 done:=by
  intro X hP hw hK hc i pins s G H E I hf st hg;subst hP hw hK;have W:=mh (D X.A.in1 (I.ok.hd hc)) e hne (by simpa using hne) (by simp);have hi:i=z.cps.size:=hg;refine W.done s _ _ (by rw[<-hi];exact st) λh' tk kk=>⟨rfl,?_⟩;exact I.turnW (t':=tk) kk λb hb=>hf b hb
 self:=λ_ _ _ _ _ st h=>kx (nr st.1) h
section
variable {X:Cx} {elts:List gq} {k:Nat} {tpos:Pos}
def mK (ta:TA):TI:=λG H R=>ta G H λvs H1=>∃z,vs=[.str z]/\R (rC z) H1
theorem kZ {a:gq}{ta:TA}{p:Pos}(hg:Gl X "enumerate")(hm:X.mg "enumerate"=none)(ha:PA X [a] ta)(hs:autoParam (starEach [a] X.env=[(false,eval a X.env)]) QD) :
  PI X (.Tuple elts k tpos) (.Call (.Name "enumerate" p) [a] [] pos) (mK ta):=by
 intro pins s G H R I h;refine Call_ (Ev I hg hm Hy (il (thA ha I h λus s1 vs H1 I1 r1 q1=>?_) hs rfl));obtain⟨z,e,q⟩:=q1;subst e;obtain⟨u,rfl,⟨t,rfl⟩⟩:=Ef r1;refine call_enumerate_str λh' g1 g2 hsz kk=>?_;refine kx (s:={ s1 with heap:=h' }) g1 ?_;have fin:∀ty:String,h'.IsStrIter s1.heap.objs.size ty z t 0->(∀A':ii,A'.handled=none->CO X.prog X.w A' s1.heap.objs.size [s1.heap.objs.size] z.cps.size (λi v=>∃c u,z.cps[i]?=some c/\v=.str ⟨#[c]⟩ u) (λi h=>h.IsStrIter s1.heap.objs.size ty z t i)) ->
   PIE X pins G (.Tuple elts k tpos) R (.ref (s1.heap.objs.size+1)) { s1 with heap:=h' }:=λty g2 D=>by
  refine⟨s1.heap.objs.size+1,[s1.heap.objs.size+1,s1.heap.objs.size],_,_,H1,rfl,I1.kept (t':=s1.toks) kk,Z0 (fC _) D,⟨⟨_,g1⟩,g2⟩,λc hc=>?_,q⟩;have hle:s1.heap.objs.size<=c:=by
   simp only[gd,i5,or_false] at hc;exact fZ hc
  exact I1.fpOk hle (I1.hok.fresh hle)
 by_cases ha:z.cps.all (· < 128)=true
 ·have e:strIterType z="str_ascii_iterator":=by unfold strIterType;rw[if_pos ha]
  exact fin _ (e▸g2) λA' hA=>BB hA _ z t
 ·have e:strIterType z="str_iterator":=by unfold strIterType;rw[if_neg ha]
  exact fin _ (e▸g2) λA' hA=>BP hA _ z t
end
theorem pF {tA:TA}{G:St}{R:It->Hp->Prop}(h:tA G H λvs H1=>∃z,vs=[.str z]/\R (rC z) H1):mK tA G H R:=h
theorem jR {K:dn}{z:Str}{i1 i2:Nat}{tb:TS}{D:Ji}{G:St}(Pv:Nat->St->Hp->Prop)(h0:Pv 0 G H)
  (step:∀i c G H t,z.cps[i]?=some c->Pv i G H->H t=none->tb { D with nx:=Pv (i+1),ct:=Pv (i+1),bk:=D.nx } ((G.set i1 (some (.int i))).set i2 (some (.str (sgn c)))) (upd H t (.tup [.int i,.str (sgn c)])))
  (fin:∀G H,Pv z.cps.size G H->D.nx G H):lQ (rC z) (kD K 2 (Ku (Eh i1) (Ku (Eh i2) kI))) tb D G H:=by
 refine⟨λi m G H=>i<=z.cps.size/\m=z.cps.size-i/\Pv i G H,⟨_,fg _,rfl,h0⟩,?_⟩;rintro i m G H ⟨hi,rfl,hp⟩
 by_cases h:i=z.cps.size
 ·exact .inl ⟨h,fin G H (h▸hp)⟩
 ·have hlt:i<z.cps.size:=jt hi h
  refine .inr ⟨hlt,Pv (i+1),λmt H' q=>⟨z.cps.size-(i+1),by lia,hlt,rfl,q⟩,λv H' hy=>?_⟩;obtain⟨t,c,hn,rfl,hx,rfl⟩:=hy;exact Wv (SqT.of Ac) (step i c G H t hx hp hn)
structure Mth (P:fq) (w:gr) (K:dn) (mg:Za2) (base:im) (C:dw) (m:Str) (k:Nat) (ps:Za6) (sp:Sp):Prop where
 ex:∃(f:dw) (fd:i3),Ay P w K mg base CX0 k f fd ps sp/\Ed K fd ps []/\jK K C m f
 cl:Cls K C
structure Mkr (P:fq) (w:gr) (K:dn) (mg:Za2) (base:im) (name:Str) (C:dw) (k:Nat) (ps:Za6) (sp:Sp):Prop where
 ex:∃(f:dw) (fd:i3),Ay P w K mg base CX0 k f fd ps sp/\Ed K fd ps []/\Mk K C f/\mg name=some (.ref C)
section
variable {X:Cx} {k:Nat} {C:dw} {ps:Za6} {sp:Sp} {name m:Str} {p pos apos:Pos} {e o:gq} {es:List gq} {ta:TE} {t:TA} {pl:Sem Bool}
theorem pL (M:Mkr X.prog X.w X.K X.mg X.base name C k ps sp)(hr:B3 (k+1) X.A)(ha:PA X (e::es) t)(hg:autoParam (Gl X name) QD)(hdb:autoParam ((name==("__debug__":Str))=false) QF)
  (he:autoParam (starEach (e::es) X.env=(false,eval e X.env)::starEach es X.env) QD)(hpl:autoParam ((backTo pos (starEach es X.env)).any (·.1)=false) QD):PE X (.Call (.Name name p) (e::es) [] pos) (X5 C sp [] E0 t):=by
 obtain⟨f,fd,F,b,M,hm⟩:=M.ex;exact gP M F hr hg hm b .nil Yj ha hdb he hpl
theorem Bg (M:Mth X.prog X.w X.K X.mg X.base C m k ps sp)(hr:B3 k X.A)(ho:PE X o ta)(ha:PA X (e::es) t)
  (hst:autoParam (starEach (e::es) X.env=(false,eval e X.env)::starEach es X.env) QD)(hpl:autoParam ((backTo pos (starEach es X.env)).any (·.1)=false) QD)
  (ht:autoParam (eval (.Call (.Attribute o m apos) (e::es) [] pos) X.env=(do
   let ov <-eval o X.env
   standAt apos.atName
   let (f,first) <-holding [ov] (getMethod ov m pl)
   callWith pos f first (backTo pos (starEach (e::es) X.env)) (backToKw pos (keywordEach [] X.env)))) QD) :
  PE X (.Call (.Attribute o m apos) (e::es) [] pos) (Pf C m sp [] E0 ta t):=by
 obtain⟨f,fd,F,b,hm⟩:=M.ex;exact fN ho M.cl hm F hr b .nil Yj ha hst hpl ht
theorem Fy (M:Mth X.prog X.w X.K X.mg X.base C m k ps sp)(hr:B3 k X.A)(ho:PE X o ta)
  (ht:autoParam (eval (.Call (.Attribute o m apos) [] [] pos) X.env=(do
   let ov <-eval o X.env
   standAt apos.atName
   let (f,first) <-holding [ov] (getMethod ov m pl)
   callWith pos f first (backTo pos (starEach [] X.env)) (backToKw pos (keywordEach [] X.env)))) QD) :
  PE X (.Call (.Attribute o m apos) [] [] pos) (Pf C m sp [] E0 ta Ld):=by
 obtain⟨f,fd,F,b,hm⟩:=M.ex;exact nO ho M.cl hm F hr b .nil Yj ht
end
section
variable {G:St} {H:Hp} {D:Ji} {Q:VK} {te ta tv:TE} {tA:TA} {K:dn}
theorem zK {f:Str}(h:te G H λx H1=>∃a C dx fs v,x=.ref a/\H1 a=some (.ins C dx fs)/\Cls K C/\Ch K C f/\fs.lookup f=some v/\Q v H1):tG K te f G H Q:=h
theorem xN {f:Str}(h:tv G H λy H1=>ta G H1 λx H2=>∃a C dx fs,x=.ref a/\H2 a=some (.ins C dx fs)/\Cls K C/\Ch K C f/\fs.length<1000/\D.nx G (upd H2 a (.ins C dx (C4 f y fs)))):wN K ta tv f D G H:=h
theorem Dx {a:dw}{fs:List (Str×V)}{f:Str}{R:Hp->Prop}(h:H a=some (.ins C dx fs))(c:Cls K C)(n:Ch K C f)(l:fs.length<1000)(q:R (upd H a (.ins C dx (C4 f y fs)))) :
  ∃a' C' dx' fs',V.ref a=.ref a'/\H a'=some (.ins C' dx' fs')/\Cls K C'/\Ch K C' f/\fs'.length<1000/\R (upd H a' (.ins C' dx' (C4 f y fs'))):=⟨a,C,dx,fs,rfl,h,c,n,l,q⟩
theorem wU {E:XK}(h:tA G H λvs H1=>∀x dx,H1 x=none->H1 dx=none->dx≠x->sp (.ref x::(vs++[])) (upd (upd H1 dx (.own x)) x (.ins C dx [])) (λv H2=>v=.non/\Q (.ref x) H2) E):X5 C sp [] E tA G H Q:=h
theorem wD {m:Str}{E:XK}(h:ta G H λx H1=>∃a dx fs,x=.ref a/\H1 a=some (.ins C dx fs)/\fs.lookup m=none/\tA G H1 λvs H2=>sp (x::(vs++[])) H2 Q E):Pf C m sp [] E ta tA G H Q:=h
end
section
variable {X:Cx}
def dH (z:Str)(c:Nat):Nat:=z.cps.toList.count c
theorem T9 (c:Nat):∀l:Za4,EU c l=(l.count c:Nat)
 |[]=>rfl
 |n::r=>by
  rw[ET,T9 c r,li]
  by_cases h:n=c
  ·subst h;simp;lia
  ·simp[h]
def wH:V->List V->Hp->VK->Prop:=λx vs H Q=>∃z c,x=.str z/\vs=[.str (sgn c)]/\Q (.int (dH z c:Nat)) H
theorem Xk:MtM X "str.count" wH:=by
 intro pins s G H x vs v us Q I rx rv h;obtain⟨z,c,rfl,rfl,q⟩:=h;obtain⟨t,rfl⟩:=rx;obtain⟨u,rfl,ru⟩:=rv.one;obtain⟨t',rfl⟩:=ru;have e:Txt.count z (sgn c)=(dH z c:Nat):=(ES z c).trans (T9 c _);refine SC.count ?_;rw[e];exact⟨.int (dH z c:Nat),H,I.tok _,⟨_,rfl⟩,q⟩
def Aam (K:dn):List V->Hp->VK->Prop:=λxs H Q=>∃(p:dw) (ns:List Int),xs=[.ref p]/\SqL K H p (ns.map V.int)/\Q (.int ns.sum) H
theorem oJ (hc:X.calm=true):Ht X (.builtin "sum") (Aam X.K):=by
 intro pins s G H xs us Q I r h;obtain⟨p,ns,rfl,hp,q⟩:=h;obtain⟨u,rfl,ru⟩:=Ef r;cases ru;obtain⟨its,r,pl,_⟩:=I.list hp;have hi:=Ri r;obtain⟨ys,e⟩:=hi.allInts.items;have hl:=pl.isList;have hs:(numsOf its).sum=ns.sum:=by rw[hi.numsOf]
 rw[e] at hl;refine sum_intListG (I.ok.hd hc) hl λh' tk t' hk=>?_;refine⟨.int ns.sum,H,I.kept hk,⟨t',?_⟩,q⟩;rw[preSum_eq,fm (by simp),<-hs];have e2:=FQ ys;rw[<-e] at e2;rw[show its=its.toArray.toList from rfl,e2]
end
namespace IB
open PySem.NumText PySem.Calls
end IB
inductive Bu (K:dn) (H:Hp):Nat->V->V->Prop where
 |flat {n:Nat} {x:V} (h:Cy x=true):Bu K H n x x
 |tup {n:Nat} {a b:dw} {xs ys:List V} (h1:SqT K H a xs) (h2:SqT K H b ys) (hl:xs.length=ys.length) (h:∀(j:Nat) (x y:V),xs[j]?=some x->ys[j]?=some y->Bu K H n x y):Bu K H (n+1) (.ref a) (.ref b)
 |lst {n:Nat} {a b:dw} {xs ys:List V} (h1:SqL K H a xs) (h2:SqL K H b ys) (hl:xs.length=ys.length) (h:∀(j:Nat) (x y:V),xs[j]?=some x->ys[j]?=some y->Bu K H n x y):Bu K H (n+1) (.ref a) (.ref b)
theorem lC {x:V}(h:Cy x=true):eqV x x=true:=by
 cases x<;>first|rfl|(simp[eqV];done)|cases h
theorem Bu.flats {K:dn}{n:Nat}(h:xs.all Cy=true):∀(j:Nat) (x y:V),xs[j]?=some x->xs[j]?=some y->Bu K H n x y:=λj x y h1 h2=>by
 rw[h1] at h2;cases h2;exact .flat (ki.mp h x (ir h1))
theorem Bu.lsts {K:dn}{n:Nat}{a b:dw}(h1:SqL K H a xs)(h2:SqL K H b xs)(h:xs.all Cy=true):Bu K H (n+1) (.ref a) (.ref b):=.lst h1 h2 rfl (Bu.flats h)
theorem C1 (ns:List Int):(ns.map V.int).all Cy=true:=by simp[ki,Cy]
section
variable {X:Cx} {pins:Za1} {G:St} {H:Hp} {s:eg}
theorem Jc {n:Nat}{e:Nat->Bool}(h:∀j,e j=true):(et n).all e=true:=by simp[h]
mutual
theorem Bu.eqAt (I:Inv X pins G H s):∀{n:Nat} {x y:V} {A:ii} {u v:ed},A.units+n<cLine->Bu X.K H n x y->Bm x u->Bm y v->uc A s u v true
 |_,_,_,A,u,v,hu,.flat h,ru,rv=>by
  have:=dG (A:=A) (s:=s) ru rv h h;rw[lC h] at this;exact this
 |n+1,.ref a,.ref b,A,u,v,hu,.tup (xs:=xs) (ys:=ys) h1 h2 hl h,ru,rv=>by
  cases ru;cases rv
  by_cases hab:a=b
  ·subst hab;exact uh _
  ·obtain⟨is,r1,p1,_⟩:=I.tuple h1
   obtain⟨js,r2,p2,_⟩:=I.tuple h2;have l1:=r1.length;have l2:=r2.length;have:=xq (A:=A) (e:=λ_=>true) p1 p2 (by omega (splitDisjunctions:=true)) λj a1 a2=>Bu.items I (by show A.units+1+n<cLine;omega (splitDisjunctions:=true)) h r1 r2 j (by simpa using a1) (by simpa using a2);refine xh hab ?_;rw[Jc λ_=>rfl] at this
   simpa [<-l1,<-l2,hl] using this
 |n+1,.ref a,.ref b,A,u,v,hu,.lst (xs:=xs) (ys:=ys) h1 h2 hl h,ru,rv=>by
  cases ru;cases rv
  by_cases hab:a=b
  ·subst hab;exact uh _
  ·obtain⟨is,r1,p1,_⟩:=I.list h1
   obtain⟨js,r2,p2,_⟩:=I.list h2;have l1:=r1.length;have l2:=r2.length;have:=ua (A:=A) (e:=λ_=>true) p1.isList p2.isList (by simp;omega (splitDisjunctions:=true)) (by omega (splitDisjunctions:=true)) λj a1 a2=>Bu.items I (by show A.units+1+n<cLine;omega (splitDisjunctions:=true)) h r1 r2 j (by simpa using a1) (by simpa using a2);refine xh hab ?_;rw[Jc λ_=>rfl] at this;exact this
theorem Bu.items (I:Inv X pins G H s){n:Nat}{A:ii}{xs ys:List V}{us vs:Za3}(hu:A.units+n<cLine)(h:∀(j:Nat) (x y:V),xs[j]?=some x->ys[j]?=some y->Bu X.K H n x y)(r1:A3 xs us)(r2:A3 ys vs)(j:Nat)(h1:j<us.length)(h2:j<vs.length) :
  uc A s us[j] vs[j] true:=by
 have l1:=r1.length;have l2:=r2.length;obtain⟨x,ex⟩:∃x,xs[j]?=some x:=⟨_,dq (by omega (splitDisjunctions:=true))⟩;obtain⟨y,ey⟩:∃y,ys[j]?=some y:=⟨_,dq (by omega (splitDisjunctions:=true))⟩;obtain⟨u,eu,ru⟩:=r1.get ex;obtain⟨v,ev,rv⟩:=r2.get ey;rw[dq h1] at eu;rw[dq h2] at ev;cases eu;cases ev;exact Bu.eqAt I hu (h j x y ex ey) ru rv
end
end
def lD (K:dn)(r:Bool):R2:=λx y H Q=>∃a b,x=.ref a/\y=.ref b/\Bu K H 60 x y/\Q (.bl r) H
section
variable {X:Cx}
theorem Z1 (hu:X.A.units+60<cLine):OpR X (compareOp .Eq) (lD X.K true):=by
 intro pins s G H x y v u Q I rx ry h;obtain⟨a,b,rfl,rfl,hs,q⟩:=h;cases rx;cases ry
 cases hs with
 |flat h=>cases h
 | @tup n _ _ xs ys h1 h2 hl h=>
  obtain⟨is,r1,p1,_⟩:=I.tuple h1;obtain⟨js,r2,p2,_⟩:=I.tuple h2;have l1:=r1.length;have l2:=r2.length;have:=xq (A:=X.A) (e:=λ_=>true) p1 p2 (by lia) λj a1 a2=>Bu.items I (by show X.A.units+1+59<cLine;lia) h r1 r2 j (by simpa using a1) (by simpa using a2);rw[Jc λ_=>rfl] at this;refine this _ _ _ _ ⟨.bl true,H,I,?_,q⟩;simp[Bm,<-l1,<-l2,hl]
 | @lst n _ _ xs ys h1 h2 hl h=>
  obtain⟨is,r1,p1,_⟩:=I.list h1;obtain⟨js,r2,p2,_⟩:=I.list h2;have l1:=r1.length;have l2:=r2.length;have:=ua (A:=X.A) (e:=λ_=>true) p1.isList p2.isList (by simp;lia) (by lia) λj a1 a2=>Bu.items I (by show X.A.units+1+59<cLine;lia) h r1 r2 j (by simpa using a1) (by simpa using a2);rw[Jc λ_=>rfl] at this;exact this _ _ _ _ ⟨.bl true,H,I,rfl,q⟩
theorem Im (hu:X.A.units+60<cLine):OpR X (compareOp .NotEq) (lD X.K false):=by
 intro pins s G H x y v u Q I rx ry h;obtain⟨a,b,rfl,rfl,hs,q⟩:=h;cases rx;cases ry
 cases hs with
 |flat h=>cases h
 | @tup n _ _ xs ys h1 h2 hl h=>
  obtain⟨is,r1,p1,_⟩:=I.tuple h1;obtain⟨js,r2,p2,_⟩:=I.tuple h2;have l1:=r1.length;have l2:=r2.length;have:=DW (A:=X.A) (e:=λ_=>true) p1 p2 (by lia) λj a1 a2=>Bu.items I (by show X.A.units+1+59<cLine;lia) h r1 r2 j (by simpa using a1) (by simpa using a2);rw[Jc λ_=>rfl] at this;refine this _ _ _ _ ⟨.bl false,H,I,?_,q⟩;simp[Bm,<-l1,<-l2,hl]
 | @lst n _ _ xs ys h1 h2 hl h=>
  obtain⟨is,r1,p1,_⟩:=I.list h1;obtain⟨js,r2,p2,_⟩:=I.list h2;have l1:=r1.length;have l2:=r2.length;have:=wg (A:=X.A) (e:=λ_=>true) p1.isList p2.isList (by simp;lia) (by lia) λj a1 a2=>Bu.items I (by show X.A.units+1+59<cLine;lia) h r1 r2 j (by simpa using a1) (by simpa using a2);rw[Jc λ_=>rfl] at this;exact this _ _ _ _ ⟨.bl false,H,I,rfl,q⟩
end
theorem Fv {K:dn}{Q:VK}{a b:dw}{r:Bool}(h:Bu K H 60 (.ref a) (.ref b))(q:Q (.bl r) H):lD K r (.ref a) (.ref b) H Q:=⟨a,b,rfl,rfl,h,q⟩
theorem Ks {k:Nat}(hr:B3 k A):A.units+60<cLine:=by have:=hr.units;lia
def eqL (xs ys:List V):Bool:=decide (xs.length=ys.length)&&(et xs.length).all λj=>eqV (xs.getD j .non) (ys.getD j .non)
def pI (K:dn)(n:Bool):R2:=λx y H Q=>∃a b xs ys,x=.ref a/\y=.ref b/\SqL K H a xs/\SqL K H b ys/\xs.all Cy=true/\ys.all Cy=true/\Q (.bl (n != eqL xs ys)) H
section
variable {X:Cx} {pins:Za1} {G:St} {H:Hp} {s:eg}
theorem Tp {ys:List V}(f1:xs.all Cy=true)(f2:ys.all Cy=true)(r1:A3 xs us)(r2:A3 ys vs)(j:Nat)(h1:j<us.length)(h2:j<vs.length) :
  uc A s us[j] vs[j] (eqV (xs.getD j .non) (ys.getD j .non)):=by
 have l1:=r1.length;have l2:=r2.length;have e1:xs[j]?=some (xs[j]'(by lia)):=dq _;have e2:ys[j]?=some (ys[j]'(by lia)):=dq _;obtain⟨u,eu,ru⟩:=r1.get e1;obtain⟨v,ev,rv⟩:=r2.get e2;rw[dq h1] at eu;rw[dq h2] at ev;cases eu;cases ev;simp only[ge,e1,e2,om];exact dG ru rv (ki.mp f1 _ (ir e1)) (ki.mp f2 _ (ir e2))
end
section
variable {X:Cx}
theorem xF (hu:X.A.units+60<cLine):OpR X (compareOp .Eq) (pI X.K false):=by
 intro pins s G H x y v u Q I rx ry h;obtain⟨a,b,xs,ys,rfl,rfl,h1,h2,f1,f2,q⟩:=h;cases rx;cases ry;obtain⟨is,r1,p1,_⟩:=I.list h1;obtain⟨js,r2,p2,_⟩:=I.list h2;have l1:=r1.length;have l2:=r2.length
 by_cases hl:xs.length=ys.length
 ·have:=ua (A:=X.A) (e:=λj=>eqV (xs.getD j .non) (ys.getD j .non)) p1.isList p2.isList (by simp;lia) (by lia) λj a1 a2=>Tp (s:=s) f1 f2 r1 r2 j (by simpa using a1) (by simpa using a2)
  refine this _ _ _ _ ⟨.bl (false != eqL xs ys),H,I,?_,q⟩;unfold eqL;rw[decide_eq_true hl];simp[Bm,<-l1]
 ·have:=FV (A:=X.A) p1.isList p2.isList (by simp;lia) (by lia)
  refine this _ _ _ _ ⟨.bl (false != eqL xs ys),H,I,?_,q⟩;unfold eqL;rw[decide_eq_false hl];simp[Bm]
theorem Vx (hu:X.A.units+60<cLine):OpR X (compareOp .NotEq) (pI X.K true):=by
 intro pins s G H x y v u Q I rx ry h;obtain⟨a,b,xs,ys,rfl,rfl,h1,h2,f1,f2,q⟩:=h;cases rx;cases ry;obtain⟨is,r1,p1,_⟩:=I.list h1;obtain⟨js,r2,p2,_⟩:=I.list h2;have l1:=r1.length;have l2:=r2.length
 by_cases hl:xs.length=ys.length
 ·have:=wg (A:=X.A) (e:=λj=>eqV (xs.getD j .non) (ys.getD j .non)) p1.isList p2.isList (by simp;lia) (by lia) λj a1 a2=>Tp (s:=s) f1 f2 r1 r2 j (by simpa using a1) (by simpa using a2)
  refine this _ _ _ _ ⟨.bl (true != eqL xs ys),H,I,?_,q⟩;unfold eqL;rw[decide_eq_true hl];simp[Bm,<-l1]
 ·have:=DX (A:=X.A) p1.isList p2.isList (by simp;lia) (by lia)
  refine this _ _ _ _ ⟨.bl (true != eqL xs ys),H,I,?_,q⟩;unfold eqL;rw[decide_eq_false hl];simp[Bm]
end
theorem Yu (ns ms:List Int):eqL (ns.map V.int) (ms.map V.int)=decide (ns=ms):=by
 unfold eqL;rw[du,du]
 by_cases hl:ns.length=ms.length
 ·rw[decide_eq_true hl,Bool.true_and]
  by_cases h:ns=ms
  ·subst h
   rw[decide_eq_true rfl,ki];intro j hj;have hj:j<ns.length:=jn.mp hj;simp[ge,hj,eqV]
  ·rw[decide_eq_false h]
   refine qq.mpr λhc=>h (vb hl λj h1 h2=>?_);have:=ki.mp hc j (jn.mpr h1);simp[ge,h1,h2,eqV] at this;exact this
 ·rw[decide_eq_false hl,wq,decide_eq_false]
  intro e;exact hl (by rw[e])
theorem zA {K:dn}{Q:VK}{a b:dw}{ms:List Int}(h1:SqL K H a (ns.map V.int))(h2:SqL K H b (ms.map V.int))(q:Q (.bl (decide (ns=ms))) H):pI K false (.ref a) (.ref b) H Q:=by
 refine⟨a,b,_,_,rfl,rfl,h1,h2,C1 _,C1 _,?_⟩;rw[Yu];cases hd:decide (ns=ms)<;>(rw[hd] at q;exact q)
theorem kX {K:dn}{Q:VK}{a b:dw}{ms:List Int}(h1:SqL K H a (ns.map V.int))(h2:SqL K H b (ms.map V.int))(q:Q (.bl (!decide (ns=ms))) H):pI K true (.ref a) (.ref b) H Q:=by
 refine⟨a,b,_,_,rfl,rfl,h1,h2,C1 _,C1 _,?_⟩;rw[Yu];cases hd:decide (ns=ms)<;>(rw[hd] at q;exact q)
section
variable {X:Cx} {tg:gq}
def vN:V->List V->Hp->VK->Prop:=λx vs H Q=>∃(l:dw) (ns:List Int) (k:Int) (j:Nat),x=.ref l/\vs=[.int k]/\H l=some (.lst (ns.map V.int))/\ns[j]?=some k/\(∀i:Nat,i<j->ns[i]?≠some k)/\Q (.int (j:Nat)) H
theorem nR:MtM X "list.index" vN:=by
 intro pins s G H x vs v us Q I rx rv h;obtain⟨l,ns,k,j,rfl,rfl,hH,hj,hno,q⟩:=h;cases rx;obtain⟨u,rfl,t,rfl⟩:=Ef rv;obtain⟨z,its,n,r,hl,e⟩:=I.lstM hH;have fl:=C1 ns;have hjl:=(fc.mp hj).1;have hln:ns.length=its.length:=by rw[<-hl,du]
 have at':∀i (hi:i<its.length),eqU (.int k) its[i]=decide (ns[i]?=some k):=λi hi=>by
  have e1:(ns.map V.int)[i]?=some (.int (ns[i]'(by lia))):=by rw[d8,dq (by lia)];rfl
  obtain⟨u,eu,ru⟩:=r.get e1;rw[dq hi] at eu;cases eu;rw[Vd ru rfl,dq (by lia)];show(ns[i]==k)=decide (some ns[i]=some k)
  by_cases h:ns[i]=k
  ·rw[decide_eq_true (congrArg some h)]
   simpa using h
  ·rw[decide_eq_false λz=>h (d0 z)]
   simpa using h
 have sl:=Op;refine qv F.slot_list_index ⟨_,e,rfl⟩ F.entry_list_index (F.args_list_index_2 _ _)
  (SeqAt.list_indexAt l its.toArray n none #[] (.int k t) (eqU (.int k)) j (by simp;lia) (by rw[du] at z;lia) ?_ ?_) ⟨e,λy hy=>Hh (x:=.int k) (v:=.int k t) ⟨t,rfl⟩ rfl r fl y (by simpa using hy),?_⟩
 ·show eqU (.int k) its[j]=true
  rw[at' j (by lia),decide_eq_true hj]
 ·intro i hi hlt
  show eqU (.int k) its[i]=false;rw[at' i (by simpa using hi),decide_eq_false (hno i hlt)]
 ·exact⟨.int j,H,I.tok _,⟨_,rfl⟩,q⟩
end
section
variable {X:Cx}
theorem Ho {x:Str}{i:Int}(hg:Gl X x)(hm:∃t,X.mg x=some (.int i t))(hd:autoParam ((x==("__debug__":Str))=false) QF):PE X (.Name x pos) (tC (.int i)):=by
 obtain⟨t,h⟩:=hm;exact Ly hg h ⟨t,rfl⟩ hd
end
section
variable {G:St} {H:Hp} {D:Ji} {Q:VK} {te:TE} {QB:Bool->Hp->Prop} {tA:TA}
theorem yK {K:dn}{T:String}{r:V->List V->Hp->VK->Prop}(h:te G H λx H1=>tyV K T x H1/\r x [] H1 Q):Aaa K T r te G H Q:=h
end
theorem zR {A B:Prop}(h:B):if(!true)=true then A else B:=by
 rw[if_neg (by decide)];exact h
theorem Aae {A B:Prop}(h:A):if(!false)=true then A else B:=by
 rw[if_pos (by decide)];exact h
def SameBut (x:dw)(H H':Hp):Prop:=∀b o,b≠x->H b=some o->H' b=some o
theorem Ah.but {x:dw}(h:Ah H H'):SameBut x H H':=λb o _ e=>h b o e
theorem SameBut.trans {x:dw}(a:SameBut x H H1)(b:SameBut x H1 H2):SameBut x H H2:=λc o n h=>b c o n (a c o n h)
theorem Cb {x:dw}{o:HO}:SameBut x H (upd H x o):=λb u n e=>by rw[Aj n];exact e
theorem vI {fr:St}{tc:TT}{Q:VK}(n:Nat)(item:Nat->V)(Pv:Nat->List V->Hp->Prop)(h0:∀H,Ah H1 H->Pv 0 [] H)
  (stab:∀i ys H D xs o,H D=some (.lst xs)->Pv i ys H->Pv i ys (upd H D o))(hz:∀i ys H,i<n->Pv i ys H->ys.length<sizeLine)
  (hgo:∀i H,i<n->Ah H1 H->J.go i H)(hy:∀i H x H',i<n->Ah H1 H->J.yld i H x H'->x=item i/\H'=H)(hst:∀H,Ah H1 H->J.stop n H)
  (turn:∀i ys H (A:VK) (R:Hp->Prop),i<n->Ah H1 H->Pv i ys H->(∀y H',Ah H H'->Pv (i+1) (ys++[y]) H'->A y H')->tc (some (item i)::fr) H λb H3=>if b=true then te (some (item i)::fr) H3 A else R H3)
  (fin:∀D ys H,H1 D=none->Ah H1 H->Pv n ys H->H D=some (.lst ys)->Q (.ref D) H):Vm J H1 fr tc te Q:=by
 intro D hD;refine⟨λi m H=>i<=n/\m=n-i/\Ah H1 H/\∃ys,H D=some (.lst ys)/\Pv i ys H,⟨n,fg _,rfl,Ai hD,[],Ac,h0 _ (Ai hD)⟩,?_⟩;rintro i m H ⟨hi,rfl,sm,ys,hl,hp⟩
 by_cases h:i=n
 ·subst h
  exact .inl ⟨hst H sm,fin D ys H hD sm hp hl⟩
 ·have hlt:i<n:=jt hi h
  refine .inr ⟨hgo i H hlt sm,λx H' hyl=>?_⟩;obtain⟨rfl,rfl⟩:=hy i H x H' hlt sm hyl;refine turn i ys H' _ _ hlt sm hp (λy H4 s4 hp4=>?_);refine⟨ys,s4 _ _ hl,hz i ys _ hlt hp,n-(i+1),by lia,by lia,rfl,λb u e=>?_,ys++[y],Ac,stab _ _ _ _ _ _ (s4 _ _ hl) hp4⟩;rw[Aj (Am e hD)];exact s4 _ _ (sm _ _ e)
theorem zU:bootBuiltins "abs"=some (.builtin "abs"):=by decide +kernel
def Gp (ns:List Int)(m:Int):Prop:=m∈ns/\∀a∈ns,m<=a
def Vp (ns:List Int)(m:Int):Prop:=m∈ns/\∀a∈ns,a<=m
theorem Gp.uniq {a b:Int}(h:Gp ns a)(k:Gp ns b):a=b:=Int.le_antisymm (h.2 _ k.1) (k.2 _ h.1)
section
variable {X:Cx}
def yF (K:dn):List V->Hp->VK->Prop:=λxs H Q=>∃(p:dw) (ns:List Int),xs=[.ref p]/\SqL K H p (ns.map V.int)/\ns≠[]/\∀m,Gp ns m->Q (.int m) H
def yV (K:dn):List V->Hp->VK->Prop:=λxs H Q=>∃(p:dw) (ns:List Int),xs=[.ref p]/\SqL K H p (ns.map V.int)/\ns≠[]/\∀m,Vp ns m->Q (.int m) H
theorem Uz {G:St}{p:dw}(I:Inv X pins G H s)(hp:SqL X.K H p (ns.map V.int)):∃ys:Array (Int×Tok),s.heap.IsList p (intItems ys)/\ns=ys.toList.map (·.1):=by
 obtain⟨its,r,pl,_⟩:=I.list hp;have hi:=Ri r;obtain⟨ys,e⟩:=hi.allInts.items;have hl:=pl.isList;rw[e] at hl;exact⟨ys,hl,by rw[<-hi.numsOf,<-FQ,<-e]⟩
theorem Xy {ys:Array (Int×Tok)}{v:ed}(hz:0<ys.size)(hv:(intItems ys)[argBest (λi j=>decide (numAt ys i<numAt ys j)) (ys.size-1)]?=some v):∃m t,v=.int m t/\Gp (ys.toList.map (·.1)) m:=by
 obtain⟨t,rfl⟩:=AT hv;obtain⟨h1,h2⟩:=argBest_lt (numAt ys) (ys.size-1);refine⟨_,t,rfl,?_,λa ha=>?_⟩
 ·rw[AR]
  exact getD_mem (by rw[du,jb];lia)
 ·obtain⟨j,hj,rfl⟩:=mem_getD ha
  rw[du,jb] at hj;rw[<-AR];exact h2 j (by lia)
theorem sP {ys:Array (Int×Tok)}{v:ed}(hz:0<ys.size)(hv:(intItems ys)[argBest (λi j=>decide (numAt ys i>numAt ys j)) (ys.size-1)]?=some v):∃m t,v=.int m t/\Vp (ys.toList.map (·.1)) m:=by
 obtain⟨t,rfl⟩:=AT hv;obtain⟨h1,h2⟩:=argBest_gt (numAt ys) (ys.size-1);refine⟨_,t,rfl,?_,λa ha=>?_⟩
 ·rw[AR]
  exact getD_mem (by rw[du,jb];lia)
 ·obtain⟨j,hj,rfl⟩:=mem_getD ha
  rw[du,jb] at hj;rw[<-AR];exact h2 j (by lia)
theorem Sh {ys:Array (Int×Tok)}(e:ns=ys.toList.map (·.1))(h:ns≠[]):0<ys.size:=by
 rcases ni ys.size with z|z
 ·exfalso
  apply h;rw[e,je (l:=ys.toList) (by rw[jb];exact z)];rfl
 ·exact z
theorem iQ (hc:X.calm=true):Ht X (.builtin "min") (yF X.K):=by
 intro pins s G H xs us Q I r h;obtain⟨p,ns,rfl,hp,hne,q⟩:=h;obtain⟨u,rfl,ru⟩:=Ef r;cases ru;obtain⟨ys,hl,e⟩:=Uz I hp;have hz:=Sh e hne;refine min_intList (I.ok.hd hc) hl hz λv h' tk hv hk=>?_;obtain⟨m,t,rfl,hm⟩:=Xy hz hv;exact⟨.int m,H,I.kept hk,⟨t,rfl⟩,q m (e▸hm)⟩
theorem kH (hc:X.calm=true):Ht X (.builtin "max") (yV X.K):=by
 intro pins s G H xs us Q I r h;obtain⟨p,ns,rfl,hp,hne,q⟩:=h;obtain⟨u,rfl,ru⟩:=Ef r;cases ru;obtain⟨ys,hl,e⟩:=Uz I hp;have hz:=Sh e hne;refine max_intList (I.ok.hd hc) hl hz λv h' tk hv hk=>?_;obtain⟨m,t,rfl,hm⟩:=sP hz hv;exact⟨.int m,H,I.kept hk,⟨t,rfl⟩,q m (e▸hm)⟩
end
section
variable {prog:fq} {w:gr} {A:ii} {R:vg->eg->Prop} {I S:dw} {fp wr:List dw} {n:Nat} {P:Nat->ed->Prop} {St:Nat->im->Prop} {d:ed}
abbrev nE (I S:dw)(d:ed):Args:=⟨[.ref I,.none,.ref S],[(kj "default",d)]⟩
theorem Lj:(toString "min"++toString ".loop":String)="min.loop":=by decide
theorem rF (W:Walks prog w A.in1 I fp wr n P St)(bt:Nat->Nat->Bool)(hc:CmpOf prog w A.in1 .Lt P bt)(nS:S∉fp):∀(k j:Nat) (s:eg) (b:ed) (c:Nat),n-(j+1)=k->j+1<=n->St (j+1) s.heap->P (argBest bt j) b ->
  s.heap.get? S=some { cls:=.type "list",dict:=none,data:=.seq #[b,b] c,slots:=#[] } ->
  (∀v h' tk,P (argBest bt (n-1)) v->(∀a o,a∉wr->a≠S->s.heap.get? a=some o->h'.get? a=some o)->R (.ok (.ret v)) { s with heap:=h',toks:=tk })->codeAny (model prog w) A (.builtin "min.loop" (nE I S d)) R s:=by
 have nw:S∉wr:=λh=>nS (W.sub _ h);intro k
 induction k with
 |zero=>
  intro j s b c hk hj st hb eS hR;have hn:j+1=n:=by lia
  refine lr we ?_;rw[lg l6 _];show wpAny _ A.in1 (seqItems? (.ref S) >>= _) _ _ s;refine wpAny_bind (oz eS rfl ?_);show wpAny _ A.in1 (tryCatch (pyNext (.ref I)) _ >>= _) _ _ s;refine wpAny_bind (qu (W.done s _ _ (hn▸st) λh' tk kp=>?_));have eS':=kp S _ nw eS;show wpAny _ A.in1 (updateSeq S (λ_=>#[]) >>= _) _ _ _;refine wpAny_bind ?_;refine lq eS' rfl (wpAny_bind (uk (ez ?_)));exact hR b _ tk (by rw[<-hn];exact hb) λa o aw aS e=>(gu _ _ (lz aS)).trans (kp a o aw e)
 |succ k ih=>
  intro j s b c hk hj st hb eS hR;have hn:j+1<n:=by lia
  refine lr we ?_;rw[lg l6 _];show wpAny _ A.in1 (seqItems? (.ref S) >>= _) _ _ s;refine wpAny_bind (oz eS rfl ?_);show wpAny _ A.in1 (tryCatch (pyNext (.ref I)) _ >>= _) _ _ s;refine wpAny_bind (qu (W.item (j+1) s _ _ hn st λv h' tk hv st' kp=>?_));have eS':=kp S _ nw eS;show wpAny _ A.in1 (tryCatch (holding [v,v] (richCompare .Lt v b >>= _)) _ >>= _) _ _ _;refine wpAny_bind (qu (jf (wpAny_bind (hc (j+1) (argBest bt j) v b _ _ _ hv hb ?_))));refine wpAny_bind (jf (kb ?_));refine wpAny_bind (uk (ez ?_))
  cases t:bt (j+1) (argBest bt j) with
  |true=>
   simp only[if_true];refine wpAny_bind ?_;refine lq eS' rfl (wpAny_bind (uk ?_));rw[Lj];refine ez ⟨nz l6 _,ih (j+1) _ v _ (by lia) hn (W.frame _ _ _ st' λa af o e=>?_) (by simp only[argBest,t,if_true];exact hv) (ja _ eS' rfl) λv' h2 tk2 hv' kp2=>?_⟩
   ·exact(gu _ _ (λz:S=a=>nS (by rw[z];exact af))).trans e
   ·exact hR v' h2 tk2 hv' λa o aw aS e=>kp2 a o aw aS ((gu _ _ (lz aS)).trans (kp a o aw e))
  |false=>
   simp only[md,if_false];refine wpAny_bind (uk ?_);rw[Lj];refine ez ⟨nz l6 _,ih (j+1) _ b c (by lia) hn st' (by simp only[argBest,t,md,if_false];exact hb) eS' λv' h2 tk2 hv' kp2=>?_⟩;exact hR v' h2 tk2 hv' λa o aw aS e=>kp2 a o aw aS (kp a o aw e)
theorem dP (W:Walks prog w A.in1 I fp wr n P St)(bt:Nat->Nat->Bool)(hc:CmpOf prog w A.in1 .Lt P bt)(nS:S∉fp){c:Nat}(st:St 0 s.heap)(eS:s.heap.get? S=some { cls:=.type "list",dict:=none,data:=.seq #[] c,slots:=#[] })
  (h0:n=0->∀h' tk,(∀a o,a∉wr->a≠S->s.heap.get? a=some o->h'.get? a=some o)->R (.ok (.ret d)) { s with heap:=h',toks:=tk })
  (hR:0<n->∀v h' tk,P (argBest bt (n-1)) v->(∀a o,a∉wr->a≠S->s.heap.get? a=some o->h'.get? a=some o)->R (.ok (.ret v)) { s with heap:=h',toks:=tk }):codeAny (model prog w) A (.builtin "min.loop" (nE I S d)) R s:=by
 have nw:S∉wr:=λh=>nS (W.sub _ h);refine lr we ?_;rw[lg l6 _];show wpAny _ A.in1 (seqItems? (.ref S) >>= _) _ _ s;refine wpAny_bind (oz eS rfl ?_);show wpAny _ A.in1 (tryCatch (pyNext (.ref I)) _ >>= _) _ _ s;rcases ni n with hn|hn
 ·refine wpAny_bind (qu (W.done s _ _ (hn▸st) λh' tk kp=>?_))
  exact wpAny_bind (BQ (ez (h0 hn h' tk λa o aw _ e=>kp a o aw e)))
 ·refine wpAny_bind (qu (W.item 0 s _ _ hn st λv h' tk hv st' kp=>?_))
  have eS':=kp S _ nw eS;show wpAny _ A.in1 (updateSeq S (λ_=>#[v,v]) >>= _) _ _ _;refine wpAny_bind ?_;refine lq eS' rfl ?_;rw[Lj];refine ez ⟨nz l6 _,rF W bt hc nS _ 0 _ v _ rfl hn (W.frame _ _ _ st' λa af o e=>?_) hv (ja _ eS' rfl) λv' h2 tk2 hv' kp2=>?_⟩
  ·exact(gu _ _ (λz:S=a=>nS (by rw[z];exact af))).trans e
  ·exact hR hn v' h2 tk2 hv' λa o aw aS e=>kp2 a o aw aS ((gu _ _ (lz aS)).trans (kp a o aw e))
end
section
variable {prog:fq} {w:gr} {A:ii} {E:Za0} {s:eg}
theorem kC (a v:ed):argsOk "min" ⟨[a],[(kj "default",v)]⟩:=by unfold argsOk;kernel_rfl
theorem jO (d:ed):su "min" ["key","default"] 0 ⟨[],[(kj "default",d)]⟩=pure [none,some d]:=by kernel_rfl
theorem kG {l:dw}{ys:Array (Int×Tok)}{d:ed}{Q:Za0}(hh:A.handled=none)(hl:s.heap.IsList l (intItems ys))(h0:ys.size=0->∀h' tk,(∀b o,s.heap.get? b=some o->h'.get? b=some o)->Q d { s with heap:=h',toks:=tk })
  (h1:0<ys.size->∀v h' tk,(intItems ys)[argBest (λi j=>decide (numAt ys i<numAt ys j)) (ys.size-1)]?=some v->(∀b o,s.heap.get? b=some o->h'.get? b=some o)->Q v { s with heap:=h',toks:=tk }) :
  wpAny (model prog w) A (call (.builtin "min") [.ref l] [(kj "default",d)]) Q E s:=by
 refine kmb_tree F.kind_min F.plain_min F.entry_min (kC _ _) ?_;show wpAny _ A.in1 (su "min" ["key","default"] 0 ⟨[],[(kj "default",d)]⟩ >>= _) _ _ s;refine wpAny_bind (na (jO d) ?_);refine wpAny_bind (ez ?_);refine wpAny_bind (iter_intList hl λHE e st hfp hlI=>?_);subst e;have hsz:(intItems ys).size=ys.size:=by simp[intItems]
 refine wpAny_bind (wb ?_);rw[Lj];refine ez ⟨nz l6 _,?_⟩;refine dP (Walks.list (A:=A.in1) hh _ l hlI (intItems ys)) _ (CmpOf.ints_lt (numAt ys) (λ_ _=>AT)) (λhm=>jj _ (hfp _ hm)) ⟨st.1.at λo e=>d4 _ e,st.2.push _⟩ (gk _ rfl) (λhz h' tk kp=>?_) (λhz v h' tk hv kp=>?_)
 ·refine h0 (by rw[<-hsz];exact hz) h' tk (old_kept λb o hb e=>kp b o hb (fu (ee e)) (d4 _ e))
 ·rw[hsz] at hz
  refine h1 hz v h' tk (by simpa [intItems] using hv) (old_kept λb o hb e=>kp b o hb (fu (ee e)) (d4 _ e))
end
section
variable {X:Cx} {x:Str} {p pos:Pos} {e:gq} {es:List gq} {kws:List yf} {t tk:TA} {id:String} {ks:Za6}
def lY (X:Cx)(f:ed)(ks:Za6)(r:List V->List V->Hp->VK->Prop):Prop:=
 ∀(pins:Za1) (s:eg) (G:St) (H:Hp) (xs zs:List V) (us ws:Za3) (Q:VK),Inv X pins G H s->A3 xs us->A3 zs ws->r xs zs H Q->wpAny (model X.prog X.w) X.A (call f us (ks.zip ws)) (EP X pins G Q) X.xe s
def yN (r:List V->List V->Hp->VK->Prop)(t tk:TA):TE:=λG H Q=>t G H λvs H1=>tk G H1 λzs H2=>r vs zs H2 Q
theorem kL {r:List V->List V->Hp->VK->Prop}(hc:lY X (.builtin id) ks r)(hg:Gl X x)(hm:X.mg x=none)(hv:bootBuiltins x=some (.builtin id))(ha:PA X (e::es) t)(hkw:PK X kws tk)(hks:autoParam ((backToKw pos (keywordEach kws X.env)).filterMap (·.1)=ks) QD)
  (hn:autoParam (x≠"__name__") QF)(hdb:autoParam ((x==("__debug__":Str))=false) QF)(he:autoParam (backTo pos (starEach (e::es) X.env)=(false,eval e X.env)::backTo pos (starEach es X.env)) QD)(hpl:autoParam ((backTo pos (starEach (e::es) X.env)).any (·.1)=false) QD)
  (hall:autoParam ((backToKw pos (keywordEach kws X.env)).all (·.1.isSome)=true) QD)(hnone:autoParam ((backToKw pos (keywordEach kws X.env)).any (·.1.isNone)=false) QD):PE X (.Call (.Name x p) (e::es) kws pos) (yN r t tk):=by
 k_in;refine wpAny_Call_Name_kw (Ev I hg hm hv ?_ hn hdb);refine callWith_kw (thA ha I h λus s1 vs H1 I1 r1 q1=>?_) he hpl hall hnone;refine thn (hkw pos pins s1 G H1 _ I1 q1) λws s2 ⟨zs,H2,I2,r2,q2⟩=>?_;rw[hks];exact hc pins s2 G H2 vs zs us ws Q I2 r1 r2 q2
def yW (K:dn):List V->List V->Hp->VK->Prop:=λxs zs H Q=>∃(p:dw) (ns:List Int) (d:V),xs=[.ref p]/\zs=[d]/\SqL K H p (ns.map V.int)/\(ns=[]->Q d H)/\∀m,Gp ns m->Q (.int m) H
theorem iX (hc:X.calm=true):lY X (.builtin "min") ["default"] (yW X.K):=by
 intro pins s G H xs zs us ws Q I r r2 h;obtain⟨p,ns,d,rfl,rfl,hp,q0,q1⟩:=h;obtain⟨u,rfl,ru⟩:=Ef r;obtain⟨u2,rfl,ru2⟩:=Ef r2;cases ru;obtain⟨ys,hl,e⟩:=Uz I hp;refine kG (I.ok.hd hc) hl (λhz h' tk hk=>?_) (λhz v h' tk hv hk=>?_)
 ·refine⟨d,H,I.kept hk,ru2,q0 ?_⟩
  rw[e,je (l:=ys.toList) (by rw[jb];exact hz)];rfl
 ·obtain⟨m,t,rfl,hm⟩:=Xy hz hv
  exact⟨.int m,H,I.kept hk,⟨t,rfl⟩,q1 m (e▸hm)⟩
theorem yP {r:List V->List V->Hp->VK->Prop}{G:St}{Q:VK}(h:t G H λvs H1=>tk G H1 λzs H2=>r vs zs H2 Q):yN r t tk G H Q:=h
end
theorem gW {z:Str}{g:TG}{tb:TS}{D:Ji}{G:St}(Pv:Nat->St->Hp->Prop)(h0:Pv 0 G H)
  (hs:∀(i c:Nat) G H,z.cps[i]?=some c->Pv i G H->g (.str (sgn c)) G H λHF H2=>tb { D with nx:=Pv (i+1),ct:=Pv (i+1),bk:=D.nx } HF H2)(hd:∀G H,Pv z.cps.size G H->D.nx G H):lQ (Its z) g tb D G H:=by
 refine⟨λi m G H=>i<=z.cps.size/\m=z.cps.size-i/\Pv i G H,⟨_,fg _,rfl,h0⟩,?_⟩;rintro i m G H ⟨hi,rfl,hP⟩
 by_cases h:i=z.cps.size
 ·subst h
  exact .inl ⟨d3 _,hd G H hP⟩
 ·have hlt:i<z.cps.size:=jt hi h
  refine .inr ⟨hlt,Pv (i+1),λmt H' hN=>⟨z.cps.size-(i+1),by lia,hlt,rfl,hN⟩,λx H' hy=>?_⟩;obtain⟨rfl,c,hc,rfl⟩:=hy;exact hs i c G _ hc hP
end L2
end
section
namespace TW
def cnt (l:Za5)(k:Nat):Nat:=(l.take k).count true
theorem nY (f:Nat->Bool)(n:Nat):[n].filter f=if f n then[n] else[]:=by
 cases h:f n<;>simp[List.filter,h]
def occ (b:Bool)(l:Za5)(n:Nat):Za4:=(et n).filter λi=>l.getD i false==b
theorem Jb (b:Bool)(l:Za5)(n:Nat):occ b l (n+1)=occ b l n++if l.getD n false==b then[n] else[]:=by
 unfold occ;rw[iu,k8,nY]
theorem fR (b:Bool)(l:Za5)(n:Nat):∀d:Nat,occ b l (n+d)=occ b l n++((et d).filter λp=>l.getD (n+p) false==b).map (n + ·)
 |0=>by simp
 |d+1=>by
  rw[show n+(d+1)=n+d+1 by lia,Jb,fR b l n d,iu,k8,eh,gj,nY];congr 2;cases l.getD (n+d) false==b<;>rfl
theorem sD {b:Bool}{l:Za5}{n m i:Nat}(h:n<=m)(hi:i<(occ b l n).length):(occ b l m)[i]?=(occ b l n)[i]?:=by
 obtain⟨d,rfl⟩:=Nat.le.dest h;rw[fR,fb hi]
theorem P3 (l:Za5):∀n:Nat,(occ true l n).length=cnt l n/\(occ false l n).length+cnt l n=n
 |0=>by simp[occ,cnt]
 |n+1=>by
  obtain⟨h1,h2⟩:=P3 l n;have e:cnt l (n+1)=cnt l n+(l.getD n false).toNat:=by
   unfold cnt;rw[ip,iq,wn]
   cases hx:l[n]? with
   |none=>simp
   |some b=>cases b<;>simp
  rw[Jb,Jb,e];cases l.getD n false<;>simp<;>lia
def dAt (ds:Za4)(k:Nat):Nat:=ds.getD k 0
def opn (ds:Za4):Nat->Nat
 |0=>0
 |k+1=>dAt ds k+1
def way (ds:Za4):Nat->List Int
 |0=>[-1]
 |k+1=>(way ds k).take (dAt ds k+1)++[(k:Int)]
def Dok (ds:Za4):Prop:=∀k,k<ds.length->dAt ds k<=opn ds k
def eld (ds:Za4)(k:Nat):Int:=(way ds k).getD (dAt ds k) 0
def B2 (ds:Za4):List Int:=(et ds.length).map (eld ds)
theorem Dy {ds:Za4}(h:Dok ds):∀k,k<=ds.length->(way ds k).length=opn ds k+1
 |0,_=>rfl
 |k+1,hk=>by
  show((way ds k).take (dAt ds k+1)++[(k:Int)]).length=dAt ds k+1+1;have:=Dy h k (by lia);have:=h k (by lia);rw[d5,d9];simp only[fj,gw];lia
theorem Dg {ds:Za4}(h:Dok ds):∀k,k<=ds.length->(way ds k)[0]?=some (-1)
 |0,_=>rfl
 |k+1,hk=>by
  show((way ds k).take (dAt ds k+1)++[(k:Int)])[0]?=some (-1);have e:=Dg h k (by lia);have hl:=Dy h k (by lia);rw[fb (by rw[d9];lia),fe (by lia)];exact e
theorem Sx {ds:Za4}(h:Dok ds):∀(k j:Nat) (x:Int),k<=ds.length->(way ds k)[j+1]?=some x->∃v:Nat,x=(v:Int)/\v<k/\dAt ds v=j
 |0,j,x,_,e=>by cases e
 |k+1,j,x,hk,e=>by
  have e:((way ds k).take (dAt ds k+1)++[(k:Int)])[j+1]?=some x:=e;have hl:=Dy h k (by lia);have hd:=h k (by lia);have hl2:((way ds k).take (dAt ds k+1)).length=dAt ds k+1:=by rw[d9];lia
  by_cases hj:j+1<dAt ds k+1
  ·rw[fb (by lia),fe hj] at e
   obtain⟨v,hv,hlt,hdv⟩:=Sx h k j x (by lia) e;exact⟨v,hv,by lia,hdv⟩
  ·rw[e9 (by lia),hl2] at e
   have e0:j+1-(dAt ds k+1)=0:=by
    have:=(fc.mp e).1;simp only[fj,gw] at this;lia
   rw[e0] at e;have e:=d0 e;exact⟨k,e.symm,by lia,by lia⟩
theorem M1 {ds:Za4}(h:Dok ds):∀(k i j:Nat) (x y:Int),k<=ds.length->i<j->(way ds k)[i]?=some x->(way ds k)[j]?=some y->x<y
 |0,i,j,x,y,_,hij,e1,e2=>by
  have:=(fc.mp e2).1;simp only[way,fj,gw] at this;lia
 |k+1,i,j,x,y,hk,hij,e1,e2=>by
  have hl:=Dy h k (by lia);have hd:=h k (by lia);have hl2:((way ds k).take (dAt ds k+1)).length=dAt ds k+1:=by rw[d9];lia
  have e2':((way ds k).take (dAt ds k+1)++[(k:Int)])[j]?=some y:=e2;have e1':((way ds k).take (dAt ds k+1)++[(k:Int)])[i]?=some x:=e1
  by_cases hj:j<dAt ds k+1
  ·rw[fb (by lia),fe hj] at e2'
   rw[fb (by lia),fe (by lia)] at e1';exact M1 h k i j x y (by lia) hij e1' e2'
  ·rw[e9 (by lia),hl2] at e2'
   have e0:j-(dAt ds k+1)=0:=by
    have:=(fc.mp e2').1;simp only[fj,gw] at this;lia
   rw[e0] at e2';have ey:=d0 e2';rw[fb (by lia),fe (by lia)] at e1'
   cases i with
   |zero=>
    rw[Dg h k (by lia)] at e1';have:=d0 e1';lia
   |succ i=>
    obtain⟨v,hv,hlt,_⟩:=Sx h k i x (by lia) e1';lia
theorem F1 {ds:Za4}(h:Dok ds){k:Nat}(hk:k<ds.length):(way ds k)[dAt ds k]?=some (eld ds k):=by
 have hl:=Dy h k (by lia);have hd:=h k hk;unfold eld ge;rw[dq (by lia)];rfl
theorem Lu {ds:Za4}(h:Dok ds){k:Nat}(hk:k<ds.length)(e:eld ds k=-1):dAt ds k=0:=by
 have ha:=F1 h hk
 cases hd:dAt ds k with
 |zero=>rfl
 |succ j=>
  rw[hd] at ha;obtain⟨v,hv,_⟩:=Sx h k j _ (by lia) ha;lia
theorem Fg {ds:Za4}(h:Dok ds){k:Nat}(hk:k<ds.length)(e:eld ds k≠-1):∃v:Nat,eld ds k=(v:Int)/\v<k/\dAt ds k=dAt ds v+1:=by
 have ha:=F1 h hk
 cases hd:dAt ds k with
 |zero=>
  rw[hd,Dg h k (by lia)] at ha;exact absurd (d0 ha).symm e
 |succ j=>
  rw[hd] at ha;obtain⟨v,hv,hlt,hdv⟩:=Sx h k j _ (by lia) ha;exact⟨v,hv,hlt,by lia⟩
theorem vL {ds:Za4}(h:Dok ds){k:Nat}(hk:k<ds.length):-1<=eld ds k:=by
 by_cases e:eld ds k=-1
 ·lia
 ·obtain⟨v,hv,_⟩:=Fg h hk e
  lia
theorem Bc (ds:Za4):(B2 ds).length=ds.length:=by unfold B2;rw[du,fh]
theorem F4 {ds:Za4}{k:Nat}(hk:k<ds.length):(B2 ds)[k]?=some (eld ds k):=by
 unfold B2;rw[d8,ij hk];rfl
theorem oR {ds es:Za4}(h1:Dok ds)(h2:Dok es)(e:B2 ds=B2 es):ds=es:=by
 have hl:ds.length=es.length:=by rw[<-Bc ds,<-Bc es,e]
 have key:∀k,k<ds.length->dAt ds k=dAt es k:=by
  intro k
  induction k using BH with
  |_ k ih=>
   intro hk;have ek:eld ds k=eld es k:=by
    have a:=F4 hk;have b:=F4 (ds:=es) (k:=k) (by lia);rw[e] at a;rw[a] at b;exact d0 b
   by_cases ht:eld ds k=-1
   ·rw[Lu h1 hk ht,Lu h2 (by lia) (by rw[<-ek];exact ht)]
   ·obtain⟨v,hv,hlt,hd⟩:=Fg h1 hk ht
    obtain⟨u,hu,hlu,hd2⟩:=Fg h2 (k:=k) (by lia) (by rw[<-ek];exact ht);have:v=u:=by lia
    subst this;rw[hd,hd2,ih v hlt (by lia)]
 refine vb hl λk a b=>?_;have:=key k a;unfold dAt at this
 simpa [ge,a,b] using this
def Be (ds:Za4)(k:Nat):Za5:=dv (opn ds k-dAt ds k) false++[true]
def Nm (ds:Za4)(k:Nat):Za5:=((et k).map (Be ds)).flatten
def Aq (ds:Za4):Za5:=Nm ds ds.length++dv (opn ds ds.length) false
theorem Gy (ds:Za4)(k:Nat):Nm ds (k+1)=Nm ds k++Be ds k:=by
 unfold Nm;rw[iu,eh,jc];simp
theorem Xx {ds:Za4}(h:Dok ds):∀k,k<=ds.length->(Nm ds k).length+opn ds k=2*k
 |0,_=>rfl
 |k+1,hk=>by
  have:=Xx h k (by lia);have:=h k (by lia);rw[Gy,d5];show(Nm ds k).length+(dv (opn ds k-dAt ds k) false++[true]).length+(dAt ds k+1)=2*(k+1);rw[d5,gm];simp only[fj,gw];lia
theorem Bh {ds:Za4}(h:Dok ds):(Aq ds).length=2*ds.length:=by
 unfold Aq;rw[d5,gm];exact Xx h _ (d3 _)
def Vs:Nat->Za5->Prop
 |h,[]=>h=0
 |h,false::s=>0<h/\Vs (h-1) s
 |h,true::s=>Vs (h+1) s
theorem Sf:∀(m h:Nat) (s:Za5),Vs h s->Vs (h+m) (dv m false++s)
 |0,h,s,v=>v
 |m+1,h,s,v=>by
  rw[ig];refine⟨by lia,?_⟩;show Vs (h+(m+1)-1) (dv m false++s);rw[show h+(m+1)-1=h+m by lia];exact Sf m h s v
theorem eZ {ds:Za4}(h:Dok ds):∀(m k:Nat),k+m=ds.length->Vs (opn ds k) (((et m).map λi=>Be ds (k+i)).flatten++dv (opn ds ds.length) false)
 |0,k,e=>by
  have e:k=ds.length:=by lia
  subst e;have:=Sf (opn ds ds.length) 0 [] rfl;rw[qa,kq] at this;exact this
 |m+1,k,e=>by
  have ih:=eZ h m (k+1) (by lia);have hd:=h k (by lia);rw[ky,ju,jz,jl];have e1:((λi=>Be ds (k+i)) ∘ BX)=λi=>Be ds (k+1+i):=by
   funext i
   show Be ds (k+(i+1))=Be ds (k+1+i);rw[show k+(i+1)=k+1+i by lia]
  rw[e1];show Vs (opn ds k) ((dv (opn ds k-dAt ds (k+0)) false++[true]++_)++_);rw[kl,gj,gj];have:=Sf (opn ds k-dAt ds k) (dAt ds k) (true::(((et m).map λi=>Be ds (k+1+i)).flatten++dv (opn ds ds.length) false)) ih;rw[show dAt ds k+(opn ds k-dAt ds k)=opn ds k by lia] at this;exact this
theorem nD {ds:Za4}(h:Dok ds):Vs 0 (Aq ds):=by
 have:=eZ h ds.length 0 (by lia);unfold Aq Nm;have e:(λi=>Be ds (0+i))=Be ds:=by funext i;rw[qa]
 rw[e] at this;exact this
theorem R7:∀(m n:Nat) (s t:Za5),dv m false++true::s=dv n false++true::t->m=n/\s=t
 |0,0,s,t,e=>⟨rfl,by simpa using e⟩
 |0,n+1,s,t,e=>by rw[ig] at e;cases e
 |m+1,0,s,t,e=>by rw[ig] at e;cases e
 |m+1,n+1,s,t,e=>by
  rw[ig,ig] at e;obtain⟨a,b⟩:=R7 m n s t (oh e).2;exact⟨by lia,b⟩
theorem W3 {ds es:Za4}(h1:Dok ds)(h2:Dok es)(hl:ds.length=es.length):∀(m k:Nat),k+m=ds.length->opn ds k=opn es k ->
  ((et m).map λi=>Be ds (k+i)).flatten++dv (opn ds ds.length) false=((et m).map λi=>Be es (k+i)).flatten++dv (opn es es.length) false->∀i,k<=i->i<ds.length->dAt ds i=dAt es i
 |0,k,e,_,_=>λi a b=>by lia
 |m+1,k,e,ho,hr=>λi a b=>by
  have f:∀xs:Za4,((et (m+1)).map λi=>Be xs (k+i)).flatten=dv (opn xs k-dAt xs k) false++true::((et m).map λi=>Be xs (k+1+i)).flatten:=λxs=>by
   rw[ky,ju,jz,jl];have e1:((λi=>Be xs (k+i)) ∘ BX)=λi=>Be xs (k+1+i):=by
    funext i
    show Be xs (k+(i+1))=Be xs (k+1+i);rw[show k+(i+1)=k+1+i by lia]
   rw[e1];show(dv (opn xs k-dAt xs (k+0)) false++[true])++_=_;rw[kl,gj];rfl
  rw[f,f,gj,gj,qz,qz] at hr;obtain⟨e1,e2⟩:=R7 _ _ _ _ hr;have d1:=h1 k (by lia);have d2:=h2 k (by lia);have hk:dAt ds k=dAt es k:=by lia
  by_cases hi:i=k
  ·rw[hi];exact hk
  ·exact W3 h1 h2 hl m (k+1) (by lia) (by show dAt ds k+1=dAt es k+1;lia) e2 i (by lia) b
theorem lK {ds es:Za4}(h1:Dok ds)(h2:Dok es)(e:Aq ds=Aq es):ds=es:=by
 have hl:ds.length=es.length:=by
  have a:=Bh h1;have b:=Bh h2;rw[e] at a;lia
 have z:∀xs:Za4,Aq xs=((et xs.length).map λi=>Be xs (0+i)).flatten++dv (opn xs xs.length) false:=λxs=>by
  unfold Aq Nm;have e:(λi=>Be xs (0+i))=Be xs:=by funext i;rw[qa]
  rw[e]
 have key:=W3 h1 h2 hl ds.length 0 (by lia) rfl (by rw[<-z,e,z,hl]);refine vb hl λk a b=>?_;have:=key k (by lia) a;unfold dAt at this
 simpa [ge,a,b] using this
end TW
end
section
namespace L2
open PySem PySem.Spec PyProof.Rows
variable {C CS Pt dx i1 i2 it l1 l2 z:dw} {params:lu} {A:ii} {CX:CXT} {op:ss} {X:Cx} {env:Env} {tg:gq} {fd:i3} {base h h' h1:im} {H H' H1 H2:Hp} {J:It} {pins:Za1} {fp:List dw} {outer:List Env} {elts:List gq} {ns:List Int} {ix:Za4} {N ps:Za6} {ts:List Tb} {xs:List V} {us vs:Za3} {M:rk} {off t':Nat} {oT:Obj} {od:Option dw} {pos:Pos} {scope:lm} {pl:Sem Bool} {s s2:eg} {sp:Sp} {st:io} {qual:Str} {tk:TA} {te:TE} {wi:TI} {y:V} {pm:ed} {w:gr}
def Kd {α:Type}:Sem α->Prop
 |.pure _=>True
 |.raise _=>True
 |.unsupported _=>True
 |.finish _=>True
 |.rule _ k=>Kd (k ())
 |.at _ k=>Kd (k ())
 |.load _ _ k=>∀o,Kd (k o)
 |.update _ _ f k=>(∀o,(f o).dict=o.dict/\(f o).isFreed=o.isFreed)/\Kd (k ())
 |.alloc _ k=>∀a,Kd (k a)
 |.loadIfAlive _ k=>∀o,Kd (k o)
 |.point _ k=>Kd (k ())
 |.fresh k=>∀t,Kd (k t)
 |.ask k=>∀x,Kd (k x)
 |.stack k=>∀x,Kd (k x)
 |.handled _ k=>∀x,Kd (k x)
 |.thread k=>∀x,Kd (k x)
 |_=>False
theorem Kd.bind {α β:Type}{m:Sem α}{f:α->Sem β}(h:Kd m)(hf:∀a,Kd (f a)):Kd (m >>= f):=by
 show Kd (m.bind f)
 induction m<;>first|exact hf _|exact h.elim|exact trivial|skip
 all_goals (rename_i ih;first|exact ih _ h|exact λo=>ih o (h o)|exact⟨h.1,ih _ h.2⟩)
def Kn (h h':im):Prop:=∀b o,h.get? b=some o->∃o',h'.get? b=some o'/\o'.dict=o.dict
theorem Kn.refl (h:im):Kn h h:=λ_ o e=>⟨o,e,rfl⟩
theorem Kn.trans {h2 h3:im}(a:Kn h1 h2)(b:Kn h2 h3):Kn h1 h3:=λx o e=>by
 obtain⟨o1,e1,d1⟩:=a x o e;obtain⟨o2,e2,d2⟩:=b x o1 e1;exact⟨o2,e2,d2.trans d1⟩
theorem Zh (h:im)(o:Obj):Kn h (h.push o):=λ_ u e=>⟨u,d4 _ e,rfl⟩
theorem iO {a:dw}{f:Obj->Obj}(hf:∀o,(f o).dict=o.dict/\(f o).isFreed=o.isFreed):Kn h (h.update a f):=λb o e=>by
 by_cases hb:b=a
 ·subst hb
  have fr:=(Heap.get?_some_iff.mp e).2;exact⟨f o,ja f e (by rw[(hf o).2];exact fr),(hf o).1⟩
 ·exact⟨o,(gu _ _ (lz hb)).trans e,rfl⟩
theorem zV {α:Type}{Γ:PySem.Ctx}{m:Sem α}:∀{Q:α->Pos->eg->Prop} {E:ed->Pos->eg->Prop} {p:Pos} {s:eg},Kd m->FI M Γ m Q E p s->FI M Γ m (λa p' s'=>Q a p' s'/\Kn s.heap s'.heap) E p s:=by
 induction m with
 |pure x=>exact λ_ h=>⟨h,Kn.refl _⟩
 |raise v=>exact λ_ h=>h
 |unsupported=>exact λ_ h=>h
 |finish=>exact λ_ h=>h
 |rule _ k ih=>exact λq h=>ih _ q h
 | «at» _ k ih=>exact λq h=>ih _ q h
 |load a _ k ih=>
  intro Q E p s q h;obtain⟨o,ho,h⟩:=h;exact⟨o,ho,ih o (q o) h⟩
 |update a _ f k ih=>
  intro Q E p s q h;obtain⟨ha,h⟩:=h;exact⟨ha,DY _ _ _ (λ_ _ _ z=>⟨z.1,(iO q.1).trans z.2⟩) (λ_ _ _ z=>z) _ _ (ih _ q.2 h)⟩
 |alloc o k ih=>
  intro Q E p s q h;exact DY _ _ _ (λ_ _ _ z=>⟨z.1,(Zh _ o).trans z.2⟩) (λ_ _ _ z=>z) _ _ (ih _ (q _) h)
 |loadIfAlive _ k ih=>exact λq h=>ih _ (q _) h
 |point _ k ih=>exact λq h=>ih _ q h
 |fresh k ih=>exact λq h=>ih _ (q _) h
 |ask k ih=>exact λq h=>ih _ (q _) h
 |stack k ih=>exact λq h=>ih _ (q _) h
 |handled _ k ih=>exact λq h=>ih _ (q _) h
 |thread k ih=>exact λq h=>ih _ (q _) h
 |_=>exact λq=>q.elim
theorem Of {α:Type}{m:Sem α}{Q:α->eg->Prop}{E:Za0}(q:Kd m)(h:wpAny M A m Q E s):wpAny M A m (λa s'=>Q a s'/\Kn s.heap s'.heap) E s:=λΓ p hΓ=>zV q (h Γ p hΓ)
theorem Wn (a:dw):Kd (load a):=λ_=>trivial
theorem Zc (v:ed):Kd (fieldsOf v):=by
 unfold fieldsOf;split
 ·exact Kd.bind (Wn _) λo=>by split<;>exact trivial
 ·exact trivial
theorem M6 (v:ed)(i:Nat):Kd (field v i):=Kd.bind (Zc v) λa=>by split<;>exact trivial
theorem rP (f:Array ed->Array ed)(o:Obj):(CF f o).dict=o.dict/\(CF f o).isFreed=o.isFreed:=by
 obtain⟨c,d,dt,sl⟩:=o;cases dt<;>exact⟨rfl,rfl⟩
theorem K9 (v:ed)(i:Nat)(x:ed):Kd (setField v i x):=by
 unfold setField;split
 ·unfold updateField
  refine Kd.bind (Wn _) λo=>?_;split
  ·split
   ·exact⟨rP _,trivial⟩
   ·exact trivial
  ·exact trivial
 ·exact trivial
theorem Jv (e:ed)(f:Option dw):Kd (setFlight e f):=by
 unfold setFlight;refine Kd.bind (M6 _ _) λtb=>?_;split
 ·exact K9 _ _ _
 ·exact trivial
theorem Ye:∀l:List Env,Kd (readyFrames l)
 |[]=>trivial
 |env::outer=>by
  unfold readyFrames;split
  ·rename_i f hf
   refine Kd.bind (Wn _) λo=>?_;split
   ·exact trivial
   ·refine Kd.bind ?_ λi=>Kd.bind ?_ λb=>⟨λo=>?_,Ye outer⟩
    ·unfold behindIsImport
     split
     ·exact trivial
     ·split
      ·exact trivial
      ·exact Kd.bind (M6 _ _) λ_=>trivial
    ·unfold keptBack
     split
     ·split
      ·exact trivial
      ·refine Kd.bind ?_ λ_=>trivial
       unfold underTheClaimsCaller;exact λ_=>trivial
     ·exact trivial
    ·obtain⟨c,d,dt,sl⟩:=o
     cases dt<;>exact⟨rfl,rfl⟩
  ·exact trivial
theorem dC (env:Env):Kd (ww env):=by
 unfold ww;refine Kd.bind (λ_=>trivial) λl=>Kd.bind ?_ λo=>?_
 ·unfold frameObject
  split
  ·exact trivial
  ·exact Kd.bind (Ye _) λ_=>trivial
 ·split<;>exact trivial
theorem oK (f:dw)(b:Bool):Kd (entryPlaceOf f b):=by
 unfold entryPlaceOf;refine Kd.bind (λ_=>trivial) λl=>?_;split<;>exact trivial
theorem mC (a b c d e:ed)(l:Za3):Kd (rn a b c d e l):=by
 unfold rn newFields;generalize ([a,b,c,d,e]++if l.isEmpty=true then dv 6 ll else l).toArray=vs;unfold newObj;dsimp only;have as_is:Kd (newObjAsIs (.type "traceback") (.fields vs) none):=Kd.bind (m:=alloc _) (λ_=>trivial) λ_=>trivial;split
 ·exact Kd.bind (m:=unsupported _) trivial λ_=>as_is
 ·exact as_is
theorem fT (e:ed)(env:Env):Kd (noteFrame e env):=by
 unfold noteFrame;have jp:∀(f:dw) (head:ed),Kd (do
   let a <-ww env
   let b <-entryPlaceOf f (head != ll)
   let c <-rn head a ll (rawInt ↑f) ll b
   setField e 1 c):=λf head=>Kd.bind (dC _) λ_=>Kd.bind (oK _ _) λ_=>Kd.bind (mC _ _ _ _ _ _) λ_=>K9 _ _ _
 split
 ·refine Kd.bind (M6 _ _) λhead=>?_
  dsimp only;split
  ·refine Kd.bind (M6 _ _) λv=>?_
   split
   ·exact trivial
   ·exact Kd.bind (K9 _ _ _) λ_=>jp _ _
  ·exact jp _ _
 ·exact trivial
theorem M2 (e:ed)(env:Env):Kd (leaving env e):=Kd.bind (fT _ _) λ_=>Jv _ _
def Pu (B:im)(l:List Env)(e:dw)(cls a0:ed)(od:Option dw)(h:im):Prop:=rm B l e cls a0 h/\∃o,h.get? e=some o/\o.dict=od
def tJ (B:im)(l:List Env)(e:dw)(cls a0:ed)(od:Option dw)(L:dw)(h:im):Prop:=EY B l e cls a0 L h/\∃o,h.get? e=some o/\o.dict=od
theorem Pu.first {B:im}{l:List Env}{e:dw}{cls a0:ed}(x:Pu B l e cls a0 od h):∃oe vs,h.get? e=some oe/\oe.cls=cls/\oe.data=.fields vs/\oe.dict=od:=by
 obtain⟨f,o,ho,hd⟩:=x;obtain⟨oe,vs,he,hc,hv,_⟩:=f.first;rw[ho] at he;cases he;exact⟨o,vs,ho,hc,hv,hd⟩
section
variable {M:rk} {A:ii} {E:Za0} {s:eg} {B:im} {env:Env} {outer l:List Env} {L e:dw} {cls a0:ed} {od:Option dw} {Q:Unit->eg->Prop}
theorem Li (k:Kn h h')(x:∃o,h.get? e=some o/\o.dict=od):∃o,h'.get? e=some o/\o.dict=od:=by
 obtain⟨o,ho,hd⟩:=x;obtain⟨o2,ho2,hd2⟩:=k e o ho;exact⟨o2,ho2,hd2.trans hd⟩
theorem Zz (hfr:A.frames=some (env::outer))(hf:env.frame=some L)(fl:Pu B (env::outer) e cls a0 od s.heap)(q:∀h',Pu B outer e cls a0 od h'->s.heap.UpToSlots h'->Q () { s with heap:=h' }):wpAny M A (leaving env (.ref e)) Q E s:=by
 refine iw (Of (M2 _ _) (wpAny_leaves_onW (Q:=λ_ s'=>∃h',s'={ s with heap:=h' }/\rm B outer e cls a0 h'/\s.heap.UpToSlots h') hfr hf fl.1 λh' f u=>⟨h',rfl,f,u⟩)) (λ_ s' z=>?_) λ_ _ z=>z;obtain⟨⟨h',rfl,f,u⟩,k⟩:=z;exact q h' ⟨f,Li k fl.2⟩ u
theorem jY (hfr:A.frames=some (env::outer))(hf:env.frame=some L)(fl:Pu B (env::outer) e cls a0 od s.heap)(q:∀h',tJ B (env::outer) e cls a0 od L h'->s.heap.UpToSlots h'->Q () { s with heap:=h' }):wpAny M A (noteFrame (.ref e) env) Q E s:=by
 refine iw (Of (fT _ _) (wpAny_looks_onW (Q:=λ_ s'=>∃h',s'={ s with heap:=h' }/\EY B (env::outer) e cls a0 L h'/\s.heap.UpToSlots h') hfr hf fl.1 λh' f u=>⟨h',rfl,f,u⟩)) (λ_ s' z=>?_) λ_ _ z=>z;obtain⟨⟨h',rfl,f,u⟩,k⟩:=z;exact q h' ⟨f,Li k fl.2⟩ u
theorem wO (hh:tJ B l e cls a0 od L s.heap)(q:∀h',Pu B l e cls a0 od h'->s.heap.UpToSlots h'->Q () { s with heap:=h' }):wpAny M A (setFlight (.ref e) none) Q E s:=by
 refine iw (Of (Jv _ _) (wpAny_landsW (Q:=λ_ s'=>∃h',s'={ s with heap:=h' }/\rm B l e cls a0 h'/\s.heap.UpToSlots h') hh.1 λh' f u=>⟨h',rfl,f,u⟩)) (λ_ s' z=>?_) λ_ _ z=>z;obtain⟨⟨h',rfl,f,u⟩,k⟩:=z;exact q h' ⟨f,Li k hh.2⟩ u
theorem xL (fl:Pu B l e cls a0 od s.heap)(q:∀h',Pu B l e cls a0 od h'->s.heap.UpToSlots h'->Q () { s with heap:=h' }):wpAny M A (setFlight (.ref e) none) Q E s:=by
 refine iw (Of (Jv _ _) (lands_againW (Q:=λ_ s'=>∃h',s'={ s with heap:=h' }/\rm B l e cls a0 h'/\s.heap.UpToSlots h') fl.1 λh' f u=>⟨h',rfl,f,u⟩)) (λ_ s' z=>?_) λ_ _ z=>z;obtain⟨⟨h',rfl,f,u⟩,k⟩:=z;exact q h' ⟨f,Li k fl.2⟩ u
theorem U3 {args:Za3}(hfr:A.frames=some (env::outer))(hf:env.frame=some L)(hkb:B.StaysIn h)(hl:h.FunFrames B (env::outer))(hx:qg h s.heap e cls args)
  (q:∀h' t,Pu B outer e cls (.ref t) none h'->s.heap.UpToSlots h'->Q () { s with heap:=h' }):wpAny M A (leaving env (.ref e)) Q E s:=by
 refine iw (Of (M2 _ _) (wpAny_leaves_madeW (Q:=λ_ s'=>∃h' t,s'={ s with heap:=h' }/\rm B outer e cls (.ref t) h'/\s.heap.UpToSlots h') hfr hf hkb hl hx λh' t f _ _ u=>⟨h',t,rfl,f,u⟩)) (λ_ s' z=>?_) λ_ _ z=>z;obtain⟨⟨h',t,rfl,f,u⟩,k⟩:=z;obtain⟨_,he,_⟩:=hx.there;exact q h' t ⟨f,Li k ⟨_,he,rfl⟩⟩ u
end
structure zW (outer:List Env) (H':Hp) (h h':im) (e C:dw) (od:Option dw):Prop where
 new:h.get? e=none
 unt:H' e=none
 fly:∃a0 B,Pu B outer e (.ref C) a0 od h'/\∀b o,h'.get? b=some o->B.get? b=none->b=e\/b∈frs outer\/(h.get? b=none/\H' b=none)
theorem Ce.there {P:fq}{a:dw}{o:HO}(x:Ce P w H h a o):∃ob,h.get? a=some ob:=by
 cases o with
 |lst xs=>obtain⟨_,_,_,_,e⟩:=x;exact⟨_,e⟩
 |tup xs=>obtain⟨_,_,_,o,e,_⟩:=x;exact⟨_,e⟩
 |dK kvs=>obtain⟨_,_,_,_,o,_,_,e,_⟩:=x;exact⟨_,e⟩
 |dT kvs=>obtain⟨_,_,_,_,o,_,_,e,_⟩:=x;exact⟨_,e⟩
 |set S n=>obtain⟨o,_,_,_,e,_⟩:=x;exact⟨_,e⟩
 |ins C dx fs=>obtain⟨_,_,_,e,_⟩:=x;exact⟨_,e⟩
 |own y=>exact x
 |xd fs=>obtain⟨_,⟨_,_,_,e,_⟩,_⟩:=x;exact⟨_,e⟩
 |rng lo hi=>obtain⟨_,_,_,e⟩:=x;exact⟨_,e⟩
 |frz ob u=>obtain⟨e,_⟩:=x;exact⟨_,e⟩
 |tbl ps=>exact⟨_,(show h.get? a=some _ from x)⟩
 |met f y=>exact⟨_,(show h.get? a=some _ from x)⟩
 |ext φ=>obtain⟨_,e,_⟩:=x;exact e
def CXE (P:fq)(w:gr):CXT:=λouter H s E ex s'=>∃e C od H',ex=.ref e/\s'.os=s.os/\qr s'.gens/\Un (frs outer) [] H H' s.heap s'.heap/\HOk P w H' s'.heap/\(∀b∈frs outer,H' b=none)/\zW outer H' s.heap s'.heap e C od/\E (.ref C) od H'
theorem gS {P:fq}{w:gr}{H:Hp}{h h':im}{B:im}{outer:List Env}{e:dw}{n:im}(ok:HOk P w H h)(st:B.StaysIn h')(he:H e=none)(hf:∀b∈frs outer,H b=none)
  (hB:∀b o,h.get? b=some o->B.get? b=none->b=e\/b∈frs outer\/(n.get? b=none/\H b=none))(hBh:∀b o,B.get? b=some o->h.get? b=some o):HOk P w H h':=λa u ea=>by
 have tr:∀b v,H b=some v->∀o,h.get? b=some o->h'.get? b=some o:=λb v ev o eo=>by
  cases q:B.get? b with
  |some o'=>
   have:=hBh b o' q;rw[eo] at this;cases this;exact st b o q
  |none=>
   rcases hB b o eo q with z|z|z
   ·rw[z,he] at ev;cases ev
   ·rw[hf b z] at ev;cases ev
   ·rw[z.2] at ev;cases ev
 refine(ok a u ea).stay (λb o hb q=>?_) (λ_ q=>q) λ_ _ q=>q;rcases hb with z|z
 ·subst z;exact tr b u ea o q
 ·exact tr b _ z o q
section
variable {P:fq} {w:gr} {K:dn} {mg:Za2} {base:im} {N:Za6} {qual:Str} {scope:lm} {f:dw} {cd:ed} {A:ii} {outer:List Env} {HA:eg} {HC:Hp} {E:XK}
theorem U1 {G:St}{e:dw}{a0:ed}{B h2:im}{g:Array AZ}{d:Drawn}{t:Nat}(I:Inv (Bx CX P w K mg base N qual scope f cd A outer HA HC E) pins G H s)
  (un:Un (frs (Bx CX P w K mg base N qual scope f cd A outer HA HC E).stack) [] H H' s.heap h1)(hok:HOk P w H' h1)(hfr:∀b∈frs (Bx CX P w K mg base N qual scope f cd A outer HA HC E).stack,H' b=none)(hg:qr g)
  (hn:s.heap.get? e=none)(hu:H' e=none)(hB:∀b o,h1.get? b=some o->B.get? b=none->b=e\/b∈frs (Bx CX P w K mg base N qual scope f cd A outer HA HC E).stack\/(s.heap.get? b=none/\H' b=none))(hBh:B.StaysIn h1)
  (fl:Pu B outer e (.ref C) a0 od h2)(up:h1.UpToSlots h2)(q:E (.ref C) od H'):CXE P w outer HC HA E (.ref e) { s with heap:=h2,gens:=g,drawn:=d,toks:=t }:=by
 have hBst:B.StaysIn h2:=fl.1.1;have st:∀b,b∈frs (Bx CX P w K mg base N qual scope f cd A outer HA HC E).stack->b=HA.heap.objs.size\/b∈frs outer:=λb hb=>by
  rcases gd.mp (I.stkSub b hb) with z|z
  ·exact .inl z
  ·exact .inr z
 have so:∀b,b∈frs outer->b∈frs (Bx CX P w K mg base N qual scope f cd A outer HA HC E).stack:=λb hb=>ik _ hb;have neL:∀b o,HA.heap.get? b=some o->b≠HA.heap.objs.size:=λb o z=>fu (ee z);have inS:∀b o,HA.heap.get? b=some o->∃o',s.heap.get? b=some o':=λb o z=>I.base.there b o z (by intro y;cases y);have in1:∀b o,s.heap.get? b=some o->∃o',h1.get? b=some o':=λb o z=>un.there b o z (by simp);have fz:∀b∈frs (Bx CX P w K mg base N qual scope f cd A outer HA HC E).stack,∀o,h1.get? b=some o->∃sl,h2.get? b=some { o with slots:=sl }:=λb hb o z=>by
  refine up b o z λvs y=>?_;obtain⟨_,o',ho',hd⟩:=I.stack.mem hb;obtain⟨sl,z2⟩:=un.any ho' (I.stkFree b hb) (by simp);rw[z] at z2;cases z2;exact hd vs y
 have keep1:∀b o,s.heap.get? b=some o->h1.get? b=some o->b∉frs (Bx CX P w K mg base N qual scope f cd A outer HA HC E).stack->h2.get? b=some o:=λb o z z1 nf=>by
  cases y:B.get? b with
  |some o'=>
   have:=hBh b o' y;rw[z1] at this;cases this;exact hBst b o y
  |none=>
   rcases hB b o z1 y with r|r|r
   ·rw[r,hn] at z;cases z
   ·exact absurd r nf
   ·rw[r.1] at z;cases z
 refine⟨e,C,od,H',rfl,I.os,hg,⟨λb o z n nf _=>?_,λb o z n nf _=>?_,λb o z n _=>?_,λb o z _=>?_,λb xs z=>un.tups b xs (I.base.tups b xs z),λb o u z=>un.frzs b o u (I.base.frzs b o u z),λb ps z=>?_⟩,?_,λb hb=>hfr b (so b hb),⟨?_,hu,a0,B,fl,λb o z y=>?_⟩,q⟩
 ·have z1:=I.base.keep b o z n nf (by intro y;cases y)
  have n1:=I.base.free b o z n (by intro y;cases y);have nf1:b∉frs (Bx CX P w K mg base N qual scope f cd A outer HA HC E).stack:=λy=>(st b y).elim (neL b o z) nf;exact keep1 b o z1 (un.keep b o z1 n1 nf1 (by simp)) nf1
 ·obtain⟨sl,z1⟩:=I.base.slot b o z n nf (by intro y;cases y)
  have n1:=I.base.free b o z n (by intro y;cases y);obtain⟨sl2,z2⟩:=un.any z1 n1 (by simp);obtain⟨sl3,z3⟩:=fz b (so b nf) _ z2;exact⟨sl3,z3⟩
 ·obtain⟨o',z1⟩:=inS b o z
  exact un.free b o' z1 (I.base.free b o z n (by intro y;cases y)) (by simp)
 ·obtain⟨o1,z1⟩:=inS b o z
  obtain⟨o2,z2⟩:=in1 b o1 z1
  cases y:B.get? b with
  |some o'=>exact⟨o',hBst b o' y⟩
  |none=>
   rcases hB b o2 z2 y with r|r|r
   ·rw[r,hn] at z1;cases z1
   ·obtain⟨sl,z3⟩:=fz b r o2 z2
    exact⟨_,z3⟩
   ·rw[r.1] at z1;cases z1
 ·obtain⟨m1,e1⟩:=I.base.tbls b ps z
  obtain⟨m2,e2⟩:=un.tbls b _ e1;exact⟨m1++m2,by rw[e2,ug]⟩
 ·exact gS (n:=s.heap) (e:=e) (outer:=(Bx CX P w K mg base N qual scope f cd A outer HA HC E).stack) hok hBst hu hfr hB hBh
 ·cases y:HA.heap.get? e with
  |none=>rfl
  |some o=>
   obtain⟨o',z⟩:=inS e o y;rw[hn] at z;cases z
 ·cases y1:h1.get? b with
  |none=>
   refine .inr (.inr ⟨?_,?_⟩)
   ·cases y2:HA.heap.get? b with
    |none=>rfl
    |some o0=>
     obtain⟨o1,z1⟩:=inS b o0 y2;obtain⟨o2,z2⟩:=in1 b o1 z1;rw[y1] at z2;cases z2
   ·cases y2:H' b with
    |none=>rfl
    |some v=>
     have:=(hok b v y2).there;obtain⟨o2,z2⟩:=this;rw[y1] at z2;cases z2
  |some o1=>
   rcases hB b o1 y1 y with r|r|r
   ·exact .inl r
   ·rcases st b r with r2|r2
    ·refine .inr (.inr ⟨?_,hfr b r⟩)
     cases y2:HA.heap.get? b with
     |none=>rfl
     |some o0=>exact absurd r2 (neL b o0 y2)
    ·exact .inr (.inl r2)
   ·refine .inr (.inr ⟨?_,r.2⟩)
    cases y2:HA.heap.get? b with
    |none=>rfl
    |some o0=>
     obtain⟨o1,z1⟩:=inS b o0 y2;rw[r.1] at z1;cases z1
theorem Gw (hCX:CX=CXE P w):Gi (CXE P w) (Bx CX P w K mg base N qual scope f cd A outer HA HC E) E:=by
 subst hCX;intro pins G H s ex s' I h;obtain⟨e,C,od,H',rfl,ho,hg,un,hok,hfr,⟨hn,hu,a0,B,fl,hB⟩,q⟩:=h;show wpAny (model P w) (A.deeper (envOfC qual scope HA.heap.objs.size f cd)) (leaving (envOfC qual scope HA.heap.objs.size f cd) (.ref e)) _ _ s';refine Zz (L:=HA.heap.objs.size) I.ok.frames rfl fl λh2 fl2 up=>?_;obtain⟨hp,g,d,t,os⟩:=s';have ho:os=s.os:=ho;subst ho;exact U1 (s:=s) (g:=g) (d:=d) (t:=t) I un hok hfr hg hn hu hB fl.1.1 fl2 up q
theorem eB (hCX:CX=CXE P w){G:St}{e:dw}(I:Inv (Bx CX P w K mg base N qual scope f cd A outer HA HC E) pins G H s)
  (mx:qg s.heap h1 e (.ref C) vs)(q:E (.ref C) none H):(Bx CX P w K mg base N qual scope f cd A outer HA HC E).xe (.ref e) { s with heap:=h1 }:=by
 subst hCX;show wpAny (model P w) (A.deeper (envOfC qual scope HA.heap.objs.size f cd)) (leaving (envOfC qual scope HA.heap.objs.size f cd) (.ref e)) _ _ _;have hin:∀env∈(Bx (CXE P w) P w K mg base N qual scope f cd A outer HA HC E).stack,∀b,env.frame=some b->b∈frs (Bx (CXE P w) P w K mg base N qual scope f cd A outer HA HC E).stack:=λenv he b hb=>qd.mpr ⟨env,he,hb⟩;refine U3 (L:=HA.heap.objs.size) (s:={ s with heap:=h1 }) (B:=hideAll s.heap (frs (Bx (CXE P w) P w K mg base N qual scope f cd A outer HA HC E).stack)) I.ok.frames rfl (λb o z=>ve _ z) (wx I.stack hin) mx λh2 tt fl2 up=>?_;have hBh:(hideAll s.heap (frs (Bx (CXE P w) P w K mg base N qual scope f cd A outer HA HC E).stack)).StaysIn h1:=λb o z=>mx.keeps b o (ve _ z);refine U1 (s:=s) (g:=s.gens) (d:=s.drawn) (t:=s.toks) I (Un.kept mx.keeps) (I.hok.kept mx.keeps) I.stkFree I.bare mx.new ?_ (λb o z y=>?_) hBh fl2 up q
 ·cases y:H e with
  |none=>rfl
  |some v=>
   obtain⟨o,z⟩:=(I.hok e v y).there;rw[mx.new] at z;cases z
 ·by_cases hf:b∈frs (Bx (CXE P w) P w K mg base N qual scope f cd A outer HA HC E).stack
  ·exact .inr (.inl hf)
  ·cases z2:s.heap.get? b with
   |some o2=>
    rw[sk _ z2 hf] at y;cases y
   |none=>
    refine .inr (.inr ⟨rfl,?_⟩)
    cases y2:H b with
    |none=>rfl
    |some v=>
     obtain⟨o,z3⟩:=(I.hok b v y2).there;rw[z2] at z3;cases z3
end
abbrev E1:Za3:=[.type "ValueError",.type "Exception",.type "BaseException",.type "object"]
structure Exc (K:dn) (mg:Za2) (x:Str) (C:dw):Prop where
 at_:mg x=some (.ref C)
 ex:l9 K C E1 "ValueError.__new__"=true
theorem gR {K:dn}{bB:Za3}{nid:String}(X:K.In h)(q:l9 K C bB nid=true) :
  ∃bm N nm qn bs hdct sn sub ab col dd k0 k1 k2 k3 k5 mN,h.get? C=some (excClassObj nm qn C N bs bm hdct sn sub ab col dd k0 k1 k2 k3 k5 nid)/\h.Ns N mN/\mN "__init__"=none/\GQ h bB bm:=by
 unfold l9 at q;split at q
 case h_2=>exact AN q
 case h_1 d1 c1 l1 look=>
  split at q
  case h_2=>exact AN q
  case h_1 C2 m2 r0 r1 r2 r3 nn r5 eqm eqs=>
   simp only[mw,beq_iff_eq,Bool.not_eq_true'] at q;obtain⟨⟨⟨⟨⟨w1,w2⟩,w3⟩,w4⟩,w5⟩,w6⟩:=q;subst w1 w2;obtain⟨x1,x2,x3,x4,x5,x6,x7,x8,x9,x10,x11⟩:=c1;dsimp only at eqm w3 w5 w6;subst eqm w3;have l2:l1=#[r0,r1,r2,r3,some (.builtin nn),r5]:=by
    have:=congrArg List.toArray eqs
    simpa using this
   subst l2;exact⟨m2,x4,x1,x5,x2,x6,x7,x8,x9,x10,d1,r0,r1,r2,r3,r5,h.nsMap x4,X _ _ look,.of_isNs (PySem.W.isNs_of_in X w5),PySem.W.nsMap_none_of_in X w5 w6,PySem.W.tail_of_in X w4⟩
theorem jT {l:Za3}(t:GQ h E1 l):l.contains (.type "BaseException")=true:=by
 induction t with
 |base=>decide
 |own _ _ _ _ ih=>rw[List.contains_cons,ih,Bool.or_true]
def vM (C:dw)(E:XK)(t:TA):TS:=λ_ G H=>t G H λvs H1=>vs.length<=sizeLine/\E (.ref C) none H1
section
variable {P:fq} {w:gr} {K:dn} {mg:Za2} {base:im} {N:Za6} {qual:Str} {scope:lm} {f:dw} {cd:ed} {A:ii} {outer:List Env} {HA:eg} {HC:Hp} {E:XK}
theorem Nt {x:Str}{np cpos:Pos}{a:gq}{as:List gq}{t:TA}(X:Exc K mg x C)(hg:Gl (Bx (CXE P w) P w K mg base N qual scope f cd A outer HA HC E) x)(ha:PA (Bx (CXE P w) P w K mg base N qual scope f cd A outer HA HC E) (a::as) t)
  (hdb:autoParam ((x==("__debug__":Str))=false) QF)
  (he:autoParam (starEach (a::as) (Bx (CXE P w) P w K mg base N qual scope f cd A outer HA HC E).env=(false,eval a (Bx (CXE P w) P w K mg base N qual scope f cd A outer HA HC E).env)::starEach as (Bx (CXE P w) P w K mg base N qual scope f cd A outer HA HC E).env) QD)
  (hpl:autoParam ((backTo cpos (starEach as (Bx (CXE P w) P w K mg base N qual scope f cd A outer HA HC E).env)).any (·.1)=false) QD) :
  PS (Bx (CXE P w) P w K mg base N qual scope f cd A outer HA HC E) (.Raise (some (.Call (.Name x np) (a::as) [] cpos)) none pos) (vM C E t):=by
 k_end;obtain⟨bm,Nn,nm,qn,bs,hdct,sn,sub,ab,col,dd,k0,k1,k2,k3,k5,mN,hC,hN,hni,hT⟩:=gR I.ok.mod.kin X.ex;refine wpAny_Raise_call_subT (C:=C) (N:=Nn) (nm:=nm) (q:=qn) (bs:=bs) (bm:=bm) (hdct:=hdct) (sn:=sn) (sub:=sub) (ab:=ab) (col:=col) (dd:=dd) (k0:=k0) (k1:=k1) (k2:=k2) (k3:=k3) (k5:=k5) (mN:=mN) F.excBase_ValueError (jT hT) (I.ok.hd rfl) ?_ hni ?_
 ·rw[he]
  show((false||(backTo cpos (starEach as _)).any (·.1)))=false;rw[hpl];rfl
 ·refine F9 I hg X.at_ ⟨rfl,?_⟩ hdb
  have hs:=ha cpos pins s G H _ I h;rw[he] at hs ⊢;refine pk (thn hs λus s1 ⟨vs,H1,I1,r,hl,q⟩=>⟨rfl,?_,I1.bk _ _ hC,hN.keeps I1.bk,hT.keeps I1.bk,λh1 e mx=>?_⟩)
  ·have:=r.length
   show us.length<=sizeLine;lia
  ·exact eB rfl I1 mx q
end
def Cx.re (X:Cx)(A':ii)(c:Bool)(xe':Za0):Cx:={ X with A:=A',calm:=c,xe:=xe' }
section
variable {X:Cx} {pins:Za1} {G:St} {H:Hp} {s:eg} {A':ii} {c:Bool} {xe':Za0}
theorem Inv.re (I:Inv X pins G H s)(hf:A'.frames=some X.stack)(hh:c=true->A'.handled=none):Inv (X.re A' c xe') pins G H s:=
 ⟨⟨I.ok.mod,I.ok.kind,I.ok.glob,I.ok.blt,I.ok.above,I.ok.inj,I.ok.has,I.ok.cab,hh,hf,I.ok.stk,I.ok.exf,I.ok.bs,I.ok.bsz,I.ok.noex,I.ok.exfs,I.ok.funs,I.ok.frf⟩,I.os,I.bare,I.base,I.loc,I.cell,I.free,I.freeC,I.pin,I.hok,I.len⟩
theorem Inv.unre (ok:X.Ok)(I:Inv (X.re A' c xe') pins G H s):Inv X pins G H s:=⟨ok,I.os,I.bare,I.base,I.loc,I.cell,I.free,I.freeC,I.pin,I.hok,I.len⟩
end
section
variable {X:Cx} {pins:Za1} {G:St} {H H':Hp} {s s':eg} {e C:dw} {B h1 h2:im}
theorem rY (I:Inv X pins G H s)(un:Un (frs X.stack) [] H H' s.heap h1)(hB:∀b o,h1.get? b=some o->B.get? b=none->b=e\/b∈frs X.stack\/(s.heap.get? b=none/\H' b=none))(hBh:B.StaysIn h1)(st:B.StaysIn h2)(up:h1.UpToSlots h2)
  (hn:s.heap.get? e=none):Un (frs X.stack) [] H H' s.heap h2:=by
 have fz:∀b∈frs X.stack,∀o,h1.get? b=some o->∃sl,h2.get? b=some { o with slots:=sl }:=λb hb o z=>by
  refine up b o z λvs y=>?_;obtain⟨_,o',ho',hd⟩:=I.stack.mem hb;obtain⟨sl,z2⟩:=un.any ho' (I.stkFree b hb) (by simp);rw[z] at z2;cases z2;exact hd vs y
 refine⟨λb o z n nf nx=>?_,λb o z n nf nx=>?_,un.free,λb o z nx=>?_,un.tups,un.frzs,un.tbls⟩
 ·have z1:=un.keep b o z n nf nx
  cases y:B.get? b with
  |some o'=>
   have:=hBh b o' y;rw[z1] at this;cases this;exact st b o y
  |none=>
   rcases hB b o z1 y with r|r|r
   ·rw[r,hn] at z;cases z
   ·exact absurd r nf
   ·rw[r.1] at z;cases z
 ·obtain⟨sl,z1⟩:=un.slot b o z n nf nx
  obtain⟨sl2,z2⟩:=fz b nf _ z1;exact⟨sl2,z2⟩
 ·obtain⟨o1,z1⟩:=un.there b o z nx
  cases y:B.get? b with
  |some o'=>exact⟨o',st b o' y⟩
  |none=>
   rcases hB b o1 z1 y with r|r|r
   ·rw[r,hn] at z;cases z
   ·obtain⟨sl,z3⟩:=fz b r o1 z1
    exact⟨_,z3⟩
   ·rw[r.1] at z;cases z
def Ue (e C:dw)(od:Option dw)(h:im):Prop:=∃o vs,h.get? e=some o/\o.cls=.ref C/\o.data=.fields vs/\o.dict=od
def Po (e C:dw)(od:Option dw):HO:=.ext (Ue e C od)
theorem W8 {h2:im}(x:Ue e C od h1)(k:∀o,h1.get? e=some o->h2.get? e=some o):Ue e C od h2:=let ⟨o,vs,e1,r⟩:=x;⟨o,vs,k o e1,r⟩
theorem Inv.track (I0:Inv X pins G H s)(hex:X.ex=[])(hn0:s.heap.get? e=none)(I:Inv X pins G H' s')(hu:H' e=none)(he:Ue e C od s'.heap):Inv X pins G (upd H' e (Po e C od)) s':=by
 have nl:X.env.locals≠e:=λz=>by
  obtain⟨m,⟨o,_,_,ho,_⟩,_⟩:=I0.loc;rw[z,hn0] at ho;cases ho
 have nc:∀x c,X.env.cells.lookup x=some c->c≠e:=λx c q z=>by
  obtain⟨v,o,ho,_⟩:=I0.cell x c q;rw[z,hn0] at ho;cases ho
 have np:∀p∈X.pn++pins,p.1≠e:=λp hp z=>by
  have:=(I0.pin p hp).1;rw[z,hn0] at this;cases this
 have n0:∀b o,X.HA.heap.get? b=some o->b≠e:=λb o q z=>by
  subst z;obtain⟨o',q'⟩:=I0.base.there b o q (by rw[hex];simp);rw[hn0] at q';cases q'
 have nt:∀{b:dw} {u:HO},H' b=some u->b≠e:=λq=>Am q hu;refine⟨I.ok,I.os,I.bare,⟨I.base.keep,I.base.slot,λb o q n nx=>?_,I.base.there,λb xs q=>?_,λb o u q=>?_,λb ps q=>?_⟩,I.loc,I.cell,?_,λx c q=>?_,λp hp=>?_,λb u q=>?_,I.len⟩
 ·rw[Aj (n0 b o q)];exact I.base.free b o q n nx
 ·have:=I.base.tups b xs q;rw[Aj (nt this)];exact this
 ·have:=I.base.frzs b o u q;rw[Aj (nt this)];exact this
 ·obtain⟨m,q'⟩:=I.base.tbls b ps q;exact⟨m,by rw[Aj (nt q')];exact q'⟩
 ·rw[Aj nl];exact I.free
 ·rw[Aj (nc x c q)];exact I.freeC x c q
 ·obtain⟨q1,q2,q3⟩:=I.pin p hp
  exact⟨q1,by rw[Aj (np p hp)];exact q2,q3⟩
 ·by_cases hb:b=e
  ·subst hb
   rw[Ac] at q;cases q;obtain⟨o,vs,he1,r⟩:=id he;exact⟨he,⟨o,he1⟩,λh1 h2 x k=>W8 x k⟩
  ·rw[Aj hb] at q
   exact(I.hok b u q).stay (λ_ _ _ z=>z) (λc z=>by rw[Aj (nt z)];exact z) λc xs z=>by rw[Aj (nt z)];exact z
theorem Lo {E:Za0}{n:Str}{i:Nat}{Q:Unit->eg->Prop}(I:Inv X pins G H s)(hN:X.N.Nodup)(hi:X.N[i]?=some n)(hl:X.env.kindOf n=some .local)
  (h:∀s',Inv X pins (G.set i none) H s'->Q () s'):wpAny M A (do bindName X.env n .none;unbindBehindTheSuite X.env n pos) Q E s:=by
 obtain⟨m,hn,hlk⟩:=id I.loc;have hcls:(X.env.scope.kind==.class||(X.env.scope.kind==.module&&X.env.locals != X.env.globals))=false:=by rw[I.ok.kind];rfl
 have HR:i<G.length:=by rw[I.len];exact(fc.mp hi).1
 have cne:=I.cne;refine wpAny_nameGoes_keeps hl hn hcls λh' v hn' hs=>?_;have old:∀b o,X.HA.heap.get? b=some o->b≠X.env.locals:=λb o q=>fu (d7 (ee q) I.ok.above);refine h _ ⟨I.ok,I.os,I.bare,⟨λb o q n nf nx=>?_,λb o q n nf nx=>?_,I.base.free,λb o q nx=>?_,I.base.tups,I.base.frzs,I.base.tbls⟩,⟨_,hn',λj y v' e1 e2 e3=>?_⟩,λy c q=>?_,I.free,I.freeC,λp hp=>?_,λb u q=>?_,by simpa using I.len⟩
 ·exact(hs.2 b (old b o q)).trans (I.base.keep b o q n nf nx)
 ·obtain⟨sl,z⟩:=I.base.slot b o q n nf nx
  exact⟨sl,(hs.2 b (old b o q)).trans z⟩
 ·obtain⟨o',z⟩:=I.base.there b o q nx
  exact⟨o',(hs.2 b (old b o q)).trans z⟩
 ·by_cases hj:j=i
  ·subst hj
   rw[rl HR] at e2;cases e2
  ·rw[sy (lz hj)] at e2
   obtain⟨u',r',q⟩:=hlk j y v' e1 e2 e3;refine⟨u',r',?_⟩;rcases q with⟨k,z⟩|⟨k,c,z,z2⟩
   ·refine .inl ⟨k,?_⟩
    have:y≠n:=λw=>hj (Sj hN e1 (w▸hi));simp[this,z]
   ·exact .inr ⟨k,c,z,z2.sameBut hs (cne y c z)⟩
 ·obtain⟨w',z⟩:=I.cell y c q
  exact⟨w',z.sameBut hs (cne y c q)⟩
 ·obtain⟨q1,q2,q3,q4,q5⟩:=I.pin p hp
  exact⟨(hs.2 p.1 q3).trans q1,q2,q3,q4,q5⟩
 ·refine(I.hok b u q).stay (λc w' hc z=>(hs.2 c ?_).trans z) (λ_ z=>z) λ_ _ z=>z
  rintro rfl;rcases hc with hc|hc
  ·rw[<-hc,I.free] at q;cases q
  ·rw[I.free] at hc;cases hc
end
def eN (X:Cx)(pins:Za1)(G:St)(st:List io)(t:TS):Prop:=∀(s:eg) (H:Hp) (D:Ji),Inv X pins G H s->t D G H->wpAny (model X.prog X.w) X.A (execs st X.env) (SP X pins D) X.xe s
def vB (X:Cx)(pins:Za1)(G:St)(st:io)(t:TS):Prop:=∀(s:eg) (H:Hp) (D:Ji),Inv X pins G H s->t D G H->wpAny (model X.prog X.w) X.A (exec st X.env) (SP X pins D) X.xe s
def qU (X:Cx)(pins:Za1)(G:St)(e:gq)(t:TE):Prop:=∀(s:eg) (H:Hp) (Q:VK),Inv X pins G H s->t G H Q->wpAny (model X.prog X.w) X.A (eval e X.env) (EP X pins G Q) X.xe s
def Si (CX:CXT)(X:Cx)(pins:Za1)(G:St)(E:XK):Prop:=∀(H:Hp) (s:eg) (e:ed) (s':eg),Inv X pins G H s->CX X.stack H s E e s'->X.xe e s'
section
variable {X:Cx} {pins:Za1} {G:St} {pos:Pos} {e:gq} {te:TE} {t u:TS}
theorem Hq (he:qU X pins G e te)(hs:autoParam (swapsWith e none pos.line X.env=pure false) QD):vB X pins G (.Expr e pos) (nU te):=by
 intro s H D I h;exact wpAny_Expr_any (thn (he s H _ I h) λv s1 ⟨x,H1,I1,r1,q1⟩=>⟨G,H1,I1,q1⟩) I.quiet hs
theorem Yx {c:gq}{a b:List io}{tc:TT}(hc:PT X c tc)(ha:eN X pins G a t)(hb:eN X pins G b u):vB X pins G (.If c a b pos) (uV tc t u):=by
 intro s H D I h;refine wpAny_If (thn (hc pins s G H _ I h) λd s1 ⟨H1,I1,q1⟩=>?_)
 cases d with
 |true=>exact ha s1 H1 D I1 (by simpa using q1)
 |false=>exact hb s1 H1 D I1 (by simpa using q1)
theorem Es (h1:vB X pins G st t):eN X pins G [st] t:=by
 intro s H D I h;refine wpAny_execs_cons (thn (h1 s H D I h) λf s1 q=>?_)
 cases f with
 |next=>exact n8 q
 |brk=>exact q
 |cont=>exact q
 |ret v=>exact q
end
theorem dU {P:fq}:Gi (CXE P w) X E0:=λ_ _ _ _ _ _ _ h=>by
 obtain⟨_,_,_,_,_,_,_,_,_,_,_,z⟩:=h;exact z.elim
structure mM (P:fq) (w:gr) (K:dn) (mg:Za2) (base:im) (name:Str) (k:Nat) (ps:Za6) (sp:Sp):Prop where
 ex:∃(f:dw) (fd:i3),Ay P w K mg base (CXE P w) k f fd ps sp/\Ed K fd ps []/\mg name=some (.ref f)/\jg K (.ref f)=true
structure Te (P:fq) (w:gr) (K:dn) (mg:Za2) (base:im) (C:dw) (m:Str) (k:Nat) (ps:Za6) (sp:Sp):Prop where
 ex:∃(f:dw) (fd:i3),Ay P w K mg base (CXE P w) k f fd ps sp/\Ed K fd ps []/\jK K C m f
 cl:Cls K C
structure rE (P:fq) (w:gr) (K:dn) (mg:Za2) (base:im) (name:Str) (C:dw) (k:Nat) (ps:Za6) (sp:Sp):Prop where
 ex:∃(f:dw) (fd:i3),Ay P w K mg base (CXE P w) k f fd ps sp/\Ed K fd ps []/\Mk K C f/\mg name=some (.ref C)
section
variable {X:Cx} {k:Nat} {C:dw} {ps:Za6} {sp:Sp} {name m:Str} {p pos apos:Pos} {e o:gq} {es:List gq} {ta:TE} {t:TA} {pl:Sem Bool} {E:XK} {pins:Za1} {G:St} {CX:CXT} {f:dw} {fd:i3}
theorem U0 (C:mM X.prog X.w X.K X.mg X.base name k ps sp)(hr:B3 k X.A)(hx:Gi (CXE X.prog X.w) X E)(ha:PA X (e::es) t)(hg:autoParam (Gl X name) QD)(hdb:autoParam ((name==("__debug__":Str))=false) QF)
  (he:autoParam (starEach (e::es) X.env=(false,eval e X.env)::starEach es X.env) QD)(hpl:autoParam ((backTo pos (starEach es X.env)).any (·.1)=false) QD):PE X (.Call (.Name name p) (e::es) [] pos) (Xg sp [] E t):=by
 obtain⟨f,fd,F,b,hm,hk⟩:=C.ex;exact hX F hr hg hm hk b .nil hx ha hdb he hpl
theorem qD (M:rE X.prog X.w X.K X.mg X.base name C k ps sp)(hr:B3 (k+1) X.A)(hx:Gi (CXE X.prog X.w) X E)(ha:PA X (e::es) t)(hg:autoParam (Gl X name) QD)(hdb:autoParam ((name==("__debug__":Str))=false) QF)
  (he:autoParam (starEach (e::es) X.env=(false,eval e X.env)::starEach es X.env) QD)(hpl:autoParam ((backTo pos (starEach es X.env)).any (·.1)=false) QD):PE X (.Call (.Name name p) (e::es) [] pos) (X5 C sp [] E t):=by
 obtain⟨f,fd,F,b,M,hm⟩:=M.ex;exact gP M F hr hg hm b .nil hx ha hdb he hpl
theorem N8 (M:Te X.prog X.w X.K X.mg X.base C m k ps sp)(hr:B3 k X.A)(hx:Gi (CXE X.prog X.w) X E)(ho:PE X o ta)(ha:PA X (e::es) t)
  (hst:autoParam (starEach (e::es) X.env=(false,eval e X.env)::starEach es X.env) QD)(hpl:autoParam ((backTo pos (starEach es X.env)).any (·.1)=false) QD)
  (ht:autoParam (eval (.Call (.Attribute o m apos) (e::es) [] pos) X.env=(do
   let ov <-eval o X.env
   standAt apos.atName
   let (f,first) <-holding [ov] (getMethod ov m pl)
   callWith pos f first (backTo pos (starEach (e::es) X.env)) (backToKw pos (keywordEach [] X.env)))) QD) :
  PE X (.Call (.Attribute o m apos) (e::es) [] pos) (Pf C m sp [] E ta t):=by
 obtain⟨f,fd,F,b,hm⟩:=M.ex;exact fN ho M.cl hm F hr b .nil hx ha hst hpl ht
theorem lM {Q:VK}{vs:List V}(F:Ay X.prog X.w X.K X.mg X.base CX k f fd ps sp)(hr:B3 k X.A)(hb:Ed X.K fd ps [])(hx:Si CX X pins G E)(I:Inv X pins G H s)(r:A3 vs us)(h:sp (vs++[]) H Q E) :
  wpAny (model X.prog X.w) X.A (call (.ref f) us) (EP X pins G Q) X.xe s:=by
 have r2:A3 (vs++[]) (us++[]):=r.append .nil;have hl:(us++[]).length=ps.length:=by rw[<-r2.length];exact F.len _ _ _ _ h
 refine lh (la (F.run X.A X.stack s H ⟨us,[]⟩ (us++[]) (vs++[]) Q E hr I.env0 (hb s us I.kIn hl) r2 h) λr s' hq=>?_)
 cases r with
 |error e=>exact hx H s e s' I hq
 |ok fl=>
  cases fl with
  |ret u=>exact I.after hq
  |next=>exact hq.elim
  |brk=>exact hq.elim
  |cont=>exact hq.elim
theorem Sa (M:Te X.prog X.w X.K X.mg X.base C m k ps sp)(hr:B3 k X.A)(hx:Si (CXE X.prog X.w) X pins G E)(ho:PE X o ta)(ha:PA X (e::es) t)
  (hst:autoParam (starEach (e::es) X.env=(false,eval e X.env)::starEach es X.env) QD)(hpl:autoParam ((backTo pos (starEach es X.env)).any (·.1)=false) QD)
  (ht:autoParam (eval (.Call (.Attribute o m apos) (e::es) [] pos) X.env=(do
   let ov <-eval o X.env
   standAt apos.atName
   let (f,first) <-holding [ov] (getMethod ov m pl)
   callWith pos f first (backTo pos (starEach (e::es) X.env)) (backToKw pos (keywordEach [] X.env)))) QD) :
  qU X pins G (.Call (.Attribute o m apos) (e::es) [] pos) (Pf C m sp [] E ta t):=by
 obtain⟨f,fd,F,b,hm⟩:=M.ex;intro s H Q I h;refine me (pl:=pl) (thE ho I h λu s1 x H1 I1 rx ⟨a,dx,fs,ex,ea,l,q⟩=>?_) ht;subst ex;obtain rfl:u=ia a:=rx;refine Hj I1 ea M.cl hm l ?_;refine callWith_K (first:=[.ref a]) (h₀:=X.base) I.ok.mod.kin hm.kp (thA ha I1 q λus s2 vs H2 I2 r q2=>⟨I2.kIn,?_⟩) hst hpl;exact lM (us:=.ref a::us) (vs:=.ref a::vs) F hr b hx I2 (.cons rfl r) q2
end
section
variable {X:Cx} {k:Nat} {C:dw} {ps:Za6} {sp:Sp} {name:Str} {p pos:Pos} {e:gq} {es:List gq} {t:TA} {E:XK} {pins:Za1} {G:St}
theorem mY (M:rE X.prog X.w X.K X.mg X.base name C k ps sp)(hr:B3 (k+1) X.A)(hx:Si (CXE X.prog X.w) X pins G E)(ha:PA X (e::es) t)(hg:autoParam (Gl X name) QD)(hdb:autoParam ((name==("__debug__":Str))=false) QF)
  (he:autoParam (starEach (e::es) X.env=(false,eval e X.env)::starEach es X.env) QD)(hpl:autoParam ((backTo pos (starEach es X.env)).any (·.1)=false) QD):qU X pins G (.Call (.Name name p) (e::es) [] pos) (X5 C sp [] E t):=by
 obtain⟨f,fd,F,hb,M,hm⟩:=M.ex;intro s0 H0 Q I0 h0;refine wpAny_Call_Name_kw (F9 I0 hg hm ?_ hdb);refine callWith_K (h₀:=X.base) I0.ok.mod.kin M.kp (thn (ha pos pins s0 G H0 _ I0 h0) λus s vs'=>?_) he hpl;obtain⟨vs,H,I,r,h⟩:=vs';refine⟨I.kIn,?_⟩;have hq:=h (s.heap.objs.size+1) s.heap.objs.size (I.hok.fresh (vx _)) (I.hok.fresh (d3 _)) (fu (pf _));have I2:=Inv.made (C:=C) I;have r2:A3 (V.ref (s.heap.objs.size+1)::(vs++[])) (ia (s.heap.objs.size+1)::(us++[])):=.cons rfl (r.append .nil);have hl:(ia (s.heap.objs.size+1)::us++[]).length=ps.length:=by
  have e:=r2.length;rw[F.len _ _ _ _ hq] at e;exact e.symm
 refine lh (Ze (f:=f) I.kIn M.makes M.init (beq_iff_eq.mp M.fn) (la (F.run _ X.stack _ _ ⟨ia (s.heap.objs.size+1)::us,[]⟩ (ia (s.heap.objs.size+1)::(us++[])) _ _ E (hr.make C us []) (I2.env0.make C us []) (by have z:=hb _ (ia (s.heap.objs.size+1)::us) I2.kIn hl;rwa [qz] at z) r2 hq) λr s' hq'=>?_))
 cases r with
 |error e=>exact hx _ _ e s' I2 hq'
 |ok fl=>
  cases fl with
  |ret u=>
   obtain⟨v,H',I3,rv,ev,q3⟩:=I2.after hq';subst ev;exact⟨rv,⟨V.ref (s.heap.objs.size+1),H',I3,rfl,q3⟩⟩
  |next=>exact hq'.elim
  |brk=>exact hq'.elim
  |cont=>exact hq'.elim
end
def uB (X:Cx)(E:XK)(pins:Za1)(G:St):Za0:=λex s1=>∃H0 s0,Inv X pins G H0 s0/\CXE X.prog X.w X.stack H0 s0 E ex s1
theorem Jd {E:XK}{G:St}:Si (CXE X.prog X.w) (X.wish (uB X E pins G)) pins G E:=λH s e s' I h=>⟨H,s,I.unwish,h⟩
def Aa4 (K:dn)(i:Nat)(C0:ed)(tb:XK->TS)(th:TS):TS:=λD G H=>∃E:XK,tb E D G H/\∀C od H' e,E (.ref C) od H'->H' e=none->exmOne K (.ref C) C0=some true /\
 th { nx:=λmt H2=>D.nx (mt.set i none) H2,rt:=D.rt,bk:=λmt H2=>D.bk (mt.set i none) H2,ct:=λmt H2=>D.ct (mt.set i none) H2 } (G.set i (some (.ref e))) (upd H' e (Po e C od))
section
variable {X:Cx} {i:Nat} {n x:Str} {C0:ed} {np hpos pos:Pos} {body suite:List io} {b0:io} {tb:XK->TS} {th:TS}
theorem Pj {v:Za7}:(A.mark v).frames=A.frames:=rfl
theorem dD (hst:X.stack=X.env::X.outer)(hfr:X.env.frame=some X.env.locals)(hex:X.ex=[])(hN:X.N.Nodup)(hi:X.N[i]?=some n)(hl:X.env.kindOf n=some .local)(hg:Gl X x)(hm:X.mg x=some C0)
  (hb:∀E pins G,eN (X.wish (uB X E pins G)) pins G body (tb E))(hs:∀e,PSs (X.re (X.A.mark (some (.ref e))) false λ_ _=>False) (b0::suite) th)(hdb:autoParam ((x==("__debug__":Str))=false) QF) :
  PS X (.Try body [.ExceptHandler (some (.Name x np)) (some n) (b0::suite) hpos] [] [] pos) (Aa4 X.K i C0 tb th):=by
 k_end;obtain⟨E,hb1,hh⟩:=h;refine wpAny_Try_except (iw (hb E pins G s H D (I.wish _) hb1) (λf s1 q=>?_) λex s1 q=>?_)
 ·have q:=q.unwish
  cases f with
  |next=>exact n8 q
  |brk=>exact q
  |cont=>exact q
  |ret v=>exact q
 ·obtain⟨H0,s0,I0,e,C,od,H',rfl,ho,hgn,un,hok,hfree,⟨hn,hu,a0,B,fl,hB⟩,hE⟩:=q
  have fl':=fl;rw[hst] at fl';refine jY (by rw[I.ok.frames,hst]) hfr fl' λh4 held4 up4=>?_;refine wO held4 λh5 fl5 up5=>?_;have inv:∀h6,B.StaysIn h6->s1.heap.UpToSlots h6->Inv X pins G H' { s1 with heap:=h6 }:=λh6 st up=>
   I0.call' (s':={ s1 with heap:=h6 }) (ch:=[]) ho (rY I0 un hB fl.1.1 st up hn) (gS (n:=s0.heap) (e:=e) (outer:=X.stack) hok st hu hfree hB fl.1.1) hgn (λb z=>absurd z (by simp))
  have I5:=inv h5 fl5.1.1 (up4.trans up5);refine wpAny_handleBy_cons (codeAny_handlers_test ?_) (by intro q;cases q);refine F9 (X:=X.re (X.A.mark (some (.ref e))) false λ_ _=>False) (I5.re (by rw[Pj];exact I.ok.frames) (by intro z;cases z)) hg hm ?_ hdb;obtain⟨hx,hth⟩:=hh C od H' e hE hu;have LT:PySem.W.Looks (model X.prog X.w) h5 (typeOf (.ref e)) (.ref C):=by
   obtain⟨ob,hob,hc⟩:=fl5.1.there;exact hc▸(CV hob).andThen .now
  refine(PySem.W.exm_one I5.kIn LT hx).here ?_;refine codeAny_handlers_suite_as ?_;refine xL fl5 λh6 fl6 up6=>?_;have I6:=inv h6 fl6.1.1 ((up4.trans up5).trans up6);obtain⟨oe,ws,hoe,hoec,hoed,hodd⟩:=fl6.first;have I6t:=Inv.track I0 hex hn I6 hu ⟨oe,ws,hoe,hoec,hoed,hodd⟩;have I6m:Inv (X.re (X.A.mark (some (.ref e))) false λ_ _=>False) pins G (upd H' e (Po e C od)) { s1 with heap:=h6 }:=I6t.re (by rw[Pj];exact I.ok.frames) (by intro z;cases z);refine Np (X:=X.re (X.A.mark (some (.ref e))) false λ_ _=>False) (v:=.ref e) I6m hN hi (.inl hl) rfl (λs7 I7=>?_) (.inr hl);refine iw (hs e pins s7 _ _ _ I7 hth) (λf s8 q8=>?_) (λ_ _ z=>z.elim)
  cases f with
  |next=>
   obtain⟨HQ,H8,I8,q⟩:=q8;exact Lo (I8.unre I.ok) hN hi hl λs9 I9=>⟨_,H8,I9,q⟩
  |brk=>
   obtain⟨HQ,H8,I8,q⟩:=q8;exact Lo (I8.unre I.ok) hN hi hl λs9 I9=>⟨_,H8,I9,q⟩
  |cont=>
   obtain⟨HQ,H8,I8,q⟩:=q8;exact Lo (I8.unre I.ok) hN hi hl λs9 I9=>⟨_,H8,I9,q⟩
  |ret v=>
   obtain⟨v8,HQ,H8,I8,r8,q⟩:=q8;exact Lo (I8.unre I.ok) hN hi hl λs9 I9=>⟨v8,_,H8,I9,r8,q⟩
end
section
variable {P:fq} {w:gr} {K:dn} {mg:Za2} {base:im}
theorem Fun.okE {x:Str}{f:dw}{k:Nat}(F:Fun K x qual st f fd)(S:Ak N ps (Af st))(len:∀vs H Q E,sp vs H Q E->vs.length=ps.length)
  (hbody:∀(cdv:ed) (A:ii) (outer:List Env) (s:eg) (H:Hp) (vs:List V) (Q:VK) (E:XK),B3 k (A.deeper (envOfC qual (Af st) s.heap.objs.size f cdv))->sp vs H Q E ->
   ∃t,PSs (Bx (CXE P w) P w K mg base N qual (Af st) f cdv A outer s H E) (B0 st) t/\t { nx:=λ_ H'=>Q .non H',rt:=Q } (Mi N vs) H):Ay P w K mg base (CXE P w) (k+1) f fd ps sp:=by
 obtain⟨oc,od,kV,doc,pm,an,cdv,ct,osl,rfl,lk,hcd⟩:=F.ex;exact oI lk hcd S len λA outer s H vs Q E hr hsp=>hbody cdv A outer s H vs Q E hr hsp
end
theorem gK (K:dn)(h:autoParam (X.K=K) QD):IxR X (uY K):=by
 subst h;exact U2
theorem Hk (K:dn)(h:autoParam (X.K=K) QD):IxR X (xD K):=by
 subst h;exact Az
open PySem.W Builtin.Getset_descriptor
structure Gx (K:dn) (D:dw):Prop where
 ga:findIn K (.ref D) "__getattribute__"=some (some (.builtin "BaseException.__getattribute__"))
 gx:findIn K (.ref D) "__getattr__"=some none
 ca:findIn K (.ref D) "__class__"=some (some (.builtin "object.__class__"))
 sp:specialIn K (.builtin "object.__class__") "__get__"=some (some (.builtin "getset_descriptor.__get__"))
 tk:takesIn K (.builtin "object.__class__")=some true
 mo:mroIn K D (.type "object")=some true
 mb:mroIn K D (.type "BaseException")=some true
theorem Gx.cl {K:dn}{D:dw}(Z:Gx K D):(clsIn K D).isSome=true:=by
 obtain⟨cd,a,_⟩:=Option.bind_eq_some_iff.mp Z.mo;rw[a];rfl
section
variable {prog:fq} {w:gr} {A:ii} {E:Za0} {s:eg} {K:dn} {x D:dw} {ox:Obj} {od0:Option Obj} {od:Option dw}
theorem pS (Z:Gx K D)(X:K.In h):AX M h (AK (.ref x) (.ref D) "__class__") (.bind (.builtin "getset_descriptor.__get__") (.builtin "object.__class__")):=by
 have L3:=looks_takesIn (M:=M) X Z.tk;refine(pc X Z.ca).andThen ((looks_specialIn X Z.sp).andThen ?_);exact(show AX M h (AL (some (.builtin "object.__class__")) (some (.builtin "getset_descriptor.__get__"))) (some (.builtin "getset_descriptor.__get__",.builtin "object.__class__")) from L3.andThen .now).andThen (Looks.tag .now)
theorem sR {R:vg->eg->Prop}{tp:ed}(X:K.In s.heap)(L0:AX (model prog w) s.heap (typeOf (.ref x)) (.ref D))(hm:mroIn K D (.type "object")=some true)(h:R (.ok (.ret (.ref D))) s) :
  codeAny (model prog w) A (.call (.builtin "getset_descriptor.__get__") ⟨[.builtin "object.__class__",.ref x,tp],[]⟩) R s:=by
 obtain⟨hh,g,dr,t,os⟩:=s;have L1:=xf (M:=model prog w) X hm;refine kr GK.plain KF.entry_gs (GK.check _ _ _ _ _ _ _ _ KF.type_class (KF.args_gs _ _ _) ?_);unfold ro.«getset_descriptor.__get__» descrGet;rw[dga_obj];refine wpAny_bind (ez ?_);unfold descrGetter descrCheckInstance descrNameAndClass isInstance;simp only[KF.owner_class];repeat lk
 refine⟨qh _ (by decide +kernel),lr KF.entry_class ?_⟩;unfold ro.«object.__class__» shownTypeOf;repeat lk
 exact h
theorem jV {Q:Za7->eg->Prop}(Z:Gx K D)(X:K.In s.heap)(I:Ue x D od s.heap)(h:Q (some (.ref D)) { s with toks:=s.toks+1 }):wpAny (model prog w) A (getAttr? (.ref x) "__class__") Q E s:=by
 obtain⟨hh,g,d,t,os⟩:=s;obtain⟨ox,ws,hox,hoc,_⟩:=I;have L0:AX (model prog w) hh (typeOf (.ref x)) (.ref D):=hoc▸(yp hox).andThen .now;have L1:=pc (M:=model prog w) X Z.ga;have L2:=pc (M:=model prog w) X Z.gx;have LF:=pS (M:=model prog w) (x:=x) Z X;have LB:=xf (M:=model prog w) X Z.mb;unfold getAttr? getAttrBy? getAttrBy;refine wpAny_bind (GM (wpAny_bind (rp (jf (wpAny_bind (L0.at (wpAny_bind (L1.at ?_))))))));show wpAny _ _ (getAttrByItsOwn _ _ _ _ _ _) _ _ _;unfold getAttrByItsOwn hookBefore;refine wpAny_bind (L2.at (wpAny_bind (rp (jf ?_))));show wpAny _ _ (boundAndCalled _ _ _) _ _ _;unfold boundAndCalled;refine wpAny_bind (na (zz.ga.bind (.ref x)) ?_);show wpAny _ _ (call (.builtin "BaseException.__getattribute__") [.ref x,.str "__class__" t]) _ _ _;refine lh (kr zz.ga.plain F.entry_bexc_ga ?_);have hk:builtinKind "BaseException.__getattribute__"=some .slot:=by decide +kernel
 have hsp:splitId "BaseException.__getattribute__"=some ("BaseException","__getattribute__"):=by decide +kernel
 simp only[checkBuiltinCall,hk,hsp];have ha:=F.args_bexc_ga (.ref x) (.str "__class__" t);refine wpAny_bind ?_;unfold isInstance
 iterate 4 lk
 refine na (a:=()) ?_ ?_
 ·have ha':=ha
  unfold argsOk at ha'
  cases hsig:xw "BaseException.__getattribute__" with
  |none=>rfl
  |some sig=>
   rw[hsig] at ha';exact ha'
 unfold ro.«object.__getattribute__»;refine wpAny_bind (ez ?_);refine wpAny_bind (ez (wpAny_bind (L0.at (wpAny_bind (LF.at ?_)))));show wpAny _ _ (holding [Value.builtin "object.__class__"] (call (.builtin "getset_descriptor.__get__") [.builtin "object.__class__",.ref x,.ref D]) >>= ret) _ _ _;refine wpAny_bind (jf (lh (sR (s:=⟨hh,g,d,t+1,os⟩) X L0 Z.mo (ez ?_))));exact handed_on rfl (ez h)
theorem qA (Z:Gx K D):KitX K (.ref x) (.ref D) (Ue x D od) where
 ty:=λM h X p=>by
  obtain⟨ox,ws,hox,hoc,_⟩:=p;exact hoc▸(yp hox).andThen .now
 it:=λM h X p=>by
  obtain⟨cd,hc⟩:=iv.mp Z.cl;unfold clsIn at hc;split at hc
  ·rename_i c' d' cd' sl' ho
   intro A' Q' E' s' k q;unfold isType loadHead;exact wpAny_bind (uj (k _ _ (X _ _ ho)) (ez q))
  ·cases hc
 ne:=λh tp dd its n sl X htp=>by
  obtain⟨cd,hc⟩:=iv.mp Z.cl;refine qq.mpr λq=>?_;have e:D=tp:=se (beq_iff_eq.mp q);subst e;unfold clsIn at hc;split at hc
  ·rename_i c' d' cd' sl' ho
   have z:=(X _ _ ho).symm.trans htp;cases z
  ·cases hc
 ca:=λX p k=>jV Z X p k
end
def Aan:V->ed->Prop
 |.ty n,v=>v=.type n
 |.ref a,v=>v=.ref a
 |_,_=>False
def yH (K:dn):List V->Hp->VK->Prop:=λxs H Q=>∃e C od c cv b,xs=[.ref e,c]/\H e=some (Po e C od)/\Gx K C/\Aan c cv/\kitOne K (.ref C) cv=some b/\Q (.bl b) H
theorem Ur:Ht X (.builtin "isinstance") (yH X.K):=by
 intro pins s G H xs us Q I r h;obtain⟨e,C,od,c,cv,b,rfl,he,Z,hcv,hk,q⟩:=h;obtain⟨u,w',rfl,ru,rw'⟩:=Sc r;cases(show u=ia e from ru);have hw:w'=cv:=by
  cases c<;>first|exact hcv.elim|exact(show w'=_ from rw').trans (show cv=_ from hcv).symm
 subst hw;obtain⟨p,_,_⟩:=(show Ce X.prog X.w H s.heap e (Po e C od) from I.hok e _ he);exact pd (qA Z) I.kIn p hk (λz=>nomatch z) λtk=>⟨.bl b,H,I.tok tk,rfl,q⟩
theorem Di (K:dn)(h:autoParam (X.K=K) QD):Ht X (.builtin "isinstance") (yH K):=by
 subst h;exact Ur
theorem Vq:bootBuiltins "ValueError"=some (.type "ValueError"):=by decide +kernel
theorem sL {G:St}(I:Inv X pins G H s):sysModules<s.heap.objs.size:=
 Nat.lt_trans (by decide) (show mainGlobals<s.heap.objs.size from(I.mod.glob.keeps I.bk).lt)
def uC:TE:=λ_ H Q=>∀p,H p=none->Q (.ref p) (upd H p (.dK []))
theorem mP {P:fq}(h:im)(hb:sysModules<h.objs.size):Ce P w H (h.push { cls:=.type "dict",data:=.dict #[] }) h.objs.size (.dK []):=
 ⟨fg _,beq_eq_false_iff_ne.mpr (lz (fu hb)),[],.nil,FL h⟩
theorem rB:PE X (.Dict [] [] pos) uC:=λpins s G H Q I h=>
 wpAny_Dict_empty ⟨.ref s.heap.objs.size,_,I.laid (a:=s.heap.objs.size) (o:=.dK []) (t':=s.toks) (λ_ _ q=>d4 _ q) (d3 _) (mP s.heap (sL I)),rfl,h _ (I.hok.fresh (d3 _))⟩
theorem vK {G:St}{Q:VK}(h:∀p,H p=none->Q (.ref p) (upd H p (.dK []))):uC G H Q:=h
abbrev Kg (C t:dw)(od:Option dw):Obj:={ cls:=.ref C,dict:=od,data:=.fields #[.ref t,.none,.none,.none,.bool false,.none] }
structure M5 (K:dn) (W C f:dw):Prop where
 wex:excIn K W E1 "ValueError.__new__"=true
 ob:∃nm qn N bs sn sub ab col dd k0 k1 k2 k3 k5,K.lookup C=some (excClassObj nm qn C N bs (.ref W::E1) true sn sub ab col dd k0 k1 k2 k3 k5 "ValueError.__new__")
 ini:findIn K (.ref C) "__init__"=some (some (.ref f))
 fn:typeIn K (.ref f)=some (.type "function")
 sa:findIn K (.ref C) "__setattr__"=some (some (.builtin "object.__setattr__"))
 pl:findIn K (.ref C) "place"=some none
section
variable {prog:fq} {w:gr} {A:ii} {E:Za0} {s:eg} {K:dn} {W C f e t:dw} {od:Option dw}
theorem X0 (X:K.In h)(q:excIn K W E1 "ValueError.__new__"=true):GQ h E1 (.ref W::E1):=by
 obtain⟨bm,N,nm,qn,bs,hdct,sn,sub,ab,col,dd,k0,k1,k2,k3,k5,mN,hC,hN,hni,hT⟩:=gR X q;exact .own hC hN hni .base
theorem dB {v:ed}{Q:Za0}(O:M5 K W C f)(X:K.In s.heap)(he:s.heap.get? e=some (Kg C t od))
  (q:∀h' t',(∀b o,b≠e->s.heap.get? b=some o->h'.get? b=some o)->h'.get? e=some (Kg C t' od)->Q .none { s with heap:=h' }):wpAny (model prog w) A (call (.builtin "ValueError.__init__") [.ref e,v]) Q E s:=by
 obtain⟨hh,g,d,tk,os⟩:=s;obtain⟨nm,qn,N,bs,sn,sub,ab,col,dd,k0,k1,k2,k3,k5,lk⟩:=O.ob;have hC:=X _ _ lk;have T:=X0 X O.wex;have B:=vj;refine lh (kr B.init.plain B.initEntry (wpAny_check_init_subT B T hC he rfl ?_))
 wp_walk
 refine q _ hh.objs.size (λb o hb z=>?_) ?_
 ·exact(gu _ _ (lz hb)).trans (d4 _ z)
 ·exact ja _ (d4 _ he) rfl
theorem kB {v:ed}{Q:Unit->eg->Prop}(O:M5 K W C f)(Z:Gx K C)(X:K.In s.heap)(he:s.heap.get? e=some (Kg C t none))
  (q:∀h' dx tk,(∀b o,b≠e->s.heap.get? b=some o->h'.get? b=some o)->h'.get? e=some (Kg C t (some dx))->dx≠e->s.heap.objs.size<=dx->h'.Ns1 dx (λy=>if y="place" then some v else none)->Q () { s with heap:=h',toks:=tk }) :
  wpAny (model prog w) A (setAttr (.ref e) "place" v) Q E s:=by
 obtain⟨hh,g,d,tk,os⟩:=s;have X:K.In hh:=X;have he:hh.get? e=some (Kg C t none):=he;obtain⟨nm,qn,N,bs,sn,sub,ab,col,dd,k0,k1,k2,k3,k5,lk⟩:=O.ob;have SF:=PySem.F.store_object;have J:InstAt hh e (Kg C t none) C none:=⟨he,rfl,rfl,l8⟩;have hc:clsIn K C=some ⟨nm,bs,.ref C::.ref W::E1,N,qn,true,sn,sub,ab,col,false⟩:=by
  unfold clsIn;rw[lk]
 have isO:AX (model prog w) hh (isInstance (.ref e) (.type "object")) true:=J.type.andThen (xf X Z.mo);have hm:AX (model prog w) hh (mroOf (.ref C)) (.ref C::.ref W::E1):=(AS X hc).andThen .now;refine set_plain X J O.sa ?_;refine kr SF.slot.plain SF.entry (@check_slot (model prog w) _ _ ⟨hh,g,d,tk+1,os⟩ "object.__setattr__" "object" "__setattr__" (.ref e) [.str "place" tk,v] [] _ SF.kind SF.split isO (SF.args (.ref e) (.str "place" tk) v) ?_);rw[osa_eq,refuse_eq];refine wpAny_bind (wpAny_bind (J.type.here (wpAny_bind (hm.here ?_))));rw[FF,FF,show refuseLoop (.ref e) "__setattr__" E1=pure () from PySem.F.store_ValueError.passes _];refine ez (wpAny_bind (J.type.here (wpAny_bind ((pc X O.pl).here (wpAny_bind ?_)))));refine ez ?_;show wpAny _ _ (AG (.ref e) (.ref C) (.str "place" tk) "place" v false) _ _ _;have hcl:=X _ _ lk;have he1:(hh.push emptyDict).get? e=some (Kg C t none):=d4 _ he;have hes:e≠hh.objs.size:=fu (ee he);refine wpAny_bind (ez (wpAny_bind ?_));refine wpAny_bind (uj he (wpAny_bind ((AS X hc).here ?_)));show wpAny _ _ (do
  let d <-alloc { cls:=iz "dict",data:=AC #[] }
  update e λo=>{ cls:=o.cls,dict:=some d,data:=o.data,slots:=o.slots }
  dictMade (.ref C) e d) _ _ _
 refine wpAny_bind (wpAny_alloc' (wpAny_bind (wpAny_update' he1 (ez ?_))));show wpAny _ _ (rb hh.objs.size (.str "place" tk) "place" v) _ _ _;have hd2:((hh.push emptyDict).update e λo=>{ cls:=o.cls,dict:=some hh.objs.size,data:=o.data,slots:=o.slots }).get? hh.objs.size=some emptyDict:=
  (gu _ _ hes).trans (gk hh rfl)
 have hn2:((hh.push emptyDict).update e λo=>{ cls:=o.cls,dict:=some hh.objs.size,data:=o.data,slots:=o.slots }).Ns hh.objs.size (λ_=>none):=⟨_,#[],_,hd2,rfl,(λen hen=>absurd hen (by simp)),λ_=>rfl⟩;have he2:((hh.push emptyDict).update e λo=>{ cls:=o.cls,dict:=some hh.objs.size,data:=o.data,slots:=o.slots }).get? e=some (Kg C t (some hh.objs.size)):=ja _ he1 rfl;have hk2:∀b o,b≠e->hh.get? b=some o->((hh.push emptyDict).update e λo=>{ cls:=o.cls,dict:=some hh.objs.size,data:=o.data,slots:=o.slots }).get? b=some o:=λb o hb z=>(gu _ _ (lz hb)).trans (d4 _ z);unfold rb AI;refine wpAny_bind (ez (wpAny_bind (GL (yr hn2) λh' hn' hs=>?_)));obtain⟨ob1,es1,ep1,at1,da1,ct1⟩:=hn'.count (Within.cons "place" v Within.nil);refine wpAny_bind (CQ at1 (da1▸CU (ie ct1 (by decide))) ?_);refine ez ?_;refine q h' hh.objs.size _ (λb o hb z=>(hs.2 b (fu (ee z))).trans (hk2 b o hb z)) ((hs.2 e hes).trans he2) (lz hes) (d3 _) ?_;obtain⟨o',es,ep,e1,e2,e3,eu,e4⟩:=hn';exact⟨o',es,ep,e1,e2,e3,eu,λy=>by rw[e4 y]⟩
theorem iV {v:ed}{o:Obj}{vs:Array ed}{mA:Za2}{Q:Za0}(O:M5 K W C f)(Z:Gx K C)(X:K.In s.heap)(he:s.heap.get? e=some o)(hoc:o.cls=.ref C)(hod:o.data=.fields vs)(hdx:o.dict=some dx)
  (hn:s.heap.Ns1 dx mA)(hm:mA "place"=some v)(hh':handedIn v=true)(q:∀tk,Q v { s with toks:=tk }):wpAny (model prog w) A (getAttr (.ref e) "place" true) Q E s:=by
 obtain⟨hh,g,d,tk,os⟩:=s;have X:K.In hh:=X;obtain⟨oc,odi,oda,osl⟩:=o;dsimp only at hoc hod hdx;subst hoc hod hdx;obtain⟨nm,qn,N,bs,sn,sub,ab,col,dd,k0,k1,k2,k3,k5,lk⟩:=O.ob;have hc:clsIn K C=some ⟨nm,bs,.ref C::.ref W::E1,N,qn,true,sn,sub,ab,col,false⟩:=by
  unfold clsIn;rw[lk]
 have L0:AX (model prog w) hh (typeOf (.ref e)) (.ref C):=(yp he).andThen .now;have L1:=pc (M:=model prog w) X Z.ga;have L2:=pc (M:=model prog w) X Z.gx;have LB:=xf (M:=model prog w) X Z.mb;have LP:=pc (M:=model prog w) X O.pl;unfold getAttr getAttrBy;refine wpAny_bind (GM (jf (wpAny_bind (L0.at (wpAny_bind (L1.at ?_))))));show wpAny _ _ (getAttrByItsOwn _ _ _ _ _ _) _ _ _;unfold getAttrByItsOwn hookBefore;refine wpAny_bind (L2.at (wpAny_bind (rp (jf ?_))));show wpAny _ _ (boundAndCalled _ _ _) _ _ _;unfold boundAndCalled;refine wpAny_bind (na (vm.ga.bind (.ref e)) ?_);show wpAny _ _ (call (.builtin "BaseException.__getattribute__") [.ref e,.str "place" tk]) _ _ _;refine lh (kr vm.ga.plain PySem.F.entry_bexc_ga ?_);have kd:builtinKind "BaseException.__getattribute__"=some .slot:=by decide +kernel
 have sp:splitId "BaseException.__getattribute__"=some ("BaseException","__getattribute__"):=by decide +kernel
 simp only[checkBuiltinCall,kd,sp];have ha:=PySem.F.args_bexc_ga (.ref e) (.str "place" tk);refine wpAny_bind ?_;unfold isInstance
 iterate 4 lk
 refine na (a:=()) ?_ ?_
 ·unfold argsOk at ha
  cases hsig:xw "BaseException.__getattribute__" with
  |none=>rfl
  |some sig=>
   rw[hsig] at ha;exact ha
 unfold ro.«object.__getattribute__»;refine wpAny_bind (ez ?_);refine wpAny_bind (ez (wpAny_bind (L0.at (wpAny_bind ?_))));refine wpAny_bind (LP.at ?_);refine wpAny_bind (ez (wpAny_bind (ez ?_)));show wpAny _ _ (qx (.ref e) "place" none none) _ _ _;unfold qx AJ AH;refine wpAny_bind (wpAny_bind ?_);refine wpAny_bind ((yp he).at ?_);show wpAny _ _ (instanceDict e false) _ _ _;refine wpAny_bind (uj he (wpAny_bind ((AS X hc).here (ez ?_))));show wpAny _ _ (nsGet dx "place") _ _ _;refine wpAny_nsGet hn.ns ?_;rw[hm];refine wpAny_bind (BQ (ez ?_));exact ez (handed_on hh' (q _))
theorem oH {rest:Za3}{Q:Za0}(O:M5 K W C f)(X:K.In s.heap)(hr:rest.length<=sizeLine)
  (q:∀h' e,qg s.heap h' e (.ref C) rest->s.heap.objs.size<=e->wpAny (model prog w) (A.under (.builtin "type.__call__" ⟨.ref C::rest,[]⟩)) (call (.ref f) (.ref e::rest)) (λr s'=>r=.none/\Q (.ref e) s') E { s with heap:=h' }) :
  wpAny (model prog w) A (call (.ref C) rest) Q E s:=by
 obtain⟨hh,g,d,tk,os⟩:=s;have X:K.In hh:=X;obtain⟨nm,qn,N,bs,sn,sub,ab,col,dd,k0,k1,k2,k3,k5,lk⟩:=O.ob;have hC:hh.get? C=_:=X _ _ lk;have T:=X0 X O.wex;have B:=vj;have f1:=tc_lookup;have f2:=tc_bind (.ref C);have tC:(⟨hh,g,d,tk,os⟩:eg).TypeIs (.ref C) "type":=⟨_,hC,rfl⟩;refine lh (DU ?_);show wpAny _ _ (callAny (.ref C) _) _ _ _
 repeat (any_goals (first|assumption|with_reducible refine pb hC ?_|wp_step))
 refine⟨rfl,codeAny_call_builtin_at (qh _ (by decide +kernel)) entry_typeCall (wpAny_check_type_call_sub hC ?_)⟩
 repeat (first|with_reducible refine pb hC ?_|with_reducible refine wpAny_madeBy_exc hC ?_|wp_step)
 refine codeAny_call_builtin_code (qh _ B.quiet) (wpAny_check_new_subT B T hC (codeAny_exc_new_subT B T hC ?_ hr));show wpAny _ _ _ _ _ _;have hget:((hh.push { cls:=.type "tuple",data:=.seq rest.toArray }).push (Kg C hh.objs.size none)).get? (hh.objs.size+1)=some (Kg C hh.objs.size none):=by heap_get
 have kp:∀b o,hh.get? b=some o->((hh.push { cls:=.type "tuple",data:=.seq rest.toArray }).push (Kg C hh.objs.size none)).get? b=some o:=λb o z=>d4 _ (d4 _ z);have HZ:=kp _ _ hC;have hcC:(ia C::.ref W::E1).contains (.ref C)=true:=by simp
 have X1:K.In ((hh.push { cls:=.type "tuple",data:=.seq rest.toArray }).push (Kg C hh.objs.size none)):=λb o z=>kp b o (X b o z);have mx:qg hh ((hh.push { cls:=.type "tuple",data:=.seq rest.toArray }).push (Kg C hh.objs.size none)) (hh.objs.size+1) (.ref C) rest:=by
  refine⟨kp,tj (vx _),hh.objs.size,hget,tj (d3 _),?_⟩;exact d4 _ (gk hh rfl)
 have J:InstAt ((hh.push { cls:=.type "tuple",data:=.seq rest.toArray }).push (Kg C hh.objs.size none)) (hh.objs.size+1) (Kg C hh.objs.size none) C none:=⟨hget,rfl,rfl,l8⟩;unfold isInstance
 repeat (first|with_reducible refine pb hget ?_|(with_reducible refine uu HZ ?_;rw[hcC])|wp_step)
 refine uu HZ ?_;rw[hcC];rw[if_neg (by decide)];refine wpAny_bind (jf (special_fn X1 J O.ini O.fn ?_));refine iw (q _ _ mx (vx _)) (λv s' z=>?_) λ_ _ z=>z;obtain⟨rfl,z⟩:=z;exact ez z
end
def uO (e C:dw)(od:Option dw)(h:im):Prop:=∃t,h.get? e=some (Kg C t od)
def Hg (e C:dw)(od:Option dw):HO:=.ext (uO e C od)
theorem Zm {P:fq}{e:dw}(x:uO e C od h):Ce P w H h e (Hg e C od):=
 ⟨x,let ⟨_,z⟩:=x;⟨_,z⟩,λ_ _ ⟨t,z⟩ k=>⟨t,k _ z⟩⟩
structure uN (K:dn) (mg:Za2) (x:Str) (W:dw):Prop where
 at_:mg x=some (.ref W)
 ga:specialIn K (.ref W) "__getattribute__"=some (some (.builtin "type.__getattribute__"))
 rd:readsIn K W (.type "type")=true
 ini:findCls K (.ref W) (.type "type") "__init__"=some (.val (.builtin "ValueError.__init__"))
theorem vT {e:dw}{o:HO}(h:H e=some o):upd H e o=H:=by
 funext b
 by_cases hb:b=e
 ·subst hb;rw[Ac,h]
 ·rw[Aj hb]
section
variable {X:Cx} {x:Str} {W C f:dw} {np apos pos p1 p2 pos':Pos} {a o e value:gq} {as:List gq} {t:TA} {te ta tv:TE} {pl:Sem Bool}
def kS (K:dn)(W:dw)(t:TA):TE:=λG H Q=>t G H λvs H1=>∃e C f od z,vs=[.ref e,.str z]/\H1 e=some (Hg e C od)/\M5 K W C f/\Q .non H1
theorem pC (B:uN X.K X.mg x W)(hg:Gl X x)(ha:PA X (a::as) t)(hdb:autoParam ((x==("__debug__":Str))=false) QF)
  (he:autoParam (backTo pos (starEach (a::as) X.env)=(false,eval a X.env)::backTo pos (starEach as X.env)) QD)(hpl:autoParam ((backTo pos (starEach (a::as) X.env)).any (·.1)=false) QD)
  (ht:autoParam (eval (.Call (.Attribute (.Name x np) "__init__" apos) (a::as) [] pos) X.env=(do
   let ov <-eval (.Name x np) X.env
   standAt apos.atName
   let (f,first) <-holding [ov] (getMethod ov "__init__" pl)
   callWith pos f first (backTo pos (starEach (a::as) X.env)) (backToKw pos (keywordEach [] X.env)))) QD) :
  PE X (.Call (.Attribute (.Name x np) "__init__" apos) (a::as) [] pos) (kS X.K W t):=by
 k_in;refine methodCall_KW (F9 I hg B.at_ ?_ hdb) ht;refine method_cls I.kIn B.ga (cls_value I.kIn B.rd B.ini rfl ?_);refine ri hpl ?_;have hs:=ha pos pins _ G H _ (I.tok (s.toks+1)) h;rw[he] at hs ⊢;refine pk (thn hs λus s1 ⟨vs,H1,I1,r,e,C,f,od,z,ev,hx,O,q⟩=>?_);subst ev;obtain⟨u,u2,rfl,ru,ru2⟩:=Sc r;obtain rfl:u=ia e:=ru;obtain⟨⟨t0,h0⟩,_,_⟩:=(show Ce X.prog X.w H1 s1.heap e (Hg e C od) from I1.hok e _ hx);refine dB O I1.kIn h0 λh' t' hk he'=>⟨.non,H1,?_,rfl,q⟩;have z:=I1.write (x:=e) (e:=e) (o:=Hg e C od) (h':=h') (t':=s1.toks) (by rw[hx];exact l8) (.inl rfl) hk ⟨_,he'⟩ (Zm ⟨t',he'⟩);rw[vT hx] at z;exact z
def uP (te:TE):TE:=λG H Q=>te G H λv H1=>∃i:Int,v=.int i/\i.natAbs<10 ^ 12/\∀z,Q (.str z) H1
theorem jB {n:Nat}(h:n<10 ^ 12):n.log2<1920:=by
 have:n.log2<40:=by
  by_cases h0:n=0
  ·subst h0;decide
  ·exact(Nat.log2_lt h0).mpr (d7 h (by decide))
 lia
theorem sE {c:Str}{j:Nat}(hc:c.length<=1000)(he:PE X e te):PE X (.JoinedStr [.Constant (.str c) j p1,.FormattedValue e (-1) none p2] pos) (uP te):=by
 k_in;have sl:2000<=sizeLine:=by decide
 refine JoinedStr_many (FH (zh ⟨?_,FH (FormattedValue_plain (thn (he pins _ G H _ (I.tok _) h) λu s1 ⟨v,H1,I1,r,i,ev,hi,q⟩=>?_))⟩))
 ·rw[y9]
  show 0+c.length<=_;lia
 ·subst ev
  obtain⟨tk,rfl⟩:=r;have hl:=int_text_length_le10 (k:=12) (by decide) hi;have hz:(t9++c++(kj (toString i))).length<=sizeLine:=by
   rw[y9,y9];show 0+c.length+_<=_;have:(kj (toString i)).length<=13:=by rw[PySem.ofString_length];exact hl
   lia
  refine formatField_int_small (jB hi) ⟨hz,joinParts_nil ⟨.str _,H1,I1.tok _,⟨_,rfl⟩,q _⟩ hz⟩
def lL (K:dn)(ta tv:TE):TS:=λD G H=>tv G H λy H1=>ta G H1 λx H2=>∃e W C f,x=.ref e/\H2 e=some (Hg e C none)/\M5 K W C f/\Gx K C /\
 ∀dx,H2 dx=none->D.nx G (upd (upd H2 dx (.xd [("place",y)])) e (Hg e C (some dx)))
theorem oV (ha:PE X o ta)(hv:PE X value tv)(hs:autoParam (swapsWith value (some (.Attribute o "place" pos')) pos.line X.env=pure false) QD):PS X (.Assign [.Attribute o "place" pos'] value pos) (lL X.K ta tv):=by
 k_end;refine plainObj_wpAny_Assign_Attribute (thE hv I h λu s1 y H1 I1 ry q=>thE ha I1 q λov s2 x H2 I2 rx ⟨e,W,C,f,ex,hx,O,Z,q2⟩=>?_) hs;subst ex;obtain rfl:ov=ia e:=rx;obtain⟨⟨t0,h0⟩,_,_⟩:=(show Ce X.prog X.w H2 s2.heap e (Hg e C none) from I2.hok e _ hx);refine kB O Z I2.kIn h0 λh' dx tk hk he' hne hsz hn=>⟨G,_,?_,q2 dx (I2.hok.fresh hsz)⟩;have fr:=I2.hok.fresh hsz;have nb:∀b ob,s2.heap.get? b=some ob->b≠dx:=λb ob z=>fu (d7 (ee z) hsz);have nt:∀{b:dw} {u:HO},H2 b=some u->b≠dx:=λz=>Am z fr;have ne:∀{b:dw},H2 b=none->b≠e:=λz y=>by rw[y,hx] at z;cases z
 have mv:∀{b:dw},b≠e->b≠dx->upd (upd H2 dx (.xd [("place",y)])) e (Hg e C (some dx)) b=H2 b:=λz z2=>by rw[Aj z,Aj z2]
 have xt:∀{b:dw} {u:HO},H2 b=some u->u≠Hg e C none->b≠e:=λz n y=>by rw[y,hx] at z;cases z;exact n rfl
 refine I2.un (t':=tk) ⟨λb ob z n _ _=>hk b ob (ne n) z,λb ob z n _ _=>⟨ob.slots,hk b ob (ne n) z⟩,λb ob z n _=>by rw[mv (ne n) (nb b ob z)];exact n,λb ob z _=>?_,λb xs z=>?_,λb ob u z=>?_,λb ps z=>?_⟩ λb ob z=>?_
 ·by_cases hb:b=e
  ·subst hb;exact⟨_,he'⟩
  ·exact⟨ob,hk b ob hb z⟩
 ·rw[mv (xt z (by intro y;cases y)) (nt z)];exact z
 ·rw[mv (xt z (by intro y;cases y)) (nt z)];exact z
 ·exact⟨#[],by rw[mv (xt z (by intro y;cases y)) (nt z)];simpa using z⟩
 ·by_cases hb:b=e
  ·subst hb
   rw[Ac] at z;cases z;exact Zm ⟨t0,he'⟩
  ·rw[Aj hb] at z
   by_cases hb2:b=dx
   ·subst hb2
    rw[Ac] at z;cases z;refine⟨_,hn,λf=>?_⟩
    by_cases hf:f="place"
    ·subst hf
     simpa [Pq] using ry
    ·have:l5 f [(("place":Str),y)]=none:=by
      rw[l5,show(f==("place":Str))=false from beq_eq_false_iff_ne.mpr hf];rfl
     rw[this];simp[Pq,hf]
   ·rw[Aj hb2] at z
    refine(I2.hok b ob z).stay (λc w' hc y=>hk c w' ?_ y) (λc y=>?_) λc xs y=>?_
    ·rcases hc with rfl|hc
     ·exact hb
     ·exact xt hc (by intro y;cases y)
    ·rw[mv (xt y (by intro y;cases y)) (nt y)];exact y
    ·rw[mv (xt y (by intro y;cases y)) (nt y)];exact y
def qB (K:dn)(te:TE):TE:=λG H Q=>te G H λx H1=>∃e W C f dx fs i,x=.ref e/\H1 e=some (Po e C (some dx))/\M5 K W C f/\Gx K C/\H1 dx=some (.xd fs)/\fs.lookup ("place":Str)=some (V.int i)/\Q (.int i) H1
theorem lP (he:PE X e te)(hb:autoParam (attributeBase e "place" X.env (eval e X.env)=eval e X.env) QD):PE X (.Attribute e "place" pos) (qB X.K te):=by
 k_in;refine eW hb (thE he I h λu s1 y H1 I1 ry ⟨x,W,C,f,dx,fs,i,ey,hx,O,Z,hd,hl,q⟩=>?_);subst ey;obtain rfl:u=ia x:=ry;obtain⟨⟨ox,ws,hox,hoc,hod,hdd⟩,_,_⟩:=(show Ce X.prog X.w H1 s1.heap x (Po x C (some dx)) from I1.hok x _ hx);obtain⟨mA,hn,hr⟩:=(show Ce X.prog X.w H1 s1.heap dx (.xd fs) from I1.hok dx _ hd);have rr:=hr "place";rw[hl] at rr
 cases em:mA "place" with
 |none=>rw[em] at rr;exact rr.elim
 |some v=>
  rw[em] at rr;obtain⟨tk,rfl⟩:=(show ∃tk,v=mq i tk from rr);exact iV O Z I1.kIn hox hoc hod hdd hn em rfl λtk'=>⟨.int i,H1,I1.tok _,⟨_,rfl⟩,q⟩
end
section
variable {M:rk} {prog:fq} {w:gr} {A:ii} {E:Za0} {s:eg} {env:Env} {K:dn} {W C f:dw}
theorem iL {x:Sem ed}{Q:Flow->eg->Prop}(O:M5 K W C f)(hh:A.handled=none)(q:wpAny M A x (λv HB=>∃e t od,v=.ref e/\K.In HB.heap/\HB.heap.get? e=some (Kg C t od)/\E (.ref e) HB) E s) :
  wpAny M A (raiseStmt env (some x) none) Q E s:=by
 have cB:(ia C::.ref W::E1).contains (.type "BaseException")=true:=by simp[E1]
 unfold raiseStmt;refine wpAny_bind (thn q λv HB ⟨e,t,od,ev,X,hx,hE⟩=>?_);subst ev;obtain⟨nm,qn,N,bs,sn,sub,ab,col,dd,k0,k1,k2,k3,k5,lk⟩:=O.ob;have hC:=X _ _ lk;obtain⟨hp,g,d,tk,os⟩:=HB
 repeat (first|with_reducible refine pb hx ?_|with_reducible refine pb hC ?_|(with_reducible refine uu hC ?_;rw[cB])|wp_step)
 exact wpAny_raiseNew_none hh hE
theorem iS {x:Str}{np cpos:Pos}{args:List gq}{Q:Flow->eg->Prop}(O:M5 K W C f)(hh:A.handled=none)(hplain:(backTo cpos (starEach args env)).any (·.1)=false)
  (q:wpAny (model prog w) A (eval (.Name x np) env) (λv HB=>v=.ref C/\wpAny (model prog w) A (evalArgs (.ref C) true (backTo cpos (starEach args env)) []) (λa HE=>a.kw=[]/\a.pos.length<=sizeLine/\K.In HE.heap /\
   ∀h' e,qg HE.heap h' e (.ref C) a.pos->HE.heap.objs.size<=e->wpAny (model prog w) (A.under (.builtin "type.__call__" ⟨.ref C::a.pos,[]⟩)) (call (.ref f) (.ref e::a.pos)) (λr HK=>r=.none/\∃t od,K.In HK.heap/\HK.heap.get? e=some (Kg C t od)/\E (.ref e) HK) E { HE with heap:=h' }) E HB) E s) :
  wpAny (model prog w) A (exec (.Raise (some (.Call (.Name x np) args [] cpos)) none pos) env) Q E s:=by
 rw[arm_exec_Raise];simp only[evalOpt,Option.map];refine wpAny_bind (mm (iL O hh (wpAny_bind (thn (wpAny_Call_ofName (thn q λv HB q1=>?_)) λv HK q3=>wpAny_bind (mm (ez q3))))));obtain⟨rfl,q1⟩:=q1;unfold callWith;refine wpAny_bind (jf (thn q1 λa HE q2=>wpAny_bind (mm ?_)));obtain⟨ap,ak⟩:=a;obtain⟨hk,hl,X,q2⟩:=q2;obtain rfl:ak=[]:=hk;obtain⟨nm,qn,N,bs,sn,sub,ab,col,dd,k0,k1,k2,k3,k5,lk⟩:=O.ob;obtain⟨hp,g,d,tk,os⟩:=HE;simp only[hplain];refine wpAny_bind (wpAny_keeperOf_exc (X _ _ lk) ?_);refine wpAny_bind (oH O X hl λh' e mx he=>thn (q2 h' e mx he) λr HK q3=>⟨q3.1,wpAny_bind (jf (wpAny_point (ez ?_)))⟩);obtain⟨_,t,od,X3,h3,q3⟩:=q3;exact⟨e,t,od,rfl,X3,h3,q3⟩
end
inductive lH (C:dw)(vs:List V)(H:Hp)(Q:VK)(E:XK):Prop|mk(e:dw)(i:Int)(_:vs=[.ref e,.int i])(_:H e=some (Hg e C none))(_:i.natAbs<10 ^ 12)(_:∀dx,H dx=none->Q .non (upd (upd H dx (.xd [("place",.int i)])) e (Hg e C (some dx))))
structure xG (P:fq) (w:gr) (K:dn) (mg:Za2) (base:im) (name:Str) (W C:dw) (k:Nat) (ps:Za6):Prop where
 ex:∃(f:dw) (fd:i3),Ay P w K mg base CX0 k f fd ps (lH C)/\Ed K fd ps []/\M5 K W C f
 at_:mg name=some (.ref C)
 ek:Gx K C
def fJ (C:dw)(E:XK)(t:TA):TS:=λ_ G H=>t G H λvs H1=>∃i:Int,vs=[.int i]/\i.natAbs<10 ^ 12/\∀dx,H1 dx=none->E (.ref C) (some dx) (upd H1 dx (.xd [("place",.int i)]))
section
variable {P:fq} {w:gr} {K:dn} {mg:Za2} {base:im} {N:Za6} {qual:Str} {scope:lm} {f:dw} {cd:ed} {A:ii} {outer:List Env} {HA:eg} {HC:Hp} {E:XK}
theorem Z4 {G:St}{s3:eg}{e t:dw}(I:Inv (Bx (CXE P w) P w K mg base N qual scope f cd A outer HA HC E) pins G H s)(hn:s.heap.get? e=none)(ho:s3.os=s.os)(hg:qr s3.gens)
  (un:Un (frs (Bx (CXE P w) P w K mg base N qual scope f cd A outer HA HC E).stack) [] H H' s.heap s3.heap)(hok:HOk P w H' s3.heap)(hu:H' e=none)(he:s3.heap.get? e=some (Kg C t od))(q:E (.ref C) od H') :
  (Bx (CXE P w) P w K mg base N qual scope f cd A outer HA HC E).xe (.ref e) s3:=by
 show wpAny (model P w) (A.deeper (envOfC qual scope HA.heap.objs.size f cd)) (leaving (envOfC qual scope HA.heap.objs.size f cd) (.ref e)) _ _ _;have I3:=I.call' ho un hok hg (by simp);have hfr:∀b∈frs (Bx (CXE P w) P w K mg base N qual scope f cd A outer HA HC E).stack,H' b=none:=I3.stkFree;have hin:∀env∈(Bx (CXE P w) P w K mg base N qual scope f cd A outer HA HC E).stack,∀b,env.frame=some b->b∈e::frs (Bx (CXE P w) P w K mg base N qual scope f cd A outer HA HC E).stack:=λenv he b hb=>ik _ (qd.mpr ⟨env,he,hb⟩);have hen:(hideAll s3.heap (e::frs (Bx (CXE P w) P w K mg base N qual scope f cd A outer HA HC E).stack)).get? e=none:=xu _ jo;have hBh:(hideAll s3.heap (e::frs (Bx (CXE P w) P w K mg base N qual scope f cd A outer HA HC E).stack)).StaysIn s3.heap:=λb o z=>ve _ z;refine iw (Of (M2 _ _) (wpAny_leaving_firstW (L:=HA.heap.objs.size) (outer:=outer) (base:=hideAll s3.heap (e::frs (Bx (CXE P w) P w K mg base N qual scope f cd A outer HA HC E).stack)) (a0:=.ref t)
  (Q:=λ_ s'=>∃h2,s'={ s3 with heap:=h2 }/\Heap.LeftW (hideAll s3.heap (e::frs (Bx (CXE P w) P w K mg base N qual scope f cd A outer HA HC E).stack)) (envOfC qual scope HA.heap.objs.size f cd::outer) e (.ref C) (.ref t) s3.heap h2)
  I.ok.frames (wx I3.stack hin) rfl he hBh hen rfl rfl rfl λh2 L=>⟨h2,rfl,L⟩)) (λ_ s' z=>?_) λ_ _ z=>z
 obtain⟨⟨h2,rfl,k1,⟨_,_,k2⟩,k3,k4⟩,kd⟩:=z;obtain⟨hp,g,d,tt,os⟩:=s3;have ho:os=s.os:=ho;subst ho;refine U1 (s:=s) (g:=g) (d:=d) (t:=tt) (h1:=hp) I un hok hfr hg hn hu (λb o z y=>?_) hBh (⟨⟨k1,hen,k2,k3⟩,Li kd ⟨_,he,rfl⟩⟩:Pu _ outer e (.ref C) (.ref t) od h2) k4 q
 by_cases hb:b∈e::frs (Bx (CXE P w) P w K mg base N qual scope f cd A outer HA HC E).stack
 ·rcases gd.mp hb with z|z
  ·exact .inl z
  ·exact .inr (.inl z)
 ·rw[sk _ z hb] at y
  cases y
theorem Oj {x:Str}{W:dw}{k:Nat}{np cpos:Pos}{a:gq}{as:List gq}{t:TA}(Y:xG P w K mg base x W C k ps)(hr:B3 (k+1) (Bx (CXE P w) P w K mg base N qual scope f cd A outer HA HC E).A)(hg:Gl (Bx (CXE P w) P w K mg base N qual scope f cd A outer HA HC E) x)
  (ha:PA (Bx (CXE P w) P w K mg base N qual scope f cd A outer HA HC E) (a::as) t)(hdb:autoParam ((x==("__debug__":Str))=false) QF)
  (he:autoParam (starEach (a::as) (Bx (CXE P w) P w K mg base N qual scope f cd A outer HA HC E).env=(false,eval a (Bx (CXE P w) P w K mg base N qual scope f cd A outer HA HC E).env)::starEach as (Bx (CXE P w) P w K mg base N qual scope f cd A outer HA HC E).env) QD)
  (hpl:autoParam ((backTo cpos (starEach as (Bx (CXE P w) P w K mg base N qual scope f cd A outer HA HC E).env)).any (·.1)=false) QD) :
  PS (Bx (CXE P w) P w K mg base N qual scope f cd A outer HA HC E) (.Raise (some (.Call (.Name x np) (a::as) [] cpos)) none pos) (fJ C E t):=by
 k_end;obtain⟨fi,fd,F,B,O⟩:=Y.ex;refine iS O (I.ok.hd rfl) ?_ ?_
 ·rw[he]
  show((false||(backTo cpos (starEach as _)).any (·.1)))=false;rw[hpl];rfl
 refine F9 I hg Y.at_ ⟨rfl,?_⟩ hdb;have hs:=ha cpos pins s G H _ I h;rw[he] at hs ⊢;refine pk (thn hs λus s2 ⟨vs,H1,I1,r,i,ev,hi,q⟩=>⟨rfl,?_,I1.kIn,λh1 e mx hsz=>?_⟩)
 ·have:=r.length
  subst ev;show us.length<=sizeLine;rw[<-this];show 1<=sizeLine;decide
 subst ev;have new:H1 e=none:=I1.hok.fresh hsz;obtain⟨t,het,_⟩:=mx.there;have I2:=I1.laid (a:=e) (o:=Hg e C none) (t':=s2.toks) mx.keeps hsz (Zm ⟨t,het⟩);have hl:(ia e::us).length=ps.length:=by
  rw[<-F.len [.ref e,.int i] (upd H1 e (Hg e C none)) (λ_ _=>True) E0 ⟨e,i,rfl,Ac,hi,λ_ _=>l8⟩];show us.length+1=_;rw[<-r.length];rfl
 refine lh (la (F.run _ _ _ (upd H1 e (Hg e C none)) ⟨.ref e::us,[]⟩ (.ref e::us) [.ref e,.int i] (λv H2=>v=.non/\∃dx,upd H1 e (Hg e C none) dx=none/\H2=upd (upd (upd H1 e (Hg e C none)) dx (.xd [("place",.int i)])) e (Hg e C (some dx))) E0
  (hr.make C us []) (I2.env0.make C us []) (by have:=B _ (ia e::us) I2.kIn (by simpa using hl);simpa using this) (.cons rfl r) ⟨e,i,rfl,Ac,hi,λdx hd=>⟨rfl,dx,hd,rfl⟩⟩) λr' s3 hq=>?_)
 cases r' with
 |error x=>exact hq.elim
 |ok fl=>
  cases fl with
  |next=>exact hq.elim
  |brk=>exact hq.elim
  |cont=>exact hq.elim
  |ret u=>
   obtain⟨v,H3,ho,hg3,un,hok,rv,evn,dx,hd,eH⟩:=hq;subst evn;obtain rfl:u=ll:=rv;have hde:dx≠e:=λz=>by rw[z,Ac] at hd;cases hd
   have hd1:H1 dx=none:=by rw[Aj hde] at hd;exact hd
   have e3:H3 e=some (Hg e C (some dx)):=by rw[eH,Ac]
   obtain⟨⟨t3,he3⟩,_,_⟩:=(show Ce P w H3 s3.heap e (Hg e C (some dx)) from hok e _ e3);have mv:∀b,b≠e->H3 b=upd H1 dx (.xd [("place",.int i)]) b:=λb hb=>by
    rw[eH,Aj hb]
    by_cases h2:b=dx
    ·subst h2;rw[Ac,Ac]
    ·rw[Aj h2,Aj h2,Aj hb]
   have hu:upd H1 dx (.xd [("place",.int i)]) e=none:=by rw[Aj (lz hde)];exact new
   have nb:∀b o,s2.heap.get? b=some o->b≠e:=λb o z y=>by rw[y,mx.new] at z;cases z
   have nt:∀{b:dw} {o:HO},H1 b=some o->b≠e:=λz=>Am z new;have m1:∀b,b≠e->upd H1 e (Hg e C none) b=H1 b:=λb hb=>Aj hb;have I3:=I2.call' ho un hok hg3 (by simp);refine⟨rfl,t3,some dx,I3.kIn,he3,Z4 (H':=upd H1 dx (.xd [("place",.int i)])) I1 mx.new ho hg3 ⟨λb o z n nf nx=>?_,λb o z n nf nx=>?_,λb o z n nx=>?_,λb o z nx=>?_,λb xs z=>?_,λb o u z=>?_,λb ps z=>?_⟩ (λb o z=>?_) hu he3 (q dx hd1)⟩
   ·exact un.keep b o (mx.keeps b o z) (by rw[m1 b (nb b o z)];exact n) nf nx
   ·exact un.slot b o (mx.keeps b o z) (by rw[m1 b (nb b o z)];exact n) nf nx
   ·rw[<-mv b (nb b o z)];exact un.free b o (mx.keeps b o z) (by rw[m1 b (nb b o z)];exact n) nx
   ·exact un.there b o (mx.keeps b o z) nx
   ·rw[<-mv b (nt z)];exact un.tups b xs (by rw[m1 b (nt z)];exact z)
   ·rw[<-mv b (nt z)];exact un.frzs b o u (by rw[m1 b (nt z)];exact z)
   ·rw[<-mv b (nt z)];exact un.tbls b ps (by rw[m1 b (nt z)];exact z)
   ·have hb:b≠e:=λy=>by rw[y,hu] at z;cases z
    rw[<-mv b hb] at z;refine(hok b o z).stay (λ_ _ _ y=>y) (λc y=>?_) λc xs y=>?_
    ·rw[<-mv c (λy2=>by rw[y2,e3] at y;cases y)];exact y
    ·rw[<-mv c (λy2=>by rw[y2,e3] at y;cases y)];exact y
end
section
variable {X:Cx}
def tF:V->List V->Hp->VK->Prop:=λx vs H Q=>∃(l:dw) (xs:List V) (y:V),x=.ref l/\vs=[y]/\H l=some (.lst xs)/\xs.all Cy=true/\Cy y=true/\Q (.int (xs.countP (λz=>eqV z y):Nat)) H
theorem Sz {y:V}:∀{xs:List V} {us:Za3},A3 xs us->xs.all Cy=true->us.countP (eqU y)=xs.countP λz=>eqV z y
 |_,_,.nil,_=>rfl
 |x::xs,u::us,.cons r t,f=>by
  rw[xo,mw] at f;rw[vc,vc,Sz t f.2,Vd r f.1]
theorem Tj:MtM X "list.count" tF:=by
 intro pins s G H x vs v us Q I rx rv h;obtain⟨l,xs,y,rfl,rfl,hH,hf,hy,q⟩:=h;cases rx;obtain⟨u,rfl,ru⟩:=Ef rv;obtain⟨z,its,n,r,hl,e⟩:=I.lstM hH;refine qv F.slot_list_count ⟨_,e,rfl⟩ F.entry_list_count (F.args_list_count_2 _ _) (SeqAt.list_countAt l its.toArray n none #[] u (eqU y)) ⟨e,λw hw=>Hh ru hy r hf w (by simpa using hw),?_⟩;rw[show its.toArray.toList=its from rfl,Sz r hf];exact⟨.int _,H,I.tok _,⟨_,rfl⟩,q⟩
end
section
variable {G:St} {H:Hp} {D:Ji} {Q:VK} {te ta tv:TE} {t:TA} {K:dn} {W C:dw} {E:XK}
theorem sS (h:t G H λvs H1=>∃e C f od z,vs=[.ref e,.str z]/\H1 e=some (Hg e C od)/\M5 K W C f/\Q .non H1):kS K W t G H Q:=h
theorem wY (h:te G H λv H1=>∃i:Int,v=.int i/\i.natAbs<10 ^ 12/\∀z,Q (.str z) H1):uP te G H Q:=h
theorem pB (h:tv G H λy H1=>ta G H1 λx H2=>∃e W C f,x=.ref e/\H2 e=some (Hg e C none)/\M5 K W C f/\Gx K C/\∀dx,H2 dx=none->D.nx G (upd (upd H2 dx (.xd [("place",y)])) e (Hg e C (some dx)))):lL K ta tv D G H:=h
theorem sW (h:te G H λx H1=>∃e W C f dx fs i,x=.ref e/\H1 e=some (Po e C (some dx))/\M5 K W C f/\Gx K C/\H1 dx=some (.xd fs)/\fs.lookup ("place":Str)=some (V.int i)/\Q (.int i) H1):qB K te G H Q:=h
theorem lU (h:t G H λvs H1=>∃i:Int,vs=[.int i]/\i.natAbs<10 ^ 12/\∀dx,H1 dx=none->E (.ref C) (some dx) (upd H1 dx (.xd [("place",.int i)]))):fJ C E t D G H:=h
end
abbrev Aau (vs:Array ed):Obj:={ cls:=.type "zip",dict:=none,data:=.fields vs,slots:=#[] }
abbrev Na (h:im)(z TI TO T:dw)(c:Bool):Prop:=h.get? z=some (Aau #[rawInt T,.bool c,.bool false,.ref TI,.ref TO])
section
variable {prog:fq} {w:gr} {A:ii} {E:Za0} {s:eg}
theorem pH {a:dw}{Q:Option Obj->eg->Prop}(h:Q (s.heap.get? a) s):wpAny (model prog w) A (loadIfAlive a) Q E s:=λΓ p hΓ=>by
 show FI _ _ (.loadIfAlive a _) _ _ _ _;rw[Sem.wp_loadIfAlive];exact h
theorem Tw {TI TO T:dw}{c:Bool}{Q:Bool->eg->Prop}(hz:Na s.heap z TI TO T c)(hT:s.heap.get? T=some oT)(q:∀h',Na h' z TI TO T true->uq z s.heap h'->Q false { s with heap:=h' }) :
  wpAny (model prog w) A (kg (.ref z)) Q E s:=by
 unfold kg;refine wpAny_bind (rj hz rfl (x:=rawInt T) rfl ?_);show wpAny _ _ (loadIfAlive (Int.toNat (T:Int)) >>= _) _ _ _;refine wpAny_bind (pH ?_);rw[gz,hT];show wpAny _ _ (field (.ref z) 1 >>= _) _ _ _;refine wpAny_bind (rj hz rfl (x:=.bool c) rfl ?_)
 cases c with
 |true=>
  exact ez (q s.heap hz (EX _ _))
 |false=>
  refine wpAny_bind (wpAny_setField_rec hz (by simp) λHJ HS HG=>?_);exact ez (q HJ HS HG)
theorem jW {TI TO T:dw}{k1 k2:Nat}{xs ys:Array ed}{x y:ed}{c:Bool}{Q:Za0}(D:wc z TI TO i1 i2 l1 l2)
  (hz:Na s.heap z TI TO T c)(hT:s.heap.get? T=some oT)(hTI:pj s.heap TI (.ref i1) (.ref i2))(h1:s.heap.IsListIter i1 l1 k1)(h2:s.heap.IsListIter i2 l2 k2)(hl1:s.heap.IsList l1 xs)(hl2:s.heap.IsList l2 ys)(hx:xs[k1]?=some x)(hy:ys[k2]?=some y)
  (hQ:∀h',Na h' z TI TO T true->h'.IsListIter i1 l1 (k1+1)->h'.IsListIter i2 l2 (k2+1)->pj h' s.heap.objs.size x y->h'.objs.size=s.heap.objs.size+1->(∀b o,b≠z->b≠i1->b≠i2->s.heap.get? b=some o->h'.get? b=some o)->Q (.ref s.heap.objs.size) { s with heap:=h' }) :
  wpAny (model prog w) A (ro.«zip.__next__» ⟨[.ref z],[]⟩) (λfin s'=>∃v,fin=.done (.ret v)/\Q v s') E s:=by
 show wpAny _ _ (field (.ref z) 2 >>= _) _ _ _;refine wpAny_bind (rj hz rfl (x:=.bool false) rfl ?_);show wpAny _ _ (field (.ref z) 3 >>= _) _ _ _;refine wpAny_bind (rj hz rfl (x:=.ref TI) rfl ?_);refine wpAny_bind (oz hTI rfl ?_);show wpAny _ _ (kg (.ref z) >>= _) _ _ _;refine wpAny_bind (Tw hz hT λHJ HS HG=>?_);rw[if_neg (by decide)];refine wpAny_bind ?_;rw[<-zi];simp only[vz,BK];refine wpAny_bind (wpAny_bind (jf ?_));show wpAny _ _ (oi (.ref i1) >>= _) _ _ _;refine wpAny_bind (zr (h1.extBut HG.extBut D.i1z) (hl1.extBut HG.extBut D.l1z) hx λQP QQ HN=>ez ?_);refine ez ?_;refine wpAny_bind (wpAny_bind (jf ?_));show wpAny _ _ (oi (.ref i2) >>= _) _ _ _;refine wpAny_bind (zr ((h2.extBut HG.extBut D.i2z).extBut HN.extBut D.i12.symm) ((hl2.extBut HG.extBut D.l2z).extBut HN.extBut D.l2i1) hy λHU QR HV=>ez ?_);refine ez (ez ?_);have hsz:HU.objs.size=s.heap.objs.size:=by rw[HV.1,HN.1,HG.1]
 have kp:∀b o,b≠z->b≠i1->b≠i2->s.heap.get? b=some o->HU.get? b=some o:=λb o b1 b2 b3 e=>HV.extBut _ _ b3 (HN.extBut _ _ b2 (HG.extBut _ _ b1 e));have QS:Na HU z TI TO T true:=HV.extBut _ _ D.i2z.symm (HN.extBut _ _ D.i1z.symm HS);show wpAny _ _ (newTuple [x,y] >>= _) _ _ _;refine wpAny_bind (wpAny_newTuple (ez ⟨_,rfl,?_⟩));have hp:HU.objs.size=s.heap.objs.size:=hsz;rw[hp];refine hQ _ (d4 _ QS) ((QQ.extBut HV.extBut D.i12).at λo e=>d4 _ e) (QR.at λo e=>d4 _ e) ?_ (by rw[k9,hp]) λb o b1 b2 b3 e=>d4 _ (kp b o b1 b2 b3 e);rw[<-hp];exact gk _ rfl
theorem iW {TI TO T:dw}{k1 k2:Nat}{xs ys:Array ed}{x y:ed}{c:Bool}{Q:Za7->eg->Prop}(D:wc z TI TO i1 i2 l1 l2)
  (hz:Na s.heap z TI TO T c)(hT:s.heap.get? T=some oT)(hTI:pj s.heap TI (.ref i1) (.ref i2))(h1:s.heap.IsListIter i1 l1 k1)(h2:s.heap.IsListIter i2 l2 k2)(hl1:s.heap.IsList l1 xs)(hl2:s.heap.IsList l2 ys)(hx:xs[k1]?=some x)(hy:ys[k2]?=some y)
  (hQ:∀h',Na h' z TI TO T true->h'.IsListIter i1 l1 (k1+1)->h'.IsListIter i2 l2 (k2+1)->pj h' s.heap.objs.size x y->h'.objs.size=s.heap.objs.size+1->(∀b o,b≠z->b≠i1->b≠i2->s.heap.get? b=some o->h'.get? b=some o)->Q (some (.ref s.heap.objs.size)) { s with heap:=h' }) :
  wpAny (model prog w) A (pyNext (.ref z)) Q E s:=by
 have hTy:s.TypeIs (.ref z) "zip":=⟨_,hz,rfl⟩;unfold pyNext;exact wpAny_bind (rp (zj (name:=kj "__next__") hTy n9
  (CT n9 hTy xa
   (jW D hz hT hTI h1 h2 hl1 hl2 hx hy λh' a1 a2 a3 a4 a5 a6=>ez (hQ h' a1 a2 a3 a4 a5 a6)) (wl _))))
theorem oY {TI TO T:dw}{k1:Nat}{xs:Array ed}{c:Bool}{Q:Za7->eg->Prop}(hh:A.handled=none)(D:wc z TI TO i1 i2 l1 l2)
  (hz:Na s.heap z TI TO T c)(hT:s.heap.get? T=some oT)(hTI:pj s.heap TI (.ref i1) (.ref i2))(h1:s.heap.IsListIter i1 l1 k1)(hl1:s.heap.IsList l1 xs)(hx:xs[k1]?=none)
  (hQ:∀h',(∀b o,b≠z->b≠i1->b≠i2->s.heap.get? b=some o->h'.get? b=some o)->Q none { s with heap:=h' }) :
  wpAny (model prog w) A (pyNext (.ref z)) Q E s:=by
 have hTy:s.TypeIs (.ref z) "zip":=⟨_,hz,rfl⟩;unfold pyNext;refine wpAny_bind (rp (zj (name:=kj "__next__") hTy n9
  (CT n9 hTy xa ?_ (wl _))))
 show wpAny _ _ (field (.ref z) 2 >>= _) _ _ _;refine wpAny_bind (rj hz rfl (x:=.bool false) rfl ?_);show wpAny _ _ (field (.ref z) 3 >>= _) _ _ _;refine wpAny_bind (rj hz rfl (x:=.ref TI) rfl ?_);refine wpAny_bind (oz hTI rfl ?_);show wpAny _ _ (kg (.ref z) >>= _) _ _ _;refine wpAny_bind (Tw hz hT λHJ HS HG=>?_);rw[if_neg (by decide)];refine wpAny_bind ?_;rw[<-zi];simp only[vz,BK];refine wpAny_bind (wpAny_bind (jf ?_));show wpAny _ _ (oi (.ref i1) >>= _) _ _ _;refine wpAny_bind (wpAny_nextOf_list_end hh (h1.extBut HG.extBut D.i1z) (hl1.extBut HG.extBut D.l1z) hx λQP e HN he=>?_);obtain⟨oe,hoe,hce⟩:=he;show wpAny _ _ (isInstance (.ref e) (.type "StopIteration") >>= _) _ _ _;refine wpAny_bind (wpAny_isInstance (T:="StopIteration") (b:=true) ⟨oe,hoe,hce⟩ isSubtype_stop ?_);exact ez (hQ _ λb o b1 b2 b3 e=>HN _ _ b2 (HG.extBut _ _ b1 e))
end
section
variable {prog:fq} {w:gr} {A:ii} {E:Za0} {R:vg->eg->Prop}
structure DzA (d z TI TO i1 i2 l1 l2:dw):Prop where
 za:wc z TI TO i1 i2 l1 l2
 dz:d≠z
 dI:d≠TI
 dO:d≠TO
 d1:d≠i1
 d2:d≠i2
 dl:d≠l1
 dm:d≠l2
end
theorem Mq:∀{xs:List V} {us:Za3},xs.length=us.length->(∀(i:Nat) x u,xs[i]?=some x->us[i]?=some u->Bm x u)->A3 xs us
 |[],[],_,_=>.nil
 |x::xs,u::us,hl,h=>.cons (h 0 x u rfl rfl) (Mq (z9 hl) λi y v e1 e2=>h (i+1) y v e1 e2)
section
variable {X:Cx}
def uQ (ta:TA):TE:=λG H Q=>ta G H λvs H1=>∃j:Nat,vs=[.int j]/\j<=100000/\∀p,H1 p=none->Q (.ref p) (upd H1 p (.lst ((et j).map λi:Nat=>V.int i)))
theorem iJ {a:gq}{ta:TA}{p q pos2:Pos}(hcal:X.calm=true)(hg:Gl X "list")(hm:X.mg "list"=none)(hg2:Gl X "range")(hm2:X.mg "range"=none)(ha:PA X [a] ta)
  (hs:autoParam (starEach [a] X.env=[(false,eval a X.env)]) QD)
  (hs3:autoParam (starEach [xx (.Name "range" q) [a] [] pos2] X.env=[(false,eval (.Call (.Name "range" q) [a] [] pos2) X.env)]) QD) :
  PE X (.Call (.Name "list" p) [.Call (.Name "range" q) [a] [] pos2] [] pos) (uQ ta):=by
 k_in;refine wpAny_Call_Name_kw (Ev I hg hm Og (il ?_ hs3 rfl) (by decide) (by decide));rw[hs3];refine l7 ?_;show wpAny _ _ (eval (xx (.Name "range" q) [a] [] pos2) X.env) _ _ _;refine wpAny_Call_Name_kw (Ev I hg2 hm2 boot_range (il (thA ha I h λus s1 vs H1 I1 r1 q1=>?_) hs rfl) (by decide) (by decide));obtain⟨j,e,hj,q⟩:=q1;subst e;obtain⟨u,rfl,t,rfl⟩:=Ef r1;refine GO (qo ?_);have e2:ur 0 (j:Int) 1=j:=by rw[FP];split<;>lia
 refine call_list_range (I1.ok.hd hcal) (BM ..) (small_one (by lia) (by lia) (by lia) (by lia)) e2 (by lia) λh' tk acc c kp ho it=>?_;have hv:A3 ((et j).map λi:Nat=>V.int i) acc.toList:=Mq (by rw[du,fh,jb,it.1]) λi x u e1 e3=>by
  have hi:i<j:=by have:=(fc.mp e1).1;simpa using this
  rw[d8,ij hi] at e1;cases e1;have e4:acc[i]?=some u:=by rw[<-mi];exact e3
  obtain⟨t,e5⟩:=it.2 i u e4;exact⟨t,by rw[e5];simp⟩
 have up:∀b o,s1.heap.get? b=some o->h'.get? b=some o:=λb o e=>kp _ _ (d4 _ e);have hle:s1.heap.objs.size<=(s1.heap.push { cls:=.type "range",data:=.fields #[.int 0 s1.toks,.int j t,.int 1 (s1.toks+1)] }).objs.size:=by rw[k9];lia
 refine⟨.ref _,_,I1.laid (t':=tk) (o:=.lst _) up hle ⟨?_,acc.toList,c,hv,ho⟩,rfl,q _ (I1.hok.fresh hle)⟩;rw[du,fh];exact fk (qk hj (by decide))
theorem wP {G:St}{Q:VK}{ta:TA}(h:ta G H λvs H1=>∃j:Nat,vs=[.int j]/\j<=100000/\∀p,H1 p=none->Q (.ref p) (upd H1 p (.lst ((et j).map λi:Nat=>V.int i)))):uQ ta G H Q:=h
end
section
variable {X:Cx} {pins:Za1} {G:St} {H:Hp} {s:eg} {a:dw} {y v:V} {u r:ed} {o:Option V} {A:ii} {E:Za0}
end
end L2
end
section
namespace L2
open PySem PySem.Spec PyProof.Rows
variable {C CS Pt dx i1 i2 it l1 l2 z:dw} {params:lu} {A:ii} {CX:CXT} {op:ss} {X:Cx} {env:Env} {tg:gq} {fd:i3} {base h h' h1:im} {H H' H1 H2:Hp} {J:It} {pins:Za1} {fp:List dw} {outer:List Env} {elts:List gq} {ns:List Int} {ix:Za4} {N ps:Za6} {ts:List Tb} {xs:List V} {us vs:Za3} {M:rk} {off t':Nat} {oT:Obj} {od:Option dw} {pos:Pos} {scope:lm} {pl:Sem Bool} {s s2:eg} {sp:Sp} {st:io} {qual:Str} {tk:TA} {te:TE} {wi:TI} {y:V} {pm:ed} {w:gr}
end L2
end
section
namespace TW
section
variable {α:Type} (lt:α->α->Bool)
variable {lt}
variable (lt)
variable {lt}
end
end TW
end
section
namespace L2
open PySem PySem.Spec PyProof.Rows TW
variable {C CS Pt dx i1 i2 it l1 l2 z:dw} {params:lu} {A:ii} {CX:CXT} {op:ss} {X:Cx} {env:Env} {tg:gq} {fd:i3} {base h h' h1:im} {H H' H1 H2:Hp} {J:It} {pins:Za1} {fp:List dw} {outer:List Env} {elts:List gq} {ns:List Int} {ix:Za4} {N ps:Za6} {ts:List Tb} {xs:List V} {us vs:Za3} {M:rk} {off t':Nat} {oT:Obj} {od:Option dw} {pos:Pos} {scope:lm} {pl:Sem Bool} {s s2:eg} {sp:Sp} {st:io} {qual:Str} {tk:TA} {te:TE} {wi:TI} {y:V} {pm:ed} {w:gr}
def Tf (N H:Hp):Hp:=λb=>match N b with|some o=>some o|none=>H b
theorem Kw {N:Hp}{b:dw}{o:HO}(h:N b=some o):Tf N H b=some o:=by unfold Tf;rw[h]
theorem Gc {N:Hp}{b:dw}(h:N b=none):Tf N H b=H b:=by unfold Tf;rw[h]
def Vr (oc:Obj)(qual:Str):Prop:=∃vs t,oc.data=.fields vs/\vs[1]?=some (.str qual t)
def Rm (H:Hp)(P:dw)(pos:Pos)(qual:Str):Prop:=∃ps:Array ed,H P=some (.tbl ps)/\TriplesOk ps.toList/\(codeAmong pos ps.toList=none\/∃c' oc,codeAmong pos ps.toList=some (.ref c')/\H c'=some (.frz oc (.own 0))/\Vr oc qual)
section
variable {X:Cx} {pins:Za1} {G:St} {H:Hp} {s:eg}
theorem Inv.grown {P:dw}{ps more:Array ed}{N:Hp}(I:Inv X pins G H s)(hP:H P=some (.tbl ps))(k:∀b u,b≠P->s.heap.get? b=some u->h'.get? b=some u)(hT:h'.get? P=some (rq (ps++more)))
  (hp:∀b o,N b=some o->s.heap.objs.size<=b)(new:∀b o,N b=some o->Ce X.prog X.w (Tf N (upd H P (.tbl (ps++more)))) h' b o):Inv X pins G (Tf N (upd H P (.tbl (ps++more)))) { s with heap:=h',toks:=t' }:=by
 have hlt:P<s.heap.objs.size:=(I.hok P _ hP).lt;have hNP:N P=none:=by
  cases e:N P with
  |none=>rfl
  |some o=>exact absurd hlt (rz.mpr (hp P o e))
 have hn:∀b o,N b=some o->H b=none:=λb o e=>I.hok.fresh (hp b o e);have old:∀b u,s.heap.get? b=some u->N b=none:=λb u e=>by
  cases hN:N b with
  |none=>rfl
  |some o=>exact absurd (ee e) (rz.mpr (hp b o hN))
 have sm:∀b o,b≠P->H b=some o->Tf N (upd H P (.tbl (ps++more))) b=some o:=λb o hb e=>by
  have:N b=none:=by
   cases hN:N b with
   |none=>rfl
   |some u=>rw[hn b u hN] at e;cases e
  rw[Gc this,Aj hb];exact e
 have neP:∀b,H b=none->b≠P:=λb e z=>by rw[z,hP] at e;cases e
 refine I.un ⟨λb u q n _ _=>k b u (neP b n) q,λb u q n _ _=>⟨u.slots,k b u (neP b n) q⟩,λb u q n _=>by rw[Gc (old b u q),Aj (neP b n)];exact n,λb u q _=>?_,λb xs q=>sm _ _ (λz=>by rw[z,hP] at q;cases q) q,λb u xs q=>sm _ _ (λz=>by rw[z,hP] at q;cases q) q,λb qs q=>?_⟩ λb o e=>?_
 ·by_cases hb:b=P
  ·rw[hb];exact⟨_,hT⟩
  ·exact⟨u,k b u hb q⟩
 ·by_cases hb:b=P
  ·rw[hb,hP] at q
   cases q;exact⟨more,by rw[hb,Gc hNP,Ac]⟩
  ·exact⟨#[],by rw[sm b _ hb q];simp⟩
 ·cases hN:N b with
  |some u=>
   rw[Kw hN] at e;cases e;exact new b _ hN
  |none=>
   rw[Gc hN] at e
   by_cases hb:b=P
   ·rw[hb,Ac] at e
    cases e;rw[hb];exact hT
   ·rw[Aj hb] at e
    refine(I.hok b o e).stay (λc v hc q=>k c v (λz=>?_) q) (λc q=>sm _ _ (λz=>by rw[z,hP] at q;cases q) q) λc xs q=>sm _ _ (λz=>by rw[z,hP] at q;cases q) q;rcases hc with h|h
    ·exact hb (h▸z)
    ·rw[z,hP] at h;cases h
end
def Pc (P:dw)(H H':Hp):Prop:=∀b u,b≠P->H b=some u->H' b=some u
section
variable {X:Cx} {pins:Za1} {G:St} {H:Hp} {s:eg} {M:rk} {A:ii} {E:Za0} {Q:Za0} {c P:dw} {pos:Pos} {qual:Str} {params:lu} {body:gq} {scope:lm} {clos:List (Str×dw)}
theorem nZ (I:Inv X pins G H s)(T:Rm H P pos qual)(C:z0 X.base c P)(hb:X.base.BuiltinsAt X.mg P)(hcode:X.env.code=.ref c)(hcl:closureFor scope X.env=pure clos)(hdef:defaultsOf params X.env=([],[]))(hq:X.env.qual++"<lambda>"=qual)
  (h:∀(f c':dw) (oc:Obj) (pm ctv:ed) (s':eg) (H':Hp),Inv X pins G H' s'->Rm H' P pos qual->Pc P H H'->H f=none->H' f=some (.frz (xy "<lambda>" qual params body scope clos pm c' ctv) (.own 0))->H' c'=some (.frz oc (.own 0))->Vr oc qual->Q (.ref f) s') :
  wpAny M A (eval (.Lambda params body scope pos) X.env) Q E s:=by
 obtain⟨ps,hP,ht,hc⟩:=T;refine PySem.W.kla_eval hdef ?_;rw[hq];have hPs:s.heap.get? P=some (rq ps):=I.hok P _ hP;have hg:s.heap.Ns mainGlobals X.mg:=I.mod.glob.keeps I.bk;have hgP:mainGlobals≠P:=λe=>by
  obtain⟨o,es,ep,e1,d,_⟩:=I.mod.glob;have:=(I.bs _ _ e1).2;rw[e,hP] at this;cases this
 have hb':s.heap.BuiltinsAt X.mg P:=by
  obtain⟨bm,o,a1,a2,a3,a4,a5,a6⟩:=hb;exact⟨bm,o,a1,a2,a3,a4,I.bk _ _ a5,a6⟩
 rcases hc with hc|⟨c',oc,hc,hc',ho⟩
 ·refine PySem.W.kla_makeFunction hcl I.ok.glob hg hcode (C.keeps I.bk) hPs ht hc hgP hb' λc' ctv h' tk hx hge hlt hrec htb=>?_
  obtain⟨c₂,oc,vs,t,e2,hoc,hd,hv⟩:=hrec;cases e2
  let fo:=xy "<lambda>" qual params body scope clos ((X.mg "__name__").getD .none) c' ctv
  let N:Hp:=λb=>if b=h'.objs.size then some (.frz fo (.own 0)) else if b=c' then some (.frz oc (.own 0)) else none
  have n1:N h'.objs.size=some (.frz fo (.own 0)):=if_pos rfl;have n2:N c'=some (.frz oc (.own 0)):=(if_neg (fu hlt)).trans (if_pos rfl);have n3:∀b o,N b=some o->(b=h'.objs.size/\o=.frz fo (.own 0))\/(b=c'/\o=.frz oc (.own 0)):=λb o e=>by
   by_cases h1:b=h'.objs.size
   ·rw[h1,n1] at e;cases e;exact .inl ⟨h1,rfl⟩
   ·by_cases h2:b=c'
    ·rw[h2,n2] at e;cases e;exact .inr ⟨h2,rfl⟩
    ·have:N b=none:=(if_neg h1).trans (if_neg h2)
     rw[this] at e;cases e
  have hp:∀b o,N b=some o->s.heap.objs.size<=b:=λb o e=>by
   rcases n3 b o e with⟨r,_⟩|⟨r,_⟩<;>rw[r]
   ·exact ie hge (fk hlt)
   ·exact hge
  have hNP:N P=none:=by
   cases e:N P with
   |none=>rfl
   |some o=>exact absurd (I.hok P _ hP).lt (rz.mpr (hp P o e))
  have gf:(h'.push fo).get? h'.objs.size=some fo:=gk _ rfl;have gc:(h'.push fo).get? c'=some oc:=d4 _ hoc;have I':=Inv.grown (N:=N) (more:=#[BV pos.line,BV pos.col,.ref c']) (h':=h'.push fo) (t':=tk) I hP (λb u hb e=>d4 _ (hx b u hb e)) (d4 _ htb) hp λb o e=>by
   rcases n3 b o e with⟨r,r'⟩|⟨r,r'⟩<;>rw[r,r']
   ·exact⟨gf,_,gf⟩
   ·exact⟨gc,_,gc⟩
  refine h _ c' oc _ ctv _ _ I' ⟨_,by rw[Gc hNP,Ac],?_,.inr ⟨c',oc,?_,Kw n2,vs,t,hd,hv⟩⟩ (λb u hb e=>?_) (I.hok.fresh (hp _ _ n1)) (Kw n1) (Kw n2) ⟨vs,t,hd,hv⟩
  ·rw[tx];exact TriplesOk_snoc _ _ _ _ ht
  ·rw[tx];exact codeAmong_snoc _ ht hc
  ·have:N b=none:=by
    cases hN:N b with
    |none=>rfl
    |some o=>rw[I.hok.fresh (hp b o hN)] at e;cases e
   rw[Gc this,Aj hb];exact e
 ·refine PySem.W.kla_makeFunctionHit hcl I.ok.glob hg hcode (C.keeps I.bk) hPs ht hc hb' λctv h' tk hk hsz=>?_
  let fo:=xy "<lambda>" qual params body scope clos ((X.mg "__name__").getD .none) c' ctv
  let N:Hp:=λb=>if b=h'.objs.size then some (.frz fo (.own 0)) else none
  have n1:N h'.objs.size=some (.frz fo (.own 0)):=if_pos rfl;have n3:∀b o,N b=some o->b=h'.objs.size/\o=.frz fo (.own 0):=λb o e=>by
   by_cases h1:b=h'.objs.size
   ·rw[h1,n1] at e;cases e;exact⟨h1,rfl⟩
   ·have:N b=none:=if_neg h1
    rw[this] at e;cases e
  have hp:∀b o,N b=some o->s.heap.objs.size<=b:=λb o e=>by rw[(n3 b o e).1];exact hsz
  have hn:∀b u,H b=some u->N b=none:=λb u e=>by
   cases hN:N b with
   |none=>rfl
   |some o=>rw[I.hok.fresh (hp b o hN)] at e;cases e
  have gf:(h'.push fo).get? h'.objs.size=some fo:=gk _ rfl;have I':=Inv.grown (N:=N) (more:=#[]) (h':=h'.push fo) (t':=tk) I hP (λb u _ e=>d4 _ (hk b u e)) (by rw[qc];exact d4 _ (hk _ _ hPs)) hp λb o e=>by
   rw[(n3 b o e).1,(n3 b o e).2];exact⟨gf,_,gf⟩
  rw[qc] at I';have old:∀b u,b≠P->H b=some u->Tf N (upd H P (.tbl ps)) b=some u:=λb u hb e=>by rw[Gc (hn b u e),Aj hb];exact e
  have hcP:c'≠P:=Pi hc' hP (by intro q;cases q);exact h _ c' oc _ ctv _ _ I' ⟨ps,by rw[Gc (hn P _ hP),Ac],ht,.inr ⟨c',oc,hc,old _ _ hcP hc',ho⟩⟩ old (I.hok.fresh (hp _ _ n1)) (Kw n1) (old _ _ hcP hc') ho
end
open PySem.W
def Kb (o:Obj)(c P:dw):Prop:=∃vs file tf flags tg inF text tt,o.cls=.type "code"/\o.data=.fields vs/\vs[11]?=some (.ref P)/\vs.getD 11 .none=.ref P/\vs.getD 18 .none=.str file tf /\
  vs.getD 7 .none=.int flags tg/\vs.getD 9 .none=.bool inF/\vs.getD 10 .none=.int text tt/\c≠P
theorem Kb.at {o:Obj}{c P:dw}(x:Kb o c P)(e:h.get? c=some o):z0 h c P:=by
 obtain⟨vs,file,tf,flags,tg,inF,text,tt,a1,a2,a3,a4,a5,a6,a7,a8,a9⟩:=x;exact⟨o,vs,file,tf,flags,tg,inF,text,tt,e,a1,a2,a3,a4,a5,a6,a7,a8,a9⟩
theorem Zn {P:fq}{K:dn}{mg mb:Za2}{k:Nat}{fa a:dw}{x:Str}{HB:eg}{tabs:List (dw×dw)}
  (hT:vi tabs HB.heap)(hTK:∀q∈tabs,K.lookup q.2=none)(hB:∃bm ob,mg "__builtins__"=some (.ref bm)/\bm≠builtinsNs/\HB.heap.get? bm=some ob/\ob.cls=.type "module"/\ob.dict=some builtinsNs/\ob.data=.plain)(KX:K.In HB.heap)(hns:HB.heap.Ns mainGlobals mg)(hb:HB.heap.Ns builtinsNs mb)(hbb:∀x:Str,x≠"__name__"->mb x=bootBuiltins x)(hlim:HB.heap.NoLimit)(hg:HB.gens=#[])
  (ha:HB.heap.get? a=some { cls:=.type "list",data:=.seq vs.toArray })(hi:yg vs ns)(hl:ns.length<=sizeLine)(hr:B3 k callerA)
  (F:∀base:im,K.In base->base.Ns mainGlobals mg->(∀q∈tabs,base.BuiltinsAt mg q.2)->Ay P w K mg base CX k fa fd [x] sp)(hbind:∀(s:eg) (u:ed),yi s fd ⟨[u],[]⟩ [(x,u)])
  (hsp:∀H:Hp,(∀q∈tabs,H q.2=some (.tbl #[]))->SqL K H a (ns.map V.int)->sp [.ref a] H (λv _=>v=.bl true) λ_ _ _=>False)
  (hCX:∀H e s',CX [] H HB (λ_ _ _=>False) e s'->False) :
  codeAny (model P w) callerA (.call (.ref fa) ⟨[.ref a],[]⟩) (λr s'=>r=.ok (.ret (.bool true))/\OldK HB.heap s'.heap/\s'.os=HB.os/\qr s'.gens) HB:=by
 have rv:=Ug hi;have tabAt:∀b,b∈tabs.map (·.2)->HB.heap.get? b=some (rq #[])/\K.lookup b=none/\isCodeTable HB.heap b:=λb hm=>by
  obtain⟨q,hq,rfl⟩:=lj.mp hm;exact⟨(hT q hq).2,hTK q hq,((hT q hq).1.tab (hT q hq).2).isCodeTable⟩
 have haT:a∉tabs.map (·.2):=λhm=>by
  have:=(tabAt a hm).1;rw[ha] at this;cases this
 let H:Hp:=λb=>if b∈tabs.map (·.2) then some (.tbl #[]) else if b=a/\K.lookup a=none then some (.frz { cls:=.type "list",data:=.seq vs.toArray } (.lst (ns.map V.int))) else none
 have H1:∀b,b∈tabs.map (·.2)->H b=some (.tbl #[]):=λb hm=>if_pos hm;have H2:∀b,b∉tabs.map (·.2)->¬(b=a/\K.lookup a=none)->H b=none:=λb h1 h2=>(if_neg h1).trans (if_neg h2);have H3:K.lookup a=none->H a=some (.frz { cls:=.type "list",data:=.seq vs.toArray } (.lst (ns.map V.int))):=λh=>(if_neg haT).trans (if_pos ⟨rfl,h⟩);have cases3:∀b,(b∈tabs.map (·.2))\/(b=a/\K.lookup a=none/\b∉tabs.map (·.2))\/(H b=none):=λb=>by
  by_cases h1:b∈tabs.map (·.2)
  ·exact .inl h1
  ·by_cases h2:b=a/\K.lookup a=none
   ·exact .inr (.inl ⟨h2.1,h2.2,h1⟩)
   ·exact .inr (.inr (H2 b h1 h2))
 have hok:HOk P w H HB.heap:=λb o e=>by
  rcases cases3 b with h|⟨rfl,h1,_⟩|h
  ·rw[H1 b h] at e
   cases e;exact(tabAt b h).1
  ·rw[H3 h1] at e
   cases e;exact⟨ha,by rw[du];exact hl,vs,_,rv,ha⟩
  ·rw[h] at e
   cases e
 have noD:∀{b:dw} {o:Obj} {es:Array DictEntry} {ep:Nat},HB.heap.get? b=some o->o.data=.dict es ep->H b=none:=λ{b o es ep} e d=>by
  rcases cases3 b with h|⟨rfl,_,_⟩|h
  ·rw[(tabAt b h).1] at e
   cases e;have d':DQ #[]=AC es ep:=d;cases d'
  ·rw[ha] at e
   cases e;have d':Data.seq vs.toArray _=AC es ep:=d;cases d'
  ·exact h
 have nsK:∀{b:dw} {m:Za2},HB.heap.Ns b m->(Vn HB.heap H).Ns b m:=λ{b m} ⟨o,es,ep,e,d,r⟩=>⟨o,es,ep,Ro e (noD e d),d,r⟩;have hKb:K.In (Vn HB.heap H):=λb o e=>Ro (KX b o e) (by
  rcases cases3 b with h|⟨rfl,h1,_⟩|h
  ·rw[(tabAt b h).2.1] at e;cases e
  ·rw[h1] at e;cases e
  ·exact h)
 have hBa:∀q∈tabs,(Vn HB.heap H).BuiltinsAt mg q.2:=λq hq=>by
  obtain⟨bm,ob,b1,b2,b3,b4,b5,b6⟩:=hB;have n1:bm≠mainGlobals:=λz=>by
   obtain⟨o,es,ep,e,d,_⟩:=hns;rw[z,e] at b3;cases b3;rw[d] at b6;cases b6
  have nP:bm∉tabs.map (·.2):=λhm=>by
   have:=(tabAt bm hm).1;rw[b3] at this;cases this;cases b6
  have hn:H bm=none:=by
   rcases cases3 bm with h|⟨h,_,_⟩|h
   ·exact absurd h nP
   ·rw[h,ha] at b3
    cases b3;cases b6
   ·exact h
  exact⟨bm,ob,b1,b2,n1,λz=>nP (z▸pz hq),Ro b3 hn,b4,b5,b6⟩
 have hM:Mod K mg (Vn HB.heap H):=⟨hKb,nsK hns,⟨mb,nsK hb,hbb⟩,let ⟨mc,h1,h2⟩:=hlim;⟨mc,nsK h1,h2⟩⟩;have e0:Tg P w K mg (Vn HB.heap H) callerA [] HB H:=⟨rfl,hM,λb o e=>rX e,oj (jJ _ _),trivial,λb hb=>absurd (show b∈([]:List dw) from hb) (by simp),hok,.of_eq hg⟩;have hS:SqL K H a (ns.map V.int):=by
  cases hk:K.lookup a with
  |none=>exact .inl (.inr ⟨_,H3 hk⟩)
  |some o=>
   have e:=KX a o hk;rw[ha] at e;cases e;exact .inr ⟨_,vs.toArray,_,hk,rfl,rfl,rfl,by rw[gl,hi.length];exact hl,by simpa using rv⟩
 refine la ((F _ hKb (nsK hns) hBa).run callerA [] HB H ⟨[.ref a],[]⟩ [.ref a] [.ref a] _ _ hr e0 (hbind HB (.ref a)) (.cons rfl .nil) (hsp H (λq hq=>H1 _ (pz hq)) hS)) λr s' h=>?_
 cases r with
 |error e=>exact(hCX H e s' h).elim
 |ok fl=>
  cases fl with
  |next=>exact jm h
  |brk=>exact jm h
  |cont=>exact jm h
  |ret u=>
   obtain⟨v,H',os,bare,un,hok',r',q⟩:=h;have q':v=.bl true:=q;subst q';obtain rfl:u=wd true:=r';have out:∀b o,HB.heap.get? b=some o->(b∈tabs.map (·.2)/\∃more,s'.heap.get? b=some (rq more))\/s'.heap.get? b=some o:=λb o e=>by
    rcases cases3 b with h|⟨rfl,h1,_⟩|h
    ·obtain⟨more,hm⟩:=un.tbls b _ (H1 b h)
     exact .inl ⟨h,_,hok' b _ hm⟩
    ·obtain⟨e2,_⟩:=hok' _ _ (un.frzs _ _ _ (H3 h1))
     rw[ha] at e;cases e;exact .inr e2
    ·exact .inr (un.keep b o e h (by intro z;exact absurd (show b∈([]:List dw) from z) (by simp)) (by simp))
   refine⟨rfl,⟨λb o e=>?_,λb o e=>?_⟩,os,bare⟩
   ·rcases out b o e with⟨h,more,hm⟩|h
    ·have e1:=(tabAt b h).1
     rw[e] at e1;cases e1;exact .inr (.inl ⟨(tabAt b h).2.2,rfl,#[],more,rfl,by rw[Array.empty_append];exact hm⟩)
    ·exact .inl h
   ·rcases out b o e with⟨_,more,hm⟩|h
    ·exact⟨_,hm⟩
    ·exact⟨o,h⟩
theorem jX {l:uy}{n k:Nat}{q:fq}{loose:Za6}{XP:(Za2)->im->Prop}{YP:gr->im->Prop}{d:FM}{K:xb->dn}{CX:gr->CXT}{sp:gr->Sp}{x:Str}{tabs:List (dw×dw)}
  (hn:l.most=some n)(hn2:n<=sizeLine)(hdf:d.params.defaults=[])(hr:B3 k callerA)
  (hY:∀(w:gr) (h:im),YP w h->(K w.params).In h)(hTb:∀(w:gr) (h:im),YP w h->vi tabs h)(hTK:∀w:gr,∀p∈tabs,(K w.params).lookup p.2=none)
  (F:∀(w:gr) (mg:Za2) (fa:dw) (h:im),(K w.params).In h->h.Ns mainGlobals mg->mg d.name=some (.ref fa) ->
   ∃fd:i3,(∀(s:eg) (u:ed),yi s fd ⟨[u],[]⟩ [(x,u)]) /\
    ∀base:im,(K w.params).In base->base.Ns mainGlobals mg->(∀q∈tabs,base.BuiltinsAt mg q.2)->Ay l.prog w (K w.params) mg base (CX w) k fa fd [x] (sp w))
  (hsp:∀(w:gr) (H:Hp) (a:dw) (ns:List Int),ns.length<=n->(∀p∈tabs,H p.2=some (.tbl #[]))->SqL (K w.params) H a (ns.map V.int)->sp w [.ref a] H (λv _=>v=.bl true) λ_ _ _=>False)
  (hCX:∀(w:gr) (H:Hp) (s:eg) (e:ed) (s':eg),CX w [] H s (λ_ _ _=>False) e s'->False) :
  z8 q loose XP YP l.row.toRowW d [] (λf vs=>zc f vs):=by
 refine Att.attach_call hn hdf λw HA HB mg mb fa o pm cd doc a vs ns G Y ho hd hcd hmg hobj hints hlen hg=>?_;have KX:=hY w _ Y;obtain⟨fd,hb,hF⟩:=F w mg fa _ KX G.T.g hmg;exact Zn (hTb w _ Y) (hTK w) G.T.bmain KX G.T.g G.T.b G.T.builtins G.T.nolimit hg hobj hints (ie hlen hn2) hr hF hb (λH hO hS=>hsp w H a ns hlen hO hS) λH e s'=>hCX w H HB e s'
structure S6 (K:dn) (x qual:Str) (st:io) (f:dw) (fd:i3) (c P:dw):Prop where
 ex:∃(oc:ed) (od:Option dw) (kV doc pm:ed) (an:Option dw) (ct:ed) (osl:Array (Za7)),
  fd=jr x qual (Cn st) (B0 st) (Af st) .none kV doc pm an (.ref c) ct/\K.lookup f=some ⟨oc,od,.func fd,osl⟩/\kz K (.ref c) qual=true
 kp:jg K (.ref f)=true
 hd:∃oc,K.lookup c=some oc/\Kb oc c P
section
variable {P:fq} {w:gr} {K:dn} {mg:Za2} {base:im}
theorem S6.ok {x:Str}{f c:dw}{k:Nat}(F:S6 K x qual st f fd c Pt)(S:Ak N ps (Af st))(len:∀vs H Q E,sp vs H Q E->vs.length=ps.length)
  (hbody:∀(A:ii) (outer:List Env) (s:eg) (H:Hp) (vs:List V) (Q:VK) (E:XK),B3 k (A.deeper (envOfC qual (Af st) s.heap.objs.size f (.ref c)))->sp vs H Q E ->
   ∃t,PSs (Bx CX0 P w K mg base N qual (Af st) f (.ref c) A outer s H E).nox (B0 st) t/\t { nx:=λ_ H'=>Q .non H',rt:=Q } (Mi N vs) H):Ay P w K mg base CX0 (k+1) f fd ps sp:=by
 obtain⟨oc,od,kV,doc,pm,an,ct,osl,rfl,lk,hcd⟩:=F.ex;refine oI lk hcd S len λA outer s H vs Q E hr hsp=>?_;obtain⟨t,h,q⟩:=hbody A outer s H vs Q E hr hsp;exact⟨t,h.nox,q⟩
theorem S6.code {x:Str}{f c:dw}(F:S6 K x qual st f fd c Pt)(hK:K.In base):z0 base c Pt:=let ⟨oc,e,h⟩:=F.hd;h.at (hK _ _ e)
theorem S6.binds {x:Str}{f c:dw}(F:S6 K x qual st f fd c Pt)
  (h:∀(kV doc pm:ed) (an:Option dw) (cdv ct:ed) (us:Za3),us.length=ps.length->bindArgs (jr x qual (Cn st) (B0 st) (Af st) .none kV doc pm an cdv ct) ⟨us,[]⟩=pure (ps.zip us)):Ed K fd ps []:=by
 obtain⟨oc,od,kV,doc,pm,an,ct,osl,rfl,lk,hcd⟩:=F.ex;exact .all (h kV doc pm an (.ref c) ct)
theorem Vb {x:Str}{f c:dw}{oc:ed}{an:Option dw}{osl:Array (Za7)}{kV doc ct:ed}{oo:Obj}(l:K.lookup f=some ⟨oc,od,.func (jr x qual (Cn st) (B0 st) (Af st) .none kV doc pm an (.ref c) ct),osl⟩)
  (cc:kz K (.ref c) qual=true)(k:jg K (.ref f)=true)(lc:K.lookup c=some oo)(hc:Kb oo c Pt):S6 K x qual st f (jr x qual (Cn st) (B0 st) (Af st) .none kV doc pm an (.ref c) ct) c Pt:=⟨⟨oc,od,kV,doc,pm,an,ct,osl,rfl,l,cc⟩,k,oo,lc,hc⟩
end
def InC (cl:List (Str×dw))(b:dw):Prop:=∃x,cl.lookup x=some b
open Classical in
noncomputable def Jr (H:Hp) (cl:List (Str×dw)):Hp:=λb=>if InC cl b then none else H b
open Classical in
noncomputable def Jt (H:Hp) (h:im) (cl:List (Str×dw)):Hp:=λb=>if InC cl b then(h.get? b).map λo=>.frz o (.own 0) else H b
theorem Lf {cl:List (Str×dw)}{b:dw}(h:InC cl b):Jr H cl b=none:=if_pos h
theorem Fx {cl:List (Str×dw)}{b:dw}(h:¬ InC cl b):Jr H cl b=H b:=if_neg h
theorem Nu {cl:List (Str×dw)}{b:dw}{o:Obj}(hb:InC cl b)(e:h.get? b=some o):Jt H h cl b=some (.frz o (.own 0)):=by
 unfold Jt;rw[if_pos hb,e];rfl
theorem Cz {cl:List (Str×dw)}{b:dw}(hb:¬ InC cl b):Jt H h cl b=H b:=if_neg hb
theorem Ex {cl:List (Str×dw)}{b:dw}(h:H b=none):Jr H cl b=none:=by
 by_cases hb:InC cl b
 ·exact Lf hb
 ·rw[Fx hb];exact h
theorem dN {cl:List (Str×dw)}{b:dw}{o:HO}(h:Jr H cl b=some o):¬ InC cl b/\H b=some o:=by
 by_cases hb:InC cl b
 ·rw[Lf hb] at h;cases h
 ·rw[Fx hb] at h;exact⟨hb,h⟩
theorem W0 {P:fq}{cl:List (Str×dw)}(hk:HOk P w H h)(hc:∀b,InC cl b->∃o u,H b=some (.frz o u)):HOk P w (Jr H cl) h:=λb o e=>by
 obtain⟨hb,e⟩:=dN e;refine(hk b o e).stay (λ_ _ _ q=>q) (λc q=>?_) λc xs q=>?_
 ·rw[Fx λz=>?_]
  ·exact q
  ·obtain⟨o,u,e⟩:=hc c z
   rw[q] at e;cases e
 ·rw[Fx λz=>?_]
  ·exact q
  ·obtain⟨o,u,e⟩:=hc c z
   rw[q] at e;cases e
theorem W5 {P:fq}{w:gr}{H:Hp}{h:im}{cl:List (Str×dw)}(hk:HOk P w H h)(hn:∀b,InC cl b->H b=none):HOk P w (Jt H h cl) h:=λb o e=>by
 by_cases hb:InC cl b
 ·unfold Jt at e
  rw[if_pos hb] at e
  cases g:h.get? b with
  |none=>rw[g] at e;cases e
  |some ob=>
   rw[g] at e;cases e;exact⟨g,_,g⟩
 ·rw[Cz hb] at e
  refine(hk b o e).stay (λ_ _ _ q=>q) (λc q=>?_) λc xs q=>?_
  ·rw[Cz λz=>by rw[hn c z] at q;cases q];exact q
  ·rw[Cz λz=>by rw[hn c z] at q;cases q];exact q
def Yz (P:fq)(w:gr)(K:dn)(mg:Za2)(base:im)(k:Nat)(H:Hp)(f:dw)(dom:Int->Prop)(p:Int->Bool):Prop:=
 (∃oc od fd sl u,H f=some (.frz ⟨oc,od,.func fd,sl⟩ u))/\∀(A:ii) (outer:List Env) (s:eg) (H1:Hp) (i:Int) (t:Tok),B3 k A->Tg P w K mg base A outer s H1->Ah H H1->dom i ->
  codeAny (model P w) A (.call (.ref f) ⟨[.int i t],[]⟩) (CR CX0 outer P w H1 s (λv H2=>v=.bl (p i)/\Ah H1 H2) E0) s
theorem Yz.same {P:fq}{K:dn}{mg:Za2}{k:Nat}{f:dw}{dom:Int->Prop}{p:Int->Bool}(a:Yz P w K mg base k H f dom p)(s:Ah H H'):Yz P w K mg base k H' f dom p:=
 ⟨let ⟨oc,od,fd,sl,u,e⟩:=a.1;⟨oc,od,fd,sl,u,s _ _ e⟩,λA outer st H1 i t hr e0 sm hd=>a.2 A outer st H1 i t hr e0 (λb o e=>sm _ _ (s _ _ e)) hd⟩
section
variable {X:Cx} {x:Str} {i:Nat} {k:Nat} {a:gq} {ta:TE} {q pos:Pos}
def yC (P:fq)(w:gr)(K:dn)(mg:Za2)(base:im)(k i:Nat)(ta:TE):TE:=λG H Q=>∃(f:dw) (dom:Int->Prop) (p:Int->Bool),G[i]?=some (some (.ref f))/\Yz P w K mg base k H f dom p /\
 ta G H λv H1=>Ld G H1 λvs H2=>∃z:Int,v::vs=[.int z]/\Ah H H2/\dom z/\∀H3,Ah H2 H3->Q (.bl (p z)) H3
theorem zP {P:fq}{K:dn}{mg:Za2}{G:St}{Q:VK}(h:∃(f:dw) (dom:Int->Prop) (p:Int->Bool),G[i]?=some (some (.ref f))/\Yz P w K mg base k H f dom p /\
 ta G H λv H1=>Ld G H1 λvs H2=>∃z:Int,v::vs=[.int z]/\Ah H H2/\dom z/\∀H3,Ah H2 H3->Q (.bl (p z)) H3):yC P w K mg base k i ta G H Q:=h
theorem wW (hr:B3 k X.A)(hN:X.N[i]?=some x)(hv:X.env.scope.names.lookup x=some .local)(ha:PE X a ta)(hdb:autoParam ((x==("__debug__":Str))=false) QF)(hcd:autoParam ((x==("__classdict__":Str))=false) QF)
  (he:autoParam (starEach [a] X.env=[(false,eval a X.env)]) QD) :
  PE X (.Call (.Name x q) [a] [] pos) (yC X.prog X.w X.K X.mg X.base k i ta):=by
 intro pins s G H Q I ⟨f,dom,p,hσ,hA,h⟩;have hn:PE X (.Name x q) (rG i):=mO hN (.inl hv) hdb hcd;refine wpAny_Call_Name_kw (thn (hn pins s G H (λv H1=>v=.ref f/\H1=H) I ⟨_,hσ,rfl,rfl⟩) λu s0 ⟨v0,H0,I0,r0,e0,e1⟩=>?_);subst e0 e1;obtain rfl:u=ia f:=r0;have fnAt:∀{s':eg} {H':Hp},Inv X pins G H' s'->Ah H0 H'->PySem.W.FnAt f s'.heap:=λI' sm=>by
  obtain⟨oc,od,fd,sl,u,e⟩:=hA.1;exact⟨oc,od,fd,sl,(I'.hok _ _ (sm _ _ e)).1⟩
 have hp:PA X [a] (Fp ta Ld):=gI ha Aa he;refine PySem.W.callWith_F (fnAt I0 (λ_ _ e=>e)) (thn (hp pos pins s0 G H0 (λvs H1=>∃z:Int,vs=[.int z]/\Ah H0 H1/\dom z/\∀H3,Ah H1 H3->Q (.bl (p z)) H3) I0 ?_) λus s1 ⟨vs,H1,I1,r1,z,e1,sm,hz,q1⟩=>⟨fnAt I1 sm,?_⟩) he rfl
 ·exact h
 subst e1;obtain⟨u,rfl,t,rfl⟩:=Ef r1;refine lh (la (hA.2 X.A X.stack s1 H1 z t hr I1.env0 sm hz) λr s' hq=>?_)
 cases r with
 |error e=>exact hq.elim
 |ok fl=>
  cases fl with
  |ret u=>
   obtain⟨v,H',os,bare,un,hok,r,e2,sm2⟩:=hq;subst e2;exact I1.after ⟨_,H',os,bare,un,hok,r,q1 _ sm2⟩
  |next=>exact jm hq
  |brk=>exact jm hq
  |cont=>exact jm hq
end
abbrev kK (qual:Str)(scope:lm)(cl:List (Str×dw))(C f:dw)(cd:ed):Env:=newEnv scope C mainGlobals cl (qual++kj ".<locals>.") (some f) cd none builtinsNs
def Tt (P:fq)(w:gr)(K:dn)(mg:Za2)(base:im)(N:Za6)(qual:Str)(scope:lm)(cl:List (Str×dw))(f:dw)(cd:ed)(A:ii)(outer:List Env)(s:eg)(H:Hp):Cx where
 prog:=P
 w:=w
 K:=K
 mg:=mg
 base:=base
 A:=A.deeper (kK qual scope cl s.heap.objs.size f cd)
 N:=N
 HA:=s
 HC:=H
 env:=kK qual scope cl s.heap.objs.size f cd
 outer:=outer
 stack:=kK qual scope cl s.heap.objs.size f cd::outer
 ex:=[]
 fn:=λ_=>false
 calm:=true
 pn:=[]
 xe:=λ_ _=>False
section
variable {P:fq} {w:gr} {K:dn} {mg:Za2} {base:im}
theorem sM {HL:Za6}{HM:lm}{x:Str}{cl:List (Str×dw)}{f:dw}{cd:ed}{G:St}{HJ:im}{tk:Nat}{v0:V}{u0:ed}{k:Nat}
  (L:Bq HL HM scope x N ix)(hr:B3 (k+1) A)(e0:Tg P w K mg base A outer s H1)
  (hinj:∀y z c,cl.lookup y=some c->cl.lookup z=some c->y=z)(hhas:∀y,(y,mr)∈scope.names->∃c,cl.lookup y=some c)
  (hcs:∀y c,cl.lookup y=some c->∃o v,H1 c=some (.frz o (.own 0))/\o.data=.cell v)
  (hval:∀y j v,(y,j)∈N.tail.zip ix->G[j]?=some (some v)->∃c o u,cl.lookup y=some c/\H1 c=some (.frz o (.own 0))/\o.data=.cell (some u)/\Bm v u)
  (hr0:Bm v0 u0)(hns:HJ.Ns s.heap.objs.size λz=>l5 z [(x,u0)].reverse)(hk:∀b o,s.heap.get? b=some o->HJ.get? b=some o) :
  Inv (Tt P w K mg base N qual scope cl f cd A outer s (Jr H1 cl)) [] (some v0::frV G ix) (Jr H1 cl) { s with heap:=HJ,toks:=tk }:=by
 have noA:∀b:dw,b∉(Tt P w K mg base N qual scope cl f cd A outer s (Jr H1 cl)).ex:=λb z=>absurd (show b∈([]:List dw) from z) (by simp);have kf:∀y,scope.names.lookup y≠some .cell:=λy e=>L.nocell _ (i9 e) rfl;refine⟨⟨e0.mod,L.kind,rfl,rfl,d3 _,λy z c h1 h2=>hinj y z c h1 h2,λy hy=>?_,λy c z _=>?_,λ_=>(hr.deeper _).hd,yj e0.frames,.inr ⟨rfl,rfl⟩,λb z=>absurd z (noA b),λb o e=>⟨(e0.bs b o e).1,Ex (e0.bs b o e).2⟩,e0.bsz,λb _ _=>noA b,λb z=>absurd z (noA b),e0.funs,λb hb=>Ex (e0.frf b hb)⟩,
  rfl,e0.bare,Un.kept hk,⟨_,hns,λi y v h1 h2 h3=>?_⟩,λy c e=>?_,Ex (e0.hok.fresh (d3 _)),λy c e=>Lf ⟨y,e⟩,λp hp=>absurd (show p∈([]:Za1) from hp) (by simp),?_,?_⟩
 ·have hy:scope.names.lookup y=some .cell\/scope.names.lookup y=some .free:=hy
  rcases hy with hy|hy
  ·exact absurd hy (kf y)
  ·exact hhas y (i9 hy)
 ·cases(show false=true from z)
 ·cases i with
  |zero=>
   have h1:N[0]?=some y:=h1;have h2:some (some v0)=some (some v):=h2;cases h2;have hx:N[0]?=some x:=by have:=L.hd;rwa [yc] at this
   rw[h1] at hx;cases hx;exact⟨u0,hr0,.inl ⟨L.loc,by simp⟩⟩
  |succ j=>
   have h1:N[j+1]?=some y:=h1;have h2:(frV G ix)[j]?=some (some v):=h2;unfold frV at h2;rw[d8] at h2
   cases hj:ix[j]? with
   |none=>rw[hj] at h2;cases h2
   |some m=>
    rw[hj] at h2;have h2:(G[m]?).getD none=some v:=d0 h2;have h2':G[m]?=some (some v):=by
     cases e:G[m]? with
     |none=>rw[e] at h2;cases h2
     |some z=>rw[e] at h2;exact congrArg some h2
    have ht:N.tail[j]?=some y:=by rw[qf];exact h1
    have hz:(y,m)∈N.tail.zip ix:=ir (i:=j) (by rw[qm];exact⟨ht,hj⟩);obtain⟨c,o,u,e1,e2,e3,r⟩:=hval y m v hz h2';exact⟨u,r,.inr ⟨.inr (L.at_ _ hz).2,c,e1,o,hk _ _ (e0.hok _ _ e2).1,e3⟩⟩
 ·obtain⟨o,v,e1,e2⟩:=hcs y c e
  exact⟨v,o,hk _ _ (e0.hok _ _ e1).1,e2⟩
 ·exact(W0 e0.hok λb ⟨y,e⟩=>let ⟨o,v,e1,_⟩:=hcs y b e;⟨o,_,e1⟩).kept hk
 ·show(some v0::frV G ix).length=N.length
  rw[L.len];simp[frV]
theorem mS {HL:Za6}{HM:lm}{x:Str}{cl:List (Str×dw)}{f c':dw}{G:St}{k:Nat}{body:gq}{ctv:ed}{oc:Obj}{dom:Int->Prop}{p:Int->Bool}
  (L:Bq HL HM scope x N ix)(hco:scope.isCoroutine=false)(hgen:scope.isGenerator=false)
  (hinj:∀y z c,cl.lookup y=some c->cl.lookup z=some c->y=z)(hhas:∀y,(y,mr)∈scope.names->∃c,cl.lookup y=some c)
  (hcs:∀y c,cl.lookup y=some c->∃o v,H c=some (.frz o (.own 0))/\o.data=.cell v)
  (hval:∀y j v,(y,j)∈N.tail.zip ix->G[j]?=some (some v)->∃c o u,cl.lookup y=some c/\H c=some (.frz o (.own 0))/\o.data=.cell (some u)/\Bm v u)
  (hf:H f=some (.frz (xy "<lambda>" qual params body scope cl pm c' ctv) (.own 0)))(hc':H c'=some (.frz oc (.own 0)))(hoc:Vr oc qual)
  (hbind:∀(n:Int) (t:Tok),bindArgs (vh "<lambda>" qual params body scope cl pm (.ref c') ctv) ⟨[.int n t],[]⟩=pure [(x,.int n t)])
  (hbody:∀(A:ii) (outer:List Env) (s:eg) (H1:Hp),B3 k (A.deeper (kK qual scope cl s.heap.objs.size f (.ref c')))->PE (Tt P w K mg base N qual scope cl f (.ref c') A outer s H1) body te)
  (hte:∀(i:Int) (H1:Hp),dom i->(∀b u,¬ InC cl b->H b=some u->H1 b=some u)->te (some (.int i)::frV G ix) H1 λv H2=>v=.bl (p i)/\Ah H1 H2):Yz P w K mg base (k+1) H f dom p:=by
 refine⟨⟨_,_,_,_,_,hf⟩,λA outer s H1 i t hr e0 sm hd=>?_⟩;have hfo:s.heap.get? f=some (xy "<lambda>" qual params body scope cl pm c' ctv):=(e0.hok _ _ (sm _ _ hf)).1;have hco':s.heap.get? c'=some oc:=(e0.hok _ _ (sm _ _ hc')).1;have lim:s.heap.NoLimit:=e0.mod.nolimit.keeps λb o e=>(e0.bs b o e).1;refine PySem.W.kla_callFunE hr.depth hfo rfl hco hgen rfl (let ⟨vs,t,e1,e2⟩:=hoc;⟨c',oc,vs,t,rfl,hco',e1,e2⟩) ?_;rw[hbind];refine ez (ui L.nocell (λy hy=>by cases k7.mp hy;exact L.loc) (λHJ hns hsb=>⟨lim.fresh _ hsb,?_⟩) L.kind);have QT:∀b o,s.heap.get? b=some o->HJ.get? b=some o:=λb o e=>hsb.extBut b o (fu (ee e)) (d4 _ e);have inH:∀b,InC cl b->∃o v,H1 b=some (.frz o (.own 0))/\o.data=.cell v:=λb ⟨y,e⟩=>let ⟨o,v,e1,e2⟩:=hcs y b e;⟨o,v,sm _ _ e1,e2⟩;have I':=sM (qual:=qual) (f:=f) (cd:=.ref c') (tk:=s.toks+[(x,mq i t)].length) (v0:=.int i) (u0:=.int i t) L hr e0 hinj hhas (λy c e=>let ⟨o,v,e1,e2⟩:=hcs y c e;⟨o,v,sm _ _ e1,e2⟩)
  (λy j v h1 h2=>let ⟨c,o,u,a1,a2,a3,a4⟩:=hval y j v h1 h2;⟨c,o,u,a1,sm _ _ a2,a3,a4⟩) ⟨t,rfl⟩ hns QT
 refine PySem.W.kla_codeExpr (iw (hbody A outer s (Jr H1 cl) (hr.deeper _) [] _ _ _ _ I' (hte i _ hd λb u hb e=>by rw[Fx hb];exact sm _ _ e)) (λv s' ⟨v',H2,I2,r,ev,sm2⟩=>?_) λe s' z=>z.elim);have nfr:∀b,InC cl b->b∉frs outer:=λb hb z=>by
  obtain⟨o,v,e1,_⟩:=inH b hb;rw[e0.frf b z] at e1;cases e1
 have cell':∀b o u,InC cl b->H1 b=some (.frz o u)->s'.heap.get? b=some o/\u=.own 0:=λb o u hb e=>by
  obtain⟨o2,v2,e1,_⟩:=inH b hb;rw[e] at e1;cases e1;exact⟨I2.base.keep b o (e0.hok _ _ e).1 (Lf hb) (nfr b hb) (by simp[Tt]),rfl⟩
 have same':∀b u,H1 b=some u->(∀ps,u≠.tbl ps)\/True->Jt H2 s'.heap cl b=some u:=λb u e _=>by
  by_cases hb:InC cl b
  ·obtain⟨o,v,e1,_⟩:=inH b hb
   rw[e] at e1;cases e1;exact Nu hb (cell' b o _ hb e).1
  ·rw[Cz hb]
   exact sm2 _ _ (by rw[Fx hb];exact e)
 refine⟨v',Jt H2 s'.heap cl,I2.os,I2.bare,⟨λb o e n hf hx=>I2.base.keep b o e (Ex n) hf hx,λb o e n hf hx=>I2.base.slot b o e (Ex n) hf hx,λb o e n hx=>?_,λb o e hx=>I2.base.there b o e hx,λb xs e=>same' _ _ e (.inr trivial),λb o u e=>same' _ _ e (.inr trivial),λb ps e=>⟨#[],by rw[qc];exact same' _ _ e (.inr trivial)⟩⟩,W5 I2.hok λb ⟨y,e⟩=>I2.freeC y b e,r,ev,λb u e=>same' b u e (.inr trivial)⟩;have hb:¬ InC cl b:=λhb=>by
  obtain⟨o,v,e1,_⟩:=inH b hb;rw[n] at e1;cases e1
 rw[Cz hb];exact I2.base.free b o e (Ex n) hx
end
inductive P5 (P:fq)(w:gr)(K:dn)(mg:Za2)(base:im)(k:Nat)(vs:List V)(H:Hp)(Q:VK)(E:XK):Prop|mk(lo hi:Int)(f:dw)(p:Int->Bool)(_:vs=[.int lo,.int hi,.ref f])(_:lo<=hi)(_:Yz P w K mg base k H f (λi=>lo<=i/\i<hi) p)(_:∀m H',lo<=m->m<=hi->(lo<m->p (m-1)=false)->(m<hi->p m=true)->Ah H H'->Q (.int m) H')
def Zp (Pt:dw)(lpos:Pos)(qual:Str)(ix:Za4)(te ta tb:TE):TE:=λG H Q=>ta G H λv H1=>tb G H1 λu H2=>∃(lo hi:Int) (p:Int->Bool),v=.int lo/\u=.int hi/\lo<=hi/\Rm H2 Pt lpos qual /\
 (∀(i:Int) (H3:Hp),lo<=i->i<hi->Pc Pt H2 H3->te (some (.int i)::frV G ix) H3 λv H4=>v=.bl (p i)/\Ah H3 H4) /\
 ∀(m:Int) (H':Hp),lo<=m->m<=hi->(lo<m->p (m-1)=false)->(m<hi->p m=true)->Pc Pt H2 H'->Rm H' Pt lpos qual->Q (.int m) H'
theorem rA {lpos:Pos}{ta tb:TE}{G:St}{Q:VK}(h:ta G H λv H1=>tb G H1 λu H2=>∃(lo hi:Int) (p:Int->Bool),v=.int lo/\u=.int hi/\lo<=hi/\Rm H2 Pt lpos qual /\
 (∀(i:Int) (H3:Hp),lo<=i->i<hi->Pc Pt H2 H3->te (some (.int i)::frV G ix) H3 λv H4=>v=.bl (p i)/\Ah H3 H4) /\
 ∀(m:Int) (H':Hp),lo<=m->m<=hi->(lo<m->p (m-1)=false)->(m<hi->p m=true)->Pc Pt H2 H'->Rm H' Pt lpos qual->Q (.int m) H'):Zp Pt lpos qual ix te ta tb G H Q:=h
section
variable {X:Cx}
theorem nJ {g x:Str}{a b body:gq}{ta tb:TE}{q lpos:Pos}{ff c:dw}{kf k:Nat} 
  (F:Ay X.prog X.w X.K X.mg X.base CX0 kf ff fd ps (P5 X.prog X.w X.K X.mg X.base (k+1)))(hr:B3 kf X.A)(hg:Gl X g)(hm:X.mg g=some (.ref ff))(hkp:jg X.K (.ref ff)=true)(hb:Ed X.K fd ps [])
  (ha:PE X a ta)(hbb:PE X b tb)(hfn:X.fn=λ_=>true)
  (C:z0 X.base c Pt)(hB:X.base.BuiltinsAt X.mg Pt)(hcode:X.env.code=.ref c)(hq:X.env.qual++"<lambda>"=qual)
  (L:Bq X.N X.env.scope scope x N ix)(hco:scope.isCoroutine=false)(hgen:scope.isGenerator=false)(hdef:defaultsOf params X.env=([],[]))
  (hbind:∀(cl:List (Str×dw)) (pm cv ctv:ed) (n:Int) (t:Tok),bindArgs (vh "<lambda>" qual params body scope cl pm cv ctv) ⟨[.int n t],[]⟩=pure [(x,.int n t)])
  (hbody:∀(cl:List (Str×dw)) (f c':dw) (A:ii) (outer:List Env) (s:eg) (H1:Hp),B3 k (A.deeper (kK qual scope cl s.heap.objs.size f (.ref c')))->PE (Tt X.prog X.w X.K X.mg X.base N qual scope cl f (.ref c') A outer s H1) body te)
  (hdb:autoParam ((g==("__debug__":Str))=false) QF)(he1:autoParam (starEach [a,b,.Lambda params body scope lpos] X.env=(false,eval a X.env)::starEach [b,.Lambda params body scope lpos] X.env) QD)(he2:autoParam (starEach [b,.Lambda params body scope lpos] X.env=(false,eval b X.env)::starEach [.Lambda params body scope lpos] X.env) QD)
  (he3:autoParam (starEach [.Lambda params body scope lpos] X.env=[(false,eval (.Lambda params body scope lpos) X.env)]) QD)(hpl:autoParam ((backTo pos (starEach [b,.Lambda params body scope lpos] X.env)).any (·.1)=false) QD) :
  PE X (.Call (.Name g q) [a,b,.Lambda params body scope lpos] [] pos) (Zp Pt lpos qual ix te ta tb):=by
 k_in;refine wpAny_Call_Name_kw (F9 I hg hm ?_ hdb);refine callWith_K (h₀:=X.base) I.ok.mod.kin hkp ?_ he1 hpl;rw[he1];show wpAny _ _ (spliced ((false,eval a X.env)::backTo pos (starEach [b,.Lambda params body scope lpos] X.env))) _ _ s;refine l7 (thE ha I h λu1 s1 v1 H1 I1 r1 q1=>?_);rw[he2];show wpAny _ _ (spliced ((false,eval b X.env)::backTo pos (starEach [.Lambda params body scope lpos] X.env))) _ _ s1;refine l7 (thE hbb I1 q1 λu2 s2 v2 H2 I2 r2 ⟨lo,hi,p,e1,e2,hle,hT,hbd,q2⟩=>?_);subst e1 e2;rw[he3];show wpAny _ _ (spliced [(false,eval (.Lambda params body scope lpos) X.env)]) _ _ s2;have hfree:∀y∈scope.names,y.2=.free->∃c,X.env.cells.lookup y.1=some c:=λy hy hf=>I.ok.has y.1 (.inl (L.free y hy hf));have sub:∀y c,(Dn X.env scope.names []).lookup y=some c->X.env.cells.lookup y=some c:=λy c h=>Jm _ _ y c hfree (λ_ _ z=>by simp at z) h;refine l7 (nZ I2 hT C hB hcode (G8 hfree) hdef hq λf c' oc pm ctv s3 H3 I3 hT3 sm hf0 hf hc' hoc=>?_);refine qo ?_;generalize hcl:Dn X.env scope.names []=cl at hf sub;have inj:∀y z c,cl.lookup y=some c->cl.lookup z=some c->y=z:=λy z c h1 h2=>I.ok.inj y z c (sub y c h1) (sub z c h2);have n3:∀b,InC cl b->H3 b=none:=λb ⟨y,e⟩=>I3.freeC y b (sub y b e);have cellAt:∀y c,cl.lookup y=some c->∃o v,s3.heap.get? c=some o/\o.data=.cell v:=λy c e=>let ⟨v,o,e1,e2⟩:=I3.cell y c (sub y c e);⟨o,v,e1,e2⟩;have nLoc:∀b,InC cl b->b≠X.env.locals:=λb ⟨y,e⟩=>I3.cne y b (sub y b e);have hab:∀b,InC cl b->X.HA.heap.objs.size<=b:=λb ⟨y,e⟩=>I3.ok.cab y b (by rw[hfn]) (sub y b e);have nfr:∀b,InC cl b->b∉frs X.stack:=λb hb z=>by
  rcases gd.mp (I3.stkSub b z) with e|hz
  ·exact nLoc b hb e
  ·obtain⟨_,o,ho,_⟩:=I3.ok.funs.mem hz
   exact absurd (ee ho) (rz.mpr (hab b hb))
 have e0:Tg X.prog X.w X.K X.mg X.base X.A X.stack s3 (Jt H3 s3.heap cl):=by
  have z:=I3.env0;refine⟨z.frames,z.mod,λb o e=>⟨(z.bs b o e).1,?_⟩,z.bsz,z.funs,λb hb=>?_,W5 z.hok n3,z.bare⟩
  ·rw[Cz λhb=>?_]
   ·exact(z.bs b o e).2
   ·exact absurd (ee e) (rz.mpr (ie I3.ok.bsz (hab b hb)))
  ·rw[Cz λh=>nfr b h hb]
   exact z.frf b hb
 have out:∀b u,H3 b=some u->Jt H3 s3.heap cl b=some u:=λb u e=>by
  rw[Cz λhb=>by rw[n3 b hb] at e;cases e];exact e
 have asks:Yz X.prog X.w X.K X.mg X.base (k+1) (Jt H3 s3.heap cl) f (λi=>lo<=i/\i<hi) p:=by
  refine mS (G:=G) (te:=te) L hco hgen inj (λy hy=>?_) (λy c e=>?_) (λy j v hz hj=>?_) (out _ _ hf) (out _ _ hc') hoc (hbind _ _ _ _) (λA outer s H1 hr=>hbody _ _ _ A outer s H1 hr) λi H4 hi k4=>?_
  ·rw[<-hcl];exact iv.mp (Ez _ _ y hy)
  ·obtain⟨o,v,e1,e2⟩:=cellAt y c e
   exact⟨o,v,Nu ⟨y,e⟩ e1,e2⟩
  ·obtain⟨b1,b2⟩:=L.at_ _ hz
   have hm:=i9 b2;have hcell:=L.free _ hm rfl;obtain⟨m',hn',hl'⟩:=I3.loc;obtain⟨u,r,lk⟩:=hl' j y v b1 hj (.inr (.inl hcell));rcases lk with lk|⟨_,c2,e,o,z1,z2⟩
   ·rw[show X.env.kindOf y=some .cell from hcell] at lk
    cases lk.1
   ·obtain⟨c3,e'⟩:=iv.mp (Ez (env:=X.env) scope.names [] y hm)
    rw[hcl] at e';have e2:=sub y c3 e';rw[e] at e2;cases e2;exact⟨c2,o,u,e',Nu ⟨y,e'⟩ z1,z2,r⟩
  ·refine hbd i H4 hi.1 hi.2 λb u hb e=>?_
   have e3:=sm b u hb e;exact k4 b u (λhc=>by rw[n3 b hc] at e3;cases e3) (out b u e3)
 refine⟨I3.kIn,?_⟩;show wpAny _ _ (call (.ref ff) [u1,u2,.ref f]) _ _ s3;have rv:A3 [V.int lo,V.int hi,V.ref f] [u1,u2,.ref f]:=.cons r1 (.cons r2 (.cons rfl .nil));have hl:([u1,u2,ia f]++[]).length=ps.length:=by
  have:=F.len [.int lo,.int hi,.ref f] (Jt H3 s3.heap cl) (λ_ _=>True) E0 ⟨lo,hi,f,p,rfl,hle,asks,λ_ _ _ _ _ _ _=>trivial⟩;exact this
 refine lh (la (F.run X.A X.stack s3 (Jt H3 s3.heap cl) ⟨[u1,u2,.ref f],[]⟩ ([u1,u2,.ref f]++[]) [.int lo,.int hi,.ref f] (λv H'=>∃m,v=.int m/\lo<=m/\m<=hi/\(lo<m->p (m-1)=false)/\(m<hi->p m=true)/\Ah (Jt H3 s3.heap cl) H') E0 hr e0 (hb s3 _ I3.kIn hl) (by simpa using rv)
  ⟨lo,hi,f,p,rfl,hle,asks,λm H' a1 a2 a3 a4 a5=>⟨m,rfl,a1,a2,a3,a4,a5⟩⟩) λr s' hq=>?_)
 cases r with
 |error e=>exact hq.elim
 |ok fl=>
  cases fl with
  |next=>exact jm hq
  |brk=>exact jm hq
  |cont=>exact jm hq
  |ret u=>
   obtain⟨v,H4,os,bare,un,hok,rr,m,ev,a1,a2,a3,a4,sm4⟩:=hq;subst ev;have c4:∀b,InC cl b->∃o,s3.heap.get? b=some o/\H4 b=some (.frz o (.own 0)):=λb ⟨y,e⟩=>by
    obtain⟨o,v,e1,_⟩:=cellAt y b e;exact⟨o,e1,sm4 _ _ (Nu ⟨y,e⟩ e1)⟩
   have sm5:∀b u,H3 b=some u->Jr H4 cl b=some u:=λb u e=>by
    rw[Fx λhb=>by rw[n3 b hb] at e;cases e];exact sm4 _ _ (out _ _ e)
   have un2:Un (frs X.stack) [] H3 (Jr H4 cl) s3.heap s'.heap:=by
    refine⟨λb o e n hf hx=>?_,λb o e n hf hx=>?_,λb o e n hx=>?_,λb o e hx=>un.there b o e hx,λb xs e=>sm5 _ _ e,λb o u e=>sm5 _ _ e,λb ps e=>⟨#[],by rw[qc];exact sm5 _ _ e⟩⟩
    ·by_cases hb:InC cl b
     ·obtain⟨o2,z1,z2⟩:=c4 b hb
      rw[e] at z1;cases z1;exact(hok _ _ z2).1
     ·exact un.keep b o e (by rw[Cz hb];exact n) hf hx
    ·have hb:¬ InC cl b:=λhb=>nfr b hb hf
     exact un.slot b o e (by rw[Cz hb];exact n) hf hx
    ·by_cases hb:InC cl b
     ·exact Lf hb
     ·exact Ex (un.free b o e (by rw[Cz hb];exact n) hx)
   have hok2:HOk X.prog X.w (Jr H4 cl) s'.heap:=W0 hok λb hb=>let ⟨o,_,z⟩:=c4 b hb;⟨o,_,z⟩;refine I3.after ⟨_,Jr H4 cl,os,bare,un2,hok2,rr,q2 m _ a1 a2 a3 a4 (λb u hb e=>sm5 _ _ (sm b u hb e)) ?_⟩;obtain⟨pps,t1,t2,t3⟩:=hT3;exact⟨pps,sm5 _ _ t1,t2,t3.imp id λ⟨c2,oc2,z1,z2,z3⟩=>⟨c2,oc2,z1,sm5 _ _ z2,z3⟩⟩
theorem Zy {g x:Str}{a b body:gq}{ta tb:TE}{q lpos:Pos}{c:dw}{kf k:Nat} 
  (F:Cal X.prog X.w X.K X.mg X.base g kf ps (P5 X.prog X.w X.K X.mg X.base (k+1)))(hr:B3 kf X.A)(ha:PE X a ta)(hbb:PE X b tb)(C:z0 X.base c Pt)(hB:X.base.BuiltinsAt X.mg Pt)(hcode:X.env.code=.ref c)(hq:X.env.qual++"<lambda>"=qual)
  (L:Bq X.N X.env.scope scope x N ix)(hbody:∀(cl:List (Str×dw)) (f c':dw) (A:ii) (outer:List Env) (s:eg) (H1:Hp),B3 k (A.deeper (kK qual scope cl s.heap.objs.size f (.ref c')))->PE (Tt X.prog X.w X.K X.mg X.base N qual scope cl f (.ref c') A outer s H1) body te)
  (hfn:autoParam (X.fn=λ_=>true) QD)(hg:autoParam (Gl X g) QD)(hco:autoParam (scope.isCoroutine=false) QD)(hgen:autoParam (scope.isGenerator=false) QD)(hdef:autoParam (defaultsOf params X.env=([],[])) QD)
  (hbind:∀(cl:List (Str×dw)) (pm cv ctv:ed) (n:Int) (t:Tok),bindArgs (vh "<lambda>" qual params body scope cl pm cv ctv) ⟨[.int n t],[]⟩=pure [(x,.int n t)]:=by intros;rfl)
  (hdb:autoParam ((g==("__debug__":Str))=false) QF)(he1:autoParam (starEach [a,b,.Lambda params body scope lpos] X.env=(false,eval a X.env)::starEach [b,.Lambda params body scope lpos] X.env) QD)(he2:autoParam (starEach [b,.Lambda params body scope lpos] X.env=(false,eval b X.env)::starEach [.Lambda params body scope lpos] X.env) QD)
  (he3:autoParam (starEach [.Lambda params body scope lpos] X.env=[(false,eval (.Lambda params body scope lpos) X.env)]) QD)(hpl:autoParam ((backTo pos (starEach [b,.Lambda params body scope lpos] X.env)).any (·.1)=false) QD) :
  PE X (.Call (.Name g q) [a,b,.Lambda params body scope lpos] [] pos) (Zp Pt lpos qual ix te ta tb):=by
 obtain⟨f,fd,F,bb,hm,hk⟩:=F.ex;exact nJ F hr hg hm hk bb ha hbb hfn C hB hcode hq L hco hgen hdef hbind hbody hdb he1 he2 he3 hpl
end
end L2
end
section
namespace HD
open PySem PySem.W PySem.Calls PyProof.Rows
def Ib (tb:String->Option ro)(p:fq)(w:gr)(m:Nat)(ann:Za7):Nat->pe->Thread->Option pe
 |0,_,_=>none
 |n+1,s,t=>match through t with
  |true=>some s
  |false=>match stepOk m ann t with
   |false=>none
   |true=>match stepT (denote tb) p w s t with
    |some (s',t')=>Ib tb p w m ann n s' t'
    |none=>none
theorem T8 {tb:String->Option ro}{p:fq}{w:gr}{m:Nat}{ann:Za7}:∀{n:Nat} {s s':pe} {t:Thread},Ib tb p w m ann n s t=some s'->topRun tb p w m ann n s.abs t=some s'.abs
 |0,_,_,_,h=>by cases h
 |n+1,s,s',t,h=>by
  unfold Ib at h;unfold topRun
  cases he:through t with
  |true=>rw[he] at h;cases h;rfl
  |false=>
   rw[he] at h
   cases hk:stepOk m ann t with
   |false=>rw[hk] at h;cases h
   |true=>
    rw[hk] at h
    cases hs:stepT (denote tb) p w s t with
    |none=>rw[hs] at h;cases h
    |some r=>obtain⟨HE,t₂⟩:=r;rw[hs] at h;rw[stepT_spec hs];exact T8 h
def mW:List Obj->Nat->BT->BT
 |[],_,t=>t
 |o::l,n,t=>mW l (n+1) (t.ins n o)
noncomputable def Sv (P:xb):BT:=mW (lf P).objs.toList 0 .nil
def bootSize:Nat:=11
noncomputable def bootT (w:gr) (os:OsState):pe:=⟨Sv w.params,bootSize,(lf w.params).life,#[],vf,wv,os⟩
def Zo {α:Type}(Yf:eg->α)(h0:im)(p q:fq)(loose:Za6)(s:eg):=
 (staticsOk (importedModules p.main.body) h0 s.heap&&namesBound p s.heap&&gensDone s&&laidKept h0 s.heap,
  openSeen q loose (importedModules p.main.body) (λ_=>true) true s,Yf s)
def bothT {α:Type}(Yf:eg->α)(s0:pe)(h0:im)(m:Nat)(p q:fq)(loose:Za6)(M:Nat)(w:gr):=
 (Ib treeTable p w m (some (.ref 6)) M s0 (topStub p)).map λs=>Zo Yf h0 p q loose s.abs
theorem oF (P:xb):absHeap (Sv P) bootSize (lf P).life=lf P:=by kernel_rfl
theorem iM (P:xb):((lf P).isNs mainGlobals&&(#[]:Array AZ).size==0,(lf P).objs.size,(lf P).nsMap mainGlobals "__annotations__")=(true,bootSize,some (.ref 6)):=by kernel_rfl
theorem sI {p q:fq}{loose:Za6}{α:Type}{Yf:eg->α}{Ya:gr->α}{M N:Nat}(e:opening p=plainProg p.main.scope.names)(f:∀s,fenceModules? p s=some s)(hN:AA 600 N=true)(le:AA M N=true)
  (Tf:∀w:gr,(λos=>bothT Yf (bootT w os) (lf w.params) bootSize p q loose M w)=λ_=>some (true,openGood q loose,Ya w)) :
  LeftO p q loose (λ_=>true) Yf Ya N:=λw=>by
 obtain⟨⟨h,gs,d,k,os⟩,e1,e'⟩:=nk.mp (boot_open e hN f w);obtain⟨rfl,rfl,rfl,rfl⟩:h=lf w.params/\gs=yt []/\d=vf/\k=wv:=by simpa using e'
 have b:=congrFun (Tf w) os;unfold bothT at b;obtain⟨s,r,l⟩:=nk.mp b;have r2:=T8 r;have r3:=topRun_mono (N-M) _ _ _ _ r2;rw[show M+(N-M)=N by have:=yy le;lia] at r3;have eb:(bootT w os).abs=⟨lf w.params,yt [],vf,wv,os⟩:=by
  show Shared.mk (absHeap (Sv w.params) bootSize (lf w.params).life) (yt []) vf wv os=_;rw[oF]
 rw[eb] at r3;obtain⟨z1,z2,z3⟩:_/\_/\_:=by simpa only[qj] using iM w.params
 obtain⟨l1,l2,l3⟩:_/\_/\_:=by simpa only[Zo,qj] using l
 have t:topFrom treeTable p w N ⟨lf w.params,yt [],vf,wv,os⟩=some s.abs:=by
  unfold topFrom;dsimp only;rw[z1,z2,z3,r3];show(match staticsOk (importedModules p.main.body) (lf w.params) s.abs.heap&&namesBound p s.abs.heap&&gensDone s.abs&&laidKept (lf w.params) s.abs.heap with|true=>_|false=>_)=_;rw[l1]
 unfold openEnds;rw[e1];show(topFrom treeTable p w N _).map _=_;rw[t];exact congrArg some (BG l2 l3)
def recOf:io->FM
 |.FunctionDef n a b _ _ _ sc _ _ pos=>⟨n,a,b,sc,pos⟩
 |_=>⟨"",default,[],default,default⟩
end HD
lay_quick HD.bothT
end
section
namespace TW
open PySem PySem.StrLaws PySem.Builtin.Str
theorem wL {ds:Za4}(h:Dok ds){k:Nat}(hk:k<ds.length):eld ds k<k:=by
 by_cases e:eld ds k=-1
 ·lia
 ·obtain⟨v,e1,e2,_⟩:=Fg h hk e
  lia
def B4 (ds:Za4)(k:Nat)(v:Int):Za4:=(et k).filter λj=>decide (eld ds j=v)
theorem Uu (ds:Za4)(k:Nat)(v:Int):(B4 ds k v).length<=k:=by
 unfold B4;exact ie (sf ..) (by rw[fh];exact d3 _)
theorem Le {ds:Za4}{k:Nat}{v:Int}(h:eld ds k=v):B4 ds (k+1) v=B4 ds k v++[k]:=by
 unfold B4;rw[iu,k8,List.filter_cons_of_pos (by simpa using h)];rfl
theorem Lk {ds:Za4}{k:Nat}{v:Int}(h:eld ds k≠v):B4 ds (k+1) v=B4 ds k v:=by
 unfold B4;rw[iu,k8,List.filter_cons_of_neg (by simpa using h)];simp
theorem Sr {ds:Za4}{k j:Nat}{v:Int}:j∈B4 ds k v↔j<k/\eld ds j=v:=by
 unfold B4;rw[r9,jn];simp
theorem Tn {ds:Za4}(h:Dok ds){k v:Nat}(hk:k<=ds.length)(hv:k<=v+1):B4 ds k v=[]:=by
 apply List.eq_nil_iff_forall_not_mem.mpr;intro j hj;obtain⟨h1,h2⟩:=Sr.mp hj;have:=wL h (k:=j) (by lia);lia
end TW
end
section
namespace L2
open PySem PySem.Spec PyProof.Rows
variable {C CS Pt dx i1 i2 it l1 l2 z:dw} {params:lu} {A:ii} {CX:CXT} {op:ss} {X:Cx} {env:Env} {tg:gq} {fd:i3} {base h h' h1:im} {H H' H1 H2:Hp} {J:It} {pins:Za1} {fp:List dw} {outer:List Env} {elts:List gq} {ns:List Int} {ix:Za4} {N ps:Za6} {ts:List Tb} {xs:List V} {us vs:Za3} {M:rk} {off t':Nat} {oT:Obj} {od:Option dw} {pos:Pos} {scope:lm} {pl:Sem Bool} {s s2:eg} {sp:Sp} {st:io} {qual:Str} {tk:TA} {te:TE} {wi:TI} {y:V} {pm:ed} {w:gr}
theorem rN {K:dn}{fr:St}{tc:TT}{Q:VK}(n:Nat)(f1 f2:Nat->V)(Pv:dw->Nat->List V->Hp->Prop)(h0:∀D H,H1 D=none->Ah H1 H->Pv D 0 [] H)
  (stab:∀D i ys H xs o,H D=some (.lst xs)->Pv D i ys H->Pv D i ys (upd H D o))(hz:∀D i ys H,i<n->Pv D i ys H->ys.length<sizeLine)(psame:∀D i ys H H',Ah H H'->Pv D i ys H->Pv D i ys H')
  (hgo:∀i H,i<n->Ah H1 H->J.go i H)(hy:∀i H v H',i<n->Ah H1 H->J.yld i H v H'->∃a,v=.ref a/\SqT K H' a [f1 i,f2 i]/\Ah H H')(hst:∀H,Ah H1 H->J.stop n H)
  (turn:∀D i ys H (A:VK) (R:Hp->Prop),i<n->Ah H1 H->H1 D=none->H D=some (.lst ys)->Pv D i ys H->(∀y H',Ah H H'->Pv D (i+1) (ys++[y]) H'->A y H') ->
   tc (some (f1 i)::some (f2 i)::fr) H λb H3=>if b=true then te (some (f1 i)::some (f2 i)::fr) H3 A else R H3)
  (fin:∀D ys H,H1 D=none->Ah H1 H->Pv D n ys H->H D=some (.lst ys)->Q (.ref D) H):Km K J H1 fr tc te Q:=by
 intro D hD;refine⟨λi m H=>i<=n/\m=n-i/\Ah H1 H/\∃ys,H D=some (.lst ys)/\Pv D i ys H,⟨n,fg _,rfl,Ai hD,[],Ac,h0 D _ hD (Ai hD)⟩,?_⟩;rintro i m H ⟨hi,rfl,sm,ys,hl,hp⟩
 by_cases h:i=n
 ·subst h
  exact .inl ⟨hst H sm,fin D ys H hD sm hp hl⟩
 ·have hlt:i<n:=jt hi h
  refine .inr ⟨hgo i H hlt sm,λv H' hyl=>?_⟩;obtain⟨a,rfl,ht,s2⟩:=hy i H v H' hlt sm hyl;refine⟨a,_,_,rfl,ht,turn D i ys H' _ _ hlt (sm.trans s2) hD (s2 _ _ hl) (psame _ _ _ _ _ s2 hp) (λy H4 s4 hp4=>?_)⟩;refine⟨ys,s4 _ _ (s2 _ _ hl),hz D i ys _ hlt hp,n-(i+1),by lia,by lia,rfl,λb u e=>?_,ys++[y],Ac,stab _ _ _ _ _ _ (s4 _ _ (s2 _ _ hl)) hp4⟩;rw[Aj (Am e hD)];exact s4 _ _ (s2 _ _ (sm _ _ e))
theorem rM {K:dn}{a b:dw}{ys:List V}{fr:St}{tc:TT}{Q:VK}(ha:SqL K H1 a xs)(hb:SqL K H1 b ys)(Pv:dw->Nat->List V->Hp->Prop)(h0:∀D H,H1 D=none->Ah H1 H->Pv D 0 [] H)
  (stab:∀D i zs H us o,H D=some (.lst us)->Pv D i zs H->Pv D i zs (upd H D o))(hz:∀D i zs H,i<min xs.length ys.length->Pv D i zs H->zs.length<sizeLine)(psame:∀D i zs H H',Ah H H'->Pv D i zs H->Pv D i zs H')
  (turn:∀D (i:Nat) zs x y H (A:VK) (R:Hp->Prop),xs[i]?=some x->ys[i]?=some y->Ah H1 H->H1 D=none->H D=some (.lst zs)->Pv D i zs H->(∀y H',Ah H H'->Pv D (i+1) (zs++[y]) H'->A y H') ->
   tc (some x::some y::fr) H λb H3=>if b=true then te (some x::some y::fr) H3 A else R H3)
  (fin:∀D zs H,H1 D=none->Ah H1 H->Pv D (min xs.length ys.length) zs H->H D=some (.lst zs)->Q (.ref D) H):Km K (Itz K a b) H1 fr tc te Q:=by
 refine rN (min xs.length ys.length) (λi=>xs.getD i .non) (λi=>ys.getD i .non) Pv h0 stab hz psame (λi H hi sm=>⟨xs,ys,xs[i]'(by lia),ys[i]'(by lia),sm.seq ha,sm.seq hb,by simp,by simp⟩) (λi H v H' hi sm h=>?_)
  (λH sm=>⟨xs,ys,sm.seq ha,sm.seq hb,rfl⟩) (λD i zs H A R hi sm=>turn D i zs _ _ H A R (by simp[show i<xs.length by lia]) (by simp[show i<ys.length by lia]) sm) fin
 obtain⟨t,x,y,hn,rfl,h1,h2,rfl⟩:=h;have e1:=h1 xs (sm.seq ha);have e2:=h2 ys (sm.seq hb);refine⟨t,rfl,?_,Ai hn⟩;simp only[ge,e1,e2,om];exact SqT.of Ac
theorem mJ {K:dn}{a:dw}{fr:St}{tc:TT}{Q:VK}(hl:SqL K H1 a xs)(Pv:Nat->List V->Hp->Prop)(h0:∀H,Ah H1 H->Pv 0 [] H)
  (stab:∀i ys H D zs o,H D=some (.lst zs)->Pv i ys H->Pv i ys (upd H D o))(hz:∀i ys H,i<xs.length->Pv i ys H->ys.length<sizeLine)
  (turn:∀(i:Nat) ys x H (A:VK) (R:Hp->Prop),xs[i]?=some x->Ah H1 H->Pv i ys H->(∀y H',Ah H H'->Pv (i+1) (ys++[y]) H'->A y H')->tc (some x::fr) H λb H3=>if b=true then te (some x::fr) H3 A else R H3)
  (fin:∀D ys H,H1 D=none->Ah H1 H->Pv xs.length ys H->H D=some (.lst ys)->Q (.ref D) H):Vm (Itl K a) H1 fr tc te Q:=by
 refine vI xs.length (λi=>xs.getD i .non) Pv h0 stab hz (λi H hi sm=>⟨xs,xs[i],sm.seq hl,by simp[hi]⟩) (λi H x H' hi sm h=>⟨?_,h.1⟩) (λH sm=>⟨xs,sm.seq hl,d3 _⟩) (λi ys H A R hi sm=>turn i ys _ H A R (by simp[hi]) sm) fin;have:=h.2 xs (sm.seq hl);simp[ge,this]
open PySem.W
structure rO (P:fq) (w:gr) (K:dn) (mg:Za2) (base:im) (x m:Str) (k:Nat) (ps:Za6) (sp:Sp):Prop where
 ex:∃(W f:dw) (fd:i3),Ay P w K mg base CX0 k f fd ps sp/\Ed K fd ps []/\mg x=some (.ref W)/\specialIn K (.ref W) "__getattribute__"=some (some (.builtin "type.__getattribute__")) /\
  readsIn K W (.type "type")=true/\findCls K (.ref W) (.type "type") m=some (.val (.ref f))/\keepIn K (.ref f)=true
section
variable {X:Cx} {x m:Str} {k:Nat} {ps:Za6} {sp:Sp} {np apos pos:Pos} {e:gq} {es:List gq} {t:TA} {pl:Sem Bool}
theorem tO (M:rO X.prog X.w X.K X.mg X.base x m k ps sp)(hr:B3 k X.A)(hg:Gl X x)(ha:PA X (e::es) t)(hdb:autoParam ((x==("__debug__":Str))=false) QF)
  (hst:autoParam (starEach (e::es) X.env=(false,eval e X.env)::starEach es X.env) QD)(hpl:autoParam ((backTo pos (starEach es X.env)).any (·.1)=false) QD)
  (ht:autoParam (eval (.Call (.Attribute (.Name x np) m apos) (e::es) [] pos) X.env=(do
   let ov <-eval (.Name x np) X.env
   standAt apos.atName
   let (f,first) <-holding [ov] (getMethod ov m pl)
   callWith pos f first (backTo pos (starEach (e::es) X.env)) (backToKw pos (keywordEach [] X.env)))) QD) :
  PE X (.Call (.Attribute (.Name x np) m apos) (e::es) [] pos) (Xg sp [] E0 t):=by
 obtain⟨W,f,fd,F,hb,hm,ga,rd,ini,kp⟩:=M.ex;k_in;refine methodCall_KW (F9 I hg hm ?_ hdb) ht;refine method_cls I.kIn ga (cls_value I.kIn rd ini rfl ?_);refine callWith_K (h₀:=X.base) I.ok.mod.kin kp (thn (ha pos pins _ G H _ (I.tok (s.toks+1)) h) λus s1 ⟨vs,H1,I1,r,q⟩=>⟨I1.kIn,?_⟩) hst hpl;exact Vk F hr hb .nil Yj I1 r q
end
theorem nN {K:dn}{fr:St}{tc:TT}{Q:VK}(n:Nat)(f1 f2:Nat->V)(Pv:dw->Nat->List V->Hp->Prop)(h0:∀D H,H1 D=none->Ah H1 H->Pv D 0 [] H)
  (stab:∀D i ys H xs o,H D=some (.lst xs)->Pv D i ys H->Pv D i ys (upd H D o))(hz:∀D i ys H,i<n->Pv D i ys H->ys.length<sizeLine)(psame:∀D i ys H H',Ah H H'->Pv D i ys H->Pv D i ys H')
  (hgo:∀i H,i<n->Ah H1 H->J.go i H)(hy:∀i H v H',i<n->Ah H1 H->J.yld i H v H'->∃a,v=.ref a/\SqT K H' a [f1 i,f2 i]/\Ah H H')(hst:∀H,Ah H1 H->J.stop n H)
  (turn:∀D i ys H (A:VK) (R:Hp->Prop),i<n->Ah H1 H->H1 D=none->H D=some (.lst ys)->Pv D i ys H->(∀H',Ah H H'->Pv D (i+1) ys H'->R H')->(∀y H',Ah H H'->Pv D (i+1) (ys++[y]) H'->A y H') ->
   tc (some (f1 i)::some (f2 i)::fr) H λb H3=>if b=true then te (some (f1 i)::some (f2 i)::fr) H3 A else R H3)
  (fin:∀D ys H,H1 D=none->Ah H1 H->Pv D n ys H->H D=some (.lst ys)->Q (.ref D) H):Km K J H1 fr tc te Q:=by
 intro D hD;refine⟨λi m H=>i<=n/\m=n-i/\Ah H1 H/\∃ys,H D=some (.lst ys)/\Pv D i ys H,⟨n,fg _,rfl,Ai hD,[],Ac,h0 D _ hD (Ai hD)⟩,?_⟩;rintro i m H ⟨hi,rfl,sm,ys,hl,hp⟩
 by_cases h:i=n
 ·subst h
  exact .inl ⟨hst H sm,fin D ys H hD sm hp hl⟩
 ·have hlt:i<n:=jt hi h
  refine .inr ⟨hgo i H hlt sm,λv H' hyl=>?_⟩;obtain⟨a,rfl,ht,s2⟩:=hy i H v H' hlt sm hyl;refine⟨a,_,_,rfl,ht,turn D i ys H' _ _ hlt (sm.trans s2) hD (s2 _ _ hl) (psame _ _ _ _ _ s2 hp) (λH3 s3 hp3=>?_) (λy H4 s4 hp4=>?_)⟩
  ·exact⟨n-(i+1),by lia,by lia,rfl,(sm.trans s2).trans s3,ys,s3 _ _ (s2 _ _ hl),hp3⟩
  refine⟨ys,s4 _ _ (s2 _ _ hl),hz D i ys _ hlt hp,n-(i+1),by lia,by lia,rfl,λb u e=>?_,ys++[y],Ac,stab _ _ _ _ _ _ (s4 _ _ (s2 _ _ hl)) hp4⟩;rw[Aj (Am e hD)];exact s4 _ _ (s2 _ _ (sm _ _ e))
end L2
end
section
namespace HD
open PySem PySem.W PySem.Calls PyProof.Rows
def oneA (s0:pe)(h0:im)(m:Nat)(p:fq)(M:Nat)(w:gr):=
 (Ib treeTable p w m (some (.ref 6)) M s0 (topStub p)).map λs=>staticsOk (importedModules p.main.body) h0 s.abs.heap&&namesBound p s.abs.heap&&gensDone s.abs&&laidKept h0 s.abs.heap
def oneB (s0:pe)(m:Nat)(p q:fq)(loose:Za6)(M:Nat)(w:gr):=
 (Ib treeTable p w m (some (.ref 6)) M s0 (topStub p)).map λs=>openSeen q loose (importedModules p.main.body) (λ_=>true) true s.abs
def oP {α:Type}(Yf:eg->α)(s0:pe)(m:Nat)(p:fq)(M:Nat)(w:gr):=
 (Ib treeTable p w m (some (.ref 6)) M s0 (topStub p)).map λs=>Yf s.abs
theorem xY {α:Type}{Yf:eg->α}{s0:pe}{h0:im}{m:Nat}{p q:fq}{loose:Za6}{M:Nat}{w:gr}{a:α}
  (hA:oneA s0 h0 m p M w=some true)(hB:oneB s0 m p q loose M w=some (openGood q loose))(hC:oP Yf s0 m p M w=some a) :
  bothT Yf s0 h0 m p q loose M w=some (true,openGood q loose,a):=by
 unfold oneA at hA;unfold oneB at hB;unfold oP at hC;unfold bothT Zo;obtain⟨s,r,l⟩:=nk.mp hA;rw[r] at hB hC ⊢;have hB:=d0 hB;have hC:=d0 hC;exact congrArg some (BG l (BG hB hC))
theorem left_of3 {p q:fq}{loose:Za6}{α:Type}{Yf:eg->α}{Ya:gr->α}{M N:Nat}(e:opening p=plainProg p.main.scope.names)(f:∀s,fenceModules? p s=some s)(hN:AA 600 N=true)(le:AA M N=true)
  (hA:∀w:gr,(λos=>oneA (bootT w os) (lf w.params) bootSize p M w)=λ_=>some true)(hB:∀w:gr,(λos=>oneB (bootT w os) bootSize p q loose M w)=λ_=>some (openGood q loose))
  (hC:∀w:gr,(λos=>oP Yf (bootT w os) bootSize p M w)=λ_=>some (Ya w)):LeftO p q loose (λ_=>true) Yf Ya N:=
 sI e f hN le λw=>funext λos=>xY (congrFun (hA w) os) (congrFun (hB w) os) (congrFun (hC w) os)
def Za (s:pe)(a:Nat):Option Obj:=match Nat.blt a s.n with
 |true=>(match s.tree.get a with
  |some o=>alive o
  |none=>none)
 |false=>none
theorem nI {s:pe}{a:Nat}{o:Obj}(h:Za s a=some o):s.abs.heap.get? a=some o:=by
 unfold Za at h
 cases hb:Nat.blt a s.n with
 |false=>rw[hb] at h;cases h
 |true=>
  rw[hb] at h
  cases hg:s.tree.get a with
  |none=>rw[hg] at h;cases h
  |some u=>
   rw[hg] at h;have hlt:a<s.n:=by
    have:=yy hb;lia
   exact(abs_get hlt hg).trans h
theorem R8 {s:pe}:∀{as:Za4} {L:List (Option Obj)},(∀x∈L,x.isSome=true)->as.map (Za s)=L->as.map s.abs.heap.get?=L
 |[],L,_,e=>e
 |a::as,[],_,e=>by cases e
 |a::as,x::L,h,e=>by
  obtain⟨e1,e2⟩:=oh e;obtain⟨o,ho⟩:=iv.mp (h x jo);subst ho;show s.abs.heap.get? a::as.map s.abs.heap.get?=_;rw[nI e1,R8 (λy hy=>h y (ik _ hy)) e2]
def oneP (as ts:List dw)(s0:pe)(m:Nat)(p:fq)(M:Nat)(w:gr):=
 (Ib treeTable p w m (some (.ref 6)) M s0 (topStub p)).map λs=>(as.map (Za s),ts.map (Za s))
theorem hC_km {K:xb->BA}{as:List dw}{e:∀P,as=(K P).map (·.1)}{ts:List dw}{p:fq}{M:Nat}
  (h:∀w:gr,(λos=>oneP as ts (bootT w os) bootSize p M w)=λ_=>some ((K w.params).map λq=>some q.2,ts.map λ_=>some (tabObj #[]))) :
  ∀w:gr,(λos=>oP (kmHook K as e ts).obs (bootT w os) bootSize p M w)=λ_=>some ((kmHook K as e ts).val w):=λw=>funext λos=>by
 have h:=congrFun (h w) os;unfold oneP at h;unfold oP;obtain⟨s,r,l⟩:=nk.mp h;obtain⟨l1,l2⟩:=Prod.mk.inj l;rw[r];show some (as.map s.abs.heap.get?,ts.map s.abs.heap.get?)=some ((K w.params).map λq=>some q.2,ts.map λ_=>some (tabObj #[]));rw[R8 (λx hx=>by obtain⟨q,_,rfl⟩:=lj.mp hx;rfl) l1,R8 (λx hx=>by obtain⟨q,_,rfl⟩:=lj.mp hx;rfl) l2]
end HD
lay_quick HD.oneP
theorem HD.oneP_eq:@HD.oneP=@PySem.W.Fast.tw13831889492591282369:=PySem.W.Fast.te13831889492591282369
lay_quick HD.oneA
lay_quick HD.oneB
theorem HD.oneA_eq:@HD.oneA=@PySem.W.Fast.tw6247638121477898359:=PySem.W.Fast.te6247638121477898359
theorem HD.oneB_eq:@HD.oneB=@PySem.W.Fast.tw4394042064226896843:=PySem.W.Fast.te4394042064226896843
end
section
namespace L2
open PySem PySem.Spec PyProof.Rows
variable {C CS Pt dx i1 i2 it l1 l2 z:dw} {params:lu} {A:ii} {CX:CXT} {op:ss} {X:Cx} {env:Env} {tg:gq} {fd:i3} {base h h' h1:im} {H H' H1 H2:Hp} {J:It} {pins:Za1} {fp:List dw} {outer:List Env} {elts:List gq} {ns:List Int} {ix:Za4} {N ps:Za6} {ts:List Tb} {xs:List V} {us vs:Za3} {M:rk} {off t':Nat} {oT:Obj} {od:Option dw} {pos:Pos} {scope:lm} {pl:Sem Bool} {s s2:eg} {sp:Sp} {st:io} {qual:Str} {tk:TA} {te:TE} {wi:TI} {y:V} {pm:ed} {w:gr}
theorem Zr:typeLookup (.type "zip") "__len__"=pure none:=by rw[DT,z7];kernel_rfl
theorem Yt:typeLookup (.type "zip") "__length_hint__"=pure none:=by rw[DT,z7];kernel_rfl
def N4 (h:im)(lo:Nat)(xs ys acc:Array ed):Prop:=(∀(j:Nat) v,acc[j]?=some v->∃T x y,v=ia T/\lo<=T/\xs[j]?=some x/\ys[j]?=some y/\pj h T x y)/\∀(j k:Nat) v,acc[j]?=some v->acc[k]?=some v->j=k
theorem N4.keep {lo:Nat}{xs ys acc:Array ed}(p:N4 h lo xs ys acc)(k:∀b o,lo<=b->h.get? b=some o->h'.get? b=some o):N4 h' lo xs ys acc:=⟨λj v e=>by
 obtain⟨T,x,y,e1,e2,e3,e4,e5⟩:=p.1 j v e;exact⟨T,x,y,e1,e2,e3,e4,k _ _ e2 e5⟩,p.2⟩
theorem N4.push {lo T:Nat}{x y:ed}{xs ys acc:Array ed}(p:N4 h lo xs ys acc)(hn:∀j:Nat,acc[j]?≠some (.ref T))(hT:lo<=T)(hx:xs[acc.size]?=some x)(hy:ys[acc.size]?=some y)(hp:pj h T x y):N4 h lo xs ys (acc.push (.ref T)):=by
 refine⟨λj v e=>?_,λj k v e1 e2=>?_⟩
 ·rw[y8] at e
  by_cases hj:j=acc.size
  ·rw[if_pos hj] at e
   cases e;rw[hj];exact⟨T,x,y,rfl,hT,hx,hy,hp⟩
  ·rw[if_neg hj] at e
   exact p.1 j v e
 ·rw[y8] at e1 e2
  by_cases hj:j=acc.size
  ·by_cases hk:k=acc.size
   ·rw[hj,hk]
   ·rw[if_pos hj] at e1
    rw[if_neg hk] at e2;cases e1;exact absurd e2 (hn k)
  ·by_cases hk:k=acc.size
   ·rw[if_neg hj] at e1
    rw[if_pos hk] at e2;cases e2;exact absurd e1 (hn j)
   ·rw[if_neg hj] at e1
    rw[if_neg hk] at e2;exact p.2 j k v e1 e2
theorem N4.below {lo:Nat}{xs ys acc:Array ed}(p:N4 h lo xs ys acc)(j:Nat):acc[j]?≠some (.ref h.objs.size):=λe=>by
 obtain⟨T,x,y,e1,_,_,_,e5⟩:=p.1 j _ e;cases e1;exact jj _ (ee e5)
section
variable {prog:fq} {w:gr} {A:ii} {E:Za0} {R:vg->eg->Prop}
abbrev oN (acc:Array ed)(c:Nat):Obj:={ cls:=.type "list",dict:=none,data:=.seq acc c,slots:=#[] }
theorem wV {S TI TO T lo:dw}{xs ys:Array ed}(D:DzA S z TI TO i1 i2 l1 l2)(hTz:T≠z)(hT1:T≠i1)(hT2:T≠i2)(hTS:T≠S)(hlo:z<lo/\i1<lo/\i2<lo/\S<lo)(hh:A.handled=none)(he:xs.size=ys.size)(hsz:xs.size<=sizeLine) :
  ∀(m i:Nat) (s:eg) (c:Bool) (acc:Array ed) (n:Nat) (oT:Obj),xs.size-i=m->i<=xs.size->Na s.heap z TI TO T c->s.heap.get? T=some oT->pj s.heap TI (.ref i1) (.ref i2) ->
   s.heap.IsListIter i1 l1 i->s.heap.IsListIter i2 l2 i->s.heap.IsList l1 xs->s.heap.IsList l2 ys->s.heap.get? S=some (oN acc n)->acc.size=i->N4 s.heap lo xs ys acc->lo<=s.heap.objs.size ->
   (∀h' acc' n',h'.get? S=some (oN acc' n')->acc'.size=xs.size->N4 h' lo xs ys acc'->(∀b o,b≠z->b≠i1->b≠i2->b≠S->s.heap.get? b=some o->h'.get? b=some o)->R (.ok (.ret .none)) { s with heap:=h' }) ->
   codeAny (model prog w) A (.builtin "list.extend.loop" ⟨[.ref S,.ref z,.none],[]⟩) R s:=by
 have far:∀b,lo<=b->b≠z/\b≠i1/\b≠i2/\b≠S:=λb hb=>⟨ji (d7 hlo.1 hb),ji (d7 hlo.2.1 hb),ji (d7 hlo.2.2.1 hb),ji (d7 hlo.2.2.2 hb)⟩;intro m
 induction m with
 |zero=>
  intro i s c acc n oT hm hi hz hT hTI h1 h2 hl1 hl2 hS hac hp hls q;refine lr p9 ?_;rw[lg j9 _];show wpAny _ A.in1 (pyNext (.ref z) >>= _) _ _ s;refine wpAny_bind (oY (by exact hh) D.za hz hT hTI h1 hl1 (n6 (by lia)) λh' kp=>?_);refine ez ?_;exact q h' acc n (kp _ _ D.dz D.d1 D.d2 hS) (by lia) (hp.keep λb o hb e=>kp b o (far b hb).1 (far b hb).2.1 (far b hb).2.2.1 e) λb o b1 b2 b3 _ e=>kp b o b1 b2 b3 e
 |succ m ih=>
  intro i s c acc n oT hm hi hz hT hTI h1 h2 hl1 hl2 hS hac hp hls q;obtain⟨x,hx⟩:∃x,xs[i]?=some x:=⟨_,my (show i<xs.size by lia)⟩;obtain⟨y,hy⟩:∃y,ys[i]?=some y:=⟨_,my (show i<ys.size by lia)⟩;refine lr p9 ?_;rw[lg j9 _];show wpAny _ A.in1 (pyNext (.ref z) >>= _) _ _ s;refine wpAny_bind (iW D.za hz hT hTI h1 h2 hl1 hl2 hx hy λh' hz' h1' h2' hpr hsz' kp=>?_);have hS':=kp _ _ D.dz D.d1 D.d2 hS;show wpAny _ A.in1 (updateSeq S (·.push (.ref s.heap.objs.size)) >>= _) _ _ _;refine wpAny_bind ?_;have oth:∀b o,b≠S->h'.get? b=some o->(h'.update S (lb (·.push (.ref s.heap.objs.size)))).get? b=some o:=λb o hb e=>(gu _ _ (lz hb)).trans e;have k2:∀b o,b≠z->b≠i1->b≠i2->b≠S->s.heap.get? b=some o->(h'.update S (lb (·.push (.ref s.heap.objs.size)))).get? b=some o:=λb o b1 b2 b3 b4 e=>oth b o b4 (kp b o b1 b2 b3 e);refine lq hS' rfl (ez ⟨nz j9 _,?_⟩) (by rw[hac];lia) (by show(acc.push _).size<=sizeLine+1;rw[vt,hac];lia);refine ih (i+1) _ true (acc.push (.ref s.heap.objs.size)) _ oT (by lia) (by lia) (oth _ _ D.dz.symm hz') (k2 _ _ hTz hT1 hT2 hTS hT) (k2 _ _ D.za.TIz D.za.TIi1 D.za.TIi2 D.dI.symm hTI) (h1'.at λo e=>oth _ o D.d1.symm e) (h2'.at λo e=>oth _ o D.d2.symm e)
   (hl1.at λo e=>k2 _ o D.za.l1z D.za.l1i1 D.za.l1i2 D.dl.symm e) (hl2.at λo e=>k2 _ o D.za.l2z D.za.l2i1 D.za.l2i2 D.dm.symm e) (ja _ hS' rfl) (by rw[vt,hac]) ?_ (by rw[oy,hsz'];exact uz hls) λh3 acc' n' hS3 hac3 hp3 kp3=>?_
  ·have far1:=far _ hls
   refine((hp.keep λb o hb e=>kp b o (far b hb).1 (far b hb).2.1 (far b hb).2.2.1 e).push hp.below hls (by rw[hac];exact hx) (by rw[hac];exact hy) hpr).keep λb o hb e=>oth b o (far b hb).2.2.2 e
  ·exact q h3 acc' n' hS3 hac3 hp3 λb o b1 b2 b3 b4 e=>kp3 b o b1 b2 b3 b4 (k2 b o b1 b2 b3 b4 e)
theorem kJ {S TI TO lo:dw}{a b:ed}{xs ys:Array ed}{n:Nat}(D:DzA S z TI TO i1 i2 l1 l2)(hlo:z<lo/\i1<lo/\i2<lo/\S<lo/\TO<lo)(hh:A.handled=none)(he:xs.size=ys.size)(hsz:xs.size<=sizeLine)
  (hz:IsZip s.heap z TI TO .none)(hTO:pj s.heap TO a b)(hTI:pj s.heap TI (.ref i1) (.ref i2))(h1:s.heap.IsListIter i1 l1 0)(h2:s.heap.IsListIter i2 l2 0)(hl1:s.heap.IsList l1 xs)(hl2:s.heap.IsList l2 ys)(hS:s.heap.get? S=some (oN #[] n))(hls:lo<=s.heap.objs.size)
  (q:∀h' acc' n',h'.get? S=some (oN acc' n')->acc'.size=xs.size->N4 h' lo xs ys acc'->(∀b o,b≠z->b≠TO->b≠i1->b≠i2->b≠S->s.heap.get? b=some o->h'.get? b=some o)->R (.ok (.ret .none)) { s with heap:=h' }) :
  codeAny (model prog w) A (.builtin "list.extend.loop" ⟨[.ref S,.ref z,.none],[]⟩) R s:=by
 have far:∀b,lo<=b->b≠z/\b≠i1/\b≠i2/\b≠S/\b≠TO:=λb hb=>⟨ji (d7 hlo.1 hb),ji (d7 hlo.2.1 hb),ji (d7 hlo.2.2.1 hb),ji (d7 hlo.2.2.2.1 hb),ji (d7 hlo.2.2.2.2 hb)⟩;refine lr p9 ?_;rw[lg j9 _];show wpAny _ A.in1 (pyNext (.ref z) >>= _) _ _ s;rcases ni xs.size with h0|h0
 ·refine wpAny_bind (wpAny_pyNext_zip_end (by exact hh) D.za hz hTI hTO h1 h2 hl1 hl2 (.inl (n6 (by lia))) λh' kp=>?_)
  refine ez ?_;exact q h' #[] n (kp _ _ D.dz D.dO D.d1 D.d2 hS) (by rw[h0];rfl) ⟨λj v e=>by simp at e,λj k v e=>by simp at e⟩ λb o b1 b2 b3 b4 _ e=>kp b o b1 b2 b3 b4 e
 ·obtain⟨x,hx⟩:∃x,xs[0]?=some x:=⟨_,my h0⟩
  obtain⟨y,hy⟩:∃y,ys[0]?=some y:=⟨_,my (show 0<ys.size by lia)⟩;refine wpAny_bind (wpAny_pyNext_zip_item D.za hz hTI hTO h1 h2 hl1 hl2 hx hy λh' hz' _ h1' h2' hpr hsz' kp=>?_);have hS':=kp _ _ D.dz D.dO D.d1 D.d2 hS;have lt:∀{c o},s.heap.get? c=some o->s.heap.objs.size≠c:=λe=>ji (ee e);show wpAny _ A.in1 (updateSeq S (·.push (.ref s.heap.objs.size)) >>= _) _ _ _;refine wpAny_bind ?_;have oth:∀b o,b≠S->h'.get? b=some o->(h'.update S (lb (·.push (.ref s.heap.objs.size)))).get? b=some o:=λb o hb e=>(gu _ _ (lz hb)).trans e;have k2:∀b o,b≠z->b≠TO->b≠i1->b≠i2->b≠S->s.heap.get? b=some o->(h'.update S (lb (·.push (.ref s.heap.objs.size)))).get? b=some o:=λb o b1 b2 b3 b5 b4 e=>oth b o b4 (kp b o b1 b2 b3 b5 e);refine lq hS' rfl (ez ⟨nz j9 _,?_⟩) (by show(#[]:Array ed).size<=_;exact fg _) (by show((#[]:Array ed).push _).size<=sizeLine+1;rw[vt];exact Nat.succ_le_succ (fg _));refine wV (T:=s.heap.objs.size) D (lt hz) (by obtain⟨_,e,_⟩:=h1;exact lt e) (by obtain⟨_,e,_⟩:=h2;exact lt e) (lt hS) ⟨hlo.1,hlo.2.1,hlo.2.2.1,hlo.2.2.2.1⟩ hh he hsz _ 1 _ false ((#[]:Array ed).push (.ref s.heap.objs.size)) _ _ rfl h0 (oth _ _ D.dz.symm hz') (oth _ _ (lt hS) hpr) (k2 _ _ D.za.TIz D.za.TITO D.za.TIi1 D.za.TIi2 D.dI.symm hTI) (h1'.at λo e=>oth _ o D.d1.symm e) (h2'.at λo e=>oth _ o D.d2.symm e)
   (hl1.at λo e=>k2 _ o D.za.l1z D.za.l1TO D.za.l1i1 D.za.l1i2 D.dl.symm e) (hl2.at λo e=>k2 _ o D.za.l2z D.za.l2TO D.za.l2i1 D.za.l2i2 D.dm.symm e) (ja _ hS' rfl) rfl ?_ (by rw[oy,hsz'];exact uz hls) λh3 acc' n' hS3 hac3 hp3 kp3=>?_
  ·refine(N4.push (acc:=#[]) ⟨λj v e=>by simp at e,λj k v e=>by simp at e⟩ (λj e=>by simp at e) hls hx hy hpr).keep λb o hb e=>oth b o (far b hb).2.2.2.1 e
  ·exact q h3 acc' n' hS3 hac3 hp3 λb o b1 b2 b3 b5 b4 e=>kp3 b o b1 b3 b5 b4 (k2 b o b1 b2 b3 b5 b4 e)
theorem S7 {TI TO:dw}{a b:ed}{xs ys:Array ed}{Q:Za0}(D:wc z TI TO i1 i2 l1 l2)(hh:A.handled=none)(he:xs.size=ys.size)(hsz:xs.size<=sizeLine)
  (hz:IsZip s.heap z TI TO .none)(hTO:pj s.heap TO a b)(hTI:pj s.heap TI (.ref i1) (.ref i2))(h1:s.heap.IsListIter i1 l1 0)(h2:s.heap.IsListIter i2 l2 0)(hl1:s.heap.IsList l1 xs)(hl2:s.heap.IsList l2 ys)
  (q:∀h' acc' n',h'.get? s.heap.objs.size=some (oN acc' n')->acc'.size=xs.size->N4 h' (s.heap.objs.size+1) xs ys acc'->(∀b o,b≠z->b≠TO->b≠i1->b≠i2->s.heap.get? b=some o->h'.get? b=some o)->Q (.ref s.heap.objs.size) { s with heap:=h' }) :
  wpAny (model prog w) A (call (.type "list") [.ref z]) Q E s:=by
 refine callType_codes (Q₁:=λobj HB=>obj=.ref s.heap.objs.size/\HB={ s with heap:=s.heap.push { cls:=.type "list",data:=.seq #[] } }) PySem.F.called_list (PySem.F.typeCall_list_1 _) PySem.F.entry_list_init (code_list_new _ ⟨rfl,rfl⟩) ?_;rintro obj HB ⟨rfl,rfl⟩;have hS:(s.heap.push { cls:=.type "list",data:=.seq #[] }).get? s.heap.objs.size=some { cls:=.type "list",data:=.seq #[] }:=gk _ rfl;have up:∀b o,s.heap.get? b=some o->(s.heap.push { cls:=.type "list",data:=.seq #[] }).get? b=some o:=λb o e=>d4 _ e;have lt:∀{c o},s.heap.get? c=some o->s.heap.objs.size≠c:=λe=>ji (ee e);refine⟨⟨_,hS,rfl⟩,PySem.F.args_list_init_2 _ _,?_⟩;show wpAny _ _ (do let old <-vd (.ref s.heap.objs.size);EZ (.ref s.heap.objs.size) (λ_=>#[]);letGo old.toList.reverse;oq (.ref s.heap.objs.size) (.ref z) .none) _ _ _;refine wpAny_bind ?_;unfold vd;refine wpAny_bind (oz hS rfl (ez ?_));show wpAny _ _ (updateSeq s.heap.objs.size (λ_=>#[]) >>= λ_=>letGo (#[]:Array ed).toList.reverse >>= λ_=>oq (.ref s.heap.objs.size) (.ref z) .none) _ _ _;refine wpAny_bind (lq hS rfl ?_);have QM:=ja (lb (λ_=>(#[]:Array ed))) hS rfl;have oth:∀b o,s.heap.get? b=some o->((s.heap.push { cls:=.type "list",data:=.seq #[] }).update s.heap.objs.size (lb (λ_=>(#[]:Array ed)))).get? b=some o:=
  λb o e=>(gu _ _ (lt e)).trans (up b o e)
 refine wpAny_bind (uk ?_);unfold oq;have hzT:=oth _ _ hz;refine wpAny_bind (wpAny_typeOf (T:="zip") ⟨_,hzT,rfl⟩ ?_);have g1:ut (.ref s.heap.objs.size) (.ref z)=false:=by simp[ut,lt hz]
 have g2:(iz "zip"==iz "list")=false:=by decide
 have g3:(iz "zip"==iz "tuple")=false:=by decide
 simp only[g1,g2,g3,Bool.or_false,md,if_false];refine wpAny_bind (wu hzT ?_);refine wpAny_bind (jf ?_);unfold FB;refine wpAny_bind (DS (T:="zip") ⟨_,hzT,rfl⟩ Zr ?_);show wpAny _ _ (specialOf (ia z) (kj "__length_hint__") >>= _) _ _ _;refine wpAny_bind (DS (T:="zip") ⟨_,hzT,rfl⟩ Yt ?_);refine ez ?_;show wpAny _ _ (rule "list.extend.makes-room" >>= λ_=>FA (.ref s.heap.objs.size) >>= λ_=>
  again (.builtin "list.extend.loop" ⟨[.ref s.heap.objs.size,.ref z,.none],[]⟩)) _ _ _
 refine wpAny_bind (BQ ?_);refine wpAny_bind ?_;show wpAny _ _ (updateSeq s.heap.objs.size (·.push .none) >>= λ_=>updateSeq s.heap.objs.size (·.pop)) _ _ _;refine wpAny_bind (lq QM rfl ?_);have QN:=ja (lb (·.push ll)) QM rfl;refine lq (hz:=by seq_fits) QN rfl ?_;have QU:=ja (lb (·.pop)) QN rfl;have up2:∀b o,s.heap.get? b=some o->((((s.heap.push { cls:=.type "list",data:=.seq #[] }).update s.heap.objs.size (lb (λ_=>(#[]:Array ed)))).update s.heap.objs.size (lb (·.push ll))).update s.heap.objs.size (lb (·.pop))).get? b=some o:=
  λb o e=>(gu _ _ (lt e)).trans ((gu _ _ (lt e)).trans (oth b o e))
 have ltS:∀{c o},s.heap.get? c=some o->c<s.heap.objs.size+1:=λe=>Nat.lt_succ_of_lt (ee e);refine ez ⟨nz j9 _,?_⟩;refine kJ (a:=a) (b:=b) (lo:=s.heap.objs.size+1) (xs:=xs) (ys:=ys) ⟨D,lt hz,lt hTI,lt hTO,?_,?_,?_,?_⟩ ⟨ltS hz,?_,?_,pf _,ltS hTO⟩ (by exact hh) he hsz (up2 _ _ hz) (up2 _ _ hTO) (up2 _ _ hTI) (h1.at λo e=>up2 _ o e) (h2.at λo e=>up2 _ o e) (hl1.at λo e=>up2 _ o e) (hl2.at λo e=>up2 _ o e) QU ?_ λh3 acc' n' hS3 hac3 hp3 kp3=>?_
 ·obtain⟨_,e,_⟩:=h1;exact lt e
 ·obtain⟨_,e,_⟩:=h2;exact lt e
 ·obtain⟨_,e,_⟩:=hl1;exact lt e
 ·obtain⟨_,e,_⟩:=hl2;exact lt e
 ·obtain⟨_,e,_⟩:=h1;exact ltS e
 ·obtain⟨_,e,_⟩:=h2;exact ltS e
 ·rw[oy,oy,oy,k9]
  exact d3 _
 ·exact⟨rfl,q h3 acc' n' hS3 hac3 hp3 λb o b1 b2 b3 b4 e=>kp3 b o b1 b2 b3 b4 (lt e).symm (up2 _ _ e)⟩
end
def Pe (N H:Hp):Hp:=λb=>match N b with|some o=>some o|none=>H b
theorem N6 {N:Hp}{b:dw}{o:HO}(h:N b=some o):Pe N H b=some o:=by unfold Pe;rw[h]
theorem Pa {N:Hp}{b:dw}(h:N b=none):Pe N H b=H b:=by unfold Pe;rw[h]
theorem Rp {N H:Hp}(h:∀b o,N b=some o->H b=none):Ah H (Pe N H):=λb o e=>by
 cases hN:N b with
 |none=>rw[Pa hN];exact e
 |some u=>rw[h b u hN] at e;cases e
theorem Inv.laidN {G:St}{N:Hp}(I:Inv X pins G H s)(k:∀b u,s.heap.get? b=some u->h'.get? b=some u)(hp:∀b o,N b=some o->s.heap.objs.size<=b)
  (new:∀b o,N b=some o->Ce X.prog X.w (Pe N H) h' b o):Inv X pins G (Pe N H) { s with heap:=h',toks:=t' }:=by
 have hn:∀b o,N b=some o->H b=none:=λb o e=>I.hok.fresh (hp b o e);have sm:=Rp hn;have old:∀b u,s.heap.get? b=some u->N b=none:=λb u e=>by
  cases hN:N b with
  |none=>rfl
  |some o=>exact absurd (ee e) (rz.mpr (hp b o hN))
 refine I.un ⟨λb u q _ _ _=>k b u q,λb u q _ _ _=>⟨u.slots,k b u q⟩,λb u q n _=>by rw[Pa (old b u q)];exact n,λb u q _=>⟨u,k b u q⟩,λb xs q=>sm _ _ q,λb u xs q=>sm _ _ q,λb ps q=>⟨#[],by rw[sm _ _ q];simp⟩⟩ λb o e=>?_
 cases hN:N b with
 |some u=>
  rw[N6 hN] at e;cases e;exact new b _ hN
 |none=>
  rw[Pa hN] at e;exact(I.hok b o e).stay (λc v _ q=>k c v q) (λc q=>sm _ _ q) λc xs q=>sm _ _ q
def Aaw:ed->dw
 |.ref a=>a
 |_=>0
def vF (H1 H':Hp)(as:List dw)(xs ys:List V):Prop:=as.length=xs.length/\∀(i:Nat) t x y,as[i]?=some t->xs[i]?=some x->ys[i]?=some y->H1 t=none/\H' t=some (.tup [x,y])
def Y7:List dw->List V->List V->Hp
 |t::as,x::xs,y::ys=>λb=>if b=t then some (.tup [x,y]) else Y7 as xs ys b
 |_,_,_=>λ_=>none
theorem eK:∀{as:List dw} {xs ys:List V},(∀(j k:Nat) t,as[j]?=some t->as[k]?=some t->j=k)->∀(i:Nat) t x y,as[i]?=some t->xs[i]?=some x->ys[i]?=some y->Y7 as xs ys t=some (.tup [x,y])
 |[],_,_,_,_,_,_,_,e,_,_=>by cases e
 |_::_,[],_,_,_,_,_,_,_,e,_=>by cases e
 |_::_,_::_,[],_,_,_,_,_,_,_,e=>by cases e
 |t::as,x::xs,y::ys,inj,i,t',x',y',e1,e2,e3=>by
  show(if t'=t then some (HO.tup [x,y]) else Y7 as xs ys t')=_
  cases i with
  |zero=>
   cases e1;cases e2;cases e3;rw[if_pos rfl]
  |succ i=>
   have hne:t'≠t:=λh=>by
    have:=inj (i+1) 0 t' e1 (by rw[h];rfl);cases this
   rw[if_neg hne];exact eK (λj k u h1 h2=>by have:=inj (j+1) (k+1) u h1 h2;lia) i t' x' y' e1 e2 e3
theorem Ww:∀{as:List dw} {xs ys:List V} {b:dw} {o:HO},Y7 as xs ys b=some o->∃(i:Nat) (x y:V),as[i]?=some b/\xs[i]?=some x/\ys[i]?=some y/\o=.tup [x,y]
 |[],_,_,_,_,e=>by cases e
 |_::_,[],_,_,_,e=>by cases e
 |_::_,_::_,[],_,_,e=>by cases e
 |t::as,x::xs,y::ys,b,o,e=>by
  have e:(if b=t then some (HO.tup [x,y]) else Y7 as xs ys b)=some o:=e
  by_cases h:b=t
  ·rw[if_pos h] at e
   cases e;exact⟨0,x,y,by rw[h];rfl,rfl,rfl,rfl⟩
  ·rw[if_neg h] at e
   obtain⟨i,x',y',a1,a2,a3,a4⟩:=Ww e;exact⟨i+1,x',y',a1,a2,a3,a4⟩
section
variable {X:Cx}
def tU (K:dn)(ta:TA):TE:=λG H Q=>ta G H λvs H1=>∃a b xs ys,vs=[.ref a,.ref b]/\SqL K H1 a xs/\SqL K H1 b ys/\xs.length=ys.length/\∀p as H',Ah H1 H'->H1 p=none->H' p=some (.lst (as.map V.ref))->vF H1 H' as xs ys->Q (.ref p) H'
theorem qO {a b:gq}{ta:TA}{p q pos2:Pos}(hcal:X.calm=true)(hg:Gl X "list")(hm:X.mg "list"=none)(hg2:Gl X "zip")(hm2:X.mg "zip"=none)(ha:PA X [a,b] ta)
  (hs:autoParam (starEach [a,b] X.env=[(false,eval a X.env),(false,eval b X.env)]) QD)(hs2:autoParam (starEach [b] X.env=[(false,eval b X.env)]) QD)
  (hs3:autoParam (starEach [xx (.Name "zip" q) [a,b] [] pos2] X.env=[(false,eval (.Call (.Name "zip" q) [a,b] [] pos2) X.env)]) QD) :
  PE X (.Call (.Name "list" p) [.Call (.Name "zip" q) [a,b] [] pos2] [] pos) (tU X.K ta):=by
 k_in;refine wpAny_Call_Name_kw (Ev I hg hm Og (il ?_ hs3 rfl) (by decide) (by decide));rw[hs3];refine l7 ?_;show wpAny _ _ (eval (xx (.Name "zip" q) [a,b] [] pos2) X.env) _ _ _;refine wpAny_Call_Name_kw (Ev I hg2 hm2 tM (il (thA ha I h λus s1 vs H1 I1 r1 q1=>?_) (by rw[hs,hs2]) (by rw[hs2];rfl)) (by decide) (by decide));obtain⟨a,b,xs,ys,e,hx,hy,hl,q⟩:=q1;subst e;obtain⟨u,v,rfl,ru,rv⟩:=Sc r1;cases ru;cases rv;obtain⟨its,rv,p,hz⟩:=I1.list hx;obtain⟨its2,rv2,p2,hz2⟩:=I1.list hy;have l1:=rv.length;have l2:=rv2.length;refine call_zip_2 p.isList p2.isList λh' g1 g2 g3 g4 g5 hsz kk=>?_;refine qo ?_;have A1:h'.IsList a its.toArray:=p.isList.at λo e=>kk _ o e;have A2:h'.IsList b its2.toArray:=p2.isList.at λo e=>kk _ o e;have D:=Z7 (Ru _) (⟨g1,g2,⟨_,_,g3⟩,g4,g5⟩:StZ _ _ _ _ _ a b 0 h') A1 A2;refine S7 (s:={ s1 with heap:=h' }) D (I1.ok.hd hcal) (by simp;lia) (by simp;lia) g1 g3 g2 g4 g5 A1 A2 λh2 acc n hS hac hp kp=>?_;have hle:s1.heap.objs.size<=h'.objs.size:=by lia
 have hac:acc.size=xs.length:=by rw[hac];simp;lia
 have kp1:∀b o,s1.heap.get? b=some o->h2.get? b=some o:=λb o e=>by
  have lt:=ee e;have ne:∀c,s1.heap.objs.size<=c->b≠c:=λc hc z=>jj _ (d7 lt (z▸hc));exact kp b o (ne _ (l4 _ _)) (ne _ (l4 _ _)) (ne _ (d3 _)) (ne _ (l4 _ _)) (kk _ _ e)
 obtain⟨as,has⟩:∃as,as=acc.toList.map Aaw:=⟨_,rfl⟩;have hasl:as.length=xs.length:=by rw[has,du,jb,hac]
 have hat:∀(i:Nat) t,as[i]?=some t->∃x y,acc[i]?=some (ia t)/\h'.objs.size+1<=t/\its[i]?=some x/\its2[i]?=some y/\pj h2 t x y:=λi t e=>by
  rw[has,d8] at e
  cases hv:acc.toList[i]? with
  |none=>rw[hv] at e;cases e
  |some v=>
   rw[hv] at e;have hv2:acc[i]?=some v:=by rw[<-mi];exact hv
   obtain⟨T,x,y,e1,e2,e3,e4,e5⟩:=hp.1 i v hv2;subst e1;obtain rfl:T=t:=d0 e;exact⟨x,y,hv2,e2,by simpa using e3,by simpa using e4,e5⟩
 have inj:∀(j k:Nat) t,as[j]?=some t->as[k]?=some t->j=k:=λj k t h1 h2=>by
  obtain⟨_,_,a1,_⟩:=hat j t h1;obtain⟨_,_,a2,_⟩:=hat k t h2;exact hp.2 j k _ a1 a2
 let N:Hp:=λb=>if b=h'.objs.size then some (.lst (as.map V.ref)) else Y7 as xs ys b
 have hN0:N h'.objs.size=some (.lst (as.map V.ref)):=if_pos rfl;have hNt:∀(i:Nat) t x y,as[i]?=some t->xs[i]?=some x->ys[i]?=some y->N t=some (.tup [x,y]):=λi t x y e1 e2 e3=>by
  obtain⟨_,_,_,hlt,_⟩:=hat i t e1;show(if t=h'.objs.size then _ else _)=_;rw[if_neg (ji hlt)];exact eK inj i t x y e1 e2 e3
 have hNp:∀b o,N b=some o->s1.heap.objs.size<=b:=λb o e=>by
  have e:(if b=h'.objs.size then some (HO.lst (as.map V.ref)) else Y7 as xs ys b)=some o:=e
  by_cases hb:b=h'.objs.size
  ·rw[hb];exact hle
  ·rw[if_neg hb] at e
   obtain⟨i,x,y,e1,_⟩:=Ww e;obtain⟨_,_,_,hlt,_⟩:=hat i b e1;exact ie hle (Nat.le_of_succ_le hlt)
 have hNn:∀b o,N b=some o->H1 b=none:=λb o e=>I1.hok.fresh (hNp b o e);have I2:Inv X pins G (Pe N H1) { s1 with heap:=h2 }:=by
  refine I1.laidN (t':=s1.toks) kp1 hNp λb o e=>?_;have e:(if b=h'.objs.size then some (HO.lst (as.map V.ref)) else Y7 as xs ys b)=some o:=e
  by_cases hb:b=h'.objs.size
  ·rw[if_pos hb] at e
   cases e;subst hb;refine⟨by rw[du];lia,acc.toList,n,?_,hS⟩;refine Mq (by rw[du,hasl,<-hac];exact(jb (xs:=acc)).symm) λi v u e1 e2=>?_;rw[d8] at e1
   cases ht:as[i]? with
   |none=>rw[ht] at e1;cases e1
   |some t=>
    rw[ht] at e1;cases e1;obtain⟨_,_,a1,_⟩:=hat i t ht;rw[<-mi,e2] at a1;exact d0 a1
  ·rw[if_neg hb] at e
   obtain⟨i,x,y,e1,e2,e3,rfl⟩:=Ww e;obtain⟨u,v,_,_,e4,e5,e6⟩:=hat i b e1;obtain⟨u',hu,ru⟩:=rv.get e2;obtain⟨v',hv,rv'⟩:=rv2.get e3;rw[e4] at hu;rw[e5] at hv;cases hu;cases hv;exact⟨fk (qk (show 2<=2 from d3 2) (by decide)),[u,v],.cons ru (.cons rv' .nil),_,e6,rfl,_,rfl⟩
 refine⟨.ref h'.objs.size,_,I2,rfl,q _ as _ (Rp hNn) (hNn _ _ hN0) (N6 hN0) ⟨hasl,λi t x y e1 e2 e3=>⟨hNn _ _ (hNt i t x y e1 e2 e3),N6 (hNt i t x y e1 e2 e3)⟩⟩⟩
theorem vZ {G:St}{Q:VK}{ta:TA}{K:dn}(h:ta G H λvs H1=>∃a b xs ys,vs=[.ref a,.ref b]/\SqL K H1 a xs/\SqL K H1 b ys/\xs.length=ys.length/\∀p as H',Ah H1 H'->H1 p=none->H' p=some (.lst (as.map V.ref))->vF H1 H' as xs ys->Q (.ref p) H'):tU K ta G H Q:=h
end
theorem Ty {K:dn}{a:dw}{as:List dw}{ys:List V}{i1 i2:Nat}{tb:TS}{D:Ji}{G:St}(hx:as.length=xs.length)(hy:as.length=ys.length)(Pv:Nat->St->Hp->Prop)(h0:Pv 0 G H)
  (hl:∀i G H,i<=as.length->Pv i G H->SqL K H a (as.map V.ref))(ht:∀(i:Nat) t x y G H,as[i]?=some t->xs[i]?=some x->ys[i]?=some y->Pv i G H->H t=some (.tup [x,y]))
  (step:∀(i:Nat) x y G H,xs[i]?=some x->ys[i]?=some y->Pv i G H->tb { D with nx:=Pv (i+1),ct:=Pv (i+1),bk:=D.nx } ((G.set i1 (some x)).set i2 (some y)) H)
  (fin:∀G H,Pv as.length G H->D.nx G H):lQ (Itl K a) (kD K 2 (Ku (Eh i1) (Ku (Eh i2) kI))) tb D G H:=by
 refine⟨λi m G H=>i<=as.length/\m=as.length-i/\Pv i G H,⟨_,fg _,rfl,h0⟩,?_⟩;rintro i m G H ⟨hi,rfl,hp⟩
 by_cases h:i=as.length
 ·exact .inl ⟨⟨_,hl i G H hi hp,by rw[du];lia⟩,fin G H (h▸hp)⟩
 ·have hlt:i<as.length:=jt hi h
  refine .inr ⟨⟨_,.ref as[i],hl i G H hi hp,by rw[d8,dq hlt];rfl⟩,Pv (i+1),λmt H' q=>⟨as.length-(i+1),by lia,hlt,rfl,q⟩,λv H' hyl=>?_⟩;obtain⟨rfl,hv⟩:=hyl;have hv:=hv _ (hl i G H' hi hp);rw[d8,dq hlt] at hv;obtain rfl:=d0 hv;exact Wv (SqT.of (ht i _ _ _ G H' (dq hlt) (dq (by lia)) (dq (by lia)) hp)) (step i _ _ G H' (dq (by lia)) (dq (by lia)) hp)
theorem pR {K:dn}{a b:dw}{ys:List V}{fr:St}{tc:TT}{Q:VK}(ha:SqL K H1 a xs)(hb:SqL K H1 b ys)(Pv:dw->Nat->List V->Hp->Prop)(h0:∀D H,H1 D=none->Ah H1 H->Pv D 0 [] H)
  (stab:∀D i zs H us o,H D=some (.lst us)->Pv D i zs H->Pv D i zs (upd H D o))(hz:∀D i zs H,i<min xs.length ys.length->Pv D i zs H->zs.length<sizeLine)(psame:∀D i zs H H',Ah H H'->Pv D i zs H->Pv D i zs H')
  (turn:∀D (i:Nat) zs x y H (A:VK) (R:Hp->Prop),xs[i]?=some x->ys[i]?=some y->Ah H1 H->H1 D=none->H D=some (.lst zs)->Pv D i zs H->(∀H',Ah H H'->Pv D (i+1) zs H'->R H')->(∀y H',Ah H H'->Pv D (i+1) (zs++[y]) H'->A y H') ->
   tc (some x::some y::fr) H λb H3=>if b=true then te (some x::some y::fr) H3 A else R H3)
  (fin:∀D zs H,H1 D=none->Ah H1 H->Pv D (min xs.length ys.length) zs H->H D=some (.lst zs)->Q (.ref D) H):Km K (Itz K a b) H1 fr tc te Q:=by
 refine nN (min xs.length ys.length) (λi=>xs.getD i .non) (λi=>ys.getD i .non) Pv h0 stab hz psame (λi H hi sm=>⟨xs,ys,xs[i]'(by lia),ys[i]'(by lia),sm.seq ha,sm.seq hb,by simp,by simp⟩) (λi H v H' hi sm h=>?_)
  (λH sm=>⟨xs,ys,sm.seq ha,sm.seq hb,rfl⟩) (λD i zs H A R hi sm=>turn D i zs _ _ H A R (by simp[show i<xs.length by lia]) (by simp[show i<ys.length by lia]) sm) fin
 obtain⟨t,x,y,hn,rfl,h1,h2,rfl⟩:=h;have e1:=h1 xs (sm.seq ha);have e2:=h2 ys (sm.seq hb);refine⟨t,rfl,?_,Ai hn⟩;simp only[ge,e1,e2,om];exact SqT.of Ac
theorem F3 (K:dn){e:gq}{f:Str}{ta:TE}(he:PE X e ta)(h:autoParam (X.K=K) QD)(hb:autoParam (attributeBase e f X.env (eval e X.env)=eval e X.env) QD):PE X (.Attribute e f pos) (tG K ta f):=by
 subst h;exact oB he hb
open PySem.W
def GD (K:BA)(x:Str)(st:io):Prop:=∃(f:dw) (fd:i3),Fun K x x st f fd/\nsIn K mainGlobals x=some (some (.ref f))
def MD (K:BA)(C:dw)(x q:Str)(st:io):Prop:=∃(f:dw) (fd:i3),Fun K x q st f fd/\findIn K (.ref C) x=some (some (.ref f))/\isFn K (.ref f)=true
def BD (K:BA)(C:dw)(x q:Str)(st:io):Prop:=∃(f:dw) (fd:i3),Fun K x q st f fd/\findCls K (.ref C) (.type "type") x=some (.val (.ref f))
structure CD (K:BA) (C:dw) (x:Str):Prop where
 a:nsIn K mainGlobals x=some (some (.ref C))
 ma:makesIn K C=true
 kc:keepIn K (.ref C)=true
structure BC (K:BA) (C:dw) (x:Str):Prop where
 a:nsIn K mainGlobals x=some (some (.ref C))
 bg:specialIn K (.ref C) "__getattribute__"=some (some (.builtin "type.__getattribute__"))
 br:readsIn K C (.type "type")=true
def noB:Option (Za7)->Bool
 |some none=>true
 |_=>false
structure FD (K:BA) (C:dw) (fs:Za6):Prop where
 cl:Cls K C
 al:(fs.all λf=>noB (findIn K (.ref C) f))=true
section
variable {P:fq} {w:gr} {K:BA} {mg:Za2} {base h:im} {x q:Str} {st:io} {f C:dw} {oc:ed} {od an:Option dw} {osl:Array (Za7)} {kV doc pm cdv ct:ed} {fs ps:Za6} {k:Nat} {sp:Sp}
theorem gD (a:nsIn K mainGlobals x=some (some (.ref f)))(l:K.lookup f=some ⟨oc,od,.func (fnOf x x (Cn st) (B0 st) (Af st) .none kV doc pm an cdv ct),osl⟩)(c:codeIn K cdv x=true)(k:keepIn K (.ref f)=true):GD K x st:=⟨f,_,Wu l c k,a⟩
theorem mD (a:findIn K (.ref C) x=some (some (.ref f)))(i:isFn K (.ref f)=true)(l:K.lookup f=some ⟨oc,od,.func (fnOf x q (Cn st) (B0 st) (Af st) .none kV doc pm an cdv ct),osl⟩)(c:codeIn K cdv q=true)(k:keepIn K (.ref f)=true):MD K C x q st:=⟨f,_,Wu l c k,a,i⟩
theorem bD (a:findCls K (.ref C) (.type "type") x=some (.val (.ref f)))(l:K.lookup f=some ⟨oc,od,.func (fnOf x q (Cn st) (B0 st) (Af st) .none kV doc pm an cdv ct),osl⟩)(c:codeIn K cdv q=true)(k:keepIn K (.ref f)=true):BD K C x q st:=⟨f,_,Wu l c k,a⟩
theorem fD (pg:plainGet K C t9=true)(hd:hasDictIn K C=true)(po:plainOver K C=true)(sa:findIn K (.ref C) "__setattr__"=some (some (.builtin "object.__setattr__")))(al:(fs.all λf=>noB (findIn K (.ref C) f))=true):FD K C fs:=⟨⟨pg,hd,po,sa⟩,al⟩
theorem FD.no (D:FD K C fs)(i:Nat){g:Str}(h:autoParam (fs[i]?=some g) QD):Ch K C g:=by
 have:=ki.mp D.al g (ir h);show findIn K (.ref C) g=some none
 cases e:findIn K (.ref C) g with
 |none=>rw[e] at this;cases this
 |some o=>
  cases o with
  |none=>rfl
  |some v=>rw[e] at this;cases this
def Cur:Nat->(Za3->Prop)->Prop
 |0,P=>P []
 |n+1,P=>∀a,Cur n λl=>P (a::l)
theorem Cur.all:∀{n:Nat} {P:Za3->Prop},Cur n P->∀us:Za3,us.length=n->P us
 |0,_,h,[],_=>h
 |n+1,_,h,a::l,e=>Cur.all (n:=n) (h a) l (z9 e)
abbrev Gb (x q:Str)(st:io)(ps:Za6):Prop:=∀(kV doc pm:ed) (an:Option dw) (cdv ct:ed),Cur ps.length λus=>bindArgs (fnOf x q (Cn st) (B0 st) (Af st) .none kV doc pm an cdv ct) ⟨us,[]⟩=pure (ps.zip us)
theorem Fun.bd (F:Fun K x q st f fd)(hb:Gb x q st ps):Ed K fd ps []:=F.binds λa b c d e g=>(hb a b c d e g).all
theorem GD.cal (X:K.In h)(G:h.Ns mainGlobals mg)(g:GD K x st)(ok:∀{f fd},Fun K x x st f fd->Ay P w K mg base CX0 k f fd ps sp)
  (hb:autoParam (Gb x x st ps) QL):Cal P w K mg base x k ps sp:=
 let ⟨f,fd,F,a⟩:=g
 ⟨⟨f,fd,ok F,F.bd hb,FG X G a,F.kp⟩⟩
theorem MD.mth (c:Cls K C)(g:MD K C x q st)(ok:∀{f fd},Fun K x q st f fd->Ay P w K mg base CX0 k f fd ps sp)
  (hb:autoParam (Gb x q st ps) QL):Mth P w K mg base C x k ps sp:=
 let ⟨f,fd,F,a,i⟩:=g
 ⟨⟨f,fd,ok F,F.bd hb,⟨a,i,F.kp⟩⟩,c⟩
theorem MD.mkr {y:Str}(X:K.In h)(G:h.Ns mainGlobals mg)(c:CD K C y)(g:MD K C "__init__" q st)(ok:∀{f fd},Fun K "__init__" q st f fd->Ay P w K mg base CX0 k f fd ps sp)
  (hb:autoParam (Gb "__init__" q st ps) QL):Mkr P w K mg base y C k ps sp:=
 let ⟨f,fd,F,a,i⟩:=g
 ⟨⟨f,fd,ok F,F.bd hb,⟨c.ma,a,i,c.kc⟩,FG X G c.a⟩⟩
theorem BD.calC {y:Str}(X:K.In h)(G:h.Ns mainGlobals mg)(c:BC K C y)(g:BD K C x q st)(ok:∀{f fd},Fun K x q st f fd->Ay P w K mg base CX0 k f fd ps sp)
  (hb:autoParam (Gb x q st ps) QL):rO P w K mg base y x k ps sp:=
 let ⟨f,fd,F,a⟩:=g
 ⟨⟨C,f,fd,ok F,F.bd hb,FG X G c.a,c.bg,c.br,a,F.kp⟩⟩
end
section
variable {P:fq} {w:gr} {K:BA} {mg:Za2} {base h:im} {x q:Str} {st:io} {C:dw} {ps:Za6} {k:Nat} {sp:Sp}
theorem GD.calE (X:K.In h)(G:h.Ns mainGlobals mg)(g:GD K x st)(ok:∀{f fd},Fun K x x st f fd->Ay P w K mg base (CXE P w) k f fd ps sp)(hb:autoParam (Gb x x st ps) QL):mM P w K mg base x k ps sp:=
 let ⟨f,fd,F,a⟩:=g
 ⟨⟨f,fd,ok F,F.bd hb,FG X G a,F.kp⟩⟩
theorem MD.mthE (c:Cls K C)(g:MD K C x q st)(ok:∀{f fd},Fun K x q st f fd->Ay P w K mg base (CXE P w) k f fd ps sp)(hb:autoParam (Gb x q st ps) QL):Te P w K mg base C x k ps sp:=
 let ⟨f,fd,F,a,i⟩:=g
 ⟨⟨f,fd,ok F,F.bd hb,⟨a,i,F.kp⟩⟩,c⟩
theorem MD.mkrE {y:Str}(X:K.In h)(G:h.Ns mainGlobals mg)(c:CD K C y)(g:MD K C "__init__" q st)(ok:∀{f fd},Fun K "__init__" q st f fd->Ay P w K mg base (CXE P w) k f fd ps sp)(hb:autoParam (Gb "__init__" q st ps) QL):rE P w K mg base y C k ps sp:=
 let ⟨f,fd,F,a,i⟩:=g
 ⟨⟨f,fd,ok F,F.bd hb,⟨c.ma,a,i,c.kc⟩,FG X G c.a⟩⟩
end
end L2
end
section
namespace TW
theorem eT {ds:Za4}{v:Nat}:∀{i j:Nat},v<j->j<=i->(v:Int)∈way ds i->(v:Int)∈way ds j
 |0,j,h1,h2,_=>by lia
 |i+1,j,h1,h2,h=>by
  by_cases e:j=i+1
  ·rw[e];exact h
  ·have h:(v:Int)∈(way ds i).take (dAt ds i+1)++[(i:Int)]:=h
   rcases mf.mp h with h|h
   ·exact eT h1 (by lia) (List.mem_of_mem_take h)
   ·have:=k7.mp h
    lia
theorem xE {ds:Za4}(h:Dok ds){i j:Nat}{v:Int}(hi:i<ds.length)(e:eld ds i=v)(h1:v<j)(h2:j<i):v<=eld ds j:=by
 by_cases hv:v=-1
 ·rw[hv];exact vL h (by lia)
 obtain⟨w,hw,hwi,_⟩:=Fg h hi (by rw[e];exact hv);have hwv:v=(w:Int):=by rw[<-e,hw]
 subst hwv;have hm:(w:Int)∈way ds i:=by rw[<-e];exact ir (F1 h hi)
 have hm2:(w:Int)∈(way ds j).take (dAt ds j+1)++[(j:Int)]:=eT (i:=i) (j:=j+1) (by lia) (by lia) hm;rcases mf.mp hm2 with hm3|hm3
 ·obtain⟨a,ha⟩:=km hm3
  have hlt:=(fc.mp ha).1;rw[d9] at hlt;rw[fe (by lia)] at ha;have hea:=F1 h (show j<ds.length by lia)
  by_cases hd:a=dAt ds j
  ·rw[hd,hea] at ha
   have:=d0 ha;lia
  ·have:=M1 h j a (dAt ds j) _ _ (by lia) (by lia) ha hea
   lia
 ·have:=k7.mp hm3
  lia
def X7 (ds:Za4)(k:Nat):Nat->Nat->Nat
 |0,j=>j
 |m+1,j=>if(k:Int)<=eld ds j then X7 ds k m (j+1) else j
def Cc (ds:Za4)(k:Nat):Nat:=X7 ds k (ds.length-(k+1)) (k+1)
theorem gG (ds:Za4)(k:Nat):∀m j,k<j->(∀i,k<i->i<j->(k:Int)<=eld ds i)->j<=X7 ds k m j/\X7 ds k m j<=j+m/\(∀i,k<i->i<X7 ds k m j->(k:Int)<=eld ds i)/\(X7 ds k m j<j+m->eld ds (X7 ds k m j)<k)
 |0,j,h1,h2=>⟨d3 _,d3 _,h2,λh=>absurd h (jj _)⟩
 |m+1,j,h1,h2=>by
  unfold X7
  by_cases h:(k:Int)<=eld ds j
  ·rw[if_pos h]
   obtain⟨a,b,c,d⟩:=gG ds k m (j+1) (by lia) (λi h3 h4=>by
    by_cases e:i=j
    ·rw[e];exact h
    ·exact h2 i h3 (by lia))
   exact⟨by lia,by lia,c,λh5=>d (by lia)⟩
  ·rw[if_neg h]
   exact⟨d3 _,by lia,h2,λ_=>by lia⟩
theorem Cm {ds:Za4}{k:Nat}(hk:k<ds.length):k<Cc ds k/\Cc ds k<=ds.length/\(∀i,k<i->i<Cc ds k->(k:Int)<=eld ds i)/\(Cc ds k<ds.length->eld ds (Cc ds k)<k):=by
 obtain⟨a,b,c,d⟩:=gG ds k (ds.length-(k+1)) (k+1) (by lia) (λi h1 h2=>by lia);unfold Cc;exact⟨by lia,by lia,c,λh=>d (by lia)⟩
theorem sF {ds:Za4}(h:Dok ds){k i:Nat}(hk:k<ds.length)(h1:Cc ds k<=i)(h2:i<ds.length):eld ds i<k\/(Cc ds k:Int)<=eld ds i:=by
 obtain⟨a,b,c,d⟩:=Cm (ds:=ds) hk
 by_cases e:i=Cc ds k
 ·left;rw[e];exact d (by lia)
 ·by_cases z:eld ds i<k
  ·exact .inl z
  ·right
   by_cases y:(Cc ds k:Int)<=eld ds i
   ·exact y
   ·have:=xE h h2 rfl (show eld ds i<(Cc ds k:Nat) by lia) (by lia)
    have:=d (by lia);lia
theorem qT {ds:Za4}(h:Dok ds){k:Nat}(hk:k<ds.length):eld ds k<k:=by
 by_cases e:eld ds k=-1
 ·lia
 ·obtain⟨v,hv,hvk,_⟩:=Fg h hk e
  lia
theorem Tq {ds:Za4}{v:Int}:∀(d k:Nat),(∀i,k<=i->i<k+d->eld ds i≠v)->B4 ds (k+d) v=B4 ds k v
 |0,k,_=>rfl
 |d+1,k,h=>by
  rw[show k+(d+1)=k+d+1 by lia,Lk (h (k+d) (by lia) (by lia)),Tq d k λi a b=>h i a (by lia)]
theorem Ud {ds:Za4}{v:Int}:∀(d k:Nat),(B4 ds k v).length<=(B4 ds (k+d) v).length
 |0,k=>d3 _
 |d+1,k=>by
  have:=Ud (ds:=ds) (v:=v) d k;rw[show k+(d+1)=k+d+1 by lia]
  by_cases e:eld ds (k+d)=v
  ·rw[Le e,d5];lia
  ·rw[Lk e];exact this
theorem N5 {ds:Za4}(h:Dok ds){k:Nat}(hk:k<ds.length):∀i,k<i->i<Cc ds k->dAt ds k<dAt ds i:=λi=>by
 obtain⟨a,b,c,d⟩:=Cm (ds:=ds) hk
 induction i using BH with
 |_ i ih=>
  intro h1 h2;have h3:=c i h1 h2;obtain⟨v,hv,hvi,hd⟩:=Fg h (show i<ds.length by lia) (by lia)
  by_cases e:v=k
  ·rw[hd,e];lia
  ·have:=ih v hvi (by lia) (by lia)
   lia
def Nr (ds:Za4)(k:Nat):Za4:=(et (Cc ds k-k)).map λi=>dAt ds (k+i)-dAt ds k
theorem Lz (ds:Za4)(k:Nat):(Nr ds k).length=Cc ds k-k:=by unfold Nr;rw[du,fh]
theorem Wx {ds:Za4}{k i:Nat}(h:i<Cc ds k-k):dAt (Nr ds k) i=dAt ds (k+i)-dAt ds k:=by
 unfold dAt Nr ge;rw[d8,ij h];rfl
theorem qV {ds:Za4}(h:Dok ds){k:Nat}(hk:k<ds.length):Dok (Nr ds k):=λi hi=>by
 obtain⟨a,b,c,d⟩:=Cm (ds:=ds) hk;rw[Lz] at hi;rw[Wx hi]
 cases i with
 |zero=>show _<=0;rw[kl,jh];exact d3 _
 |succ i=>
  show _<=dAt (Nr ds k) i+1;rw[Wx (by lia)];have h1:dAt ds (k+(i+1))<=dAt ds (k+i)+1:=h (k+(i+1)) (by lia)
  by_cases e:i=0
  ·subst e
   rw[kl] at *;lia
  ·have:=N5 h hk (k+i) (by lia) (by lia)
   lia
theorem gE:∀{l m:Za4},l.Pairwise (· < ·)->m.Pairwise (· < ·)->(∀x,x∈l↔x∈m)->l=m
 |[],[],_,_,_=>rfl
 |[],b::m,_,_,h=>by have:=(h b).mpr (by simp);cases this
 |a::l,[],_,_,h=>by have:=(h a).mp (by simp);cases this
 |a::l,b::m,h1,h2,h=>by
  rw[List.pairwise_cons] at h1 h2;have e:a=b:=by
   rcases gd.mp ((h a).mp (by simp)) with z|z
   ·exact z
   ·rcases gd.mp ((h b).mpr (by simp)) with y|y
    ·exact y.symm
    ·have:=h2.1 a z
     have:=h1.1 b y;lia
  subst e;congr 1;refine gE h1.2 h2.2 λx=>⟨λhx=>?_,λhx=>?_⟩
  ·rcases gd.mp ((h x).mp (by simp[hx])) with z|z
   ·have:=h1.1 x hx;lia
   ·exact z
  ·rcases gd.mp ((h x).mpr (by simp[hx])) with z|z
   ·have:=h2.1 x hx;lia
   ·exact z
def rwH:Nat->Za4->Za5
 |h,[]=>dv h false
 |h,d::ds=>dv (h-d) false++true::rwH (d+1) ds
def dk:Nat->Za4->Prop
 |_,[]=>True
 |h,d::ds=>d<=h/\dk (d+1) ds
def L7:Nat->Za4->Nat
 |h,[]=>h
 |_,d::ds=>L7 (d+1) ds
def Tc (B:Za4)(off:Nat):Prop:=∀d C,B=d::C->d<=off
theorem oM {ds:Za4}{k:Nat}(h:k<ds.length):ds.drop k=dAt ds k::ds.drop (k+1):=by
 rw[ke h];unfold dAt ge;rw[dq h];rfl
theorem Yp {ds:Za4}:∀(m k:Nat),k+m=ds.length->((et m).map λi=>Be ds (k+i)).flatten++dv (opn ds ds.length) false=rwH (opn ds k) (ds.drop k)
 |0,k,e=>by
  obtain rfl:k=ds.length:=by lia
  rw[i6 (d3 _)];rfl
 |m+1,k,e=>by
  have ih:=Yp (ds:=ds) m (k+1) (by lia);rw[ky,ju,jz,jl,oM (by lia)];have e1:((λi=>Be ds (k+i)) ∘ BX)=λi=>Be ds (k+1+i):=by
   funext i
   show Be ds (k+(i+1))=Be ds (k+1+i);rw[show k+(i+1)=k+1+i by lia]
  rw[e1,gj,ih];show(dv (opn ds k-dAt ds (k+0)) false++[true])++_=dv (opn ds k-dAt ds k) false++true::rwH (dAt ds k+1) _;rw[kl,gj];rfl
theorem eD (ds:Za4):Aq ds=rwH 0 ds:=by
 have:=Yp (ds:=ds) ds.length 0 (by lia);unfold Aq Nm;have e:(λi=>Be ds (0+i))=Be ds:=by funext i;rw[qa]
 rw[e] at this;exact this
theorem tK:∀(B:Za4) (h:Nat),(∀k,k<B.length->dAt B k<=if k=0 then h else dAt B (k-1)+1)->dk h B
 |[],_,_=>trivial
 |d::B,h,hh=>⟨hh 0 (by simp),tK B (d+1) λk hk=>by
  have:=hh (k+1) (by simp;exact hk);rw[if_neg (by lia)] at this
  cases k with
  |zero=>exact this
  |succ k=>exact this⟩
theorem uI:∀(B:Za4) (h:Nat),dk h B->∀k,k<B.length->dAt B k<=if k=0 then h else dAt B (k-1)+1
 |d::B,h,hh,0,_=>hh.1
 |d::B,h,hh,k+1,hk=>by
  have:=uI B (d+1) hh.2 k (by simp at hk;exact hk);rw[if_neg (by lia)]
  cases k with
  |zero=>exact this
  |succ k=>exact this
theorem Kx {ds:Za4}:Dok ds↔dk 0 ds:=by
 constructor
 ·intro h
  refine tK ds 0 λk hk=>?_;have:=h k hk
  cases k with
  |zero=>exact this
  |succ k=>rw[if_neg (by lia)];exact this
 ·intro h k hk
  have:=uI ds 0 h k hk
  cases k with
  |zero=>exact this
  |succ k=>rw[if_neg (by lia)] at this;exact this
theorem Kc:∀(A B:Za4) (h:Nat),dk h (A++B)↔dk h A/\dk (L7 h A) B
 |[],B,h=>⟨λe=>⟨trivial,e⟩,λe=>e.2⟩
 |d::A,B,h=>by
  have ih:=Kc A B (d+1);exact⟨λe=>⟨⟨e.1,(ih.mp e.2).1⟩,(ih.mp e.2).2⟩,λe=>⟨e.1.1,ih.mpr ⟨e.1.2,e.2⟩⟩⟩
theorem tY {B:Za4}{h h' off:Nat}(hB:dk h B)(hd:Tc B off)(ho:off<=h'):dk h' B:=by
 cases B with
 |nil=>trivial
 |cons d B=>exact⟨ie (hd d B rfl) ho,hB.2⟩
theorem zM {B:Za4}{h h':Nat}(hB:dk h B)(hh:h<=h'):dk h' B:=by
 cases B with
 |nil=>trivial
 |cons d B=>exact⟨ie hB.1 hh,hB.2⟩
theorem pN {off:Nat}:∀(E:Za4) (h:Nat),dk h E->dk (h+off) (E.map (·+off))
 |[],_,_=>trivial
 |d::E,h,hh=>⟨Nat.add_le_add_right hh.1 _,by
  have:=pN (off:=off) E (d+1) hh.2;rw[show d+1+off=d+off+1 by lia] at this;exact this⟩
theorem Ym {off:Nat}:∀(E:Za4) (h:Nat),off<=h->off<=L7 h (E.map (·+off))
 |[],_,hh=>hh
 |d::E,h,_=>Ym E (d+off+1) (by lia)
theorem nX:∀(A:Za4),L7 0 A=opn A A.length:=by
 have key:∀(A:Za4) (h:Nat),L7 h A=if A.length=0 then h else dAt A (A.length-1)+1:=by
  intro A
  induction A with
  |nil=>intro h;rfl
  |cons d A ih=>
   intro h;show L7 (d+1) A=_;rw[ih (d+1)]
   cases A with
   |nil=>rfl
   |cons c A=>rfl
 intro A;rw[key A 0]
 cases h:A.length with
 |zero=>rfl
 |succ n=>rw[if_neg (by lia)];rfl
theorem xB {off:Nat}{E B:Za4}(hE:dk 0 E)(hB:Tc B off):Tc (E.map (·+off)++B) off:=by
 intro d C e
 cases E with
 |nil=>exact hB d C e
 |cons c E=>
  have:=hE.1;have e:c+off=d:=(oh e).1;lia
theorem wZ {A E B:Za4}{off:Nat}(h:dk 0 (A++B))(hE:dk 0 E)(ho:off<=L7 0 A)(hB:Tc B off):dk 0 (A++(E.map (·+off)++B)):=by
 obtain⟨h1,h2⟩:=(Kc A B 0).mp h;have h3:=pN (off:=off) E 0 hE;rw[qa] at h3;exact(Kc _ _ _).mpr ⟨h1,(Kc _ _ _).mpr ⟨zM h3 ho,tY h2 hB (Ym E _ ho)⟩⟩
theorem vD {A E B:Za4}{off:Nat}(h:dk 0 (A++(E.map (·+off)++B)))(ho:off<=L7 0 A)(hB:Tc B off):dk 0 (A++B):=by
 obtain⟨h1,h2⟩:=(Kc A _ 0).mp h;exact(Kc _ _ _).mpr ⟨h1,tY ((Kc _ _ _).mp h2).2 hB ho⟩
theorem gF (a b:Nat):dv (a+b) false=dv a false++dv b false:=by rw[List.replicate_append_replicate]
theorem Vy {h off:Nat}{B:Za4}(ho:off<=h)(hB:Tc B off):rwH h B=dv (h-off) false++rwH off B:=by
 cases B with
 |nil=>
  show dv h false=dv (h-off) false++dv off false;rw[<-gF,Nat.sub_add_cancel ho]
 |cons d B=>
  have:=hB d B rfl;show dv (h-d) false++_=dv (h-off) false++(dv (off-d) false++_);rw[<-gj,<-gF,show h-off+(off-d)=h-d by lia]
theorem pY {off:Nat}{B:Za4}(hB:Tc B off):∀(E:Za4) (h:Nat),dk h E->rwH (h+off) (E.map (·+off)++B)=rwH h E++rwH off B
 |[],h,_=>by
  show rwH (h+off) B=dv h false++_;rw[Vy (by lia) hB,ul]
 |d::E,h,hh=>by
  have ih:=pY hB E (d+1) hh.2;show dv (h+off-(d+off)) false++true::rwH (d+off+1) (E.map (·+off)++B)=(dv (h-d) false++true::rwH (d+1) E)++_;rw[show d+off+1=d+1+off by lia,ih,Nat.add_sub_add_right,gj];rfl
theorem lF:∀(A:Za4) (h:Nat),dk h A->∃P:Za5,P.length+L7 h A=h+2*A.length/\P.count true=A.length/\∀B,rwH h (A++B)=P++rwH (L7 h A) B
 |[],h,_=>⟨[],by show 0+h=h+2*0;lia,rfl,λB=>rfl⟩
 |d::A,h,hh=>by
  obtain⟨P,p1,p2,p3⟩:=lF A (d+1) hh.2;refine⟨dv (h-d) false++true::P,?_,?_,λB=>?_⟩
  ·have:=hh.1
   rw[d5,gm,fj,fj];show h-d+(P.length+1)+L7 (d+1) A=_;lia
  ·rw[iq,li,p2,y4]
   simp
  ·show dv (h-d) false++true::rwH (d+1) (A++B)=_
   rw[p3,gj];rfl
theorem Vu {A E B:Za4}{off:Nat}(hA:dk 0 A)(hE:dk 0 E)(ho:off<=L7 0 A)(hB:Tc B off):∃P S:Za5,P.length+off=2*A.length/\P.count true=A.length/\Aq (A++(E.map (·+off)++B))=P++(Aq E++S)/\Aq (A++B)=P++S:=by
 obtain⟨P,p1,p2,p3⟩:=lF A 0 hA;refine⟨P++dv (L7 0 A-off) false,rwH off B,?_,?_,?_,?_⟩
 ·rw[d5,gm]
  lia
 ·rw[iq,p2,y4]
  simp
 ·rw[eD,eD,p3,Vy ho (xB hE hB),gj]
  have:=pY hB E 0 hE;rw[qa] at this;rw[this]
 ·rw[eD,p3,Vy ho hB,gj]
theorem Wy {ds:Za4}(h:Dok ds){k:Nat}(hk:k<ds.length):∀d,k+1+d<=Cc ds k->(way ds (k+1+d))[dAt ds k+1]?=some (k:Int)
 |0,_=>by
  have hl:=Dy h k (by lia);have hd:=h k hk;show((way ds k).take (dAt ds k+1)++[(k:Int)])[dAt ds k+1]?=_;rw[e9 (by rw[d9];lia),d9,iy (by lia),jh];rfl
 |d+1,hd=>by
  have ih:=Wy h hk d (by lia);obtain⟨a,b,c,_⟩:=Cm (ds:=ds) hk;have hl:=Dy h (k+1+d) (by lia);have h2:=h (k+1+d) (by lia);have h3:=N5 h hk (k+1+d) (by lia) (by lia);show((way ds (k+1+d)).take (dAt ds (k+1+d)+1)++[((k+1+d:Nat):Int)])[dAt ds k+1]?=_;rw[fb (by rw[d9];lia),fe (by lia)];exact ih
theorem fW {ds:Za4}(h:Dok ds){k:Nat}(hk:k<ds.length)(he:Cc ds k<ds.length):dAt ds (Cc ds k)<=dAt ds k:=by
 obtain⟨a,b,c,d⟩:=Cm (ds:=ds) hk;have h1:=d he;have h2:=Wy h hk (Cc ds k-(k+1)) (by lia);rw[show k+1+(Cc ds k-(k+1))=Cc ds k by lia] at h2;have h3:=F1 h he
 by_cases hlt:dAt ds (Cc ds k)<=dAt ds k
 ·exact hlt
 ·exfalso
  by_cases e:dAt ds (Cc ds k)=dAt ds k+1
  ·rw[e,h2] at h3
   have:=d0 h3;lia
  ·have:=M1 h _ _ _ _ _ b (show dAt ds k+1<dAt ds (Cc ds k) by lia) h2 h3
   lia
theorem Uw {ds:Za4}(h:Dok ds){k j:Nat}(hk:k<ds.length)(h1:k<j)(h2:j<Cc ds k):eld ds j=(k:Int)↔dAt ds j=dAt ds k+1:=by
 obtain⟨a,b,c,d⟩:=Cm (ds:=ds) hk;have h3:=Wy h hk (j-(k+1)) (by lia);rw[show k+1+(j-(k+1))=j by lia] at h3;have h4:=F1 h (show j<ds.length by lia)
 constructor
 ·intro e
  obtain⟨v,hv,_,hd⟩:=Fg h (show j<ds.length by lia) (by lia);obtain rfl:v=k:=by lia
  exact hd
 ·intro e
  rw[e,h3] at h4;exact(d0 h4).symm
theorem vR {ds:Za4}(h:Dok ds){k j:Nat}(hk:k<ds.length)(hj:j<ds.length)(e:eld ds j=(k:Int)):k<j/\j<Cc ds k:=by
 have hlt:=qT h hj;refine⟨by lia,?_⟩
 by_cases h2:j<Cc ds k
 ·exact h2
 ·rcases sF h hk (by lia) hj with h3|h3
  ·lia
  ·have:=(Cm (ds:=ds) hk).1
   lia
def C3 (ds:Za4)(k:Nat):Za4:=(et (Cc ds k-(k+1))).map λi=>dAt ds (k+1+i)-(dAt ds k+1)
theorem E8 (ds:Za4)(k:Nat):(C3 ds k).length=Cc ds k-(k+1):=by unfold C3;rw[du,fh]
theorem P9 {ds:Za4}{k i:Nat}(h:i<Cc ds k-(k+1)):dAt (C3 ds k) i=dAt ds (k+1+i)-(dAt ds k+1):=by
 unfold dAt C3 ge;rw[d8,ij h];rfl
theorem Ig {ds:Za4}(h:Dok ds){k:Nat}(hk:k<ds.length):Dok (C3 ds k):=λi hi=>by
 obtain⟨a,b,c,d⟩:=Cm (ds:=ds) hk;rw[E8] at hi;rw[P9 hi];have h1:=h (k+1+i) (by lia)
 cases i with
 |zero=>
  have h1:dAt ds (k+1+0)<=dAt ds k+1:=h1;show _<=0;lia
 |succ i=>
  show _<=dAt (C3 ds k) i+1;rw[P9 (by lia)];have h1:dAt ds (k+1+(i+1))<=dAt ds (k+1+i)+1:=h1;have:=N5 h hk (k+1+i) (by lia) (by lia);lia
theorem Zl {ds:Za4}{a b:Nat}(h1:a<=b)(h2:b<=ds.length):ds=ds.take a++((ds.drop a).take (b-a)++ds.drop b):=by
 have e1:=(jv a ds).symm;have e2:=(jv (b-a) (ds.drop a)).symm;rw[wo,show a+(b-a)=b by lia] at e2;rw[e2] at e1;exact e1
theorem sK {ds es:Za4}{a b off:Nat}(h1:a<=b)(h2:b<=ds.length)(hl:es.length=b-a)(he:∀i,i<b-a->dAt ds (a+i)=dAt es i+off):(ds.drop a).take (b-a)=es.map (·+off):=by
 refine og λi=>?_
 by_cases hi:i<b-a
 ·have e:=he i hi
  unfold dAt ge at e;rw[dq (show a+i<ds.length by lia),dq (show i<es.length by lia)] at e;rw[fe hi,kh,d8,dq (show a+i<ds.length by lia),dq (show i<es.length by lia)];exact congrArg some e
 ·rw[gt (by rw[d9];lia),gt (by rw[du];lia)]
theorem jL {ds:Za4}(h:Dok ds){k:Nat}(hk:k<ds.length):ds=ds.take k++((Nr ds k).map (·+dAt ds k)++ds.drop (Cc ds k)):=by
 obtain⟨a,b,c,d⟩:=Cm (ds:=ds) hk;have:=Zl (ds:=ds) (a:=k) (b:=Cc ds k) (by lia) b;rw[sK (es:=Nr ds k) (off:=dAt ds k) (by lia) b (Lz _ _) λi hi=>?_] at this
 ·exact this
 ·rw[Wx hi]
  cases i with
  |zero=>show _=dAt ds (k+0)-dAt ds k+dAt ds k;rw[kl];lia
  |succ i=>
   have:=N5 h hk (k+(i+1)) (by lia) (by lia);lia
theorem fH {ds:Za4}{a off:Nat}(h:a<ds.length->dAt ds a<=off):Tc (ds.drop a) off:=by
 intro d C e
 by_cases ha:a<ds.length
 ·rw[oM ha] at e
  rw[<-(oh e).1];exact h ha
 ·rw[i6 (by lia)] at e
  cases e
theorem W2 {ds:Za4}{a:Nat}(ha:a<=ds.length):L7 0 (ds.take a)=opn ds a:=by
 rw[nX,d9,iy ha]
 cases a with
 |zero=>rfl
 |succ a=>
  show dAt (ds.take (a+1)) a+1=dAt ds a+1;unfold dAt ge;rw[fe (by lia)]
theorem Y1 {ds:Za4}:∀{a b:Nat},a<=b->b<=ds.length->way (ds.take b) a=way ds a
 |0,_,_,_=>rfl
 |a+1,b,h1,h2=>by
  have ih:=Y1 (ds:=ds) (a:=a) (b:=b) (by lia) h2;show(way (ds.take b) a).take (dAt (ds.take b) a+1)++_=(way ds a).take (dAt ds a+1)++_;have e:dAt (ds.take b) a=dAt ds a:=by
   unfold dAt ge;rw[fe (by lia)]
  rw[ih,e]
theorem xP {ds:Za4}{a:Nat}(ha:a<=ds.length):B2 (ds.take a)=(B2 ds).take a:=by
 refine og λi=>?_
 by_cases hi:i<a
 ·rw[F4 (by rw[d9];lia),fe hi,F4 (by lia)]
  unfold eld;rw[Y1 (by lia) ha];unfold dAt ge;rw[fe hi]
 ·rw[gt (by rw[Bc,d9];lia),gt (by rw[d9];lia)]
def vQ (ds:Za4)(k:Nat):Za4:=ds.take k++ds.drop (Cc ds k)
def Mn (ds es:Za4)(a off:Nat):Za4:=ds.take a++(es.map (·+off)++ds.drop a)
theorem qK {ds:Za4}(h:Dok ds){k:Nat}(hk:k<ds.length):Dok (vQ ds k)/\∃P S:Za5,P.length+dAt ds k=2*k/\P.count true=k/\Aq ds=P++(Aq (Nr ds k)++S)/\Aq (vQ ds k)=P++S:=by
 obtain⟨a,b,c,d⟩:=Cm (ds:=ds) hk;have hs:=jL h hk;have hd:=Kx.mp h;have ho:dAt ds k<=L7 0 (ds.take k):=by rw[W2 (by lia)];exact h k hk
 have hB:Tc (ds.drop (Cc ds k)) (dAt ds k):=fH λhe=>fW h hk he;rw[hs] at hd;obtain⟨P,S,p1,p2,p3,p4⟩:=Vu ((Kc _ _ _).mp hd).1 (Kx.mp (qV h hk)) ho hB;rw[d9,iy (by lia)] at p1 p2;rw[<-hs] at p3;exact⟨Kx.mpr (vD hd ho hB),P,S,p1,p2,p3,p4⟩
theorem Ts {ds es:Za4}(h:Dok ds)(he:Dok es){a off:Nat}(ha:a<=ds.length)(ho:off<=opn ds a)(hB:a<ds.length->dAt ds a<=off):Dok (Mn ds es a off)/\∃P S:Za5,P.length+off=2*a/\Aq ds=P++S/\Aq (Mn ds es a off)=P++(Aq es++S):=by
 have hd:=Kx.mp h;have ho:off<=L7 0 (ds.take a):=by rw[W2 ha];exact ho
 have hB:=fH hB;rw[<-jv a ds] at hd;obtain⟨P,S,p1,p2,p3,p4⟩:=Vu ((Kc _ _ _).mp hd).1 (Kx.mp he) ho hB;rw[d9,iy ha] at p1;rw[jv] at p4;exact⟨Kx.mpr (wZ hd (Kx.mp he) ho hB),P,S,p1,p4,p3⟩
def hg (l:Za5)(i:Nat):Int:=2*((l.take i).count true:Int)-i
theorem Ls (b:Bool)(l:Za5)(i:Nat):hg (b::l) (i+1)=(if b then 1 else -1)+hg l i:=by
 unfold hg;rw[pw,li];cases b<;>simp<;>lia
theorem Oe {P X:Za5}(i:Nat):hg (P++X) (P.length+i)=hg P P.length+hg X i:=by
 unfold hg;rw[List.take_append,fm (show P.length<=P.length+i by lia),lx,iq,gy];lia
theorem Uq {P X:Za5}{i:Nat}(h:i<=P.length):hg (P++X) i=hg P i:=by
 unfold hg;rw[vn h]
theorem oO:∀(l:Za5) (h:Nat),Vs h l->(∀i,i<=l.length->0<=(h:Int)+hg l i)/\(h:Int)+hg l l.length=0
 |[],h,hv=>by
  have hv:h=0:=hv;subst hv;refine⟨λi hi=>?_,rfl⟩;obtain rfl:i=0:=by simpa using hi
  exact tw _
 |true::l,h,hv=>by
  obtain⟨h1,h2⟩:=oO l (h+1) hv;refine⟨λi hi=>?_,?_⟩
  ·cases i with
   |zero=>show(0:Int)<=h+(2*0-0);lia
   |succ i=>
    have:=h1 i (by simp at hi;lia);rw[Ls];simp only[if_true];lia
  ·rw[fj,Ls]
   simp only[if_true];lia
 |false::l,h,hv=>by
  obtain⟨h0,hv⟩:=hv;obtain⟨g,rfl⟩:∃g,h=g+1:=⟨h-1,by lia⟩;obtain⟨h1,h2⟩:=oO l g hv;refine⟨λi hi=>?_,?_⟩
  ·cases i with
   |zero=>show(0:Int)<=_+(2*0-0);lia
   |succ i=>
    have:=h1 i (by simp at hi;lia);rw[Ls];simp only[md,if_false];lia
  ·rw[fj,Ls]
   simp only[md,if_false];lia
theorem Oi {ds:Za4}(h:Dok ds):(∀i,i<=2*ds.length->0<=hg (Aq ds) i)/\hg (Aq ds) (2*ds.length)=0:=by
 have:=oO _ _ (nD h);rw[Bh h] at this;exact⟨λi hi=>by have:=this.1 i hi;lia,by have:=this.2;lia⟩
theorem xA {P:Za5}{a off:Nat}(h1:P.length+off=2*a)(h2:P.count true=a):hg P P.length=off:=by
 unfold hg;rw[lx,h2];lia
theorem qX {ds:Za4}(h:Dok ds){k:Nat}(hk:k<ds.length):Aq (Nr ds k)=true::(Aq (C3 ds k)++[false]):=by
 obtain⟨a,b,c,d⟩:=Cm (ds:=ds) hk;have hu:=Ig h hk;have e:Nr ds k=[0]++((C3 ds k).map (·+1)++[]):=by
  rw[kq];refine og λi=>?_
  by_cases hi:i<Cc ds k-k
  ·have e1:=Wx hi
   unfold dAt ge at e1;rw[dq (show i<(Nr ds k).length by rw[Lz];exact hi)] at e1;rw[dq (show i<(Nr ds k).length by rw[Lz];exact hi)];have e1:(Nr ds k)[i]'(by rw[Lz];exact hi)=dAt ds (k+i)-dAt ds k:=e1;rw[e1]
   cases i with
   |zero=>rw[kl,jh];rfl
   |succ i=>
    have e2:=P9 (ds:=ds) (k:=k) (i:=i) (by lia);unfold dAt ge at e2;rw[dq (show i<(C3 ds k).length by rw[E8];lia)] at e2;have e2:(C3 ds k)[i]'(by rw[E8];lia)=dAt ds (k+1+i)-(dAt ds k+1):=e2;show _=((C3 ds k).map (·+1))[i]?;rw[d8,dq (show i<(C3 ds k).length by rw[E8];lia),e2];have:=N5 h hk (k+1+i) (by lia) (by lia);show some _=some (dAt ds (k+1+i)-(dAt ds k+1)+1);rw[show k+(i+1)=k+1+i by lia];congr 1;lia
  ·rw[gt (by rw[Lz];lia),gt (by rw[d5,du,E8];simp only[fj,gw];lia)]
 obtain⟨P,S,p1,p2,p3,p4⟩:=Vu (A:=[0]) (B:=[]) (off:=1) (show dk 0 [0] from⟨d3 _,trivial⟩) (Kx.mp hu) (d3 _) (λd C e=>by cases e);rw[e,p3];have p5:P++S=[true,false]:=p4.symm;have p1:P.length=1:=by simp only[fj,gw] at p1;lia
 match P,p1 with
 |[x],_=>
  have e1:x=true:=(oh p5).1;have e2:S=[false]:=(oh p5).2;rw[e1,e2];rfl
theorem Xo {ds:Za4}(h:Dok ds){k:Nat}(hk:k<ds.length):∃P S:Za5,P.length+dAt ds k=2*k/\P.count true=k/\Aq ds=P++(true::(Aq (C3 ds k)++false::S))/\Aq (vQ ds k)=P++S:=by
 obtain⟨_,P,S,p1,p2,p3,p4⟩:=qK h hk;refine⟨P,S,p1,p2,?_,p4⟩;rw[p3,qX h hk];show P++(true::((Aq (C3 ds k)++[false])++S))=_;rw[gj];rfl
theorem M7 {l:Za5}{p q:Nat}(h1:l[p]?=some true)(h2:p<q):(l.take p).count true<(l.take q).count true:=by
 have e:l.take q=l.take p++(true::(l.drop (p+1)).take (q-(p+1))):=by
  have h3:=(fc.mp h1).1;have e1:l.drop p=true::l.drop (p+1):=by
   rw[ke h3];rw[dq h3] at h1;rw[d0 h1]
  rw[show q=p+(q-p) by lia,pi,e1,show p+(q-p)-(p+1)=q-(p+1) by lia,show q-p=(q-(p+1))+1 by lia,pw]
 rw[e,iq,li];simp
theorem kF {l:Za5}{p q:Nat}(h1:l[p]?=some true)(h2:l[q]?=some true)(h3:(l.take p).count true=(l.take q).count true):p=q:=by
 rcases qt p q with h|h|h
 ·have:=M7 h1 h;lia
 ·exact h
 ·have:=M7 h2 h;lia
theorem P4 {ds:Za4}(h:Dok ds){k:Nat}(hk:k<ds.length):dAt ds k<=2*k/\(Aq ds)[2*k-dAt ds k]?=some true/\((Aq ds).take (2*k-dAt ds k)).count true=k:=by
 obtain⟨P,S,p1,p2,p3,_⟩:=Xo h hk;have e:2*k-dAt ds k=P.length:=by lia
 refine⟨by lia,?_,?_⟩
 ·rw[p3,e,e9 (d3 _),jh]
  rfl
 ·rw[p3,e,wm,p2]
theorem tD {ds:Za4}(h:Dok ds){k p:Nat}(hk:k<ds.length)(h1:(Aq ds)[p]?=some true)(h2:((Aq ds).take p).count true=k):p+dAt ds k=2*k:=by
 obtain⟨a,b,c⟩:=P4 h hk;have:=kF h1 b (by rw[h2,c]);lia
theorem Wk {ds:Za4}(h:Dok ds){p:Nat}(hp:p<2*ds.length):hg (Aq ds) p=0↔∃j,j<ds.length/\eld ds j=-1/\p=2*j:=by
 constructor
 ·intro e
  have hl:=Bh h;obtain⟨c,hc⟩:∃c,((Aq ds).take p).count true=c:=⟨_,rfl⟩;have hp2:p=2*c:=by unfold hg at e;rw[hc] at e;lia
  have hpl:p<(Aq ds).length:=by lia
  have hb:(Aq ds)[p]?=some true:=by
   rw[dq hpl]
   cases hx:(Aq ds)[p] with
   |true=>rfl
   |false=>
    exfalso;have h1:=(Oi h).1 (p+1) (by lia);unfold hg at h1 e;rw[ip,dq hpl,hx,iq] at h1;simp at h1;lia
  have hcl:c<ds.length:=by lia
  have:=tD h hcl hb hc;refine⟨c,hcl,?_,hp2⟩;have hd:dAt ds c=0:=by lia
  have:=F1 h hcl;rw[hd,Dg h c (by lia)] at this;exact(d0 this).symm
 ·rintro⟨j,hj,he,rfl⟩
  have hd:=Lu h hj he;obtain⟨a,b,c⟩:=P4 h hj;rw[hd,mz] at c;unfold hg;rw[c];lia
theorem rS {ds:Za4}(h:Dok ds){t:Nat}(ht:t<=ds.length):((et (2*t)).filter λi=>decide (hg (Aq ds) i=0)).length=(B4 ds t (-1)).length:=by
 have e:((et (2*t)).filter λi=>decide (hg (Aq ds) i=0))=(B4 ds t (-1)).map (2 * ·):=by
  refine gE (vq _ ya) ?_ λx=>?_
  ·unfold B4
   rw[List.pairwise_map];exact(vq _ ya).imp λhab=>by lia
  ·rw[r9,jn,lj]
   constructor
   ·rintro⟨h1,h2⟩
    obtain⟨j,hj,he,rfl⟩:=(Wk h (by lia)).mp (of_decide_eq_true h2);exact⟨j,Sr.mpr ⟨by lia,he⟩,rfl⟩
   ·rintro⟨j,hj,rfl⟩
    obtain⟨h1,h2⟩:=Sr.mp hj;exact⟨by lia,decide_eq_true ((Wk h (by lia)).mpr ⟨j,by lia,h2,rfl⟩)⟩
 rw[e,du]
theorem Sd {ds:Za4}(h:Dok ds){k:Nat}(hk:k<ds.length):∀t,t<=Cc ds k-(k+1)->(B4 (C3 ds k) t (-1)).length=(B4 ds (k+1+t) k).length
 |0,_=>by
  rw[kl,Tn h (k:=k+1) (v:=k) (by lia) (d3 _)];rfl
 |t+1,ht=>by
  have ih:=Sd h hk t (by lia);obtain⟨a,b,c,d⟩:=Cm (ds:=ds) hk;have hu:=Ig h hk;have hkd:=Uw h hk (j:=k+1+t) (by lia) (by lia);have hdi:=N5 h hk (k+1+t) (by lia) (by lia);have hua:=P9 (ds:=ds) (k:=k) (i:=t) (by lia);have htl:t<(C3 ds k).length:=by rw[E8];lia
  show _=(B4 ds (k+1+t+1) k).length
  by_cases e:eld ds (k+1+t)=(k:Int)
  ·have e2:eld (C3 ds k) t=-1:=by
    have:=F1 hu htl;rw[hua,hkd.mp e,jh,Dg hu _ (by lia)] at this;exact(d0 this).symm
   rw[Le e,Le e2,d5,d5,ih];rfl
  ·have e2:eld (C3 ds k) t≠-1:=λz=>e (hkd.mpr (by
    have:=Lu hu htl z;lia))
   rw[Lk e,Lk e2,ih]
theorem Uy {ds:Za4}(h:Dok ds){k:Nat}(hk:k<ds.length):∃A B:Za5,A.length=2*k-dAt ds k+1/\Aq ds=A++(Aq (C3 ds k)++B)/\dAt ds k<=2*k/\hg (Aq ds) (2*k-dAt ds k)=dAt ds k/\(∀j,j<=2*(C3 ds k).length->hg (Aq ds) (A.length+j)=dAt ds k+1+hg (Aq (C3 ds k)) j)/\hg (Aq ds) (A.length+2*(C3 ds k).length+1)=dAt ds k:=by
 obtain⟨P,S,p1,p2,p3,_⟩:=Xo h hk;have hu:=Ig h hk;have hl:=Bh hu;have hP:=xA p1 p2;have hA:hg (P++[true]) (P++[true]).length=dAt ds k+1:=by
  rw[d5,Oe,hP];show(dAt ds k:Int)+hg [true] 1=_;rw[Ls];simp[hg]
 have e:Aq ds=(P++[true])++(Aq (C3 ds k)++false::S):=by rw[p3,gj];rfl
 refine⟨P++[true],false::S,by rw[d5];show P.length+1=_;lia,e,by lia,?_,λj hj=>?_,?_⟩
 ·rw[p3,show 2*k-dAt ds k=P.length by lia,Uq (d3 _),hP]
 ·rw[e,Oe,hA,Uq (by lia)]
 ·rw[e,qw,Oe,hA,<-hl,Oe]
  have e1:=(Oi hu).2;rw[<-hl] at e1;rw[e1,Ls];simp[hg];lia
def GAt (ds:Za4)(ko:Option Nat)(place a off:Nat)(top:Int):Prop:=match ko with
 |some k=>k<ds.length/\off=dAt ds k+1/\top=(k:Int)/\k<a/\a<=Cc ds k/\(B4 ds a k).length=place/\(a=Cc ds k\/a<Cc ds k/\eld ds a=(k:Int))
 |none=>off=0/\top=-1/\a<=ds.length/\(B4 ds a (-1)).length=place/\(a=ds.length\/a<ds.length/\eld ds a=-1)
theorem GAt.ok {ds:Za4}(h:Dok ds){ko:Option Nat}{place a off:Nat}{top:Int}(g:GAt ds ko place a off top):a<=ds.length/\off<=opn ds a/\(a<ds.length->dAt ds a<=off)/\(way ds a)[off]?=some top:=by
 cases ko with
 |none=>
  obtain⟨rfl,rfl,h3,h4,h5⟩:=g;refine⟨h3,fg _,λhlt=>?_,Dg h a h3⟩;rcases h5 with h5|h5
  ·lia
  ·rw[Lu h hlt h5.2]
   exact d3 _
 |some k=>
  obtain⟨hk,rfl,rfl,h3,h4,h5,h6⟩:=g;obtain⟨e1,e2,_⟩:=Cm (ds:=ds) hk;have hw:=Wy h hk (a-(k+1)) (by lia);rw[show k+1+(a-(k+1))=a by lia] at hw;have hl:=Dy h a (by lia);have hlt:=(fc.mp hw).1;refine⟨by lia,by lia,λhlt=>?_,hw⟩;rcases h6 with h6|h6
  ·have:=fW h hk (by lia)
   rw[<-h6] at this;lia
  ·exact oj ((Uw h hk h3 h6.1).mp h6.2)
theorem X6 {ds:Za4}(h:Dok ds){k:Nat}(hk:k<ds.length):B4 ds ds.length k=B4 ds (Cc ds k) k:=by
 obtain⟨e1,e2,_⟩:=Cm (ds:=ds) hk;have:=Tq (ds:=ds) (v:=(k:Int)) (ds.length-Cc ds k) (Cc ds k) λi h1 h2 he=>by
  have:=vR h hk (show i<ds.length by lia) he;lia
 rw[show Cc ds k+(ds.length-Cc ds k)=ds.length by lia] at this;exact this
theorem oQ {ds:Za4}{v:Int}{a b:Nat}(h:a<=b):(B4 ds a v).length<=(B4 ds b v).length:=by
 have:=Ud (ds:=ds) (v:=v) (b-a) a;rw[show a+(b-a)=b by lia] at this;exact this
end TW
end
section
namespace L2
open PySem PySem.Spec PyProof.Rows
variable {C CS Pt dx i1 i2 it l1 l2 z:dw} {params:lu} {A:ii} {CX:CXT} {op:ss} {X:Cx} {env:Env} {tg:gq} {fd:i3} {base h h' h1:im} {H H' H1 H2:Hp} {J:It} {pins:Za1} {fp:List dw} {outer:List Env} {elts:List gq} {ns:List Int} {ix:Za4} {N ps:Za6} {ts:List Tb} {xs:List V} {us vs:Za3} {M:rk} {off t':Nat} {oT:Obj} {od:Option dw} {pos:Pos} {scope:lm} {pl:Sem Bool} {s s2:eg} {sp:Sp} {st:io} {qual:Str} {tk:TA} {te:TE} {wi:TI} {y:V} {pm:ed} {w:gr}
section
variable {prog:fq} {w:gr} {A:ii} {E:Za0} {s:eg}
def Y8 (v:ed):List (Str×ed):=[(kj "start",v)]
def Ko (v:ed)(n:Int):Obj:={ cls:=.type "enumerate",data:=.fields #[.none,.bool false,v,rawInt n,.none,.none] }
theorem kP (a v:ed):checkTypeCall "enumerate" ⟨[a],Y8 v⟩=pure ():=by kernel_rfl
theorem qN (a v:ed):checkBuiltinCall "enumerate.__new__" ⟨[.type "enumerate",a],Y8 v⟩=pure ():=by kernel_rfl
theorem mL (o a v:ed):argsOk "object.__init__" ⟨[o,a],Y8 v⟩:=by
 unfold argsOk;rw[signature?_of (id:="object.__init__") (n:=['_','_','t','i','n','i','_','_']) (o:=['t','c','e','j','b','o']) (by kernel_rfl) F.owner_object];kernel_rfl
theorem qH (x:ed)(n:Int)(u:Tok)(hf:jd n=true) :
  MeetsIn prog w (ro.«enumerate.__new__» ⟨[.type "enumerate",x],Y8 (.int n u)⟩) (λA R s=>wpAny (model prog w) A.in1 (pyIter x) (λv s1=>R (.ok (.ret (.ref s1.heap.objs.size))) { s1 with heap:=s1.heap.push (Ko v n) }) (λe s1=>R (.error e) s1) s):=
 .of_wp λA R s h=>by
  have e0:=sub_enumerate
  wp_walk
  refine wpAny_stack_any λst=>ez ?_;have go:wpAny (model prog w) A.in1 (pyIter x >>= λv=>AE (.type "enumerate") (AD++[v,rawInt n,.none,.none]) >>= λr=>ret r) (λfin s'=>∃v,fin=Fin.done (.ret v)/\R (.ok (.ret v)) s') (λe s'=>R (.error e) s') s:=by
   refine wpAny_bind (iw h (λv s1 h1=>?_) λ_ _ z=>z)
   wp_walk
   exact⟨_,rfl,h1⟩
  have fin:wpAny (model prog w) A.in1 (AF "enumerate.__new__" (.int n u)) (λv s1=>v=.int n u/\s1=s) (λe s'=>R (.error e) s') s:=by
   show wpAny _ _ (pure (mq n u)) _ _ _;exact ez ⟨rfl,rfl⟩
  split
  ·rename_i c _ _ _ _ _
   cases(c==iz "enumerate")
   ·refine wpAny_bind ?_
    refine' na (a:=(x,some (.int n u))) ?eqA ?eqB
    case eqA=>kernel_rfl
    case eqB=>
     refine wpAny_bind (iw fin (λv s1 hv=>?_) λ_ _ z=>z);obtain⟨rfl,rfl⟩:=hv;refine wpAny_bind (ez ?_);show wpAny _ _ (if(!jd n)=true then _ else _) _ _ _;rw[hf];exact go
   ·refine wpAny_bind ?_
    refine' na (a:=(x,some (.int n u))) ?eqC ?eqD
    case eqC=>kernel_rfl
    case eqD=>
     refine wpAny_bind (iw fin (λv s1 hv=>?_) λ_ _ z=>z);obtain⟨rfl,rfl⟩:=hv;refine wpAny_bind (ez ?_);show wpAny _ _ (if(!jd n)=true then _ else _) _ _ _;rw[hf];exact go
  ·refine wpAny_bind ?_
   refine' na (a:=(x,some (.int n u))) ?eqF ?eqG
   case eqF=>kernel_rfl
   case eqG=>
    refine wpAny_bind (iw fin (λv s1 hv=>?_) λ_ _ z=>z);obtain⟨rfl,rfl⟩:=hv;refine wpAny_bind (ez ?_);show wpAny _ _ (if(!jd n)=true then _ else _) _ _ _;rw[hf];exact go
theorem jM {o a v:ed}:Meets (ro.«object.__init__» ⟨[o,a],Y8 v⟩) (λ_ R s=>s.TypeIs o "enumerate"/\R (.ok (.ret .none)) s):=by
 have l1:=u9.init.lookup;have l2:=u9.made;refine Meets.of_wp λprog w A R s ⟨hT,hq⟩=>?_
 repeat (any_goals (first|assumption|wp_step))
 exact⟨_,rfl,hq⟩
theorem Yd {x:ed}{n:Int}{u:Tok}{Q:Za0}(hf:jd n=true)
  (h:wpAny (model prog w) A.in1.in1 (pyIter x) (λv s1=>Q (.ref s1.heap.objs.size) { s1 with heap:=s1.heap.push (Ko v n) }) E s):wpAny (model prog w) A (call (.type "enumerate") [x] (Y8 (.int n u))) Q E s:=by
 have ft:=u9;obtain⟨c,tl,m0⟩:=ft.mro;have m1:=ft.made;have m2:=ft.sub;have m3:=ft.notType;have m4:=ft.canCreate;have m5:=kP x (.int n u);refine lh (DU ?_);show wpAny _ _ (callAny (.type "enumerate") _) _ _ _;refine ez ⟨qh _ (by decide +kernel),lr F.entry_type_call ?_⟩;rw[Around.under_plain (weight_type_call_type "enumerate" [x] (Y8 (.int n u))) (units_type_call_type "enumerate" [x] (Y8 (.int n u)))]
 repeat (any_goals (first|assumption|wp_step))
 have g:=qH (prog:=prog) (w:=w) x n u hf A.in1 (wants (λobj s1=>s1.TypeIs obj "enumerate"/\Q obj s1) E) s (iw h (λv s1 hv=>⟨⟨_,gk _ rfl,rfl⟩,hv⟩) λ_ _ z=>z);refine la (kr ft.plain F.entry_enumerate_new (na (qN x (.int n u)) g)) λr s1 hr=>?_
 cases r with
 |error e=>exact hr
 |ok fl=>
  cases fl with
  |ret obj=>
   obtain⟨hT,hq⟩:=hr;have m6:=ft.init.lookup;have m7:=ft.init.bind obj
   repeat (any_goals (first|assumption|wp_step))
   have gi:=jM (o:=obj) (a:=x) (v:=.int n u) prog w A.in1 (wants (λr s2=>r=.none/\Q obj s2) E) s1 ⟨hT,rfl,hq⟩;refine la (kr ft.init.plain F.entry_object_init (ft.init.check _ _ _ _ _ _ _ _ hT (mL obj x _) gi)) λr2 s2 hr2=>?_
   cases r2 with
   |error e=>exact hr2
   |ok f2=>
    cases f2 with
    |ret r=>
     obtain⟨rfl,hq2⟩:=hr2
     repeat (any_goals (first|assumption|wp_step))
    |_=>exact hr2.elim
  |_=>exact hr.elim
end
theorem J9 {prog:fq}{n:Nat}{P:Nat->ed->Prop}{St:Nat->im->Prop}(D:CO prog w A it fp n P St)(k:Nat) :
  CO prog w A it fp (k+n) (λi v=>k<=i/\P (i-k) v) (λi h=>k<=i/\St (i-k) h) where
 live:=λi h st=>D.live _ _ st.2
 frame:=λi h h' st f=>⟨st.1,D.frame _ _ _ st.2 f⟩
 item:=λi s Q E hi st hQ=>D.item (i-k) s Q E (by have:=st.1;lia) st.2 λx h' tk hP hS hB=>hQ x h' tk ⟨st.1,hP⟩ ⟨uz st.1,by rw[show i+1-k=i-k+1 by have:=st.1;lia];exact hS⟩ hB
 done:=λs Q E st hE=>D.done s Q E (by have:=st.2;rwa [gy] at this) hE
def eL (k:Nat)(z:Str):It:=
 ⟨λi _=>i<z.cps.size,λi H v H'=>∃t c,H t=none/\v=.ref t/\z.cps[i]?=some c/\H'=upd H t (.tup [.int ((k+i:Nat):Int),.str (sgn c)]),λi _=>i=z.cps.size⟩
def sY (k:Nat)(K:dn)(a:dw):It:=
 ⟨λi H=>∃xs x,SqL K H a xs/\xs[i]?=some x,
  λi H v H'=>∃t x,H t=none/\v=.ref t/\(∀xs,SqL K H a xs->xs[i]?=some x)/\H'=upd H t (.tup [.int ((k+i:Nat):Int),x]),
  λi H=>∃xs,SqL K H a xs/\i=xs.length⟩
theorem Xv {P:fq}{K:dn}{m k:Nat}{e:dw}{z:Str}{ty:String}{t:Tok}(hne:e≠it)
  (D:∀A':ii,A'.handled=none->CO P w A' it [it] z.cps.size (λi v=>∃c u,z.cps[i]?=some c/\v=.str ⟨#[c]⟩ u) (λi h=>h.IsStrIter it ty z t i)) :
  Ob P w K (.Tuple elts m pos) (eL k z) [e,it] e (λi h=>(∃old,zy h e it ((k+i:Nat):Int) old)/\h.IsStrIter it ty z t i) where
 mem:=by simp
 obj:=λi h st c hc=>by
  obtain⟨⟨old,he⟩,⟨o1,e1,c1,d1⟩⟩:=st;rcases gd.mp hc with rfl|hc
  ·exact⟨_,he,λv z=>by cases z⟩
  ·obtain rfl:=k7.mp hc
   exact⟨_,e1,λv z=>by rw[d1] at z;cases z⟩
 keep:=λi h h' st kk=>⟨st.1.imp λold he=>kk _ (by simp) _ he,st.2.imp λo r=>⟨kk _ (by simp) o r.1,r.2⟩⟩
 item:=by
  intro X hP hw hK hc i pins s G H E I hf st hg;subst hP hw hK;have W:=mh (J9 (D X.A.in1 (I.ok.hd hc)) k) e hne (by simpa using hne) (by simp);refine W.item (k+i) s _ _ (zn hg k) ⟨st.1,l4 _ _,by rw[gy];exact st.2⟩ λT vals h' tk hv hT hTu mid kk=>?_;obtain⟨t1,x,⟨_,c,u,hc',rfl⟩,rfl⟩:=hv;rw[gy] at hc';have nT:=W.apart (k+i) T h' mid;refine⟨.ref T,rfl,W.go elts m pos (k+i) T { s with heap:=h',toks:=tk } _ _ mid λh'' st'' kk2=>?_⟩;have tu:h''.IsTuple T ([mq ((k+i:Nat):Int) t1,sv ⟨#[c]⟩ u]:Za3).toArray:=hTu.imp λo r=>⟨kk2 T o nT r.1,r.2⟩;have I2:Inv X pins G (upd H T (.tup [.int ((k+i:Nat):Int),.str (sgn c)])) { s with heap:=h'',toks:=tk }:=I.turnT (t':=tk) (λb o hb e=>kk2 b o hb (kk b o hb e)) (λb hb=>hf b hb) hT tu (.cons ⟨t1,rfl⟩ (.cons ⟨u,rfl⟩ .nil)) (show 2<=sizeLine by decide);refine⟨.ref T,_,I2,rfl,⟨T,c,I.hok.fresh hT,rfl,hc',rfl⟩,⟨by rw[qw] at st'';exact st''.1,by have:=st''.2.2;rwa [show k+i+1-k=i+1 by lia] at this⟩,λb hb=>?_⟩;have hlt:b<s.heap.objs.size:=by
   obtain⟨⟨old,s1⟩,⟨o5,s5,_⟩⟩:=id st;rcases gd.mp hb with rfl|hb
   ·exact ee s1
   ·obtain rfl:=k7.mp hb
    exact ee s5
  rw[Aj (fu (d7 hlt hT))];exact(hf b hb).1
 done:=by
  intro X hP hw hK hc i pins s G H E I hf st hg;subst hP hw hK;have W:=mh (J9 (D X.A.in1 (I.ok.hd hc)) k) e hne (by simpa using hne) (by simp);obtain rfl:i=z.cps.size:=hg;exact W.done s _ _ ⟨st.1,l4 _ _,by rw[gy];exact st.2⟩ λh' tk kk=>⟨rfl,I.turnW (t':=tk) kk λb hb=>hf b hb⟩
 self:=λ_ _ _ _ _ st h=>kx (nr st.1) h
theorem Xl {P:fq}{K:dn}{m k:Nat}(e it a:dw)(hne:e≠it) :
  Ob P w K (.Tuple elts m pos) (sY k K a) [e,it] e (λi h=>(∃old,zy h e it ((k+i:Nat):Int) old)/\h.IsListIter it a i) where
 mem:=by simp
 obj:=λi h st c hc=>by
  obtain⟨⟨old,he⟩,⟨o1,e1,c1,d1⟩⟩:=st;rcases gd.mp hc with rfl|hc
  ·exact⟨_,he,λv z=>by cases z⟩
  ·obtain rfl:=k7.mp hc
   exact⟨_,e1,λv z=>by rw[d1] at z;cases z⟩
 keep:=λi h h' st kk=>⟨st.1.imp λold he=>kk _ (by simp) _ he,st.2.at λo e=>kk _ (by simp) o e⟩
 item:=by
  intro X hP hw hK hc i pins s G H E I hf st hg;subst hP hw hK;obtain⟨xs,x,ha,hx⟩:=hg;obtain⟨its,rv,p,hz⟩:=I.list ha;obtain⟨⟨old,s1⟩,s2⟩:=id st;have n1:a≠e:=by obtain⟨oa,ea,ca,_⟩:=p.isList;exact Eb ea s1 (by rw[ca];exact show iz "list"≠iz "enumerate" by decide)
  have n2:a≠it:=by obtain⟨oa,ea,ca,_⟩:=p.isList;obtain⟨o1,e1,c1,_⟩:=s2;exact Eb ea e1 (by rw[ca,c1];decide)
  have W:=mh (J9 (DP (prog:=X.prog) (w:=X.w) (A:=X.A.in1) (I.ok.hd hc) it a n2 its.toArray) k) e hne (by simp;exact⟨hne,λz=>n1 z.symm⟩) (by simp);obtain⟨u1,hu1,ru1⟩:=rv.get hx;have l1:=(fc.mp hu1).1;refine W.item (k+i) s _ _ (zn (by simpa using l1) k) ⟨⟨old,s1⟩,l4 _ _,by rw[gy];exact⟨s2,p.isList⟩⟩ λT vals h' tk hv hT hTu mid kk=>?_;obtain⟨t,v1,⟨_,e1⟩,rfl⟩:=hv;obtain rfl:v1=u1:=by rw[gy] at e1;simp only[ot] at e1;rw[hu1] at e1;exact(d0 e1).symm
  have nT:=W.apart (k+i) T h' mid;refine⟨.ref T,rfl,W.go elts m pos (k+i) T { s with heap:=h',toks:=tk } _ _ mid λh'' st'' kk2=>?_⟩;have tu:h''.IsTuple T ([mq ((k+i:Nat):Int) t,v1]:Za3).toArray:=hTu.imp λo r=>⟨kk2 T o nT r.1,r.2⟩;have I2:Inv X pins G (upd H T (.tup [.int ((k+i:Nat):Int),x])) { s with heap:=h'',toks:=tk }:=I.turnT (t':=tk) (λb o hb e=>kk2 b o hb (kk b o hb e)) (λb hb=>hf b hb) hT tu (.cons ⟨t,rfl⟩ (.cons ru1 .nil)) (show 2<=sizeLine by decide);refine⟨.ref T,_,I2,rfl,⟨T,x,I.hok.fresh hT,rfl,λxs' h=>by rw[I.list_inj h ha];exact hx,rfl⟩,⟨by rw[qw] at st'';exact st''.1,by have:=st''.2.2.1;rwa [show k+i+1-k=i+1 by lia] at this⟩,λc hc'=>?_⟩;have hlt:c<s.heap.objs.size:=by
   obtain⟨o5,s5,_⟩:=s2;rcases gd.mp hc' with rfl|hc'
   ·exact ee s1
   ·obtain rfl:=k7.mp hc'
    exact ee s5
  rw[Aj (fu (d7 hlt hT))];exact(hf c hc').1
 done:=by
  intro X hP hw hK hc i pins s G H E I hf st hg;subst hP hw hK;obtain⟨xs,ha,hi⟩:=hg;obtain⟨its,rv,p,hz⟩:=I.list ha;obtain⟨⟨old,s1⟩,s2⟩:=id st;have n1:a≠e:=by obtain⟨oa,ea,ca,_⟩:=p.isList;exact Eb ea s1 (by rw[ca];exact show iz "list"≠iz "enumerate" by decide)
  have n2:a≠it:=by obtain⟨oa,ea,ca,_⟩:=p.isList;obtain⟨o1,e1,c1,_⟩:=s2;exact Eb ea e1 (by rw[ca,c1];decide)
  have W:=mh (J9 (DP (prog:=X.prog) (w:=X.w) (A:=X.A.in1) (I.ok.hd hc) it a n2 its.toArray) k) e hne (by simp;exact⟨hne,λz=>n1 z.symm⟩) (by simp);have hi2:i=its.toArray.size:=by rw[hi,rv.length];simp
  refine W.done s _ _ ?_ λh' tk kk=>⟨rfl,I.turnW (t':=tk) kk λb hb=>hf b hb⟩;rw[<-hi2];exact⟨⟨old,s1⟩,l4 _ _,by rw[gy];exact⟨s2,p.isList⟩⟩
 self:=λ_ _ _ _ _ st h=>kx (nr st.1) h
theorem Y2 {n:Nat}(h:n<=100000):jd (n:Int)=true:=by
 unfold jd;simp;lia
section
variable {M:rk} {A:ii} {E:Za0} {s:eg} {env:Env}
theorem Kl {T:String}{e:gq}{rest:List gq}{kws:List yf}{Q:Za0}
  (h:wpAny M A (spliced (backTo pos (starEach (e::rest) env))) (λvs s1=>wpAny M A (evalAll ((backToKw pos (keywordEach kws env)).map (·.2))) (λkvs s2=>wpAny M A (call (.type T) vs (((backToKw pos (keywordEach kws env)).filterMap (·.1)).zip kvs)) Q E s2) E s1) E s)
  (e1:backTo pos (starEach (e::rest) env)=(false,eval e env)::backTo pos (starEach rest env))(e2:(backTo pos (starEach (e::rest) env)).any (·.1)=false)
  (e3:(backToKw pos (keywordEach kws env)).all (·.1.isSome)=true)(e4:(backToKw pos (keywordEach kws env)).any (·.1.isNone)=false) :
  wpAny M A (callWith pos (.type T) [] (backTo pos (starEach (e::rest) env)) (backToKw pos (keywordEach kws env))) Q E s:=by
 unfold callWith;have h5:wpAny M A (evalArgs (.type T) true (backTo pos (starEach (e::rest) env)) (backToKw pos (keywordEach kws env))) (λa s1=>wpAny M A (call (.type T) ([]++a.pos) a.kw) Q E s1) E s:=by
  rw[e1] at h ⊢;exact evalArgs_kwB e3 h
 refine wpAny_bind (jf (iw h5 (λa s1 h6=>wpAny_bind (mm ?_)) λ_ _ z=>z));simp only[e2,e4,Bool.or_self];exact wpAny_bind (ez (wpAny_bind (iw h6 (λr s2 h7=>wpAny_bind (jf (wpAny_point (ez h7)))) λ_ _ z=>z)))
end
section
variable {X:Cx} {elts:List gq} {m:Nat} {tpos:Pos}
def uR (ta tk:TA):TI:=λG H R=>ta G H λvs H1=>tk G H1 λzs H2=>∃(z:Str) (k:Nat),vs=[.str z]/\zs=[.int k]/\k<=100000/\R (eL k z) H2
def tP (K:dn)(ta tk:TA):TI:=λG H R=>ta G H λvs H1=>tk G H1 λzs H2=>∃(a:dw) (k:Nat),vs=[.ref a]/\zs=[.int k]/\k<=100000/\(∃xs,SqL K H2 a xs)/\R (sY k K a) H2
theorem jI {a:gq}{ta:TA}{p kp:Pos}{e:gq}(hg:Gl X "enumerate")(hm:X.mg "enumerate"=none)(ha:PA X [a] ta)(hk:PK X [⟨some "start",e,kp⟩] tk)(e1:autoParam (backTo pos (starEach [a] X.env)=(false,eval a X.env)::backTo pos (starEach [] X.env)) QD)(e2:autoParam ((backTo pos (starEach [a] X.env)).any (·.1)=false) QD) :
  PI X (.Tuple elts m tpos) (.Call (.Name "enumerate" p) [a] [⟨some "start",e,kp⟩] pos) (uR ta tk):=by
 intro pins s G H R I h;refine wpAny_Call_Name_kw (Ev I hg hm Hy ?_ (by decide) (by decide));refine Kl (thA ha I h λus s0 vs H0 I0 r0 q0=>?_) e1 e2 rfl rfl;refine thn (hk pos pins s0 G H0 _ I0 q0) λws s1 ⟨zs,H1,I1,r1,q1⟩=>?_;obtain⟨z,k,e3,e4,hk1,q⟩:=q1;subst e3 e4;obtain⟨u,rfl,⟨t,rfl⟩⟩:=Ef r0;obtain⟨u2,rfl,⟨t2,rfl⟩⟩:=Ef r1;refine Yd (Y2 hk1) (wpAny_pyIter_strU ?_);have hz:(s1.heap.push { cls:=.type (strIterType z),data:=.fields #[.str z t,.int 0 0] }).objs.size=s1.heap.objs.size+1:=k9 ..;have kk:∀b o,s1.heap.get? b=some o->((s1.heap.push { cls:=.type (strIterType z),data:=.fields #[.str z t,.int 0 0] }).push (Ko (.ref s1.heap.objs.size) k)).get? b=some o:=λb o y=>d4 _ (d4 _ y);have g1:zy ((s1.heap.push { cls:=.type (strIterType z),data:=.fields #[.str z t,.int 0 0] }).push (Ko (.ref s1.heap.objs.size) k)) (s1.heap.objs.size+1) s1.heap.objs.size (k:Int) .none:=by
  have:=gk (s1.heap.push { cls:=.type (strIterType z),data:=.fields #[.str z t,.int 0 0] }) (o:=Ko (.ref s1.heap.objs.size) k) rfl;rw[hz] at this;exact this
 have g2:((s1.heap.push { cls:=.type (strIterType z),data:=.fields #[.str z t,.int 0 0] }).push (Ko (.ref s1.heap.objs.size) k)).IsStrIter s1.heap.objs.size (strIterType z) z t 0:=⟨_,d4 _ (gk _ rfl),rfl,rfl⟩;dsimp only;rw[hz];generalize (s1.heap.push { cls:=.type (strIterType z),data:=.fields #[.str z t,.int 0 0] }).push (Ko (.ref s1.heap.objs.size) k)=h' at *;refine kx (s:={ s1 with heap:=h' }) g1 ?_;have fin:∀ty:String,h'.IsStrIter s1.heap.objs.size ty z t 0->(∀A':ii,A'.handled=none->CO X.prog X.w A' s1.heap.objs.size [s1.heap.objs.size] z.cps.size (λi v=>∃c u,z.cps[i]?=some c/\v=.str ⟨#[c]⟩ u) (λi h=>h.IsStrIter s1.heap.objs.size ty z t i)) ->
   PIE X pins G (.Tuple elts m tpos) R (.ref (s1.heap.objs.size+1)) { s1 with heap:=h' }:=λty g2 D=>by
  refine⟨s1.heap.objs.size+1,[s1.heap.objs.size+1,s1.heap.objs.size],_,_,H1,rfl,I1.kept (t':=s1.toks) kk,Xv (fC _) D,⟨⟨_,g1⟩,g2⟩,λc hc=>?_,q⟩;have hle:s1.heap.objs.size<=c:=by
   simp only[gd,i5,or_false] at hc;exact fZ hc
  exact I1.fpOk hle (I1.hok.fresh hle)
 by_cases ha:z.cps.all (· < 128)=true
 ·have e:strIterType z="str_ascii_iterator":=by unfold strIterType;rw[if_pos ha]
  exact fin _ (e▸g2) λA' hA=>BB hA _ z t
 ·have e:strIterType z="str_iterator":=by unfold strIterType;rw[if_neg ha]
  exact fin _ (e▸g2) λA' hA=>BP hA _ z t
theorem iZ {a:gq}{ta:TA}{p kp:Pos}{e:gq}(hg:Gl X "enumerate")(hm:X.mg "enumerate"=none)(ha:PA X [a] ta)(hk:PK X [⟨some "start",e,kp⟩] tk)(e1:autoParam (backTo pos (starEach [a] X.env)=(false,eval a X.env)::backTo pos (starEach [] X.env)) QD)(e2:autoParam ((backTo pos (starEach [a] X.env)).any (·.1)=false) QD) :
  PI X (.Tuple elts m tpos) (.Call (.Name "enumerate" p) [a] [⟨some "start",e,kp⟩] pos) (tP X.K ta tk):=by
 intro pins s G H R I h;refine wpAny_Call_Name_kw (Ev I hg hm Hy ?_ (by decide) (by decide));refine Kl (thA ha I h λus s0 vs H0 I0 r0 q0=>?_) e1 e2 rfl rfl;refine thn (hk pos pins s0 G H0 _ I0 q0) λws s1 ⟨zs,H1,I1,r1,q1⟩=>?_;obtain⟨a,k,e3,e4,hk1,⟨xs,hx⟩,q⟩:=q1;subst e3 e4;obtain⟨u,rfl,ru⟩:=Ef r0;cases ru;obtain⟨u2,rfl,⟨t2,rfl⟩⟩:=Ef r1;obtain⟨its,rv,p,_⟩:=I1.list hx;refine Yd (Y2 hk1) (BZ p.isList ?_);have hz:(s1.heap.push { cls:=.type "list_iterator",data:=.fields #[.ref a,.int 0 0] }).objs.size=s1.heap.objs.size+1:=k9 ..;have kk:∀b o,s1.heap.get? b=some o->((s1.heap.push { cls:=.type "list_iterator",data:=.fields #[.ref a,.int 0 0] }).push (Ko (.ref s1.heap.objs.size) k)).get? b=some o:=λb o y=>d4 _ (d4 _ y);have g1:zy ((s1.heap.push { cls:=.type "list_iterator",data:=.fields #[.ref a,.int 0 0] }).push (Ko (.ref s1.heap.objs.size) k)) (s1.heap.objs.size+1) s1.heap.objs.size (k:Int) .none:=by
  have:=gk (s1.heap.push { cls:=.type "list_iterator",data:=.fields #[.ref a,.int 0 0] }) (o:=Ko (.ref s1.heap.objs.size) k) rfl;rw[hz] at this;exact this
 have g2:((s1.heap.push { cls:=.type "list_iterator",data:=.fields #[.ref a,.int 0 0] }).push (Ko (.ref s1.heap.objs.size) k)).IsListIter s1.heap.objs.size a 0:=⟨_,d4 _ (gk _ rfl),rfl,rfl⟩;dsimp only;rw[hz];generalize (s1.heap.push { cls:=.type "list_iterator",data:=.fields #[.ref a,.int 0 0] }).push (Ko (.ref s1.heap.objs.size) k)=h' at *;refine kx (s:={ s1 with heap:=h' }) g1 ?_;refine⟨s1.heap.objs.size+1,[s1.heap.objs.size+1,s1.heap.objs.size],_,_,H1,rfl,I1.kept (t':=s1.toks) kk,Xl _ _ a (fC _),⟨⟨_,g1⟩,g2⟩,λc hc=>?_,q⟩;have hle:s1.heap.objs.size<=c:=by
  simp only[gd,i5,or_false] at hc;exact fZ hc
 exact I1.fpOk hle (I1.hok.fresh hle)
end
theorem sG {tA:TA}{G:St}{R:It->Hp->Prop}(h:tA G H λvs H1=>tk G H1 λzs H2=>∃(z:Str) (k:Nat),vs=[.str z]/\zs=[.int k]/\k<=100000/\R (eL k z) H2):uR tA tk G H R:=h
theorem sZ {K:dn}{tA:TA}{G:St}{R:It->Hp->Prop}(h:tA G H λvs H1=>tk G H1 λzs H2=>∃(a:dw) (k:Nat),vs=[.ref a]/\zs=[.int k]/\k<=100000/\(∃xs,SqL K H2 a xs)/\R (sY k K a) H2):tP K tA tk G H R:=h
theorem jU {K:dn}{k:Nat}{z:Str}{fr:St}{tc:TT}{Q:VK}(acc:Nat->List V)(h0:acc 0=[])(hz:∀i,i<z.cps.size->(acc i).length<sizeLine)
  (turn:∀(i:Nat) c H (R:Hp->Prop) (A:VK),z.cps[i]?=some c->Ah H1 H->(acc (i+1)=acc i->∀H',Ah H H'->R H')->(∀y H',acc (i+1)=acc i++[y]->Ah H H'->A y H') ->
   tc (some (.int ((k+i:Nat):Int))::some (.str (sgn c))::fr) H λb H3=>if b=true then te (some (.int ((k+i:Nat):Int))::some (.str (sgn c))::fr) H3 A else R H3)
  (fin:∀D H,H1 D=none->Ah H1 H->H D=some (.lst (acc z.cps.size))->Q (.ref D) H):Km K (eL k z) H1 fr tc te Q:=by
 refine Rh z.cps.size (λi=>.int ((k+i:Nat):Int)) (λi=>.str (sgn (z.cps.getD i 0))) acc h0 hz (λi H hi sm=>hi) (λi H v H' hi sm h=>?_)
  (λH sm=>rfl) (λi H R A hi sm=>turn i _ H R A (by simp[hi]) sm) fin
 obtain⟨t,c,hn,rfl,hc,rfl⟩:=h;refine⟨t,rfl,?_,Ai hn⟩;obtain rfl:z.cps.getD i 0=c:=by simp[Array.getD,hi] at hc ⊢;exact hc
 exact SqT.of Ac
theorem iN {K:dn}{k:Nat}{a:dw}{fr:St}{tc:TT}{Q:VK}(ha:H1 a=some (.lst xs))(acc:Nat->List V)(h0:acc 0=[])(hz:∀i,i<xs.length->(acc i).length<sizeLine)
  (turn:∀(i:Nat) x H (R:Hp->Prop) (A:VK),xs[i]?=some x->Ah H1 H->(acc (i+1)=acc i->∀H',Ah H H'->R H')->(∀y H',acc (i+1)=acc i++[y]->Ah H H'->A y H') ->
   tc (some (.int ((k+i:Nat):Int))::some x::fr) H λb H3=>if b=true then te (some (.int ((k+i:Nat):Int))::some x::fr) H3 A else R H3)
  (fin:∀D H,H1 D=none->Ah H1 H->H D=some (.lst (acc xs.length))->Q (.ref D) H):Km K (sY k K a) H1 fr tc te Q:=by
 refine Rh xs.length (λi=>.int ((k+i:Nat):Int)) (λi=>xs.getD i .non) acc h0 hz (λi H hi sm=>⟨xs,xs[i],SqL.of (sm _ _ ha),dq hi⟩) (λi H v H' hi sm h=>?_)
  (λH sm=>⟨xs,SqL.of (sm _ _ ha),rfl⟩) (λi H R A hi sm=>turn i _ H R A (by simp[hi]) sm) fin
 obtain⟨t,x,hn,rfl,hx,rfl⟩:=h;refine⟨t,rfl,?_,Ai hn⟩;have hx:=hx xs (SqL.of (sm _ _ ha));obtain rfl:xs.getD i .non=x:=by rw[wn,hx];rfl
 exact SqT.of Ac
section
variable {X:Cx} {e a b o value:gq} {es:List gq} {te ta tb tv:TE} {t:TA} {pos pos':Pos} {x f:Str}
theorem tpa (ha:PE X e te)(hr:PA X es t)(hs:autoParam (Vv e=true) QD):PA X (e::es) (Fp te t):=xZ ha hr hs
theorem tix {r:R2}(hr:IxR X r)(ha:PE X a ta)(hb:PE X b tb)(hs:gZ b:=by exact λ_ _=>rfl):PE X (.Subscript a b pos) (tOp r ta tb):=xT hr ha hb hs
theorem tpc {r:R2}(ho:OpR X (compareOp op) r)(ha:PE X a ta)(hb:PE X b tb)(hm:behindInMarks op b=false:=by exact nL _):PE X (.Compare a [op] [b] pos) (tOp r ta tb):=rR ho ha hb hm
theorem ttc {r:R2}(ho:OpR X (compareOp op) r)(ha:PE X a ta)(hb:PE X b tb)(hm:behindInMarks op b=false:=by exact nL _):PT X (.Compare a [op] [b] pos) (gU (tOp r ta tb)):=P2 ho ha hb hm
theorem tfl (he:PE X e ta)(hb:autoParam (attributeBase e f X.env (eval e X.env)=eval e X.env) QD):PE X (.Attribute e f pos) (tG X.K ta f):=oB he hb
theorem tsf (ha:PE X o ta)(hv:PE X value tv)(hs:autoParam (swapsWith value (some (.Attribute o f pos')) pos.line X.env=pure false) QD):PS X (.Assign [.Attribute o f pos'] value pos) (wN X.K ta tv f):=xC ha hv hs
theorem tst (i:Nat)(hN:X.N.Nodup)(he:PE X e te)(hi:autoParam (X.N[i]?=some x) QD)(hx:Loc X.env.scope x:=by exact xl rfl)(hs:autoParam (swapsWith e (some (.Name x pos')) pos.line X.env=pure false) QD)(hf:autoParam (X.fn x=true\/X.env.scope.names.lookup x=some .local) QH) :
  PS X (.Assign [.Name x pos'] e pos) (kE te (Eh i)):=Mu hN hi hx he hs hf
theorem tgn (i:Nat)(hN:X.N.Nodup)(hi:autoParam (X.N[i]?=some x) QD)(hx:Loc X.env.scope x:=by exact xl rfl)(hf:autoParam (X.fn x=true\/X.env.scope.names.lookup x=some .local) QH):PG X (.Name x pos) (Eh i):=Lx hN hi hx hf
theorem tau (i:Nat){op:AU}{ti:TIp}(hN:X.N.Nodup)(he:PE X e te)(ho:PIp X op ti)(hi:autoParam (X.N[i]?=some x) QD)(hx:Loc X.env.scope x:=by exact xl rfl)(hf:autoParam (X.fn x=true\/X.env.scope.names.lookup x=some .local) QH) :
  PS X (.AugAssign (.Name x pos') op e pos) (wQ i te ti):=vH hN hi hx he ho hf
end
end L2
end
namespace TK
open PySem L2 TW
variable {C CS Pt dx i1 i2 it l1 l2 z:dw} {params:lu} {A:ii} {CX:CXT} {op:ss} {X:Cx} {env:Env} {tg:gq} {fd:i3} {base h h' h1:im} {H H' H1 H2:Hp} {J:It} {pins:Za1} {fp:List dw} {outer:List Env} {elts:List gq} {ns:List Int} {ix:Za4} {N ps:Za6} {ts:List Tb} {xs:List V} {us vs:Za3} {M:rk} {off t':Nat} {oT:Obj} {od:Option dw} {pos:Pos} {scope:lm} {pl:Sem Bool} {s s2:eg} {sp:Sp} {st:io} {qual:Str} {tk:TA} {te:TE} {wi:TI} {y:V} {pm:ed} {w:gr}
def top (i:Nat):io:=gv.main.body.getD i (.Pass ⟨0,0,0,0⟩)
abbrev Dh:io:=Ax (top 5) 0
theorem Rv:Ak ["self","place"] ["self","place"] (Af Dh):=by k_cls
abbrev M0:io:=top 11
theorem X4:Ak ["thing"] ["thing"] (Af M0):=by k_cls
abbrev Ky:io:=top 12
theorem U5:Ak ["thing","low","high"] ["thing","low","high"] (Af Ky):=by k_cls
abbrev Iq:io:=top 13
theorem R6:Ak ["place","greatest"] ["place","greatest"] (Af Iq):=by k_cls
abbrev Jx:io:=top 15
theorem S2:Ak ["k","many_knots"] ["k","many_knots"] (Af Jx):=by k_cls
abbrev Hb:io:=top 21
theorem Pm:Ak ["height"] ["height"] (Af Hb):=by k_cls
abbrev Ke:io:=top 17
theorem F5:Ak ["low","high","holds","middle"] ["low","high","holds"] (Af Ke):=by k_cls
abbrev Hi:io:=top 18
theorem Gh:Ak ["numbers","sums","number"] ["numbers"] (Af Hi):=by k_cls
abbrev J1:io:=top 20
theorem Ej:Ak ["text","begin","height","heights","sign"] ["text","begin"] (Af J1):=by k_cls
abbrev Ol:io:=top 39
theorem Sw:Ak ["text","heights"] ["text"] (Af Ol):=by k_cls
abbrev Hr:io:=Ax (top 22) 0
theorem Px:Ak ["self","length","table","often_least"] ["self","length","table","often_least"] (Af Hr):=by k_cls
abbrev Hs:io:=Ax (top 22) 7
theorem P1:Ak ["self"] ["self"] (Af Hs):=by k_cls
abbrev K1:io:=top 25
theorem Ff:Ak ["text","height","place","sign"] ["text"] (Af K1):=by k_cls
abbrev Oa:io:=top 29
theorem J3:Ak ["elders","path","k","elder"] ["elders"] (Af Oa):=by k_cls
abbrev K7:io:=top 32
theorem Jw:Ak ["elders","depths","elder"] ["elders"] (Af K7):=by k_cls
abbrev Sl:io:=top 30
theorem Jl:Ak ["elders","signs","still_opened","depth"] ["elders"] (Af Sl):=by k_cls
abbrev K8:io:=top 31
theorem Gv:Ak ["text","elders","path","sign"] ["text"] (Af K8):=by k_cls
abbrev Gg:io:=Ax (top 35) 0
theorem Oc:Ak ["self","pairs"] ["self","pairs"] (Af Gg):=by k_cls
abbrev Dk:io:=Ax (top 35) 1
theorem Ju:Ak ["self"] ["self"] (Af Dk):=by k_cls
abbrev J2:io:=Ax (top 41) 0
theorem Me:Ak ["self","signs","heights"] ["self","signs"] (Af J2):=by k_cls
abbrev Gf:io:=top 40
theorem J4:Ak ["text","many","cuts"] ["text"] (Af Gf):=by k_cls
theorem Su:Bq ["text","many","cuts"] (Af Gf) { kind:=.function,names:=[(".0",.local),("number",.local),("len",.globalImplicit),("many",.free),("text",.free)],isGenerator:=false,isCoroutine:=false,more:=[] } "number" ["number","many","text"] [1,0]:=by k_cls
theorem Rz:Ee ["text","many","cuts"] (Af Gf) { kind:=.function,names:=[(".0",.local),("low",.local),("high",.local),("Piece",.globalImplicit),("text",.free)],isGenerator:=false,isCoroutine:=false,more:=[] } "low" "high" ["low","high","text"] [0]:=by k_cls
abbrev Bo:io:=Ax (top 42) 0
theorem Fk:Ak ["self","pieces","heights","table"] ["self","pieces"] (Af Bo):=by k_cls
theorem L8:Ee ["self","pieces","heights","table"] (Af Bo) { kind:=.function,names:=[(".0",.local),("knots",.local),("begin",.local)],isGenerator:=false,isCoroutine:=false,more:=[] } "knots" "begin" ["knots","begin"] []:=by k_cls
theorem L6:Ee ["self","pieces","heights","table"] (Af Bo) { kind:=.function,names:=[(".0",.local),("height",.local),("piece",.local)],isGenerator:=false,isCoroutine:=false,more:=[] } "height" "piece" ["height","piece"] []:=by k_cls
theorem L9:Bq ["self","pieces","heights","table"] (Af Bo) { kind:=.function,names:=[(".0",.local),("piece",.local),("len",.globalImplicit)],isGenerator:=false,isCoroutine:=false,more:=[] } "piece" ["piece"] []:=by k_cls
theorem L5:Bq ["self","pieces","heights","table"] (Af Bo) { kind:=.function,names:=[(".0",.local),("piece",.local)],isGenerator:=false,isCoroutine:=false,more:=[] } "piece" ["piece"] []:=by k_cls
theorem Mc:Bq ["self","pieces","heights","table"] (Af Bo) { kind:=.function,names:=[(".0",.local),("piece",.local)],isGenerator:=false,isCoroutine:=false,more:=[] } "piece" ["piece"] []:=by k_cls
abbrev A5:io:=Ax (top 42) 5
theorem Je:Ak ["self","place"] ["self","place"] (Af A5):=by k_cls
theorem He:Bq ["self","place"] (Af A5) { kind:=.function,names:=[("number",.local),("place",.free),("self",.free)],isGenerator:=false,isCoroutine:=false,more:=[] } "number" ["number","place","self"] [1,0]:=by k_cls
abbrev Ba:io:=Ax (top 42) 7
theorem Kh:Ak ["self","place"] ["self","place"] (Af Ba):=by k_cls
theorem Hx:Bq ["self","place"] (Af Ba) { kind:=.function,names:=[("number",.local),("place",.free),("self",.free)],isGenerator:=false,isCoroutine:=false,more:=[] } "number" ["number","place","self"] [1,0]:=by k_cls
abbrev Cu:io:=Ax (top 42) 1
theorem Cq:Ak ["self","low","high","first","signs","begin"] ["self","low","high"] (Af Cu):=by k_cls
theorem J0:Bq ["self","low","high","first","signs","begin"] (Af Cu) { kind:=.function,names:=[(".0",.local),("piece",.local)],isGenerator:=false,isCoroutine:=false,more:=[] } "piece" ["piece"] []:=by k_cls
abbrev Hv:io:=Ax (top 22) 8
theorem Py:Ak ["self"] ["self"] (Af Hv):=by k_cls
abbrev Cw:io:=Ax (top 42) 3
theorem Eg:Ak ["self","place","number"] ["self","place"] (Af Cw):=by k_cls
abbrev Fu:io:=Ax (top 22) 9
theorem Ng:Ak ["self","place"] ["self","place"] (Af Fu):=by k_cls
abbrev Dc:io:=Ax (top 42) 2
theorem Jk:Ak ["self","place"] ["self","place"] (Af Dc):=by k_cls
abbrev Do:io:=Ax (top 42) 6
theorem Kq:Ak ["self","number"] ["self","number"] (Af Do):=by k_cls
abbrev A8:io:=Ax (top 42) 4
theorem Ck:Ak ["self","number","piece","signs","places"] ["self","number"] (Af A8):=by k_cls
theorem Kf:Ee ["self","number","piece","signs","places"] (Af A8) { kind:=.function,names:=[(".0",.local),("place",.local),("sign",.local)],isGenerator:=false,isCoroutine:=false,more:=[] } "place" "sign" ["place","sign"] []:=by k_cls
theorem Jj:Bq ["self","number","piece","signs","places"] (Af A8) { kind:=.function,names:=[("one",.local),("number",.free),("self",.free)],isGenerator:=false,isCoroutine:=false,more:=[] } "one" ["one","number","self"] [1,0]:=by k_cls
abbrev Ep:io:=Ax (top 22) 18
theorem Jh:Ak ["self","low","high","cuts"] ["self","low","high"] (Af Ep):=by k_cls
theorem Mv:Bq ["self","low","high","cuts"] (Af Ep) { kind:=.function,names:=[(".0",.local),("number",.local),("self",.free)],isGenerator:=false,isCoroutine:=false,more:=[] } "number" ["number","self"] [0]:=by k_cls
abbrev Et:io:=Ax (top 22) 19
theorem Go:Ak ["self","low","height","row"] ["self","low","height"] (Af Et):=by k_cls
abbrev Cs:io:=Ax (top 22) 21
theorem Hw:Ak ["self","low","high"] ["self","low","high"] (Af Cs):=by k_cls
abbrev Dj:io:=Ax (top 22) 22
theorem Fb:Ak ["self","low","high","height","heights"] ["self","low","high","height"] (Af Dj):=by k_cls
abbrev Fi:io:=Ax (top 22) 13
theorem Dd:Ak ["self","place","height","low","high","found"] ["self","place","height"] (Af Fi):=by k_cls
abbrev Fd:io:=Ax (top 22) 10
theorem Mo:Ak ["self","place"] ["self","place"] (Af Fd):=by k_cls
abbrev Dv:io:=Ax (top 22) 20
theorem Ft:Ak ["self","low","high","number"] ["self","low","high"] (Af Dv):=by k_cls
abbrev Db:io:=Ax (top 22) 26
theorem E2:Ak ["self","low","high","height","number"] ["self","low","high","height"] (Af Db):=by k_cls
abbrev Cr:io:=Ax (top 22) 24
theorem Fn:Ak ["self","low","high","height","nth","heights"] ["self","low","high","height","nth"] (Af Cr):=by k_cls
theorem Jf:Ee ["self","low","high","height","nth","heights"] (Af Cr) { kind:=.function,names:=[(".0",.local),("place",.local),("one",.local),("height",.free)],isGenerator:=false,isCoroutine:=false,more:=[] } "place" "one" ["place","one","height"] [3]:=by k_cls
abbrev Cp:io:=Ax (top 22) 16
theorem Fs:Ak ["self","low","high","height"] ["self","low","high"] (Af Cp):=by k_cls
theorem Jq:Ee ["self","low","high","height"] (Af Cp) { kind:=.function,names:=[(".0",.local),("begin",.local),("end",.local),("height",.free),("self",.free)],isGenerator:=false,isCoroutine:=false,more:=[] } "begin" "end" ["begin","end","height","self"] [3,0]:=by k_cls
abbrev D0:io:=Ax (top 22) 17
theorem Bp:Ak ["self","low","nth","height","begin","end","often"] ["self","low","nth"] (Af D0):=by k_cls
abbrev Hu:io:=Ax (top 35) 3
theorem Pp:Ak ["self"] ["self"] (Af Hu):=by k_cls
abbrev Fc:io:=Ax (top 35) 2
theorem M3:Ak ["self"] ["self"] (Af Fc):=by k_cls
abbrev Eu:io:=Ax (top 35) 4
theorem Mb:Ak ["self","k"] ["self","k"] (Af Eu):=by k_cls
abbrev Ew:io:=Ax (top 35) 5
theorem Ma:Ak ["self","k"] ["self","k"] (Af Ew):=by k_cls
abbrev Gk:io:=Ax (top 35) 12
theorem Os:Ak ["self","k"] ["self","k"] (Af Gk):=by k_cls
abbrev My:io:=Ax (top 33) 10
theorem Ph:Ak ["self","k","i","many"] ["self","k","i"] (Af My):=by k_cls
abbrev Dp:io:=Ax (top 35) 20
theorem Kr:Ak ["self"] ["self"] (Af Dp):=by k_cls
abbrev Dq:io:=Ax (top 42) 8
theorem Bb:Ak ["self","low","high","text","first","behind","left_over","middle"] ["self","low","high","text"] (Af Dq):=by k_cls
abbrev Ix:io:=Ax (top 44) 0
theorem R1:Ak ["self","elders"] ["self","elders"] (Af Ix):=by k_cls
abbrev Eo:io:=Ax (top 44) 1
theorem N7:Ak ["self"] ["self"] (Af Eo):=by k_cls
theorem Mt:Bq ["self"] (Af Eo) { kind:=.function,names:=[(".0",.local),("piece",.local)],isGenerator:=false,isCoroutine:=false,more:=[] } "piece" ["piece"] []:=by k_cls
abbrev De:io:=Ax (top 44) 6
theorem Jg:Ak ["self","low","high","text"] ["self","low","high","text"] (Af De):=by k_cls
abbrev Ka:io:=Ax (top 44) 3
theorem Mj:Ak ["self","k","low","high","taken"] ["self","k"] (Af Ka):=by k_cls
abbrev Er:io:=Ax (top 44) 5
theorem Md:Ak ["self"] ["self"] (Af Er):=by k_cls
abbrev Hf:io:=Ax (top 44) 4
theorem Df:Ak ["self","k","place","elders","many","row","within","low"] ["self","k","place","elders"] (Af Hf):=by k_cls
abbrev Iy:io:=top 46
theorem Ry:Ak ["_law_script","_law_k"] ["_law_script","_law_k"] (Af Iy):=by k_cls
abbrev Lc:io:=top 47
theorem Wr:Ak ["_law_found"] ["_law_found"] (Af Lc):=by k_cls
abbrev K5:io:=top 48
theorem Nd:Ak ["_law_cell","_law_k","_law_once"] ["_law_cell","_law_k"] (Af K5):=by k_cls
abbrev Kj:io:=top 49
theorem El:Ak ["_law_script","_law_at","_law_many","_law_left","_law_found","_law_k"] ["_law_script","_law_at","_law_many"] (Af Kj):=by k_cls
abbrev M4:io:=top 50
theorem E3:Ak ["_law_digits_here","_law_elders","_law_path","_law_k"] ["_law_digits_here"] (Af M4):=by k_cls
abbrev K6:io:=top 54
theorem Gu:Ak ["_law_elders","_law_path","_law_k","_law_elder"] ["_law_elders"] (Af K6):=by k_cls
abbrev Hn:io:=top 51
theorem Pl:Ak ["_law_e","_law_some"] ["_law_e"] (Af Hn):=by k_cls
theorem S9:Bq ["_law_e","_law_some"] (Af Hn) { kind:=.function,names:=[(".0",.local),("_law_k",.local),("_law_some",.free)],isGenerator:=false,isCoroutine:=false,more:=[] } "_law_k" ["_law_k","_law_some"] [1]:=by k_cls
theorem S1:Bq ["_law_e","_law_some"] (Af Hn) { kind:=.function,names:=[(".0",.local),("_law_one",.local)],isGenerator:=false,isCoroutine:=false,more:=[] } "_law_one" ["_law_one"] []:=by k_cls
abbrev Mx:io:=top 52
theorem Ii:Ak ["_law_wood_here","_law_way","_law_k","_law_place","_law_elders","_law_refused","_law_e"] ["_law_wood_here","_law_way","_law_k","_law_place","_law_elders"] (Af Mx):=by k_cls
abbrev Iu:io:=top 53
theorem Fh:Ak ["_law_elders","_law_refused","_law_e"] ["_law_elders"] (Af Iu):=by k_cls
abbrev Oo:io:=top 55
theorem dM:Ak ["_law_many","_law_k","_law_place","_law_children","_law_elders"] ["_law_many","_law_k","_law_place","_law_children","_law_elders"] (Af Oo):=by k_cls
abbrev Ga:io:=top 56
theorem Fj:Ak ["_law_script","_law_wood_here","_law_k","_law_many","_law_parts"] ["_law_script"] (Af Ga):=by k_cls
theorem R0:Bq ["_law_script","_law_wood_here","_law_k","_law_many","_law_parts"] (Af Ga) { kind:=.function,names:=[(".0",.local),("_law_k",.local),("len",.globalImplicit),("_law_parts",.free)],isGenerator:=false,isCoroutine:=false,more:=[] } "_law_k" ["_law_k","_law_parts"] [4]:=by k_cls
theorem Rj:Bq ["_law_script","_law_wood_here","_law_k","_law_many","_law_parts"] (Af Ga) { kind:=.function,names:=[(".0",.local),("_law_one",.local),("len",.globalImplicit)],isGenerator:=false,isCoroutine:=false,more:=[] } "_law_one" ["_law_one"] []:=by k_cls
abbrev Iw:io:=top 57
theorem Fm:Ak ["_law_wood_here","_law_refused","_law_e"] ["_law_wood_here"] (Af Iw):=by k_cls
abbrev Gs:io:=top 58
theorem Ir:Ak ["_law_wood_here","_law_elders","_law_number","_law_k","_law_children"] ["_law_wood_here","_law_elders","_law_number"] (Af Gs):=by k_cls
theorem Pn:Bq ["_law_wood_here","_law_elders","_law_number","_law_k","_law_children"] (Af Gs) { kind:=.function,names:=[(".0",.local),("_law_elder",.local),("_law_k",.free)],isGenerator:=false,isCoroutine:=false,more:=[] } "_law_elder" ["_law_elder","_law_k"] [3]:=by k_cls
abbrev Rf:io:=top 59
theorem Ea:Ak ["_law_script","_law_seed","_law_elders","_law_wood_here","_law_parts","_law_things","_law_no_woods","_law_cell","_law_number","_law_odd","_law_k","_law_tops","_law_place","_law_other","_law_due_here"] ["_law_script"] (Af Rf):=by k_cls
theorem pO:Bq ["_law_script","_law_seed","_law_elders","_law_wood_here","_law_parts","_law_things","_law_no_woods","_law_cell","_law_number","_law_odd","_law_k","_law_tops","_law_place","_law_other","_law_due_here"] (Af Rf) { kind:=.function,names:=[(".0",.local),("_law_elder",.local)],isGenerator:=false,isCoroutine:=false,more:=[] } "_law_elder" ["_law_elder"] []:=by k_cls
abbrev Fq:Pos:=⟨405,53,405,99⟩
abbrev Ei:Pos:=⟨411,52,411,98⟩
abbrev E4:Pos:=⟨417,52,417,95⟩
def Ar (l:Za5):Str:=⟨(l.map λb=>if b then 49 else 48).toArray⟩
theorem Au (l:Za5):(Ar l).length=l.length:=by
 show(l.map _).toArray.size=_;rw[gl,du]
theorem T7 (b:Bool)(k:Nat):K2 (sgn (if b then 49 else 48)) k=Ar (dv k b):=by
 refine Ih ?_;show(dv k [if b then 49 else 48]).flatten.toArray.toList=((dv k b).map _).toArray.toList;rw[ku,ku,zp]
 induction k with
 |zero=>rfl
 |succ k ih=>
  rw[ig,jl,ih,ig];rfl
theorem Dw (l:Za5):(Ar l).cps.toList=l.map λb=>if b then 49 else 48:=by
 show(l.map _).toArray.toList=_;rw[ku]
theorem E9 (a b:Za5):Ar a++Ar b=Ar (a++b):=by
 refine Ih ?_;show((Ar a).cps++(Ar b).cps).toList=_;rw[tx,Dw,Dw,Dw,eh]
theorem Mz (l:Za5)(k:Nat):K2 (Ar l) k=Ar (dv k l).flatten:=by
 refine Ih ?_;show(dv k (Ar l).cps.toList).flatten.toArray.toList=_;rw[ku,Dw,Dw,AB,zp]
theorem Ml {α:Type}(l:List α)(a b:Nat):(l.drop (min a l.length)).take (min b l.length-min a l.length)=(l.drop a).take (b-a):=by
 by_cases h:a<=l.length
 ·rw[iy h]
  by_cases h2:b<=l.length
  ·rw[iy h2]
  ·rw[m8 (by lia),fm (by rw[ib];lia),fm (by rw[ib];lia)]
 ·have e:min a l.length=l.length:=by lia
  rw[e,i6 (d3 _),i6 (by lia)];simp
theorem Ua (l:Za5)(a b:Nat):oE (Ar l) (some (a:Int)) (some (b:Int))=Ar ((l.drop a).take (b-a)):=by
 refine Ih ?_;show(FJ _ (FK _ _)).toArray.toList=_;rw[ku,HT.sIx_nat,HT.sIx_nat];have e:(Ar l).cps.size=l.length:=Au l;rw[e,Dw,Dw,ng,xn];have:=Ml (l.map λb=>if b=true then 49 else 48) a b;rw[du] at this;exact this
theorem oA (xs:List V)(a b:Nat):L4 xs (some (a:Int)) (some (b:Int))=(xs.drop a).take (b-a):=by
 unfold L4;rw[HT.sIx_nat,HT.sIx_nat];exact Ml xs a b
theorem Tk (l:Za5):dH (Ar l) 49=l.count true/\dH (Ar l) 48+dH (Ar l) 49=l.length:=by
 unfold dH;rw[Dw]
 induction l with
 |nil=>exact⟨rfl,rfl⟩
 |cons b r ih=>cases b<;>simp[li]<;>lia
abbrev nV (ns:Za4):List V:=ns.map λn:Nat=>V.int n
theorem Rc (f:Nat->Nat)(i:Nat):nV ((et (i+1)).map f)=nV ((et i).map f)++[V.int (f i:Nat)]:=by
 unfold nV;rw[iu,eh,eh];rfl
theorem few {n:Nat}(h:n<=1000):n<=sizeLine:=fk (G6 h)
theorem Ag {n:Nat}(h:n<=100000):n<sizeLine:=qk h (by decide)
theorem P7 {l:Za5}{i c:Nat}(h:(Ar l).cps[i]?=some c):∃b,l[i]?=some b/\c=if b then 49 else 48:=by
 have e:(Ar l).cps.toList[i]?=some c:=by rw[mi];exact h
 rw[Dw,d8] at e
 cases hb:l[i]? with
 |none=>rw[hb] at e;cases e
 |some b=>
  rw[hb] at e;exact⟨b,rfl,(d0 e).symm⟩
theorem Bs {α:Type}{l:List α}{i:Nat}{b:α}(h:l[i]?=some b):i<l.length:=(fc.mp h).1
def KL (K : dn)(c : dw) : List (ed × Bool)->Prop
  | [] => True
  | (v, b) :: l => kitOne K (.ref c) v = some b/\KL K c l
theorem KL.d {K:dn}{c:dw}:∀(n:Nat) {l:List (ed×Bool)},KL K c l->KL K c (l.drop n)
 |0,_,h=>h
 |_+1,[],h=>h
 |n+1,_::_,h=>KL.d n h.2
def isI:V->Bool
 |.int _=>true
 |_=>false
def inI:V->Int->Int->Bool
 |.int i,lo,hi=>decide (lo<=i)&&decide (i<=hi)
 |_,_,_=>false
theorem F7 (i lo hi:Int):inI (.int i) lo hi=(decide (lo<=i)&&decide (i<=hi)):=rfl
def Any (K:dn)(H:Hp)(x:V):Prop:=∃t b1 b2,Gj K H x t/\kitOne K t (.type "int")=some b1/\kitOne K t (.type "bool")=some b2/\(b1&&!b2)=isI x
section
variable {K:dn} {H H':Hp}
theorem B1 (i:Int):Any K H (.int i):=⟨_,true,false,.int i,by rfl,by rfl,rfl⟩
theorem oS (b:Bool):Any K H (.bl b):=⟨_,true,true,.bl b,by rfl,by rfl,rfl⟩
theorem Nl:Any K H .non:=⟨_,false,false,.non,by rfl,by rfl,rfl⟩
theorem Ws (z:Str):Any K H (.str z):=⟨_,false,false,.str z,by rfl,by rfl,rfl⟩
theorem qY {a:dw}(h:H a=some (.tup xs)):Any K H (.ref a):=⟨_,false,false,.tup h,by rfl,by rfl,rfl⟩
theorem sJ {a:dw}(h:H a=some (.lst xs)):Any K H (.ref a):=⟨_,false,false,.lst h,by rfl,by rfl,rfl⟩
theorem Gj.same {x:V}{t:ed}(s:Ah H H')(h:Gj K H x t):Gj K H' x t:=by
 cases h with
 |non=>exact .non
 |bl b=>exact .bl b
 |int i=>exact .int i
 |str z=>exact .str z
 |flt z=>exact .flt z
 |lst e=>exact .lst (s _ _ e)
 |frz e=>exact .frz (s _ _ e)
 |tup e=>exact .tup (s _ _ e)
 |dK e=>exact .dK (s _ _ e)
 |dT e=>exact .dT (s _ _ e)
 |ins e cl ha hn htk hm=>exact .ins (s _ _ e) cl ha hn htk hm
theorem Any.same {x:V}(s:Ah H H')(h:Any K H x):Any K H' x:=let ⟨t,b1,b2,h1,r⟩:=h;⟨t,b1,b2,Gj.same s h1,r⟩
theorem Rs {x:V}(h:isI x=true):∃i,x=.int i:=by cases x<;>first|exact⟨_,rfl⟩|cases h
end
theorem Fl (l:Za4):(nV l).length=l.length:=by unfold nV;rw[du]
theorem zZ {l:Za4}{i:Nat}{n:Nat}(h:l[i]?=some n):(nV l)[i]?=some (.int (n:Nat)):=by
 unfold nV;rw[d8,h];rfl
theorem mE (l m:Za4):nV l++nV m=nV (l++m):=by unfold nV;rw[eh]
theorem Bz {a:dw}{o:HO}(s:Ah H H1)(h:H a=none):Ah H (upd H1 a o):=λb u e=>by
 rw[Aj (Am e h)];exact s _ _ e
theorem Mf {K:dn}:kitOne K (.type "list") (.type "list")=some true:=by rfl
theorem Ui {l:List Int}{i:Nat}{n:Int}(h:l[i]?=some n):(l.map V.int)[i]?=some (.int n):=by
 rw[d8,h];rfl
theorem Zu {l:List Int}{i:Nat}{x:V}(h:(l.map V.int)[i]?=some x):∃n,l[i]?=some n/\x=.int n:=by
 rw[d8] at h
 cases e:l[i]? with
 |none=>rw[e] at h;cases h
 |some n=>
  rw[e] at h;exact⟨n,rfl,(d0 h).symm⟩
theorem G7 {l:List Int}{m:Nat}{x:Int}(h0:0<m)(h:l[m-1]?=some x):atI ((l.take m).map V.int) (-1)=some (.int x):=by
 have hm:=Bs h;have e:l.take m=l.take (m-1)++[x]:=by
  rw[show m=m-1+1 by lia,ip,h];rfl
 rw[e,eh];exact N0 _ _
theorem Dr {l:List Int}{m:Nat}(h:m<=l.length):((l.take m).map V.int).length=m:=by rw[du,d9];lia
theorem Oq {l:List Int}{m:Nat}(h:m<=l.length):((l.take m).map V.int).dropLast=(l.take (m-1)).map V.int:=by
 rw[<-List.map_dropLast,List.dropLast_eq_take,sw,d9];congr 2;lia
def fY (H:Hp)(p:dw):Nat:=match H p with|some (.lst xs)=>xs.length|_=>0
theorem No {p:dw}(h:H p=some (.lst xs)):fY H p=xs.length:=by unfold fY;rw[h]
theorem Rr {K:dn}{Q:VK}{p:dw}{ls:List (Za5)}(hl:H1 p=some (.lst (ls.map λl=>.str (Ar l))))(hz:ls.flatten.length<=100000)(q:Q (.str (Ar ls.flatten)) H1):tW K (.str "") [.ref p] H1 Q:=by
 refine⟨"",p,ls.map Ar,rfl,rfl,SqL.of ?_,?_,?_⟩
 ·rw[hl,jz]
  rfl
 ·have e:((ls.map Ar).map (·.length)).sum=ls.flatten.length:=by
   rw[zf,jz];congr 1;refine j0 λl _=>?_;exact Au l
  rw[e];show ls.flatten.length+_*0<=_;lia
 ·have e:zb ("":Str) (ls.map Ar)=Ar ls.flatten:=by
   refine Ih ?_;rw[dS,jz];show((ls.map λl=>(l.map λb=>if b then 49 else 48).toArray.toList)).flatten=(ls.flatten.map _).toArray.toList;simp only[ku];rw[AB]
  rw[e];exact q
theorem Mw {ds:Za4}(h:Dok ds):∀k,k<=ds.length->opn ds k<=k
 |0,_=>d3 _
 |k+1,hk=>by
  show dAt ds k+1<=k+1;have:=h k (by lia);have:=Mw h k (by lia);lia
theorem Lb {ds:Za4}{d j:Nat}(h:j<ds.length):dAt (ds++[d]) j=dAt ds j:=by
 unfold dAt ge;rw[fb h]
theorem Nx (ds:Za4)(d:Nat):dAt (ds++[d]) ds.length=d:=by
 unfold dAt ge;rw[e9 (d3 _),jh];rfl
theorem Nk {ds:Za4}{d:Nat}:∀k,k<=ds.length->opn (ds++[d]) k=opn ds k
 |0,_=>rfl
 |k+1,h=>by
  show dAt (ds++[d]) k+1=dAt ds k+1;rw[Lb (by lia)]
theorem Ni {ds:Za4}{d:Nat}:∀k,k<=ds.length->way (ds++[d]) k=way ds k
 |0,_=>rfl
 |k+1,h=>by
  show(way (ds++[d]) k).take (dAt (ds++[d]) k+1)++[(k:Int)]=_;rw[Ni k (by lia),Lb (by lia)];rfl
theorem Nh {ds:Za4}{d:Nat}(h:Dok ds)(hd:d<=opn ds ds.length):Dok (ds++[d]):=λk hk=>by
 rw[d5] at hk;simp only[fj,gw] at hk
 by_cases e:k=ds.length
 ·subst e
  rw[Nx,Nk _ (d3 _)];exact hd
 ·rw[Lb (by lia),Nk k (by lia)]
  exact h k (by lia)
theorem Lp (ds:Za4)(d:Nat):B2 (ds++[d])=B2 ds++[(way ds ds.length).getD d 0]:=by
 unfold B2;rw[d5];show(et (ds.length+1)).map _=_;rw[iu,eh];congr 1
 ·refine j0 λk hk=>?_
  have hk:=jn.mp hk;unfold eld;rw[Ni k (by lia),Lb hk]
 ·show[eld (ds++[d]) ds.length]=_
  unfold eld;rw[Ni _ (d3 _),Nx]
theorem Nj (ds:Za4)(d:Nat):way (ds++[d]) (ds.length+1)=(way ds ds.length).take (d+1)++[(ds.length:Int)]:=by
 show(way (ds++[d]) ds.length).take (dAt (ds++[d]) ds.length+1)++_=_;rw[Ni _ (d3 _),Nx]
theorem oZ {ds:Za4}(h:Dok ds){k:Nat}(hk:k<=ds.length):way ds k=-1::(way ds k).tail:=by
 have e:=Dg h k hk
 cases hw:way ds k with
 |nil=>rw[hw] at e;cases e
 |cons x r=>
  rw[hw] at e;obtain rfl:=d0 e;rfl
structure Id (H H':Hp):Prop where
 keep:∀b u,(∀ps,u≠.tbl ps)->H b=some u->H' b=some u
 tb:∀b ps,H b=some (.tbl ps)->∃ps',H' b=some (.tbl ps')
theorem Id.refl (H:Hp):Id H H:=⟨λ_ _ _ e=>e,λ_ ps e=>⟨ps,e⟩⟩
theorem Id.trans (a:Id H H1)(b:Id H1 H2):Id H H2:=⟨λc u n e=>b.keep c u n (a.keep c u n e),λc ps e=>let ⟨ps',e'⟩:=a.tb c ps e;b.tb c ps' e'⟩
theorem pE (s:Ah H H'):Id H H':=⟨λb u _ e=>s b u e,λb ps e=>⟨ps,s b _ e⟩⟩
theorem Id.free (s:Id H H'){l:dw}(e:H' l=none):H l=none:=by
 cases q:H l with
 |none=>rfl
 |some o=>
  by_cases ho:∃ps,o=.tbl ps
  ·obtain⟨ps,rfl⟩:=ho
   obtain⟨ps',e2⟩:=s.tb l ps q;rw[e2] at e;cases e
  ·rw[s.keep l o (λps z=>ho ⟨ps,z⟩) q] at e;cases e
theorem Gj.sameT {K:dn}{x:V}{t:ed}(s:Id H H')(h:Gj K H x t):Gj K H' x t:=by
 cases h with
 |non=>exact .non
 |bl b=>exact .bl b
 |int i=>exact .int i
 |str z=>exact .str z
 |flt z=>exact .flt z
 |lst e=>exact .lst (s.keep _ _ (by intro ps e;cases e) e)
 |frz e=>exact .frz (s.keep _ _ (by intro ps e;cases e) e)
 |tup e=>exact .tup (s.keep _ _ (by intro ps e;cases e) e)
 |dK e=>exact .dK (s.keep _ _ (by intro ps e;cases e) e)
 |dT e=>exact .dT (s.keep _ _ (by intro ps e;cases e) e)
 |ins e cl ha hn htk hm=>exact .ins (s.keep _ _ (by intro ps e;cases e) e) cl ha hn htk hm
theorem Any.sameT {K:dn}{x:V}(s:Id H H')(h:Any K H x):Any K H' x:=let ⟨t,b1,b2,h1,r⟩:=h;⟨t,b1,b2,Gj.sameT s h1,r⟩
structure Tb where
 P:dw
 pos:Pos
 qual:Str
def Tb.ok (t:Tb)(H:Hp):Prop:=Rm H t.P t.pos t.qual
theorem Tb.same {t:Tb}(s:Ah H H')(h:t.ok H):t.ok H':=by
 obtain⟨ps,e1,e2,e3⟩:=h;exact⟨ps,s _ _ e1,e2,e3.imp id λ⟨c,oc,a1,a2,a3⟩=>⟨c,oc,a1,s _ _ a2,a3⟩⟩
theorem Tb.sameX {t:Tb}{P:dw}(s:Pc P H H')(hP:∃ps,H P=some (.tbl ps))(n:t.P≠P)(h:t.ok H):t.ok H':=by
 obtain⟨ps,e1,e2,e3⟩:=h;obtain⟨ps',hP⟩:=hP;exact⟨ps,s _ _ n e1,e2,e3.imp id λ⟨c,oc,a1,a2,a3⟩=>⟨c,oc,a1,s _ _ (λz=>by rw[z,hP] at a2;cases a2) a2,a3⟩⟩
theorem qZ {P:dw}(s:Pc P H H')(hP:∃ps,H P=some (.tbl ps))(hP':∃ps,H' P=some (.tbl ps)):Id H H':=by
 refine⟨λb u n e=>s b u (λz=>?_) e,λb ps e=>?_⟩
 ·obtain⟨ps,hP⟩:=hP
  rw[z,hP] at e;cases e;exact n ps rfl
 ·by_cases hb:b=P
  ·rw[hb];exact hP'
  ·exact⟨ps,s b _ hb e⟩
theorem Tb.tbl {t:Tb}(h:t.ok H):∃ps,H t.P=some (.tbl ps):=let ⟨ps,e,_⟩:=h;⟨ps,e⟩
def Tbs (ts:List Tb)(H:Hp):Prop:=(∀t∈ts,t.ok H)/\(ts.map (·.P)).Nodup
structure SmT (ts:List Tb) (H H':Hp):Prop where
 sm:Id H H'
 ok:Tbs ts H'
theorem Tbs.same (h:Tbs ts H)(s:Ah H H'):Tbs ts H':=⟨λt ht=>Tb.same s (h.1 t ht),h.2⟩
theorem SmT.of (h:Tbs ts H)(s:Ah H H'):SmT ts H H':=⟨pE s,h.same s⟩
theorem SmT.refl (h:Tbs ts H):SmT ts H H:=⟨Id.refl _,h⟩
theorem SmT.trans (a:SmT ts H H1)(b:SmT ts H1 H2):SmT ts H H2:=⟨a.sm.trans b.sm,b.ok⟩
theorem SmT.then (a:SmT ts H H1)(b:Ah H1 H2):SmT ts H H2:=a.trans (.of a.ok b)
theorem SmT.k (s:SmT ts H H'){b:dw}{u:HO}(h:H b=some u)(n:∀ps,u≠.tbl ps:=by intro ps e;cases e):H' b=some u:=s.sm.keep _ _ n h
theorem SmT.any {K:dn}(s:SmT ts H H'){x:V}(h:Any K H x):Any K H' x:=h.sameT s.sm
theorem qF:∀{ts:List Tb} {t u:Tb},(ts.map (·.P)).Nodup->t∈ts->u∈ts->t.P=u.P->t=u
 |[],_,_,_,h,_,_=>nomatch h
 |x::r,t,u,hn,ht,hu,e=>by
  rw[ju,pr] at hn;rcases gd.mp ht with rfl|ht'<;>rcases gd.mp hu with rfl|hu'
  ·rfl
  ·exact absurd (pz (f:=(·.P)) hu') (by rw[<-e];exact hn.1)
  ·exact absurd (pz (f:=(·.P)) ht') (by rw[e];exact hn.1)
  ·exact qF hn.2 ht' hu' e
theorem lS {t:Tb}(h:Tbs ts H)(ht:t∈ts)(s:Pc t.P H H')(ok:t.ok H'):SmT ts H H':=by
 have hP:=Tb.tbl (h.1 t ht);refine⟨qZ s hP (Tb.tbl ok),λu hu=>?_,h.2⟩
 by_cases e:u.P=t.P
 ·have:u=t:=qF h.2 hu ht e
  rw[this];exact ok
 ·exact Tb.sameX s hP e (h.1 u hu)
def bgn (ls:List (Za5))(j:Nat):Nat:=(ls.take j).flatten.length
theorem Rl (ls:List (Za5)):bgn ls 0=0:=rfl
theorem Gq (ls:List (Za5)):bgn ls ls.length=ls.flatten.length:=by unfold bgn;rw[lx]
theorem Dt {ls:List (Za5)}{j:Nat}{x:Za5}(h:ls[j]?=some x):bgn ls (j+1)=bgn ls j+x.length:=by
 unfold bgn;rw[ip,h,jc,d5];simp
theorem Em {ls:List (Za5)}{i j:Nat}(h:i<=j):bgn ls i<=bgn ls j:=by
 unfold bgn;have e:ls.take i=(ls.take j).take i:=by rw[sw,iy h]
 have e2:=congrArg k6 (congrArg ye (jv i (ls.take j)));rw[<-e,jc,d5] at e2;lia
theorem dF (ls:List (Za5))(j:Nat):bgn ls j<=ls.flatten.length:=by
 by_cases h:j<=ls.length
 ·rw[<-Gq];exact Em h
 ·unfold bgn
  rw[fm (by lia)];exact d3 _
theorem lT (ls:List (Za5))(j:Nat):((ls.map k6).take j).sum=bgn ls j:=by
 unfold bgn;rw[zf,ng]
theorem Lw (ls:List (Za5))(j:Nat):(ls.drop j).flatten=ls.flatten.drop (bgn ls j):=by
 have e:=congrArg ye (jv j ls);rw[jc] at e;rw[<-e];unfold bgn;rw[BL]
theorem Ox (ls:List (Za5))(j:Nat):(ls.take j).flatten=ls.flatten.take (bgn ls j):=by
 have e:=congrArg ye (jv j ls);rw[jc] at e;rw[<-e];unfold bgn;rw[wm]
theorem lO (ls:List (Za5))(i j:Nat):bgn (ls.drop i) j=bgn ls (i+j)-bgn ls i:=by
 have e:ls.take (i+j)=ls.take i++(ls.drop i).take j:=by rw[pi]
 unfold bgn;rw[e,jc,d5];lia
theorem Xa (ls:List (Za5)){i j:Nat}(h:i<=j):((ls.drop i).take (j-i)).flatten=(ls.flatten.drop (bgn ls i)).take (bgn ls j-bgn ls i):=by
 rw[Ox,Lw,lO,show i+(j-i)=j by lia]
theorem sC (l:Za5){b e lo hi:Nat}(h1:b<=lo)(h2:lo<=hi)(h3:hi<=e):(((l.drop b).take (e-b)).drop (lo-b)).take (hi-lo)=(l.drop lo).take (hi-lo):=by
 rw[List.drop_take,sw,wo,show b+(lo-b)=lo by lia,iy (by lia)]
def pcM (L:Nat):Nat:=(L+127)/128
def By (L k:Nat):Nat:=k*L/pcM L
def pcs (l:Za5):List (Za5):=(et (pcM l.length)).map λk=>(l.drop (By l.length k)).take (By l.length (k+1)-By l.length k)
theorem Tx (L:Nat):By L 0=0:=by unfold By;rw[Nat.zero_mul,ym]
theorem R5 {L:Nat}(h:0<L):By L (pcM L)=L:=by
 unfold By;exact nq L (by unfold pcM;lia)
theorem Lr {L i j:Nat}(h:i<=j):By L i<=By L j:=pq (Nat.mul_le_mul_right L h)
theorem qQ {L k:Nat}(h:k<=pcM L):By L k<=L:=by
 by_cases h0:L=0
 ·subst h0;unfold By;rw[DH,ym];exact fg _
 ·have:=Lr (L:=L) h
  rw[R5 (by lia)] at this;exact this
theorem O0 {L k:Nat}(h:0<L):By L k+1<=By L (k+1)/\By L (k+1)<=By L k+128:=by
 have hm:0<pcM L:=by unfold pcM;lia
 have h1:pcM L<=L:=by unfold pcM;lia
 have h2:L<=pcM L*128:=by unfold pcM;lia
 unfold By
 constructor
 ·rw[Nat.le_div_iff_mul_le hm,ze,EW,yn]
  have:=Nat.div_mul_le_self (k*L) (pcM L);lia
 ·have h3:(k+1)*L<=k*L+128*pcM L:=by rw[yn];lia
  have:=pq (c:=pcM L) h3;rw[sr _ _ hm] at this;exact this
theorem oX {L k:Nat}(h:2<=pcM L):By L k+64<By L (k+2):=by
 have hm:0<pcM L:=by lia
 have h2:66*pcM L<=2*L:=by unfold pcM at h ⊢;lia
 have e:(k+2)*L=k*L+2*L:=by rw[ze]
 have h3:k*L+65*pcM L<=(k+2)*L:=by lia
 unfold By;have:=pq (c:=pcM L) h3;rw[sr _ _ hm] at this;lia
theorem Dm (l:Za5):(pcs l).length=pcM l.length:=by unfold pcs;rw[du,fh]
theorem Od {l:Za5}{k:Nat}(h:k<pcM l.length):(pcs l)[k]?=some ((l.drop (By l.length k)).take (By l.length (k+1)-By l.length k)):=by
 unfold pcs;rw[d8,ij h];rfl
theorem K3 {l:Za5}{k:Nat}(h:k<pcM l.length):((l.drop (By l.length k)).take (By l.length (k+1)-By l.length k)).length=By l.length (k+1)-By l.length k:=by
 have:=qQ (L:=l.length) (k:=k+1) h;rw[d9,ib];lia
def En (ls:List (Za5)):Prop:=∀(k:Nat) (x:Za5),ls[k]?=some x->0<x.length/\x.length<=128
theorem fB {L k:Nat}(h:k<pcM L):0<L:=by unfold pcM at h;lia
theorem Lh (l:Za5):En (pcs l):=λk x h=>by
 have hk:=(fc.mp h).1;rw[Dm] at hk;rw[Od hk] at h;obtain rfl:=d0 h;rw[K3 hk];have:=O0 (k:=k) (fB hk);lia
theorem eJ (l:Za5):∀k,k<=pcM l.length->((pcs l).take k).flatten=l.take (By l.length k)
 |0,_=>by rw[Tx];rfl
 |k+1,h=>by
  rw[ip,Od (by lia),jc,eJ l k (by lia)];have hm:=Lr (L:=l.length) (show k<=k+1 by lia);show _++([_]:List (Za5)).flatten=_;rw[yd];have:By l.length (k+1)=By l.length k+(By l.length (k+1)-By l.length k):=by lia
  conv=>rhs;rw[this,pi]
theorem Bw (l:Za5):(pcs l).flatten=l:=by
 have:=eJ l (pcM l.length) (d3 _);rw[fm (by rw[Dm];exact d3 _)] at this;rw[this]
 by_cases h:l.length=0
 ·rw[je h];rfl
 ·rw[R5 (by lia),lx]
def Gn (ls:List (Za5)):Prop:=∀(k:Nat) (x y:Za5),ls[k]?=some x->ls[k+1]?=some y->64<x.length+y.length
theorem Xe (l:Za5):Gn (pcs l):=λk x y h1 h2=>by
 have hk:=(fc.mp h2).1;rw[Dm] at hk;rw[Od (by lia)] at h1;rw[Od hk] at h2;obtain rfl:=d0 h1;obtain rfl:=d0 h2;rw[K3 (by lia),K3 hk];have:=oX (L:=l.length) (k:=k) (by lia);have:=Lr (L:=l.length) (show k<=k+1 by lia);have:=Lr (L:=l.length) (show k+1<=k+1+1 by lia);rw[show k+1+1=k+2 by lia] at *;lia
def Kp (H H':Hp):Prop:=∀b u,(∀ps,u≠HO.tbl ps)->H b=some u->H' b=some u
theorem Ah.kp (s:Ah H H'):Kp H H':=λb u _ e=>s b u e
theorem SmT.kp (s:SmT ts H H'):Kp H H':=λb u n e=>s.sm.keep b u n e
theorem Kp.k (s:Kp H H'){b:dw}{u:HO}(h:H b=some u)(n:∀ps,u≠.tbl ps:=by intro ps e;cases e):H' b=some u:=s b u n h
theorem qC {K:dn}{x:V}(h:Cy x=true):Any K H x:=by
 cases x with
 |non=>exact Nl
 |bl b=>exact oS b
 |int i=>exact B1 i
 |str z=>exact Ws z
 |_=>cases h
theorem Hd (n:Nat):Dok (dv n 0):=λk hk=>by
 have:dAt (dv n 0) k=0:=by
  unfold dAt ge;rw[nj];split<;>rfl
 lia
theorem Rt (n k:Nat):dAt (dv n 0) k=0:=by
 unfold dAt ge;rw[nj];split<;>rfl
theorem T5 (n:Nat):B2 (dv n 0)=dv n (-1):=by
 refine og λk=>?_;rw[nj]
 by_cases hk:k<n
 ·rw[if_pos hk,F4 (by rw[gm];exact hk)]
  have h:=F1 (Hd n) (k:=k) (by rw[gm];exact hk);rw[Rt,Dg (Hd n) k (by rw[gm];lia)] at h;exact h.symm
 ·rw[if_neg hk,gt (by rw[Bc,gm];lia)]
theorem qI {ds:Za4}(h:Dok ds){k:Nat}(hk:k<=ds.length){x:Int}(hx:x∈way ds k):-1<=x:=by
 obtain⟨j,hj⟩:=km hx
 cases j with
 |zero=>
  rw[Dg h k hk] at hj;have:=d0 hj;lia
 |succ j=>
  obtain⟨v,hv,_⟩:=Sx h k j x hk hj;lia
theorem mT {ds:Za4}(h:Dok ds){k:Nat}(hk:k<ds.length):eld ds k∈way ds k:=ir (F1 h hk)
theorem Xr {ds es:Za4}(h1:Dok ds)(h2:Dok es):∀k,k<=ds.length->k<=es.length->(∀j,j<k->eld ds j=eld es j)->way ds k=way es k
 |0,_,_,_=>rfl
 |k+1,k1,k2,he=>by
  have ih:=Xr h1 h2 k (by lia) (by lia) λj hj=>he j (by lia);have e:=he k (by lia);have a1:=F1 h1 (k:=k) (by lia);have a2:=F1 h2 (k:=k) (by lia);rw[<-e,<-ih] at a2;have hd:dAt ds k=dAt es k:=by
   rcases qt (dAt ds k) (dAt es k) with h|h|h
   ·have:=M1 h1 k _ _ _ _ (by lia) h a1 a2
    lia
   ·exact h
   ·have:=M1 h1 k _ _ _ _ (by lia) h a2 a1
    lia
  show(way ds k).take (dAt ds k+1)++[(k:Int)]=(way es k).take (dAt es k+1)++[(k:Int)];rw[ih,hd]
def Sq (xs:List V)(k:Nat):Prop:=∃ds,Dok ds/\ds.length=k/\k<xs.length/\k<=4000/\xs.take k=(B2 ds).map V.int/\(k=4000\/∀e,xs[k]?=some (V.int e)->e∉way ds k)
def tQ (xs:List V)(ds:Za4):Prop:=Dok ds/\ds.length<=4000/\xs=(B2 ds).map V.int
def Kz:Option (List V)->Nat->Prop
 |some xs,k=>Sq xs k
 |none,k=>k=0
def Ia:Option (List V)->Za4->Prop
 |some xs,ds=>tQ xs ds
 |none,_=>False
theorem fU {ds:Za4}{n j:Nat}(hl:ds.length=n)(h:xs.take n=(B2 ds).map V.int)(hj:j<n):xs[j]?=some (.int (eld ds j)):=by
 have e:(xs.take n)[j]?=some (.int (eld ds j)):=by
  rw[h];exact Ui (F4 (by lia))
 rw[fe hj] at e;exact e
theorem Rq {k:Nat}{es:Za4}(hf:Sq xs k)(hE:Dok es)(hk:k<es.length)(hk4:k<4000)(hx:∀j,j<es.length->xs[j]?=some (.int (eld es j))):False:=by
 obtain⟨ds,hD,hl,_,_,htk,hb⟩:=hf;rcases hb with h|h
 ·lia
 ·have hw:way ds k=way es k:=Xr hD hE k (by lia) (by lia) λj hj=>by
   have e1:=fU hl htk hj;rw[hx j (by lia)] at e1;exact(V.int.inj (d0 e1)).symm
  refine h _ (hx k hk) ?_;rw[hw];exact mT hE hk
theorem Z2 {k j:Nat}(h1:Sq xs k)(h2:Sq xs j):k=j:=by
 have key:∀{k j:Nat},Sq xs k->Sq xs j->¬ k<j:=λ{k j} h1 h2 hlt=>by
  obtain⟨es,hE,hl,_,h4,htk,_⟩:=h2;exact Rq h1 hE (by lia) (by lia) λi hi=>fU hl htk (by lia)
 have a:=key h1 h2;have b:=key h2 h1;lia
theorem dZ {k:Nat}{ds:Za4}(h1:Sq xs k)(h2:tQ xs ds):False:=by
 obtain⟨hD,hl,e⟩:=h2;have hlen:xs.length=ds.length:=by rw[e,du,Bc]
 obtain⟨_,_,_,hk,_⟩:=id h1;refine Rq h1 hD (by lia) (by lia) λj hj=>?_;rw[e];exact Ui (F4 hj)
theorem Ij {o:Option (List V)}{k j:Nat}(h1:Kz o k)(h2:Kz o j):k=j:=by
 cases o with
 |some xs=>exact Z2 h1 h2
 |none=>exact(show k=0 from h1).trans (show j=0 from h2).symm
theorem Ge {o:Option (List V)}{k:Nat}{ds:Za4}(h1:Kz o k)(h2:Ia o ds):False:=by
 cases o with
 |some xs=>exact dZ h1 h2
 |none=>exact h2
def Zq (C:dw)(H:Hp)(E:XK)(o:Option (List V)):Prop:=∀k:Nat,Kz o k->∀dx H',Ah H H'->H dx=none->H' dx=some (.xd [("place",.int k)])->E (.ref C) (some dx) H'
theorem Zq.same {E:XK}{o:Option (List V)}(s:Ah H H1)(h:Zq C H E o):Zq C H1 E o:=λk hk dx H' s1 hx hx1=>h k hk dx H' (s.trans s1) (s.free hx) hx1
def ThA (K:dn)(H:Hp)(v:V):Option (List V)->Prop
 |some xs=>∃a,v=.ref a/\H a=some (.lst xs)/\(∀x∈xs,Any K H x)/\xs.length<=10000
 |none=>∃t,Gj K H v t/\kitOne K t (.type "list")=some false
theorem ThA.same {K:dn}{v:V}{o:Option (List V)}(s:Ah H H')(h:ThA K H v o):ThA K H' v o:=by
 cases o with
 |some xs=>obtain⟨a,e,ha,hf,r⟩:=h;exact⟨a,e,s _ _ ha,λx hx=>(hf x hx).same s,r⟩
 |none=>obtain⟨t,ht,r⟩:=h;exact⟨t,Gj.same s ht,r⟩
def vV (o:Option (List V))(r:V):Prop:=(r=.non/\∃ds,Ia o ds)\/∃k:Nat,r=.int k/\Kz o k
theorem vE {w:List Int}{e:Int}:inV (.int e) (w.map V.int)=decide (e∈w):=by
 unfold inV;rw[CH]
 by_cases h:e∈w
 ·rw[decide_eq_true h,ra]
  exact⟨e,h,by simp[eqV]⟩
 ·rw[decide_eq_false h]
  refine qq.mpr λhc=>?_;obtain⟨x,hx,hxe⟩:=ra.mp hc;have:x=e:=by simpa [eqV] using hxe
  exact h (this▸hx)
theorem pM (n:Nat)(i:Int):(dv n [V.int i]).flatten=(dv n i).map V.int:=by
 induction n with
 |zero=>rfl
 |succ n ih=>rw[ig,jl,ih,ig];rfl
theorem iI:Kz (some ((dv 4001 (-1:Int)).map V.int)) 4000:=by
 refine⟨dv 4000 0,Hd 4000,gm,by rw[du,gm];lia,d3 _,?_,.inl rfl⟩;rw[T5,<-ng,List.take_replicate];rfl
theorem To {ds:Za4}(hD:Dok ds)(hl:ds.length<=4000):Ia (some ((B2 ds).map V.int)) ds:=⟨hD,hl,rfl⟩
theorem Ou {ds es:Za4}(hD:Dok ds)(h:Ia (some ((B2 ds).map V.int)) es):es=ds:=by
 obtain⟨hE,_,e⟩:=h;have e2:B2 ds=B2 es:=by
  have:=congrArg (List.map λv:V=>match v with|.int i=>i|_=>0) e;rw[jz,jz] at this;have hid:∀l:List Int,l.map ((λv:V=>match v with|.int i=>i|_=>0) ∘ V.int)=l:=λl=>by
   conv=>rhs;rw[<-DM l]
   exact j0 λ_ _=>rfl
  rw[hid,hid] at this;exact this
 exact(oR hD hE e2).symm
theorem Jn {K:dn}{a:dw}(h:H a=some (.lst (ns.map V.int)))(hl:ns.length<=4000):ThA K H (.ref a) (some (ns.map V.int)):=
 ⟨a,rfl,h,λx hx=>by obtain⟨n,_,rfl⟩:=lj.mp hx;exact B1 n,by rw[du];lia⟩
theorem Lm {E:XK}{o:Option (List V)}{ds:Za4}(h:Ia o ds):Zq C H E o:=λk hk=>(Ge hk h).elim
theorem sT {i:Nat}(h:i<=10000):((i:Int)).natAbs<10 ^ 12:=by
 have:(10000:Nat)<10 ^ 12:=by decide
 lia
def NoK (k:V)(n:Nat):Prop:=inI k 0 ((n:Int)-1)=false
theorem NoK.no {k:V}{n:Nat}(hb:NoK k n)(h:inI k 0 ((n:Int)-1)=true):False:=by
 unfold NoK at hb;rw[hb] at h;cases h
theorem rT {k:V}{g:Int}(h:inI k 0 g=true):∃j:Nat,k=.int j/\(j:Int)<=g:=by
 cases k with
 |int i=>
  rw[F7,mw,decide_eq_true_eq,decide_eq_true_eq] at h;exact⟨i.toNat,by rw[uf h.1],by lia⟩
 |_=>cases h
theorem fG {j:Nat}{g:Int}(h:(j:Int)<=g):inI (.int j) 0 g=true:=by
 rw[F7,decide_eq_true (by lia),decide_eq_true h];rfl
theorem NoK.yes {j n:Nat}(h:NoK (.int j) n):¬ j<n:=λhj=>h.no (fG (by lia))
theorem Ia.ok {o:Option (List V)}{ds:Za4}(h:Ia o ds):Dok ds/\ds.length<=4000/\o=some ((B2 ds).map V.int):=by
 cases o with
 |some xs=>exact⟨h.1,h.2.1,congrArg some h.2.2⟩
 |none=>exact h.elim
theorem jZ {k:Nat}{m:Str}{apos:Pos}{o:gq}{ta:TE}{E:XK}{G:St}(M:Te X.prog X.w X.K X.mg X.base C m k ps sp)(hr:B3 k X.A)(hx:Si (CXE X.prog X.w) X pins G E)(ho:PE X o ta)
  (ht:autoParam (eval (.Call (.Attribute o m apos) [] [] pos) X.env=(do
   let ov <-eval o X.env
   standAt apos.atName
   let (f,first) <-holding [ov] (getMethod ov m pl)
   callWith pos f first (backTo pos (starEach [] X.env)) (backToKw pos (keywordEach [] X.env)))) QD) :
  qU X pins G (.Call (.Attribute o m apos) [] [] pos) (Pf C m sp [] E ta Ld):=by
 obtain⟨f,fd,F,b,hm⟩:=M.ex;intro s H Q I h;refine me (pl:=pl) (thE ho I h λu s1 x H1 I1 rx ⟨a,dx,fs,ex,ea,l,q⟩=>?_) ht;subst ex;obtain rfl:u=ia a:=rx;refine Hj I1 ea M.cl hm l ?_;exact xz (first:=[.ref a]) I1.kIn hm.kp (lM (us:=[.ref a]) (vs:=[.ref a]) F hr b hx I1 (.cons rfl .nil) q)
inductive eR (K:dn)(ts:List Tb)(vs:List V)(H:Hp)(Q:VK)(E:XK):Prop|mk(a:dw)(ns:List Int)(_:vs=[.ref a])(_:SqL K H a (ns.map V.int))(_:ns.length<=63)(_:Tbs ts H)(_:∀H',Q (.bl true) H')
abbrev tz:List Tb:=[⟨771,Fq,"PiecedRow.opening.<locals>.<lambda>"⟩,⟨776,Ei,"PiecedRow.stretch_at.<locals>.<lambda>"⟩,⟨790,E4,"PiecedRow.pieces_to.<locals>.<lambda>"⟩]
abbrev AllMk:Prop:=∀{l:uy} {w:gr} {K:dn} {h:im} {mg:Za2} {fa:dw} (X:K.In h) (G:h.Ns mainGlobals mg) (hfa:mg "law"=some (.ref fa))
  {ac:dw}
  {aa:dw}
  {ae:dw}
  {aZ:dw}
  {ba:dw}
  {f0:dw} {od0 an0:Option dw} {sl0:Array (Za7)} {oc0 kV0 dc0 pm0 cd0 ct0:ed}
  {f22:dw} {od22 an22:Option dw} {sl22:Array (Za7)} {oc22 kV22 dc22 pm22 ct22:ed}
  {oo22:Obj}
  {f23:dw} {od23 an23:Option dw} {sl23:Array (Za7)} {oc23 kV23 dc23 pm23 ct23:ed}
  {oo23:Obj}
  {f30:dw} {od30 an30:Option dw} {sl30:Array (Za7)} {oc30 kV30 dc30 pm30 ct30:ed}
  {oo30:Obj}
  {t_MOST_KNOTS:Tok}
  {t_MOST_SIGNS_pairs:Tok}
  {t_MOST_SIGNS_woods:Tok}
  {t_PIECE_SIGNS:Tok}
  {t_ENOUGH_SIGNS:Tok}
  {aq:dw}
  {ai:dw}
  {am:dw}
  {ag:dw}
  {ao:dw}
  {aj:dw}
  {nm_NoWood qn_NoWood:Str} {N_NoWood:dw} {bs_NoWood:Za3} {sn_NoWood:Za6} {sub_NoWood:Za3} {ab_NoWood:Bool} {col_NoWood:Option Bool} {dd_NoWood:Option dw} {k0_NoWood k1_NoWood k2_NoWood k3_NoWood k5_NoWood:Za7}
  (cd_Piece:CD K ac "Piece")
  (fd_Piece:FD K ac ["signs","kept_sums","greatest","often_least"])
  (cd_PiecedRow:CD K aa "PiecedRow")
  (fd_PiecedRow:FD K aa ["kept_pieces","begins","knots_ahead","length","kept_table","often_least"])
  (cd_Shaped:CD K ae "Shaped")
  (fd_Shaped:FD K ae ["pairs","earlier"])
  (bc_Heights:BC K aZ "Heights")
  (bc_Openings:BC K ba "Openings")
  (i0:nh K (.ref f0)=true)
  (a0:i4 K (.ref ag) "__init__"=some (some (.ref f0))) (l0:K.lookup f0=some ⟨oc0,od0,.func (jr "__init__" "NoWood.__init__" (Cn Dh) (B0 Dh) (Af Dh) .none kV0 dc0 pm0 an0 cd0 ct0),sl0⟩) (c0:kz K cd0 "NoWood.__init__"=true) (k0:jg K (.ref f0)=true)
  (g1:GD K "is_whole" M0)
  (g2:GD K "is_within" Ky)
  (g3:GD K "check_place" Iq)
  (g4:GD K "check_knot" Jx)
  (g5:GD K "check_height" Hb)
  (g6:GD K "first_that" Ke)
  (g7:GD K "running_sums" Hi)
  (g8:GD K "heights_of" J1)
  (g9:GD K "sums_of" Ol)
  (g10:BD K aZ "__init__" "Heights.__init__" Hr)
  (g11:MD K aa "size" "Heights.size" Hs)
  (g12:GD K "check_row" K1)
  (g13:GD K "look_at" Oa)
  (g14:GD K "depths_of" K7)
  (g15:GD K "row_of" Sl)
  (g16:GD K "elders_of" K8)
  (g17:BD K ba "__init__" "Openings.__init__" Gg)
  (g18:MD K ae "many_knots" "Openings.many_knots" Dk)
  (g19:MD K ac "__init__" "Piece.__init__" J2)
  (g20:GD K "pieces_of" Gf)
  (g21:MD K aa "__init__" "PiecedRow.__init__" Bo)
  (i22:nh K (.ref f22)=true)
  (a22:i4 K (.ref aa) "stretch_at"=some (some (.ref f22))) (l22:K.lookup f22=some ⟨oc22,od22,.func (jr "stretch_at" "PiecedRow.stretch_at" (Cn A5) (B0 A5) (Af A5) .none kV22 dc22 pm22 an22 (.ref 780) ct22),sl22⟩) (c22:kz K (.ref 780) "PiecedRow.stretch_at"=true) (k22:jg K (.ref f22)=true)
  (lc22:K.lookup 780=some oo22) (hc22:Kb oo22 780 776)
  (i23:nh K (.ref f23)=true)
  (a23:i4 K (.ref aa) "pieces_to"=some (some (.ref f23))) (l23:K.lookup f23=some ⟨oc23,od23,.func (jr "pieces_to" "PiecedRow.pieces_to" (Cn Ba) (B0 Ba) (Af Ba) .none kV23 dc23 pm23 an23 (.ref 794) ct23),sl23⟩) (c23:kz K (.ref 794) "PiecedRow.pieces_to"=true) (k23:jg K (.ref f23)=true)
  (lc23:K.lookup 794=some oo23) (hc23:Kb oo23 794 790)
  (g24:MD K aa "stretch" "PiecedRow.stretch" Cu)
  (g25:MD K aa "text" "Heights.text" Hv)
  (g26:MD K aa "opens_ahead" "PiecedRow.opens_ahead" Cw)
  (g27:MD K aa "height" "Heights.height" Fu)
  (g28:MD K aa "is_opening" "PiecedRow.is_opening" Dc)
  (g29:MD K aa "begin_of" "PiecedRow.begin_of" Do)
  (i30:nh K (.ref f30)=true)
  (a30:i4 K (.ref aa) "opening"=some (some (.ref f30))) (l30:K.lookup f30=some ⟨oc30,od30,.func (jr "opening" "PiecedRow.opening" (Cn A8) (B0 A8) (Af A8) .none kV30 dc30 pm30 an30 (.ref 773) ct30),sl30⟩) (c30:kz K (.ref 773) "PiecedRow.opening"=true) (k30:jg K (.ref f30)=true)
  (lc30:K.lookup 773=some oo30) (hc30:Kb oo30 773 771)
  (g31:MD K aa "parts" "Heights.parts" Ep)
  (g32:MD K aa "may_meet" "Heights.may_meet" Et)
  (g33:MD K aa "heights_within" "Heights.heights_within" Cs)
  (g34:MD K aa "next_within" "Heights.next_within" Dj)
  (g35:MD K aa "next_at" "Heights.next_at" Fi)
  (g36:MD K aa "partner" "Heights.partner" Fd)
  (g37:MD K aa "is_stretch" "Heights.is_stretch" Dv)
  (g38:MD K aa "often_within" "Heights.often_within" Db)
  (g39:MD K aa "nth_within" "Heights.nth_within" Cr)
  (g40:MD K aa "many_level" "Heights.many_level" Cp)
  (g41:MD K aa "nth_level" "Heights.nth_level" D0)
  (g42:MD K ae "row" "Openings.row" Hu)
  (g43:MD K ae "elders" "Openings.elders" Fc)
  (g44:MD K ae "opening" "Openings.opening" Eu)
  (g45:MD K ae "closing" "Openings.closing" Ew)
  (g46:MD K ae "many" "Openings.many" Gk)
  (g47:MD K ae "nth" "Wood.nth" My)
  (g48:MD K ae "many_tops" "Openings.many_tops" Dp)
  (g49:MD K aa "replaced" "PiecedRow.replaced" Dq)
  (g50:MD K ae "__init__" "Shaped.__init__" Ix)
  (g51:MD K ae "pieces" "Shaped.pieces" Eo)
  (g52:MD K ae "replace_signs" "Shaped.replace_signs" De)
  (g53:MD K ae "cut" "Shaped.cut" Ka)
  (g54:MD K ae "take_back" "Shaped.take_back" Er)
  (g55:MD K ae "graft" "Shaped.graft" Hf)
  (g56:GD K "_law_cell_at" Iy)
  (g57:GD K "_law_whole" Lc)
  (g58:GD K "_law_mixed" K5)
  (g59:GD K "_law_digits" Kj)
  (g60:GD K "_law_wood" M4)
  (g61:GD K "_law_fault" K6)
  (g62:GD K "_law_kind" Hn)
  (g63:GD K "_law_done" Mx)
  (g64:GD K "_law_no_wood" Iu)
  (g65:GD K "_law_due" Oo)
  (g66:GD K "_law_chain" Ga)
  (g67:GD K "_law_of_none" Iw)
  (g68:GD K "_law_beyond" Gs)
  (g69:GD K "law" Rf)
  (cu:ic K mainGlobals "MOST_KNOTS"=some (some (.int 4000 t_MOST_KNOTS)))
  (cE:ic K mainGlobals "MOST_SIGNS_pairs"=some (some (.int 8192 t_MOST_SIGNS_pairs)))
  (cA:ic K mainGlobals "MOST_SIGNS_woods"=some (some (.int 8000 t_MOST_SIGNS_woods)))
  (cw:ic K mainGlobals "PIECE_SIGNS"=some (some (.int 128 t_PIECE_SIGNS)))
  (cy:ic K mainGlobals "ENOUGH_SIGNS"=some (some (.int 64 t_ENOUGH_SIGNS)))
  (z_range:ic K mainGlobals "range"=some none)
  (z_len:ic K mainGlobals "len"=some none)
  (z_int:ic K mainGlobals "int"=some none)
  (z_bool:ic K mainGlobals "bool"=some none)
  (z_str:ic K mainGlobals "str"=some none)
  (z_isinstance:ic K mainGlobals "isinstance"=some none)
  (z_list:ic K mainGlobals "list"=some none)
  (z_tuple:ic K mainGlobals "tuple"=some none)
  (z_zip:ic K mainGlobals "zip"=some none)
  (z_enumerate:ic K mainGlobals "enumerate"=some none)
  (z_abs:ic K mainGlobals "abs"=some none)
  (z_max:ic K mainGlobals "max"=some none)
  (z_min:ic K mainGlobals "min"=some none)
  (z_sum:ic K mainGlobals "sum"=some none)
  (z_dict:ic K mainGlobals "dict"=some none)
  (z_ValueError:ic K mainGlobals "ValueError"=some none)
  (eg_WoodError:ic K mainGlobals "WoodError"=some (some (.ref aq)))
  (eg_NoKnot:ic K mainGlobals "NoKnot"=some (some (.ref ai)))
  (eg_NoGraft:ic K mainGlobals "NoGraft"=some (some (.ref am)))
  (eg_NoWood:ic K mainGlobals "NoWood"=some (some (.ref ag)))
  (eg_TooLarge:ic K mainGlobals "TooLarge"=some (some (.ref ao)))
  (eg_NoDeed:ic K mainGlobals "NoDeed"=some (some (.ref aj)))
  (ex_WoodError:l9 K aq E1 "ValueError.__new__"=true)
  (bg_WoodError:yu K (.ref aq) "__getattribute__"=some (some (.builtin "type.__getattribute__")))
  (br_WoodError:PySem.W.readsIn K aq (.type "type")=true)
  (bi_WoodError:PySem.W.findCls K (.ref aq) (.type "type") "__init__"=some (.val (.builtin "ValueError.__init__")))
  (ex_NoKnot:l9 K ai E1 "ValueError.__new__"=true)
  (xk_NoKnot:Gx K ai)
  (cr:exmOne K (.ref ai) (.ref aq)=some true)
  (ex_NoGraft:l9 K am E1 "ValueError.__new__"=true)
  (xk_NoGraft:Gx K am)
  (cC:exmOne K (.ref am) (.ref aq)=some true)
  (sa_NoWood:i4 K (.ref ag) "__setattr__"=some (some (.builtin "object.__setattr__")))
  (pl_NoWood:i4 K (.ref ag) "place"=some none)
  (xk_NoWood:Gx K ag)
  (cq:exmOne K (.ref ag) (.ref aq)=some true)
  (cJ:exmOne K (.ref ag) (.ref ag)=some true)
  (ex_TooLarge:l9 K ao E1 "ValueError.__new__"=true)
  (xk_TooLarge:Gx K ao)
  (cx:exmOne K (.ref ao) (.ref aq)=some true)
  (ex_NoDeed:l9 K aj E1 "ValueError.__new__"=true)
  (xk_NoDeed:Gx K aj)
  (cF:exmOne K (.ref aj) (.ref aq)=some true)
  (ci:KL K ai [(.ref ai,true),(.ref am,false),(.ref ag,false),(.ref ao,false),(.ref aj,false),(.type "ValueError",true)])
  (cm:KL K am [(.ref ai,false),(.ref am,true),(.ref ag,false),(.ref ao,false),(.ref aj,false),(.type "ValueError",true)])
  (ck:KL K ag [(.ref ai,false),(.ref am,false),(.ref ag,true),(.ref ao,false),(.ref aj,false),(.type "ValueError",true)])
  (cg:KL K ao [(.ref ai,false),(.ref am,false),(.ref ag,false),(.ref ao,true),(.ref aj,false),(.type "ValueError",true)])
  (cn:KL K aj [(.ref ai,false),(.ref am,false),(.ref ag,false),(.ref ao,false),(.ref aj,true),(.type "ValueError",true)])
  (ob_NoWood:K.lookup ag=some (excClassObj nm_NoWood qn_NoWood ag N_NoWood bs_NoWood (.ref aq::E1) true sn_NoWood sub_NoWood ab_NoWood col_NoWood dd_NoWood k0_NoWood k1_NoWood k2_NoWood k3_NoWood k5_NoWood "ValueError.__new__")),
   ∃fd:i3,(∀(s:eg) (v:ed),yi s fd ⟨[v],[]⟩ [("_law_script",v)])/\∀base:im,K.In base->base.Ns mainGlobals mg->(∀q∈([(773,771),(780,776),(794,790)]:List (dw×dw)),base.BuiltinsAt mg q.2)->Ay l.prog w K mg base CX0 17 fa fd ["_law_script"] (eR K tz)
theorem walk {l:uy}{q:fq}{loose:Za6}{XP:(Za2)->im->Prop}{YP:gr->im->Prop}{d:FM}{K:xb->dn}(hn:l.most=some 63)(hdf:d.params.defaults=[])
  (hY:∀(w:gr) (h:im),YP w h->(K w.params).In h)(hTb:∀(w:gr) (h:im),YP w h->vi [(773,771),(780,776),(794,790)] h)(hTK:∀w:gr,∀p∈([(773,771),(780,776),(794,790)]:List (dw×dw)),(K w.params).lookup p.2=none)
  (F:∀(w:gr) (mg:Za2) (fa:dw) (h:im),(K w.params).In h->h.Ns mainGlobals mg->mg d.name=some (.ref fa) ->
   ∃fd:i3,(∀(s:eg) (u:ed),yi s fd ⟨[u],[]⟩ [("_law_script",u)])/\∀base:im,(K w.params).In base->base.Ns mainGlobals mg->(∀q∈([(773,771),(780,776),(794,790)]:List (dw×dw)),base.BuiltinsAt mg q.2)->Ay l.prog w (K w.params) mg base CX0 17 fa fd ["_law_script"] (eR (K w.params) tz)) :
  z8 q loose XP YP l.row.toRowW d [] (λf vs=>zc f vs):=
 L2.jX (n:=63) (k:=17) (x:="_law_script") (tabs:=[(773,771),(780,776),(794,790)]) (CX:=λ_=>CX0) (sp:=λw=>(eR (K w.params) tz)) hn (by decide) hdf ⟨rfl,by decide,by decide⟩ hY hTb hTK F (λ_ _ a ns hl hO hS=>⟨a,ns,rfl,hS,hl,⟨jq.mpr ⟨⟨#[],hO (773,771) (by simp),trivial,.inl rfl⟩,jq.mpr ⟨⟨#[],hO (780,776) (by simp),trivial,.inl rfl⟩,jq.mpr ⟨⟨#[],hO (794,790) (by simp),trivial,.inl rfl⟩,λ_ h=>nomatch h⟩⟩⟩,by decide⟩,λ_=>rfl⟩) λ_ _ _ _ _ z=>z
end TK
end
section
noncomputable def PySem.W.Fast.tw11081520066570044398:BF:=gv
theorem PySem.W.Fast.te11081520066570044398:gv=PySem.W.Fast.tw11081520066570044398:=rfl
noncomputable def HD.loose:List zw:=[d6 "_wall",d6 "WoodError",d6 "NoPlace",d6 "NoRow",d6 "NoWood",d6 "NoKnot",d6 "NoGraft",d6 "TooLarge",d6 "NoDeed",d6 "is_whole",d6 "is_within",d6 "check_place",d6 "check_from_nought",d6 "check_knot",d6 "first_that",d6 "running_sums",d6 "heights_of",d6 "check_height",d6 "Heights",d6 "MOST_SIGNS_pairs",d6 "check_row",d6 "MOST_KNOTS",d6 "MOST_SIGNS_woods",d6 "look_at",d6 "row_of",d6 "elders_of",d6 "depths_of",d6 "Wood",d6 "Openings",d6 "PIECE_SIGNS",d6 "ENOUGH_SIGNS",d6 "sums_of",d6 "pieces_of",d6 "Piece",d6 "PiecedRow",d6 "Shaped",d6 "_law_cell_at",d6 "_law_whole",d6 "_law_mixed",d6 "_law_digits",d6 "_law_wood",d6 "_law_kind",d6 "_law_done",d6 "_law_no_wood",d6 "_law_fault",d6 "_law_due",d6 "_law_chain",d6 "_law_of_none",d6 "_law_beyond"]
def HD.LD:PySem.DefRec:=HD.recOf (gv.main.body.getD 59 (.Pass ⟨0,0,0,0⟩))
def HD.VQ:BF:=PySem.W.view gv [59]
theorem HD.A_ok (w:CC):(λos=>HD.oneA (HD.bootT w os) (PySem.W.boot_heap w.params) HD.bootSize gv 100000 w)=(λ_=>some true):=by rw[HD.oneA_eq];kernel_rfl
theorem HD.B_ok (w:CC):(λos=>HD.oneB (HD.bootT w os) HD.bootSize gv HD.VQ HD.loose 100000 w)=(λ_=>some (PySem.W.openGood HD.VQ HD.loose)):=by rw[HD.oneB_eq];kernel_rfl
set_option hygiene false in
local macro_rules | `(tactic| o_head $H)=>`(tactic| (refine PySem.W.holds_open (q:=HD.VQ) (loose:=HD.loose) (d:=HD.LD) (kwd:=[]) (Xt:=λ_=>true) (XP:=λ_ _=>True) (Yf:=xk $H) (Ya:=xj $H) (YP:=EA $H) (N:=100000) (HD.left_of3 (p:=gv) (q:=HD.VQ) (loose:=HD.loose) (Yf:=xk $H) (Ya:=xj $H) (N:=100000) (M:=100000) (by kernel_rfl) (λ_=>by kernel_rfl) (by kernel_rfl) (by kernel_rfl) HD.A_ok HD.B_ok (HD.hC_km (λw=>by rw [HD.oneP_eq];kernel_rfl))) (EB $H) (EC $H) (λ_ _=>trivial) (λ_ _ _ _ _=>trivial) (by kernel_rfl) (by kernel_rfl) (by kernel_rfl) (λ_ _=>PySem.W.recFacts_nil rfl) rfl (by assumption) (by decide +kernel) ⟨rfl,rfl,rfl,rfl,rfl,by decide +kernel⟩ ?_ ?_))
open PySem PySem.W PyProof.Rows
set_option maxRecDepth 100000 in
set_option maxHeartbeats 0 in
theorem TK.HEAD (AM:TK.AllMk):lp.Holds:=by
 w_on;o_law;k_head
 ·w_witness2
 k_fill
 refine TK.walk (l:=lp) rfl (by kernel_rfl) (λw h Y=>yk Y) (λw h Y=>jq.mpr ⟨⟨sq (c:=773) (P:=771) (yk Y) (by kernel_rfl),tm Y 771 (by simp)⟩,jq.mpr ⟨⟨sq (c:=780) (P:=776) (yk Y) (by kernel_rfl),tm Y 776 (by simp)⟩,jq.mpr ⟨⟨sq (c:=794) (P:=790) (yk Y) (by kernel_rfl),tm Y 790 (by simp)⟩,λ_ h=>nomatch h⟩⟩⟩) (λw=>jq.mpr ⟨by kernel_rfl,jq.mpr ⟨by kernel_rfl,jq.mpr ⟨by kernel_rfl,λ_ h=>nomatch h⟩⟩⟩) ?F
 case F=>
  intro w mg fa h KX G hmg;refine' AM KX G hmg ?cd_Piece ?fd_Piece ?cd_PiecedRow ?fd_PiecedRow ?cd_Shaped ?fd_Shaped ?bc_Heights ?bc_Openings ?i0 ?a0 ?l0 ?c0 ?k0 ?g1 ?g2 ?g3 ?g4 ?g5 ?g6 ?g7 ?g8 ?g9 ?g10 ?g11 ?g12 ?g13 ?g14 ?g15 ?g16 ?g17 ?g18 ?g19 ?g20 ?g21 ?i22 ?a22 ?l22 ?c22 ?k22 ?lc22 ?hc22 ?i23 ?a23 ?l23 ?c23 ?k23 ?lc23 ?hc23 ?g24 ?g25 ?g26 ?g27 ?g28 ?g29 ?i30 ?a30 ?l30 ?c30 ?k30 ?lc30 ?hc30 ?g31 ?g32 ?g33 ?g34 ?g35 ?g36 ?g37 ?g38 ?g39 ?g40 ?g41 ?g42 ?g43 ?g44 ?g45 ?g46 ?g47 ?g48 ?g49 ?g50 ?g51 ?g52 ?g53 ?g54 ?g55 ?g56 ?g57 ?g58 ?g59 ?g60 ?g61 ?g62 ?g63 ?g64 ?g65 ?g66 ?g67 ?g68 ?g69 ?cu ?cE ?cA ?cw ?cy ?z_range ?z_len ?z_int ?z_bool ?z_str ?z_isinstance ?z_list ?z_tuple ?z_zip ?z_enumerate ?z_abs ?z_max ?z_min ?z_sum ?z_dict ?z_ValueError ?eg_WoodError ?eg_NoKnot ?eg_NoGraft ?eg_NoWood ?eg_TooLarge ?eg_NoDeed ?ex_WoodError ?bg_WoodError ?br_WoodError ?bi_WoodError ?ex_NoKnot ?xk_NoKnot ?cr ?ex_NoGraft ?xk_NoGraft ?cC ?sa_NoWood ?pl_NoWood ?xk_NoWood ?cq ?cJ ?ex_TooLarge ?xk_TooLarge ?cx ?ex_NoDeed ?xk_NoDeed ?cF ?ci ?cm ?ck ?cg ?cn ?ob_NoWood
  (case eg_WoodError|eg_NoKnot|eg_NoGraft|eg_NoWood|eg_TooLarge|eg_NoDeed=>k_is)
  (case cd_Piece|cd_PiecedRow|cd_Shaped|bc_Heights|bc_Openings=>refine' ⟨?_,?_,?_⟩<;>try k_is)
  (case fd_Piece|fd_PiecedRow|fd_Shaped=>refine' L2.fD ?_ ?_ ?_ ?_ ?_<;>try first|k_is|kernel_rfl)
  (case g1|g2|g3|g4|g5|g6|g7|g8|g9|g12|g13|g14|g15|g16|g20|g56|g57|g58|g59|g60|g61|g62|g63|g64|g65|g66|g67|g68|g69=>refine' L2.gD ?_ ?_ ?_ ?_<;>try k_is)
  (case g11|g18|g19|g21|g24|g25|g26|g27|g28|g29|g31|g32|g33|g34|g35|g36|g37|g38|g39|g40|g41|g42|g43|g44|g45|g46|g47|g48|g49|g50|g51|g52|g53|g54|g55=>refine' L2.mD ?_ ?_ ?_ ?_ ?_<;>try k_is)
  (case g10|g17=>refine' L2.bD ?_ ?_ ?_ ?_<;>try k_is)
  (case xk_NoKnot|xk_NoGraft|xk_NoWood|xk_TooLarge|xk_NoDeed=>refine' ⟨?_,?_,?_,?_,?_,?_,?_⟩<;>k_is)
  (case ci|cm|ck|cg|cn=>(repeat' refine And.intro ?_ ?_)<;>first|kit_is|exact trivial)
  (case ex_WoodError|ex_NoKnot|ex_NoGraft|ex_TooLarge|ex_NoDeed=>k_exc)
  (case cr|cC|cq|cJ|cx|cF=>kts_exm)
  (case cu|cE|cA|cw|cy|z_range|z_len|z_int|z_bool|z_str|z_isinstance|z_list|z_tuple|z_zip|z_enumerate|z_abs|z_max|z_min|z_sum|z_dict|z_ValueError|bg_WoodError|br_WoodError|bi_WoodError|sa_NoWood|pl_NoWood|a0|l0|c0|k0|i0|a22|l22|c22|k22|i22|lc22=>k_is)
  (case hc22=>exact⟨_,_,_,_,_,_,_,_,rfl,rfl,rfl,rfl,rfl,rfl,rfl,rfl,by decide⟩)
  (case a23|l23|c23|k23|i23|lc23=>k_is)
  (case hc23=>exact⟨_,_,_,_,_,_,_,_,rfl,rfl,rfl,rfl,rfl,rfl,rfl,rfl,by decide⟩)
  (case a30|l30|c30|k30|i30|lc30=>k_is)
  (case hc30=>exact⟨_,_,_,_,_,_,_,_,rfl,rfl,rfl,rfl,rfl,rfl,rfl,rfl,by decide⟩)
  (case ob_NoWood=>k_is)
end
section
set_option hygiene false in
local macro_rules | `(tactic| exists $x)=>`(tactic| (refine $x (λvs H Q E h=>?_) (λcdv A outer s H vs Q E hr h=>?_);focus(first|(cases h;subst_vars;rfl)|(obtain⟨_,h⟩:=h;cases h;subst_vars;rfl))))
set_option hygiene false in
local macro_rules | `(tactic| walk_at "rd")=>`(tactic| repeat (first | (with_reducible first|refine xR ?_|refine wS ?_|refine zI ?_|refine sA ?_|refine zN ?_|refine r_retN ?_|refine vC ?_|refine zH ?_|refine vY ?_|refine Aai ?_|refine yD ?_|refine xS ?_|refine Aaj ?_|refine Aab ?_|refine uW ?_|refine Aav ?_|refine Aay ?_|refine Aax ?_|refine r_c ?_|refine yE ?_|refine zG ?_|refine Aar ?_|refine yO ?_|refine zL ?_|refine xO ?_|refine vW ?_|refine Aak ?_|refine yX ?_|refine zQ ?_|refine Aao ?_|refine yK ?_|refine Aaf ?_|refine kY ?_|refine uX ?_|refine zE ?_|refine wC ?_|refine vO ?_|refine r_rng3 ?_|refine sX ?_|refine r_itup ?_|refine xI ?_|refine Aas ?_|refine zY ?_|refine zT ?_|refine rK ?_|refine xH ?_|refine r_orV ?_|refine vX ?_|refine zK ?_|refine xN ?_|refine wU ?_|refine wD ?_|refine r_rev ?_|refine yP ?_|refine wG ?_|refine rQ ?_|refine zO ?_|refine pF ?_|refine r_rngD ?_|refine vK ?_|refine sS ?_|refine wY ?_|refine pB ?_|refine sW ?_|refine lU ?_|refine wP ?_|refine rA ?_|refine zP ?_|refine vZ ?_|refine sG ?_|refine sZ ?_|refine tN (by decide) ?_|refine r_shr (by decide) ?_|refine tZ (by decide) (by decide) ?_|refine Rb (by decide) (by decide) ?_|refine mH (by decide) (by decide) ?_|refine xV rfl ?_|refine zF rfl ?_|refine Aat ?_|refine Aal ?_|refine zR ?_|refine Aae ?_) | refine zC rfl ?_ | refine yG rfl ?_ | dsimp only))
namespace TK
open PySem L2 TW
variable {C CS Pt dx i1 i2 it l1 l2 z:dw} {params:lu} {A:ii} {CX:CXT} {op:ss} {X:Cx} {env:Env} {tg:gq} {fd:i3} {base h h' h1:im} {H H' H1 H2:Hp} {J:It} {pins:Za1} {fp:List dw} {outer:List Env} {elts:List gq} {ns:List Int} {ix:Za4} {N ps:Za6} {ts:List Tb} {xs:List V} {us vs:Za3} {M:rk} {off t':Nat} {oT:Obj} {od:Option dw} {pos:Pos} {scope:lm} {pl:Sem Bool} {s s2:eg} {sp:Sp} {st:io} {qual:Str} {tk:TA} {te:TE} {wi:TI} {y:V} {pm:ed} {w:gr}
local macro_rules | `(tactic| k_is)=>`(tactic| walk_at "rd")
local macro_rules | `(tactic| apply $t)=>`(tactic| (k_is;refine $t))
structure Qc (K:dn) (C:dw):Prop where
 cl:Cls K C
 cI:Ch K C "signs"
 cO:Ch K C "kept_sums"
 cT:Ch K C "greatest"
 cG:Ch K C "often_least"
structure Qa (K:dn) (C:dw):Prop where
 cl:Cls K C
 cj:Ch K C "kept_pieces"
 b8:Ch K C "begins"
 cH:Ch K C "knots_ahead"
 cD:Ch K C "length"
 cR:Ch K C "kept_table"
 cG:Ch K C "often_least"
structure Qb (K:dn) (C:dw):Prop where
 cl:Cls K C
 cf:Ch K C "pairs"
 cP:Ch K C "earlier"
structure Txt (P:fq) (w:gr) (base:im) (ts:List Tb) (K:dn) (mg:Za2) (aq:dw) (ai:dw) (am:dw) (ag:dw) (ao:dw) (aj:dw):Prop where
 cN:mg "WoodError"=some (.ref aq)
 c5:mg "NoKnot"=some (.ref ai)
 de:mg "NoGraft"=some (.ref am)
 cV:mg "NoWood"=some (.ref ag)
 da:mg "TooLarge"=some (.ref ao)
 dj:mg "NoDeed"=some (.ref aj)
 bw:uN K mg "WoodError" aq
 dg:Exc K mg "NoKnot" ai
 cZ:Gx K ai
 cr:exmOne K (.ref ai) (.ref aq)=some true
 di:Exc K mg "NoGraft" am
 c9:Gx K am
 cC:exmOne K (.ref am) (.ref aq)=some true
 cM:Gx K ag
 cq:exmOne K (.ref ag) (.ref aq)=some true
 cJ:exmOne K (.ref ag) (.ref ag)=some true
 db:Exc K mg "TooLarge" ao
 dc:Gx K ao
 cx:exmOne K (.ref ao) (.ref aq)=some true
 cY:Exc K mg "NoDeed" aj
 df:Gx K aj
 cF:exmOne K (.ref aj) (.ref aq)=some true
 ci:KL K ai [(.ref ai,true),(.ref am,false),(.ref ag,false),(.ref ao,false),(.ref aj,false),(.type "ValueError",true)]
 cm:KL K am [(.ref ai,false),(.ref am,true),(.ref ag,false),(.ref ao,false),(.ref aj,false),(.type "ValueError",true)]
 ck:KL K ag [(.ref ai,false),(.ref am,false),(.ref ag,true),(.ref ao,false),(.ref aj,false),(.type "ValueError",true)]
 cg:KL K ao [(.ref ai,false),(.ref am,false),(.ref ag,false),(.ref ao,true),(.ref aj,false),(.type "ValueError",true)]
 cn:KL K aj [(.ref ai,false),(.ref am,false),(.ref ag,false),(.ref ao,false),(.ref aj,true),(.type "ValueError",true)]
 cu:∃t,mg "MOST_KNOTS"=some (.int 4000 t)
 cE:∃t,mg "MOST_SIGNS_pairs"=some (.int 8192 t)
 cA:∃t,mg "MOST_SIGNS_woods"=some (.int 8000 t)
 cw:∃t,mg "PIECE_SIGNS"=some (.int 128 t)
 cy:∃t,mg "ENOUGH_SIGNS"=some (.int 64 t)
 cp:mg "range"=none
 bZ:mg "len"=none
 cS:mg "int"=none
 cX:mg "bool"=none
 n_str:mg "str"=none
 ce:mg "isinstance"=none
 cz:mg "list"=none
 n_tuple:mg "tuple"=none
 cL:mg "zip"=none
 cK:mg "enumerate"=none
 n_abs:mg "abs"=none
 cW:mg "max"=none
 cQ:mg "min"=none
 n_sum:mg "sum"=none
 n_dict:mg "dict"=none
 dh:mg "ValueError"=none
 cU:∃f,M5 K aq ag f
section
variable {P:fq} {w:gr} {K:dn} {mg:Za2} {base:im} {ac aa ae aq ai am ag ao aj:dw} {f:dw} {fd:i3} {ts:List Tb}
seal PE PA PT PW PS PSs PI PG
variable (T:Txt P w base ts K mg aq ai am ag ao aj)
include T in
theorem Wf (F:Fun K "__init__" "NoWood.__init__" Dh f fd):Ay P w K mg base CX0 1 f fd ["self","place"] (lH ag):=by
 exists F.ok Rv
 obtain⟨e,i,rfl,he,hi,q⟩:=h;obtain⟨fo,O⟩:=T.cU;refine⟨_,(Ab (Bl (pC T.bw rfl (tpa (pv 0) (tpa (sE (by decide) (pv 1)) Aa)))) (Ae (oV (pv 0) (pv 1)))),?_⟩
 apply⟨hi,λz=>?_⟩;apply⟨e,ag,fo,none,z,rfl,he,O,?_⟩;apply⟨e,_,ag,fo,rfl,he,O,T.cM,λdx hd=>?_⟩;k_is;exact q dx hd
inductive Nv (K:dn)(vs:List V)(H:Hp)(Q:VK)(E:XK):Prop|mk(x:V)(_:vs=[x])(_:Any K H x)(_:Q (.bl (isI x)) H)
include T in
theorem Yq (F:Fun K "is_whole" "is_whole" M0 f fd):Ay P w K mg base CX0 1 f fd ["thing"] (Nv K):=by
 exists F.ok X4
 obtain⟨x,rfl,⟨t,b1,b2,ty,k1,k2,e⟩,q⟩:=h;refine⟨_,(Ae (An (R4 (Ao Du (by rfl) T.ce Bi (tpa (pv 0) (tpa (Ic (v:=.ty "int") rfl T.cS lX rfl) Aa))) (So (kM (Ao Du (by rfl) T.ce Bi (tpa (pv 0) (tpa (Ic (v:=.ty "bool") rfl T.cX kO rfl) Aa)))))))),?_⟩;apply⟨_,_,_,_,rfl,ty,k1,?_⟩;rw[<-e] at q
 cases b1 with
 |false=>
  k_is;exact q
 |true=>
  apply⟨_,_,_,_,rfl,ty,k2,?_⟩;k_is;exact q
inductive Yr (K:dn)(vs:List V)(H:Hp)(Q:VK)(E:XK):Prop|mk(x:V)(lo:Int)(hi:Int)(_:vs=[x,.int lo,.int hi])(_:Any K H x)(_:Q (.bl (inI x lo hi)) H)
variable (aB:Cal P w K mg base "is_whole" 1 ["thing"] (Nv K))
include T aB in
theorem Vz (F:Fun K "is_within" "is_within" Ky f fd):Ay P w K mg base CX0 2 f fd ["thing","low","high"] (Yr K):=by
 exists F.ok U5
 obtain⟨x,lo,hi,rfl,ha,q⟩:=h;refine⟨_,(Ae (An (R4 (A4 aB hr.m (tpa (pv 0) Aa)) (So (Yl Nf Nf (pv 1) (pv 0) (pv 2)))))),?_⟩;apply⟨x,rfl,ha,?_⟩
 cases hx:isI x with
 |false=>
  k_is;have:inI x lo hi=false:=by cases x<;>first|rfl|cases hx
  rw[this] at q;exact q
 |true=>
  obtain⟨i,rfl⟩:=Rs hx;k_is;have e:inI (.int i) lo hi=(decide (lo<=i)&&decide (i<=hi)):=rfl;rw[e] at q;refine B5 (λh1=>?_) (λh1=>?_)
  ·k_is
   rw[decide_eq_true h1] at q;exact q
  ·k_is
   rw[decide_eq_false h1] at q;exact q
inductive Xh(vs:List V)(H:Hp)(Q:VK)(E:XK):Prop|mk(n g:Int)(_:vs=[.int n,.int g])(_:0<=n)(_:n<=g)(_:Q .non H)
variable (aC:Cal P w K mg base "is_within" 2 ["thing","low","high"] (Yr K))
include T aC in
theorem Rx (F:Fun K "check_place" "check_place" Iq f fd):Ay P w K mg base CX0 3 f fd ["place","greatest"] Xh:=by
 exists F.ok R6
 obtain⟨n,g,rfl,h0,h1,q⟩:=h;refine⟨_,(Ae (Bj (Ds (Cj (A4 aC hr.m (tpa (pv 0) (tpa Ad (tpa (pv 1) Aa)))))) (Ae Cl)
  At)),?_⟩
 apply⟨.int n,0,g,rfl,B1 _,?_⟩;rw[show inI (.int n) 0 g=true by rw[F7,decide_eq_true h0,decide_eq_true h1];rfl];k_is;exact q
inductive Pg (K:dn)(CN:dw)(vs:List V)(H:Hp)(Q:VK)(E:XK):Prop|mk(x:V)(g:Int)(_:vs=[x,.int g])(_:Any K H x)(_:(inI x 0 (g-1)=true->Q .non H))(_:(inI x 0 (g-1)=false->E (.ref CN) none H))
include T aC in
theorem S3 (F:Fun K "check_knot" "check_knot" Jx f fd):Ay P w K mg base (CXE P w) 3 f fd ["k","many_knots"] (Pg K ai):=by
 exists F.okE S2
 obtain⟨x,g,rfl,ha,q1,q2⟩:=h;refine⟨_,(Ae (Bj (Ds (Cj (A4 aC hr.m (tpa (pv 0) (tpa Ad (tpa (Al C5 (pv 1) Ad) Aa)))))) (Ae (Nt T.dg rfl (tpa Aw Aa)))
  At)),?_⟩
 apply⟨x,0,g-1,rfl,ha,?_⟩;k_is
 cases hx:inI x 0 (g-1) with
 |true=>
  k_is;exact q1 hx
 |false=>
  k_is;exact⟨by decide,q2 hx⟩
inductive nH(vs:List V)(H:Hp)(Q:VK)(E:XK):Prop|mk(i:Int)(_:vs=[.int i])(_:Q .non H)
include T aB in
theorem Pw (F:Fun K "check_height" "check_height" Hb f fd):Ay P w K mg base CX0 3 f fd ["height"] nH:=by
 exists F.ok Pm
 obtain⟨i,rfl,q⟩:=h;refine⟨_,(Ae (Bj (Ds (Cj (A4 aB hr.m (tpa (pv 0) Aa)))) (Ae Cl)
  At)),?_⟩
 apply⟨.int i,rfl,B1 _,?_⟩;k_is;exact q
include T in
theorem S8 (F:Fun K "first_that" "first_that" Ke f fd):Ay P w K mg base CX0 3 f fd ["low","high","holds"] (P5 P w K mg base 2):=by
 exists F.ok F5
 obtain⟨lo,hi,g,p,rfl,hle,hA,q⟩:=h;refine⟨_,(Ab (Sm i8 (ttc Mh (pv 0) (pv 1)) (Ab (tst 3 F5.nd (Al F8 (Al A0 (pv 0) (pv 1)) Ad)) (Ae (Bj (Cj (wW (k:=2) hr.m (i:=2) rfl rfl (pv 3))) (Ae (tst 1 F5.nd (pv 3))) (Ae (tst 0 F5.nd (Al A0 (pv 3) Ad))))))) (Ae (An (pv 0)))),?_⟩
 apply Rn (λG H'=>Ah H H'/\∃(x y:Int) (v:Option V),G=[some (.int x),some (.int y),some (.ref g),v]/\lo<=x/\x<=y/\y<=hi/\(lo<x->p (x-1)=false)/\(y<hi->p y=true)) (λG _=>match G with | [some (.int x),some (.int y),_,_]=>(y-x).toNat|_=>0) ⟨Ah.refl _,lo,hi,none,rfl,tw _,hle,tw _,λz=>absurd z (CI _),λz=>absurd z (CI _)⟩ ?_;rintro μ G H' ⟨sm,x,y,v,rfl,h1,h2,h3,h4,h5⟩ hμ;apply B5 (λhw=>?_) (λhw=>?_)
 ·refine Zv ?_
  apply⟨g,_,p,rfl,hA.same sm,?_⟩;k_is;have ht1:x<=(x+y)/2:=by lia
  have ht2:(x+y)/2<y:=by lia
  refine⟨_,rfl,Ah.refl _,⟨u8 h1 ht1,Int.lt_of_lt_of_le ht2 h3⟩,λH2 s2=>?_⟩;k_is;have hμ':y-x=(μ:Int):=by
   have:(y-x).toNat=μ:=hμ;lia
  cases hp:p ((x+y)/2) with
  |true=>
   apply⟨⟨sm.trans s2,x,(x+y)/2,_,rfl,h1,ht1,u8 (DO ht2) h3,h4,λ_=>hp⟩,?_⟩;show((x+y)/2-x).toNat<μ;generalize (x+y)/2=t at *;lia
  |false=>
   apply⟨⟨sm.trans s2,(x+y)/2+1,y,_,rfl,u8 h1 (u8 ht1 (DO (Int.lt_succ _))),ht2,h3,λ_=>by rw[Int.add_sub_cancel];exact hp,h5⟩,?_⟩;show(y-((x+y)/2+1)).toNat<μ;generalize (x+y)/2=t at *;lia
 ·k_is
  obtain rfl:x=y:=by lia
  exact q x H' h1 h3 h4 h5 sm
inductive tX(vs:List V)(H:Hp)(Q:VK)(E:XK):Prop|mk(a:dw)(xs:Za4)(_:vs=[.ref a])(_:H a=some (.lst (nV xs)))(_:xs.length<=1000)(_:∀p H',Ah H H'->H p=none->H' p=some (.lst (nV ((et (xs.length+1)).map λi=>(xs.take i).sum)))->Q (.ref p) H')
include T in
theorem Pz (F:Fun K "running_sums" "running_sums" Hi f fd):Ay P w K mg base CX0 1 f fd ["numbers"] tX:=by
 exists F.ok Gh
 obtain⟨a,xs,rfl,ha,hn,q⟩:=h;refine⟨_,(Ab (tst 1 Gh.nd (Ap (tpa Ad Aa))) (Ab (Fe i8 rfl (Ct (pv 0)) (tgn 2 Gh.nd) (Ae (Bl (Dz fv gp gn Bt (pv 1) (tpa (Al A0 (tix Az (pv 1) (Cg Bn Ad)) (pv 2)) Aa))))) (Ae (An (pv 1))))),?_⟩
 apply⟨few (by simp),λp hp=>?_⟩;have t0:=Ai (o:=.lst [V.int 0]) hp;apply⟨a,rfl,⟨_,SqL.of (t0 _ _ ha)⟩,?_⟩;refine Nb (xs:=nV xs) (λi G H1=>(∃v:Option V,G=[some (.ref a),some (.ref p),v])/\H1 p=some (.lst (nV ((et (i+1)).map λi=>(xs.take i).sum)))/\Ah H H1) ⟨⟨_,rfl⟩,Ac,t0⟩ (λi G H1 _ h=>SqL.of (h.2.2 _ _ ha)) ?_ ?_
 ·rintro i x G H1 hx ⟨⟨v,rfl⟩,hp1,s1⟩
  have hi:=Bs hx;rw[show(nV xs).length=xs.length by unfold nV;rw[du]] at hi;obtain rfl:x=.int (xs[i]:Nat):=by
   unfold nV at hx;rw[d8,dq hi] at hx;exact(d0 hx).symm
  apply⟨.inl ⟨rfl,_,SqL.of hp1⟩,?_⟩;apply Bk (SqL.of hp1) (v:=.int ((xs.take i).sum:Nat)) ?_ ?_
  ·rw[Rc]
   exact N0 _ _
  apply Bv hp1 ?_ ?_
  ·unfold nV
   rw[du,du,fh];exact Ag (by lia)
  apply⟨⟨_,rfl⟩,?_,λb u e=>?_⟩
  ·rw[Ac,Rc _ (i+1),ip,dq hi,AY]
   show some (HO.lst (_++[V.int (((xs.take i).sum:Nat)+(xs[i]:Nat):Int)]))=some (HO.lst (_++[V.int (((xs.take i).sum+[xs[i]].sum:Nat):Int)]));rw[zo,BO]
  ·rw[Aj (Am e hp)]
   exact s1 _ _ e
 ·rintro G H1 ⟨⟨v,rfl⟩,hp1,s1⟩
  rw[show(nV xs).length=xs.length by unfold nV;rw[du]] at hp1;k_is;exact q p H1 s1 hp hp1
def hgt (l:Za5)(i:Nat):Int:=2*((l.take i).count true:Int)-i
def hts (l:Za5)(i:Nat):List Int:=(et i).map λj=>hgt l (j+1)
theorem W7 (l:Za5)(i:Nat):hts l (i+1)=hts l i++[hgt l (i+1)]:=by
 unfold hts;rw[iu,eh];rfl
theorem Nq {l:Za5}{i:Nat}{b:Bool}(h:l[i]?=some b):hgt l (i+1)=hgt l i+if b then 1 else -1:=by
 unfold hgt;rw[ip,h,iq];cases b<;>simp<;>lia
def htB (l:Za5)(b:Int)(i:Nat):List Int:=(hts l i).map (b + ·)
inductive Sk(vs:List V)(H:Hp)(Q:VK)(E:XK):Prop|mk(l:Za5)(bg:Int)(_:vs=[.str (Ar l),.int bg])(_:l.length<=1000)(_:∀p H',Ah H H'->H p=none->H' p=some (.lst ((htB l bg l.length).map V.int))->Q (.ref p) H')
include T in
theorem Ta (F:Fun K "heights_of" "heights_of" J1 f fd):Ay P w K mg base CX0 1 f fd ["text","begin"] Sk:=by
 exists F.ok Ej
 obtain⟨l,bg,rfl,hl,q⟩:=h;refine⟨_,(Ab (tst 2 Ej.nd (pv 1)) (Ab (tst 3 Ej.nd (Ap Aa)) (Ab (Fe i8 rfl (pG (pv 0)) (tgn 4 Ej.nd) (Ab (tau 2 Ej.nd (Fa (ttc Fo (pv 4) Aw) Ad (Cg Bn Ad)) pV) (Ae (Bl (Dz fv gp gn Bt (pv 3) (tpa (pv 2) Aa)))))) (Ae (An (pv 3)))))),?_⟩
 apply⟨fg _,λp hp=>?_⟩;apply⟨_,rfl,?_⟩;refine gW (λi G H1=>∃v:Option V,G=[some (.str (Ar l)),some (.int bg),some (.int (bg+hgt l i)),some (.ref p),v]/\H1 p=some (.lst ((htB l bg i).map V.int))/\Ah H H1) ⟨_,by rw[show bg+hgt l 0=bg by unfold hgt;simp];rfl,Ac,Ai hp⟩ ?_ ?_
 ·rintro i c G H1 hc ⟨v,rfl,hp1,sm⟩
  obtain⟨b,hb,rfl⟩:=P7 hc;have hi:=Bs hb;have hh:=Nq hb;have hz1:((htB l bg i).map V.int).length<sizeLine:=by
   rw[du];unfold htB hts;rw[du,du,fh];exact G6 (by lia)
  have fin:∀d:Int,hgt l (i+1)=hgt l i+d->∃v:Option V,[some (V.str (Ar l)),some (V.int bg),some (V.int (bg+hgt l i+d)),some (V.ref p),some (V.str (sgn (if b then 49 else 48)))]=[some (V.str (Ar l)),some (V.int bg),some (V.int (bg+hgt l (i+1))),some (V.ref p),v] /\
    (upd H1 p (.lst ((htB l bg i).map V.int++[V.int (bg+hgt l i+d)]))) p=some (.lst ((htB l bg (i+1)).map V.int))/\Ah H (upd H1 p (.lst ((htB l bg i).map V.int++[V.int (bg+hgt l i+d)]))):=λd hd=>by
   refine⟨_,by rw[hd,CJ],?_,λb' u e=>?_⟩
   ·unfold htB
    rw[Ac,W7,hd,eh,eh,CJ];rfl
   ·rw[Aj (Am e hp)]
    exact sm _ _ e
  apply B5 (λh1=>?_) (λh1=>?_)
  ·have hd:hgt l (i+1)=hgt l i+1:=by cases b with|true=>exact hh|false=>exact absurd h1 (by decide)
   apply⟨.inl ⟨rfl,_,SqL.of hp1⟩,?_⟩;k_is;exact Bv hp1 hz1 (fin 1 hd)
  ·have hd:hgt l (i+1)=hgt l i + -1:=by cases b with|false=>exact hh|true=>exact absurd rfl h1
   apply⟨.inl ⟨rfl,_,SqL.of hp1⟩,?_⟩;k_is;exact Bv hp1 hz1 (fin (-1) hd)
 ·rintro G H1 ⟨v,rfl,hp1,sm⟩
  rw[show(Ar l).cps.size=l.length from Au l] at *;k_is;exact q p H1 sm hp hp1
theorem Y5 (l:Za5)(i:Nat):htB l 0 i=hts l i:=by
 unfold htB;refine(j0 λx _=>?_).trans (DM _);exact yq x
def La (l:Za5)(m:Int):Prop:=(l=[]/\m=0)\/Gp (hts l l.length) m
def eG (l:Za5)(m:Int):List V:=[.int (l.count true:Nat),.int (hgt l l.length),.int m]
inductive lA (K:dn)(vs:List V)(H:Hp)(Q:VK)(E:XK):Prop|mk(l:Za5)(_:vs=[.str (Ar l)])(_:l.length<=1000)(_:∀m t H',La l m->Ah H H'->H t=none->H' t=some (.tup (eG l m))->Q (.ref t) H')
variable (aD:Cal P w K mg base "heights_of" 1 ["text","begin"] Sk)
include T aD in
theorem dQ (F:Fun K "sums_of" "sums_of" Ol f fd):Ay P w K mg base CX0 2 f fd ["text"] (lA K):=by
 exists F.ok Sw
 obtain⟨l,rfl,hl,q⟩:=h;refine⟨_,(Ab (tst 1 Sw.nd (A4 aD hr.m (tpa (pv 0) (tpa Ad Aa)))) (Ae (An (Ux (tpa (Dz ly w9 w8 Xk (pv 0) (tpa Aw Aa)) (tpa (Fa (ttc Mg (Ao Av (by rfl) T.bZ Cd (tpa (pv 1) Aa)) Ad) (tix Az (pv 1) (Cg Bn Ad)) Ad) (tpa (kL (iX rfl) (by rfl) T.cQ pZ (tpa (pv 1) Aa) (Va Ad Zs)) Aa))))))),?_⟩
 apply⟨l,0,rfl,hl,λp H1 sm hp hp1=>?_⟩;rw[Y5] at hp1;apply⟨rfl,?_⟩;apply⟨Ar l,49,rfl,rfl,?_⟩;k_is;rw[(Tk l).1];have hlen:((hts l l.length).map V.int).length=l.length:=by rw[du];unfold hts;rw[du,fh]
 refine⟨p,_,rfl,.inl (SqL.of hp1),?_⟩;rw[hlen];k_is;have fin:∀m,La l m->∀t,H1 t=none->Q (.ref t) (upd H1 t (.tup (eG l m))):=λm hm t ht=>q m t _ hm (sm.trans (Ai ht)) (sm.free ht) Ac;have fin2:∃(a:dw) (ns:List Int) (d:V),([V.ref p]:List V)=[.ref a]/\([V.int 0]:List V)=[d]/\SqL K H1 a (ns.map V.int)/\(ns=[]->[V.int (l.count true:Nat),V.int (hgt l l.length),d].length<=sizeLine/\∀t,H1 t=none->Q (.ref t) (upd H1 t (.tup [V.int (l.count true:Nat),V.int (hgt l l.length),d]))) /\
   (∀m,Gp ns m->[V.int (l.count true:Nat),V.int (hgt l l.length),V.int m].length<=sizeLine/\∀t,H1 t=none->Q (.ref t) (upd H1 t (.tup [V.int (l.count true:Nat),V.int (hgt l l.length),V.int m]))):=by
  refine⟨p,hts l l.length,.int 0,rfl,rfl,SqL.of hp1,λe=>?_,λm hm=>?_⟩
  ·refine⟨few (by simp),λt ht=>fin 0 (.inl ⟨?_,rfl⟩) t ht⟩
   cases l with
   |nil=>rfl
   |cons b r=>exact absurd e (by simp[hts,iu])
  ·exact⟨few (by simp),λt ht=>fin m (.inr hm) t ht⟩
 refine B5 (λh1=>?_) (λh1=>?_)
 ·apply Bk (SqL.of hp1) (v:=.int (hgt l l.length)) ?_ ?_
  ·obtain⟨n,hn⟩:∃n,l.length=n+1:=⟨l.length-1,by lia⟩
   rw[hn,W7,eh];exact N0 _ _
  k_is;exact fin2
 ·have e0:l=[]:=List.length_eq_zero_iff.mp (by lia)
  have e1:hgt l l.length=0:=by rw[e0];rfl
  rw[e1] at fin2;k_is;exact fin2
theorem eP {row:Za5}{i:Nat}{b:Bool}(h:row[i]?=some b):row.drop i=b::row.drop (i+1):=by
 have hi:=Bs h;rw[ke hi];rw[dq hi] at h;rw[d0 h]
theorem Yc {row:Za5}(hv:Vs 0 row):∀i,i<=row.length->∃h:Nat,hgt row i=(h:Int)/\Vs h (row.drop i)/\True
 |0,_=>⟨0,rfl,hv,trivial⟩
 |i+1,hi=>by
  obtain⟨h,h1,h2,_⟩:=Yc hv i (by lia);obtain⟨b,hb⟩:∃b,row[i]?=some b:=⟨row[i],dq (by lia)⟩;have hs:=Nq hb;rw[eP hb] at h2
  cases b with
  |false=>
   obtain⟨g,rfl⟩:∃g,h=g+1:=⟨h-1,by have:=h2.1;lia⟩;have hs:hgt row (i+1)=hgt row i + -1:=hs;exact⟨g,by lia,h2.2,trivial⟩
  |true=>
   have hs:hgt row (i+1)=hgt row i+1:=hs;exact⟨h+1,by lia,h2,trivial⟩
theorem Gz {x:dw}(hx:H1 x=none)(hd:H1 dx=none)(s:SameBut x (upd (upd H1 dx (.own x)) x (.ins C dx [])) H2):Ah H1 H2:=λb u e=>s b u (Am e hx) (by rw[Aj (Am e hx),Aj (Am e hd)];exact e)
theorem Jo {x:dw}{o o':HO}(hx:H1 x=none)(hd:H1 dx=none):Ah H1 (upd (upd H1 dx o) x o'):=λb u e=>by rw[Aj (Am e hx),Aj (Am e hd)];exact e
def pFs (s t g o:V):List (Str×V):=[("signs",s),("kept_sums",t),("greatest",g),("often_least",o)]
def Aah (x:Za5)(m g:Int)(o:V):Prop:=La x m/\Vp (hts x x.length) g/\o=.int ((hts x x.length).count m:Nat)
def Ik (C:dw)(H:Hp)(a:dw)(x:Za5):Prop:=∃(dx t:dw) (m g:Int) (o:V),H a=some (.ins C dx (pFs (.str (Ar x)) (.ref t) (.int g) o))/\H t=some (.tup (eG x m))/\Aah x m g o
theorem Ik.kp {a:dw}{x:Za5}(h:Ik C H a x)(s:Kp H H'):Ik C H' a x:=by
 obtain⟨dx,t,m,g,o,h1,h2,h3⟩:=h;exact⟨dx,t,m,g,o,s.k h1,s.k h2,h3⟩
def Pcs (C:dw)(H:Hp)(as:List dw)(ls:List (Za5)):Prop:=as.length=ls.length/\∀(k:Nat) (a:dw) (x:Za5),as[k]?=some a->ls[k]?=some x->Ik C H a x
theorem Pcs.kp {as:List dw}{ls:List (Za5)}(h:Pcs C H as ls)(s:Kp H H'):Pcs C H' as ls:=⟨h.1,λk a x e1 e2=>(h.2 k a x e1 e2).kp s⟩
theorem Pcs.get {as:List dw}{ls:List (Za5)}(h:Pcs C H as ls){k:Nat}{v:V}(e:(as.map V.ref)[k]?=some v):∃a x,v=.ref a/\as[k]?=some a/\ls[k]?=some x/\Ik C H a x:=by
 rw[d8] at e
 cases ea:as[k]? with
 |none=>rw[ea] at e;cases e
 |some a=>
  rw[ea] at e;have hk:=(fc.mp ea).1;have hx:ls[k]?=some (ls[k]'(by rw[<-h.1];exact hk)):=dq _;exact⟨a,_,(d0 e).symm,rfl,hx,h.2 k a _ ea hx⟩
theorem Pcs.but {C' x:dw}{as:List dw}{ls:List (Za5)}{fs:List (Str×V)}(h:Pcs C H as ls)(s:SameBut x H H')(hx:H x=some (.ins C' dx fs))(hne:∀a∈as,a≠x):Pcs C H' as ls:=⟨h.1,λk a y e1 e2=>by
 obtain⟨d,t,m,g,o,h1,h2,h3⟩:=h.2 k a y e1 e2;refine⟨d,t,m,g,o,s _ _ (hne a (ir e1)) h1,s _ _ (λe=>?_) h2,h3⟩;rw[e,hx] at h2;cases h2⟩
def gJ (p:V):List (Str×V):=[("kept_pieces",p)]
def fK (p b:V):List (Str×V):=[("kept_pieces",p),("begins",b)]
def fE (p b k:V):List (Str×V):=[("kept_pieces",p),("begins",b),("knots_ahead",k)]
def Z9 (p b k n t o:V):List (Str×V):=[("kept_pieces",p),("begins",b),("knots_ahead",k),("length",n),("kept_table",t),("often_least",o)]
def bgs (ls:List (Za5)):List V:=nV ((et (ls.length+1)).map λj=>bgn ls j)
theorem fM (ls:List (Za5)):(bgs ls).length=ls.length+1:=by unfold bgs nV;rw[du,du,fh]
theorem Ha {ls:List (Za5)}{j:Nat}(h:j<=ls.length):(bgs ls)[j]?=some (.int (bgn ls j:Nat)):=by
 unfold bgs nV;rw[d8,d8,ij (by lia)];rfl
structure rW (C:dw) (H:Hp) (p b:dw) (ls:List (Za5)):Prop where
 pcs:∃as:List dw,H p=some (.lst (as.map V.ref))/\Pcs C H as ls
 bg:H b=some (.lst (bgs ls))
 sz:En ls
 fw:ls.length<=400
def kns (ls:List (Za5)):Za4:=ls.map λx=>x.count true
def hBg (ls:List (Za5))(j:Nat):Int:=2*(((kns ls).take j).sum:Int)-(bgn ls j:Int)
def yS (H:Hp)(ls:List (Za5))(r:dw)(j:Nat):Prop:=∀x,ls[j]?=some x->∃m g:Int,H r=some (.tup [.int (hBg ls j),.int (hBg ls j+m),.int (hBg ls j+g)])/\La x m/\Vp (hts x x.length) g
structure Zt (H:Hp) (k t o:V) (ls:List (Za5)):Prop where
 kn:∃a:dw,k=.ref a/\H a=some (.lst (nV ((et (ls.length+1)).map λi=>((kns ls).take i).sum)))
 tb:∃(a:dw) (rs:List dw),t=.ref a/\H a=some (.lst (rs.map V.ref))/\rs.length=ls.length/\∀(j:Nat) (r:dw),rs[j]?=some r->yS H ls r j
 ol:∃(a:dw) (os:List V),o=.ref a/\H a=some (.lst os)/\os.length=ls.length/\∀(j:Nat) (v:V) (x:Za5) (m:Int),os[j]?=some v->ls[j]?=some x->La x m->v=.int ((hts x x.length).count m:Nat)
theorem Zt.keep {k t o:V}{ls:List (Za5)}(h:Zt H k t o ls)(s:∀b xs,(H b=some (.lst xs)->H' b=some (.lst xs))/\(H b=some (.tup xs)->H' b=some (.tup xs))):Zt H' k t o ls:=by
 obtain⟨a,k1,k2⟩:=h.kn;obtain⟨b,rs,t1,t2,t3,t4⟩:=h.tb;obtain⟨c,os,o1,o2,o3⟩:=h.ol;exact⟨⟨a,k1,(s _ _).1 k2⟩,⟨b,rs,t1,(s _ _).1 t2,t3,λj r e x ex=>let ⟨m,g,r1,r2⟩:=t4 j r e x ex;⟨m,g,(s _ _).2 r1,r2⟩⟩,⟨c,os,o1,(s _ _).1 o2,o3⟩⟩
def Bd (C CR:dw)(H:Hp)(x:dw)(ls:List (Za5)):Prop:=∃(dx p b:dw) (k t o:V),H x=some (.ins CR dx (Z9 (.ref p) (.ref b) k (.int (ls.flatten.length:Nat)) t o))/\rW C H p b ls/\Zt H k t o ls
theorem rW.kp {p b:dw}{ls:List (Za5)}(h:rW C H p b ls)(s:Kp H H'):rW C H' p b ls:=by
 obtain⟨as,h1,h2⟩:=h.pcs;exact⟨⟨as,s.k h1,h2.kp s⟩,s.k h.bg,h.sz,h.fw⟩
theorem Zt.kp {k t o:V}{ls:List (Za5)}(h:Zt H k t o ls)(s:Kp H H'):Zt H' k t o ls:=h.keep λb xs=>⟨λe=>s.k e,λe=>s.k e⟩
theorem Bd.kp {CR x:dw}{ls:List (Za5)}(h:Bd C CR H x ls)(s:Kp H H'):Bd C CR H' x ls:=by
 obtain⟨dx,p,b,k,t,o,h1,h2,h3⟩:=h;exact⟨dx,p,b,k,t,o,s.k h1,h2.kp s,h3.kp s⟩
def Pr (p e:V):List (Str×V):=[("pairs",p),("earlier",e)]
def Cf (C CR CS:dw)(H:Hp)(x:dw)(ls:List (Za5)):Prop:=∃(dx r:dw) (e:V),H x=some (.ins CS dx (Pr (.ref r) e))/\Bd C CR H r ls
theorem Cf.kp {CR x:dw}{ls:List (Za5)}(h:Cf C CR CS H x ls)(s:Kp H H'):Cf C CR CS H' x ls:=by
 obtain⟨dx,r,e,h1,h2⟩:=h;exact⟨dx,r,e,s.k h1,h2.kp s⟩
inductive X9 (CR:dw)(vs:List V)(H:Hp)(Q:VK)(E:XK):Prop|mk(x dx:dw)(p b k n t o:V)(_:vs=[.ref x,n,t,o])(_:H x=some (.ins CR dx (fE p b k)))(_:Q .non (upd H x (.ins CR dx (Z9 p b k n t o))))
variable (ad:Qa K aa)
include T ad in
theorem Q9 (F:Fun K "__init__" "Heights.__init__" Hr f fd):Ay P w K mg base CX0 1 f fd ["self","length","table","often_least"] (X9 aa):=by
 exists F.ok Px
 obtain⟨x,dx,p,b,k,n,t,o,rfl,hx,q⟩:=h;refine⟨_,(Ab (tsf (pv 0) (pv 1)) (Ab (tsf (pv 0) (pv 2)) (Ae (tsf (pv 0) (pv 3))))),?_⟩
 apply Dx hx ad.cl ad.cD (show 3<1000 by decide) ?_;apply Dx Ac ad.cl ad.cR (show 4<1000 by decide) ?_;rw[Vw];apply Dx Ac ad.cl ad.cG (show 5<1000 by decide) ?_;rw[Vw];exact q
inductive U8 (C CR:dw)(vs:List V)(H:Hp)(Q:VK)(E:XK):Prop|mk(x:dw)(ls:List (Za5))(_:vs=[.ref x])(_:Bd C CR H x ls)(_:Q (.int (ls.flatten.length:Nat)) H)
include T ad in
theorem Wa (F:Fun K "size" "Heights.size" Hs f fd):Ay P w K mg base CX0 1 f fd ["self"] (U8 ac aa):=by
 exists F.ok P1
 obtain⟨x,ls,rfl,⟨dx,p,b,k,t,o,hx,_⟩,q⟩:=h;refine⟨_,(Ae (An (tfl (pv 0)))),?_⟩;k_is;exact⟨x,aa,dx,_,_,rfl,hx,ad.cl,ad.cD,rfl,q⟩
inductive iC(vs:List V)(H:Hp)(Q:VK)(E:XK):Prop|mk(l:Za5)(_:vs=[.str (Ar l)])(_:Vs 0 l)(_:l.length<=8000)(_:∀H',Ah H H'->Q .non H')
include T in
theorem Wp (F:Fun K "check_row" "check_row" K1 f fd):Ay P w K mg base CX0 1 f fd ["text"] iC:=by
 exists F.ok Ff
 obtain⟨l,rfl,hv,hn,q⟩:=h;refine⟨_,(Ab (Bj (Ds (Cj (Ao Du (by rfl) T.ce Bi (tpa (pv 0) (tpa (Ic (v:=.ty "str") rfl T.n_str yA rfl) Aa))))) (Ae Cl)
  At) (Ab (tst 1 Ff.nd Ad) (Ab (Fe i8 rfl (kZ rfl T.cK (tpa (pv 0) Aa)) (Sy rfl (Ek (tgn 2 Ff.nd) (Ek (tgn 3 Ff.nd) M9))) (Ab (tau 1 Ff.nd (Fa (ttc Fo (pv 3) Aw) Ad (Cg Bn Ad)) pV) (Ae (Bj (PW.pt (Kk (P2 Wm (pv 3) Aw rfl) (Kk (ttc Mh (pv 1) Ad) (Iv (ttc Fo (pv 2) (Ho rfl T.cE)))))) (Ae Cl)
  At)))) (Ae (Bj (ttc Mg (pv 1) Ad) (Ae Cl)
  At))))),?_⟩
 apply⟨_,_,_,_,rfl,.str _,Xj,?_⟩;apply⟨_,rfl,?_⟩;refine jR (λi G H1=>(∃v2 v3:Option V,G=[some (.str (Ar l)),some (.int (hgt l i)),v2,v3])/\Ah H H1) ⟨⟨_,_,rfl⟩,Ah.refl _⟩ ?_ ?_
 ·rintro i c G H1 t hc ⟨⟨v2,v3,rfl⟩,s1⟩ ht
  obtain⟨b,hb,rfl⟩:=P7 hc;have hi:=Bs hb;have hs:=Nq hb;obtain⟨h,hh,_⟩:=Yc hv (i+1) (by lia);have s2:=s1.trans (Ai (o:=.tup [.int i,.str (sgn (if b then 49 else 48))]) ht);generalize upd H1 t _=H2 at *;k_is
  cases b with
  |true=>
   refine B5 (λ_=>?_) (λh=>absurd rfl h);apply⟨_,_,rfl,rfl,?_⟩;k_is;have hs:hgt l (i+1)=hgt l i+1:=hs;rw[<-hs,hh];rw[show(!(!(qb ("01":Str) (sgn (if true=true then 49 else 48)) 0 ("01":Str).length 1).isEmpty))=false by decide +kernel];apply B5 (λh=>by lia) (λ_=>?_);apply B5 (λh=>?_) (λ_=>?_)
   ·have:=V.int.inj h
    lia
   k_is;exact⟨⟨_,_,rfl⟩,s2⟩
  |false=>
   refine B5 (λh=>absurd h (by decide)) (λ_=>?_);apply⟨_,_,rfl,rfl,?_⟩;k_is;have hs:hgt l (i+1)=hgt l i + -1:=hs;rw[<-hs,hh];rw[show(!(!(qb ("01":Str) (sgn (if false=true then 49 else 48)) 0 ("01":Str).length 1).isEmpty))=false by decide +kernel];apply B5 (λh=>by lia) (λ_=>?_);apply B5 (λh=>?_) (λ_=>?_)
   ·have:=V.int.inj h
    lia
   k_is;exact⟨⟨_,_,rfl⟩,s2⟩
 ·rintro G H1 ⟨⟨v2,v3,rfl⟩,s1⟩
  rw[show(Ar l).cps.size=l.length from Au l];obtain⟨h,hh,hv2,_⟩:=Yc hv l.length (d3 _);rw[i6 (d3 _)] at hv2;have hv2:h=0:=hv2;apply B5 (λh=>by lia) (λ_=>?_);k_is;exact q H1 s1
inductive iE (K:dn)(C:dw)(vs:List V)(H:Hp)(Q:VK)(E:XK):Prop|mk(v:V)(o:Option (List V))(_:vs=[v])(_:ThA K H v o)(_:(∀ds,Ia o ds->∀l H',Ah H H'->H l=none->H' l=some (.lst ((B2 ds).map V.int))->Q (.ref l) H'))(_:Zq C H E o)
theorem Tv {k:Nat}{x:V}(h:xs[k]?=some x):xs.take (k+1)=xs.take k++[x]:=by rw[ip,h];rfl
include T aB in
theorem Zx (F:Fun K "look_at" "look_at" Oa f fd)(bc:xG P w K mg base "NoWood" aq ag 1 ["self","place"]):Ay P w K mg base (CXE P w) 3 f fd ["elders"] (iE K ag):=by
 exists F.okE J3
 obtain⟨v,o,rfl,hT,q,qe⟩:=h;refine⟨_,(Ab (Bj (Ds (Cj (Ao Du (by rfl) T.ce Bi (tpa (pv 0) (tpa (Ic (v:=.ty "list") rfl T.cz Og rfl) Aa))))) (Ae (Oj bc hr.m rfl (tpa Ad Aa)))
  At) (Ab (tst 1 J3.nd (Ap (tpa (Cg Bn Ad) Aa))) (Ab (Fe tq rfl (sQ rfl T.cK (tpa (pv 0) Aa)) (Sy rfl (Ek (tgn 2 J3.nd) (Ek (tgn 3 J3.nd) M9))) (Ab (Bj (PW.pt (Kk (ttc Fo (pv 2) (Ho rfl T.cu)) (Kk (Ds (Cj (A4 aB hr.m (tpa (pv 3) Aa)))) (Iv (ttc Mh (pv 3) (Cg Bn Ad)))))) (Ae (Oj bc hr.m rfl (tpa (pv 2) Aa)))
  At) (Ab (Sm tq (ttc Mg (tix Az (pv 1) (Cg Bn Ad)) (pv 3)) (Ae (Bl (eF fv rh rf Zj (pv 1))))) (Ab (Bj (ttc Re (tix Az (pv 1) (Cg Bn Ad)) (pv 3)) (Ae (Oj bc hr.m rfl (tpa (pv 2) Aa)))
  At) (Ae (Bl (Dz fv gp gn Bt (pv 1) (tpa (pv 2) Aa)))))))) (Ae (An (Om N1 (by rfl) T.cz Og (tpa (pv 0) Aa))))))),?_⟩
 k_is
 cases o with
 |none=>
  obtain⟨t,ht,hk⟩:=hT;refine⟨_,_,_,_,rfl,ht,hk,?_⟩;k_is;exact⟨_,rfl,by decide,λdx hx=>qe 0 rfl dx _ (Ai hx) hx Ac⟩
 |some xs=>
  obtain⟨a,rfl,ha,hf,hn⟩:=hT;refine⟨_,_,_,_,rfl,.lst ha,Mf,?_⟩;apply⟨few (by simp),λp hp=>?_⟩;k_is;have t0:=Ai (o:=.lst [V.int (-1)]) hp;refine⟨a,rfl,⟨_,SqL.of (t0 _ _ ha)⟩,?_⟩;refine qG (xs:=xs) (λk G H1=>(∃(ds:Za4) (v2 v3:Option V),G=[some (.ref a),some (.ref p),v2,v3]/\Dok ds/\ds.length=k/\k<=4000/\xs.take k=(B2 ds).map V.int/\H1 p=some (.lst ((way ds k).map V.int)))/\Ah H H1) ?_ (λk G H1 _ h=>SqL.of (h.2 _ _ ha)) ?_ ?_
  ·exact⟨⟨[],_,_,rfl,(λk hk=>by cases hk),rfl,fg _,rfl,Ac⟩,t0⟩
  ·rintro k x G H1 t hx ⟨⟨ds,v2,v3,rfl,hD,hl,hk4,htk,hp1⟩,s1⟩ ht
   have hk:=Bs hx;have hfx:=hf x (ir hx);have st:=Ai (o:=.tup [.int k,x]) ht;have hp2:=st _ _ hp1;have s2:=s1.trans st;generalize upd H1 t _=H2 at *;have sm:((k:Nat):Int).natAbs<10 ^ 12:=sT (by lia);have out:∀H3,Ah H H3->(k=4000\/∀e,xs[k]?=some (V.int e)->e∉way ds k)->∀dx,H3 dx=none->E (.ref ag) (some dx) (upd H3 dx (.xd [("place",.int (k:Nat))])):=λH3 s3 hb dx hx3=>
    qe k ⟨ds,hD,hl,hk,hk4,htk,hb⟩ dx _ (s3.trans (Ai hx3)) (s3.free hx3) Ac
   apply B5 (λh=>?_) (λh4=>?_)
   ·have h:=V.int.inj h
    k_is;exact⟨_,rfl,sm,out H2 s2 (.inl (by lia))⟩
   have hk4:k<4000:=by
    rcases Nat.lt_or_eq_of_le hk4 with h|h
    ·exact h
    ·exact absurd (by rw[h];rfl) h4
   apply⟨x,rfl,hfx.same s2,?_⟩
   cases hix:isI x with
   |false=>
    apply⟨_,rfl,sm,out H2 s2 (.inr λe he=>?_)⟩;rw[hx] at he;rw[d0 he] at hix;cases hix
   |true=>
    obtain⟨e,rfl⟩:=Rs hix;apply B5 (λh=>?_) (λhge=>?_)
    ·apply⟨_,rfl,sm,out H2 s2 (.inr λe' he hm=>?_)⟩;rw[hx] at he;have:=qI hD (by lia) hm;have:=V.int.inj (d0 he);lia
    k_is;have hw:=Dy hD k (by lia);have hw0:=Dg hD k (by lia);refine Rn (λG H3=>G=[some (.ref a),some (.ref p),some (.int k),some (.int e)]/\Ah H H3/\∃m,1<=m/\m<=(way ds k).length/\H3 p=some (.lst (((way ds k).take m).map V.int))/\∀(j:Nat) y,m<=j->(way ds k)[j]?=some y->e<y) (λ_ H3=>fY H3 p)
     ⟨rfl,s2,(way ds k).length,by lia,d3 _,by rw[fm (d3 _)];exact hp2,λj y hj hy=>by have:=Bs hy;lia⟩ ?_
    rintro z G H3 ⟨rfl,s3,m,hm1,hm2,hp3,hab⟩ hz;rw[No hp3,Dr hm2] at hz;k_is;have hx1:(way ds k)[m-1]?=some ((way ds k)[m-1]'(by lia)):=dq _;generalize (way ds k)[m-1]'(by lia)=y at hx1;refine Bk (SqL.of hp3) (G7 (by lia) hx1) ?_;apply B5 (λh=>?_) (λh=>?_)
    ·have hm3:2<=m:=by
      by_cases e1:m=1
      ·rw[e1,hw0] at hx1
       have:=d0 hx1;lia
      ·lia
     refine Zv ?_;apply⟨.inl ⟨rfl,_,SqL.of hp3⟩,?_⟩;refine⟨p,_,.int y,rfl,rfl,hp3,?_,?_⟩
     ·rw[Dr hm2,Ui (n:=y)]
      rw[fe (by lia)];exact hx1
     k_is;rw[Oq hm2];refine⟨⟨rfl,Bz s3 hp,m-1,by lia,by lia,Ac,λj y' hj hy'=>?_⟩,?_⟩
     ·by_cases ej:j=m-1
      ·rw[ej,hx1] at hy'
       rw[<-d0 hy'];lia
      ·exact hab j y' (by lia) hy'
     ·rw[No Ac,Dr (by lia)]
      lia
    ·apply Bk (SqL.of hp3) (G7 (by lia) hx1) ?_;apply Uv (λhne=>?_) (λhye=>?_)
     ·apply⟨_,rfl,sm,out H3 s3 (.inr λe' he hmem=>?_)⟩;rw[hx] at he;obtain rfl:=V.int.inj (d0 he);obtain⟨j,hj⟩:=km hmem;have hye:y≠e:=λe1=>hne (congrArg V.int e1)
      by_cases h1:m<=j
      ·have:=hab j e h1 hj
       lia
      ·by_cases h2:j=m-1
       ·rw[h2,hx1] at hj
        exact hye (d0 hj)
       ·have:=M1 hD k j (m-1) _ _ (by lia) (by lia) hj hx1
        lia
     ·obtain rfl:y=e:=V.int.inj hye
      apply⟨.inl ⟨rfl,_,SqL.of hp3⟩,?_⟩;apply Bv hp3 ?_ ?_
      ·rw[Dr hm2]
       exact Ag (by have:=Mw hD k (by lia);lia)
      k_is;have hgd:(way ds k).getD (m-1) 0=y:=by unfold ge;rw[hx1];rfl
      refine⟨⟨ds++[m-1],_,_,rfl,Nh hD (by rw[hl];lia),by rw[d5,hl];rfl,by lia,?_,?_⟩,Bz s3 hp⟩
      ·rw[Tv hx,htk,Lp,hl,hgd,eh]
       rfl
      ·have e1:=Nj ds (m-1)
       rw[hl] at e1;rw[Ac,e1,show m-1+1=m by lia,eh];rfl
  ·rintro G H1 ⟨⟨ds,v2,v3,rfl,hD,hl,hk4,htk,hp1⟩,s1⟩
   rw[fm (d3 _)] at htk;apply⟨a,_,rfl,.inl (SqL.of (s1 _ _ ha)),λl hl2=>?_⟩;refine q ds ⟨hD,by lia,htk⟩ l _ (s1.trans (Ai hl2)) (s1.free hl2) ?_;rw[Ac,htk]
inductive Yy(vs:List V)(H:Hp)(Q:VK)(E:XK):Prop|mk(a:dw)(ds:Za4)(_:vs=[.ref a])(_:H a=some (.lst ((B2 ds).map V.int)))(_:Dok ds)(_:ds.length<=4000)(_:∀l H',Ah H H'->H' l=some (.lst (nV ds))->Q (.ref l) H')
theorem T2 {ds:Za4}{k:Nat}(hk:k<ds.length):nV (ds.take k)++[V.int (dAt ds k:Nat)]=nV (ds.take (k+1)):=by
 rw[ip,dq hk,<-mE];unfold dAt ge;rw[dq hk];rfl
include T in
theorem U4 (F:Fun K "depths_of" "depths_of" K7 f fd):Ay P w K mg base CX0 1 f fd ["elders"] Yy:=by
 exists F.ok Jw
 obtain⟨a,ds,rfl,ha,hD,hn,q⟩:=h;refine⟨_,(Ab (tst 1 Jw.nd (Ap Aa)) (Ab (Fe i8 rfl (Ct (pv 0)) (tgn 2 Jw.nd) (Ae (Bl (Dz fv gp gn Bt (pv 1) (tpa (Fa (ttc Fo (pv 2) (Cg Bn Ad)) Ad (Al A0 (tix Az (pv 1) (pv 2)) Ad)) Aa))))) (Ae (An (pv 1))))),?_⟩
 apply⟨fg _,λp hp=>?_⟩;k_is;have t0:=Ai (o:=.lst []) hp;refine⟨a,rfl,⟨_,SqL.of (t0 _ _ ha)⟩,?_⟩;refine Nb (xs:=(B2 ds).map V.int) (λk G H1=>(∃v2:Option V,G=[some (.ref a),some (.ref p),v2])/\H1 p=some (.lst (nV (ds.take k)))/\Ah H H1) ⟨⟨_,rfl⟩,Ac,t0⟩ (λk G H1 _ h=>SqL.of (h.2.2 _ _ ha)) ?_ ?_
 ·rintro k x G H1 hx ⟨⟨v2,rfl⟩,hp1,s1⟩
  have hk:=Bs hx;rw[du,Bc] at hk;obtain⟨e,he,rfl⟩:=Zu hx;rw[F4 hk] at he;obtain rfl:=d0 he;have hz:(nV (ds.take k)).length<sizeLine:=by
   rw[Fl,d9];exact Ag (by lia)
  apply⟨.inl ⟨rfl,_,SqL.of hp1⟩,?_⟩;apply B5 (λh=>?_) (λh=>?_)
  ·have hd:=Lu hD hk (V.int.inj h)
   apply Bv hp1 hz ?_;apply⟨⟨_,rfl⟩,?_,Bz s1 hp⟩;rw[Ac,<-T2 hk,hd];rfl
  ·obtain⟨v,hv,hlt,hd⟩:=Fg hD hk (λe=>h (congrArg V.int e))
   k_is;rw[hv];refine Bk (SqL.of hp1) (v:=.int (dAt ds v:Nat)) ?_ ?_
   ·refine Bf (zZ ?_)
    rw[fe hlt,dq (by lia)];unfold dAt ge;rw[dq (by lia)];rfl
   apply Bv hp1 hz ?_;apply⟨⟨_,rfl⟩,?_,Bz s1 hp⟩;rw[Ac,<-T2 hk,hd];rfl
 ·rintro G H1 ⟨⟨v2,rfl⟩,hp1,s1⟩
  rw[du,Bc,fm (d3 _)] at hp1;k_is;exact q p H1 s1 hp1
inductive pP (K:dn)(C:dw)(vs:List V)(H:Hp)(Q:VK)(E:XK):Prop|mk(v:V)(o:Option (List V))(_:vs=[v])(_:ThA K H v o)(_:(∀ds,Ia o ds->∀H',Ah H H'->Q (.str (Ar (Aq ds))) H'))(_:Zq C H E o)
theorem Mm {l:Za4}{i:Nat}{x:V}(h:(nV l)[i]?=some x):∃n,l[i]?=some n/\x=.int (n:Nat):=by
 unfold nV at h;rw[d8] at h
 cases e:l[i]? with
 |none=>rw[e] at h;cases h
 |some n=>
  rw[e] at h;exact⟨n,rfl,(d0 h).symm⟩
theorem wE {ds:Za4}{k n:Nat}(h:ds[k]?=some n):n=dAt ds k:=by
 unfold dAt ge;rw[h];rfl
include T in
theorem iT (F:Fun K "row_of" "row_of" Sl f fd)(bf:Cal P w K mg base "depths_of" 1 ["elders"] Yy)(bh:mM P w K mg base "look_at" 3 ["elders"] (iE K ag)):Ay P w K mg base (CXE P w) 4 f fd ["elders"] (pP K ag):=by
 exists F.okE Jl
 obtain⟨v,o,rfl,hT,q,qe⟩:=h;refine⟨_,(Ab (tst 1 Jl.nd (Ap Aa)) (Ab (tst 2 Jl.nd Ad) (Ab (Fe tq rfl (Ct (A4 bf hr.m (tpa (U0 bh hr.m (Gw rfl) (tpa (pv 0) Aa)) Aa))) (tgn 3 Jl.nd) (Ab (Bl (Dz fv gp gn Bt (pv 1) (tpa (Al Hl (Al N2 Aw (Al C5 (pv 2) (pv 3))) Aw) Aa))) (Ae (tst 2 Jl.nd (Al A0 (pv 3) Ad))))) (Ab (Bl (Dz fv gp gn Bt (pv 1) (tpa (Al N2 Aw (pv 2)) Aa))) (Ae (An (Dz ly rg rc Vg Aw (tpa (pv 1) Aa)))))))),?_⟩
 apply⟨fg _,λp hp=>?_⟩;k_is;have t0:=Ai (o:=.lst []) hp;refine⟨v,o,rfl,hT.same t0,λds hG l1 H1 s1 _ hl1=>?_,qe.same t0⟩;have q:=q ds hG;obtain⟨a,rfl⟩:∃a,v=.ref a:=by
  cases o with
  |some xs=>exact⟨_,hT.choose_spec.1⟩
  |none=>exact hG.elim
 obtain⟨hD,hn⟩:Dok ds/\ds.length<=4000:=by
  cases o with
  |some xs=>exact⟨hG.1,hG.2.1⟩
  |none=>exact hG.elim
 apply⟨l1,ds,rfl,hl1,hD,hn,λl2 H2 s2 hl2=>?_⟩;apply⟨l2,rfl,⟨_,SqL.of hl2⟩,?_⟩;have s12:=s1.trans s2;have hp2:=s12 _ _ (Ac (H:=H) (a:=p) (o:=.lst []));have npl:l2≠p\/ds=[]:=by
  by_cases e:l2=p
  ·subst e
   rw[hp2] at hl2;have:=HO.lst.inj (d0 hl2)
   cases ds with
   |nil=>exact .inr rfl
   |cons d r=>cases this
  ·exact .inl e
 refine Nb (xs:=nV ds) (λk G H3=>(∃v3:Option V,G=[some (.ref a),some (.ref p),some (.int (opn ds k:Nat)),v3])/\H3 p=some (.lst ((et k).map λi=>V.str (Ar (Be ds i))))/\Ah H H3/\H3 l2=some (.lst (nV ds))) ⟨⟨_,rfl⟩,hp2,t0.trans s12,hl2⟩ (λk G H3 _ h=>SqL.of h.2.2.2) ?_ ?_
 ·rintro k x G H3 hx ⟨⟨v3,rfl⟩,hp3,s3,hl3⟩
  have hk:=Bs hx;rw[Fl] at hk;have nlp:l2≠p:=by
   rcases npl with h|h
   ·exact h
   ·rw[h] at hk;cases hk
  obtain⟨d,hd,rfl⟩:=Mm hx;obtain rfl:=wE hd;have hop:=Mw hD k (by lia);have hdk:=hD k hk;apply⟨.inl ⟨rfl,_,SqL.of hp3⟩,?_⟩;apply⟨"0",(opn ds k:Int)-(dAt ds k:Int),rfl,rfl,by lia,by lia,?_,few (by decide),?_⟩
  ·exact fk (Ag (by rw[show("0":Str).length=1 by rfl];lia))
  have e0:K2 ("0":Str) ((opn ds k:Int)-(dAt ds k:Int)).toNat=Ar (dv (opn ds k-dAt ds k) false):=by
   rw[show((opn ds k:Int)-(dAt ds k:Int)).toNat=opn ds k-dAt ds k by lia];exact T7 false _
  rw[e0];k_is;have e1:Ar (dv (opn ds k-dAt ds k) false)++("1":Str)=Ar (Be ds k):=E9 (dv (opn ds k-dAt ds k) false) [true];refine⟨_,"1",rfl,rfl,?_,?_⟩
  ·rw[Au,gm]
   exact fk (Ag (by rw[show("1":Str).length=1 by rfl];lia))
  rw[e1];apply Bv hp3 (by rw[du,fh];exact Ag (by lia)) ?_;apply⟨⟨_,rfl⟩,?_,Bz s3 hp,?_⟩
  ·rw[Ac,iu,eh]
   rfl
  ·rw[Aj nlp]
   exact hl3
 ·rintro G H3 ⟨⟨v3,rfl⟩,hp3,s3,hl3⟩
  rw[Fl] at *;have hop:=Mw hD ds.length (d3 _);apply⟨.inl ⟨rfl,_,SqL.of hp3⟩,?_⟩;apply⟨"0",(opn ds ds.length:Int),rfl,rfl,by lia,by lia,?_,few (by decide),?_⟩
  ·exact fk (Ag (by rw[show("0":Str).length=1 by rfl];lia))
  have e0:K2 ("0":Str) ((opn ds ds.length:Int)).toNat=Ar (dv (opn ds ds.length) false):=by
   rw[gz];exact T7 false _
  rw[e0];apply Bv hp3 (by rw[du,fh];exact Ag (by lia)) ?_;apply⟨rfl,?_⟩;k_is;have ef:((et ds.length).map (Be ds)++[dv (opn ds ds.length) false]).flatten=Aq ds:=by
   rw[jc,yd];rfl
  refine Rr (ls:=(et ds.length).map (Be ds)++[dv (opn ds ds.length) false]) ?_ ?_ ?_
  ·rw[Ac,eh,jz]
   rfl
  ·rw[ef,Bh hD]
   lia
  ·rw[ef]
   exact q _ (Bz s3 hp)
inductive Se(vs:List V)(H:Hp)(Q:VK)(E:XK):Prop|mk(l:Za5)(_:vs=[.str (Ar l)])(_:Vs 0 l)(_:l.length<=8000)(_:∀p (ds:Za4) H',Ah H H'->H p=none->H' p=some (.lst ((B2 ds).map V.int))->Dok ds->Aq ds=l->Q (.ref p) H')
theorem Ub {ds:Za4}{d:Nat}:∀k,k<=ds.length->Nm (ds++[d]) k=Nm ds k
 |0,_=>rfl
 |k+1,h=>by
  rw[Gy,Gy,Ub k (by lia)];unfold Be;rw[Nk k (by lia),Lb (by lia)]
include T in
theorem Vt (F:Fun K "elders_of" "elders_of" K8 f fd)(bi:Cal P w K mg base "check_row" 1 ["text"] iC):Ay P w K mg base CX0 2 f fd ["text"] Se:=by
 exists F.ok Gv
 obtain⟨l,rfl,hv,hn,q⟩:=h;refine⟨_,(Ab (Bl (A4 bi hr.m (tpa (pv 0) Aa))) (Ab (Bj (ttc Mg (Ao Ca (by rfl) T.bZ Cd (tpa (pv 0) Aa)) (Ho rfl T.cA)) (Ae Cl)
  At) (Ab (tst 1 Gv.nd (Ap Aa)) (Ab (tst 2 Gv.nd (Ap (tpa (Cg Bn Ad) Aa))) (Ab (Fe i8 rfl (pG (pv 0)) (tgn 3 Gv.nd) (Ae (Bj (ttc Fo (pv 3) Aw) (Ab (Bl (Dz fv gp gn Bt (pv 1) (tpa (tix Az (pv 2) (Cg Bn Ad)) Aa))) (Ae (Bl (Dz fv gp gn Bt (pv 2) (tpa (Al C5 (Ao Av (by rfl) T.bZ Cd (tpa (pv 1) Aa)) Ad) Aa))))) (Ae (Bl (eF fv rh rf Zj (pv 2))))))) (Ae (An (pv 1)))))))),?_⟩
 apply⟨l,rfl,hv,hn,λH1 s1=>?_⟩;apply⟨_,rfl,by rw[Au];exact fk (Ag (by lia)),?_⟩;k_is;rw[Au];refine B5 (λh=>by lia) (λ_=>?_);apply⟨fg _,λp hp1=>?_⟩;have hp:H p=none:=s1.free hp1;have t1:=Ai (o:=.lst []) hp1;apply⟨few (by simp),λy hy=>?_⟩;have t2:=Ai (o:=.lst [V.int (-1)]) hy;have hyH:H y=none:=(s1.trans t1).free hy;apply⟨_,rfl,?_⟩;refine gW (λi G H2=>(∃(ds:Za4) (h:Nat) (v:Option V),G=[some (.str (Ar l)),some (.ref p),some (.ref y),v]/\Dok ds/\ds.length<=i/\hgt l i=(h:Int)/\h<=opn ds ds.length/\l.take i=Nm ds ds.length++dv (opn ds ds.length-h) false /\
   H2 p=some (.lst ((B2 ds).map V.int))/\H2 y=some (.lst (((way ds ds.length).take (h+1)).map V.int)))/\Ah H H2) ⟨⟨[],0,_,rfl,(λk hk=>by cases hk),d3 _,rfl,d3 _,rfl,t2 _ _ Ac,Ac⟩,(s1.trans t1).trans t2⟩ ?_ ?_
 ·have hpy:p≠y:=Am Ac hy
  rintro i c G H2 hc ⟨⟨ds,h,v,rfl,hD,hdl,hh,hop,htk,hp2,hy2⟩,s2⟩;obtain⟨b,hb,rfl⟩:=P7 hc;have hi:=Bs hb;have hs:=Nq hb;have hw:=Dy hD ds.length (d3 _);obtain⟨h',hh',hvs,_⟩:=Yc hv i (by lia);have e:h'=h:=by lia
  subst e;have tk1:l.take (i+1)=l.take i++[b]:=by rw[ip,hb];rfl
  have hx:(way ds ds.length)[h'+1-1]?=some ((way ds ds.length).getD h' 0):=by
   rw[ul];unfold ge;rw[dq (by lia)];rfl
  k_is
  cases b with
  |true=>
   refine B5 (λ_=>?_) (λh=>absurd rfl h);have hs:hgt l (i+1)=hgt l i+1:=hs;apply⟨.inl ⟨rfl,_,SqL.of hp2⟩,?_⟩;apply Bk (SqL.of hy2) (G7 (by lia) hx) ?_;apply Bv hp2 ?_ ?_
   ·rw[du,Bc]
    exact Ag (by lia)
   k_is;have hy3:upd H2 p (.lst ((B2 ds).map V.int++[V.int ((way ds ds.length).getD h' 0)])) y=some (.lst (((way ds ds.length).take (h'+1)).map V.int)):=by rw[Aj hpy.symm];exact hy2
   have hp3:=@Ac H2 p (.lst ((B2 ds).map V.int++[V.int ((way ds ds.length).getD h' 0)]));have s3:=Bz (o:=.lst ((B2 ds).map V.int++[V.int ((way ds ds.length).getD h' 0)])) s2 hp;generalize upd H2 p _=H3 at *;refine⟨.inl ⟨rfl,_,SqL.of hy3⟩,?_⟩;apply⟨p,_,rfl,.inl (SqL.of hp3),?_⟩;k_is;rw[d5,du,Bc];refine Bv hy3 ?_ ?_
   ·rw[Dr (by lia)]
    exact Ag (by have:=Mw hD ds.length (d3 _);lia)
   k_is;have hD2:=Nh (d:=h') hD hop;have hl2:(ds++[h']).length=ds.length+1:=by rw[d5];rfl
   have ho2:opn (ds++[h']) (ds.length+1)=h'+1:=by
    show dAt (ds++[h']) ds.length+1=_;rw[Nx]
   refine⟨⟨ds++[h'],h'+1,_,rfl,hD2,by lia,by lia,by rw[hl2,ho2];exact d3 _,?_,?_,?_⟩,Bz s3 hyH⟩
   ·rw[tk1,htk,hl2,ho2,jh,List.replicate_zero,kq,Gy,Ub _ (d3 _),gj]
    unfold Be;rw[Nk _ (d3 _),Nx]
   ·rw[Aj hpy,hp3,Lp,eh]
    rfl
   ·have hwl:=Dy hD2 (ds.length+1) (by lia)
    have ew:(way (ds++[h']) (ds.length+1)).take (h'+1+1)=(way ds ds.length).take (h'+1)++[(ds.length:Int)]:=by
     rw[fm (by lia),Nj]
    have ei:(((ds.length+[V.int ((way ds ds.length).getD h' 0)].length:Nat):Int)-1)=(ds.length:Int):=by
     simp only[fj,gw];lia
    rw[Ac,hl2,ew,eh,ei];rfl
  |false=>
   refine B5 (λh=>absurd h (by decide)) (λ_=>?_);have hs:hgt l (i+1)=hgt l i + -1:=hs;rw[eP hb] at hvs;have hpos:=hvs.1;apply⟨.inl ⟨rfl,_,SqL.of hy2⟩,?_⟩;refine⟨y,_,.int ((way ds ds.length).getD h' 0),rfl,rfl,hy2,?_,?_⟩
   ·rw[Dr (by lia),Ui]
    rw[fe (by lia)];exact hx
   k_is;rw[Oq (by lia)];refine⟨⟨ds,h'-1,_,rfl,hD,by lia,by lia,by lia,?_,?_,?_⟩,Bz s2 hyH⟩
   ·rw[tk1,htk,gj,show opn ds ds.length-(h'-1)=opn ds ds.length-h'+1 by lia,sx]
   ·rw[Aj hpy]
    exact hp2
   ·rw[Ac,show h'-1+1=h'+1-1 by lia]
 ·rintro G H2 ⟨⟨ds,h,v,rfl,hD,hdl,hh,hop,htk,hp2,hy2⟩,s2⟩
  rw[show(Ar l).cps.size=l.length from Au l] at *;obtain⟨h',hh',hvs,_⟩:=Yc hv l.length (d3 _);rw[i6 (d3 _)] at hvs;have hvs:h'=0:=hvs;have e:h=0:=by lia
  subst e;rw[fm (d3 _),mz] at htk;k_is;exact q p ds H2 s2 hp hp2 hD htk.symm
inductive Yk (CS:dw)(vs:List V)(H:Hp)(Q:VK)(E:XK):Prop|mk(x dx:dw)(p:V)(_:vs=[.ref x,p])(_:H x=some (.ins CS dx []))(_:Q .non (upd H x (.ins CS dx [("pairs",p)])))
variable (ah:Qb K ae)
include T ah in
theorem Q5 (F:Fun K "__init__" "Openings.__init__" Gg f fd):Ay P w K mg base CX0 1 f fd ["self","pairs"] (Yk ae):=by
 exists F.ok Oc
 obtain⟨x,dx,p,rfl,hx,q⟩:=h;refine⟨_,(Ae (tsf (pv 0) (pv 1))),?_⟩;k_is;exact Dx hx ah.cl ah.cf (show 0<1000 by decide) q
inductive Y4 (C CR CS:dw)(vs:List V)(H:Hp)(Q:VK)(E:XK):Prop|mk(x:dw)(ls:List (Za5))(_:vs=[.ref x])(_:Cf C CR CS H x ls)(_:Q (.int (ls.flatten.length/2:Nat)) H)
variable (aO:Mth P w K mg base aa "size" 1 ["self"] (U8 ac aa))
include T ah aO in
theorem Qk (F:Fun K "many_knots" "Openings.many_knots" Dk f fd):Ay P w K mg base CX0 2 f fd ["self"] (Y4 ac aa ae):=by
 exists F.ok Ju
 obtain⟨x,ls,rfl,⟨dx,r,e,hx,hR⟩,q⟩:=h;refine⟨_,(Ae (An (Al F8 (Fy aO hr.m (tfl (pv 0))) Ad))),?_⟩;apply⟨x,ae,dx,_,_,rfl,hx,ah.cl,ah.cf,rfl,?_⟩;obtain⟨dp,p,b,k,t,o,hp,_⟩:=id hR;apply⟨r,dp,_,rfl,hp,rfl,?_⟩;apply⟨r,ls,rfl,hR,?_⟩;k_is;exact q
theorem Lg (ns:List Int)(m:Int):(ns.map V.int).countP (λz=>eqV z (.int m))=ns.count m:=by
 induction ns with
 |nil=>rfl
 |cons n r ih=>
  rw[ju,vc,li,ih]
  by_cases h:n=m<;>simp[eqV,h]
inductive Xm (C:dw)(vs:List V)(H:Hp)(Q:VK)(E:XK):Prop|mk(x dx:dw)(l:Za5)(_:vs=[.ref x,.str (Ar l)])(_:H x=some (.ins C dx []))(_:0<l.length)(_:l.length<=128)(_:∀H',SameBut x H H'->Ik C H' x l->Q .non H')
include T aD in
theorem Wh (F:Fun K "__init__" "Piece.__init__" J2 f fd)(Z:Qc K ac)(bj:Cal P w K mg base "sums_of" 2 ["text"] (lA K)):Ay P w K mg base CX0 3 f fd ["self","signs"] (Xm ac):=by
 exists F.ok Me
 obtain⟨x,dx,l,rfl,hx,h0,h1,q⟩:=h;refine⟨_,(Ab (tst 2 Me.nd (A4 aD hr.m (tpa (pv 1) (tpa Ad Aa)))) (Ab (tsf (pv 0) (pv 1)) (Ab (tsf (pv 0) (A4 bj hr.m (tpa (pv 1) Aa))) (Ab (tsf (pv 0) (Ao (kH rfl) (by rfl) T.cW uL (tpa (pv 2) Aa))) (Ae (tsf (pv 0) (Dz fv wk wj Tj (pv 2) (tpa (Ao (iQ rfl) (by rfl) T.cQ pZ (tpa (pv 2) Aa)) Aa)))))))),?_⟩
 apply⟨l,0,rfl,by lia,λp H1 s1 hp0 hp=>?_⟩;rw[Y5] at hp;have hx1:=s1 _ _ hx;apply Dx hx1 Z.cl Z.cI (show 0<1000 by decide) ?_;have hpx:p≠x:=(Am hx hp0).symm;have hp2:upd H1 x (.ins ac dx (C4 "signs" (V.str (Ar l)) [])) p=some (.lst ((hts l l.length).map V.int)):=by rw[Aj hpx];exact hp
 have b2:SameBut x H1 (upd H1 x (.ins ac dx (C4 "signs" (V.str (Ar l)) []))):=Cb;have hx2:=@Ac H1 x (.ins ac dx (C4 "signs" (V.str (Ar l)) []));generalize upd H1 x _=H2 at *;apply⟨l,rfl,by lia,λm t H3 hm s3 ht0 ht=>?_⟩;have hx3:=s3 _ _ hx2;have hp3:=s3 _ _ hp2;have htx:t≠x:=(Am hx2 ht0).symm;apply Dx hx3 Z.cl Z.cO (show 1<1000 by decide) ?_;have hp4:upd H3 x (.ins ac dx (C4 "kept_sums" (V.ref t) (C4 "signs" (V.str (Ar l)) []))) p=some (.lst ((hts l l.length).map V.int)):=by rw[Aj hpx];exact hp3
 have ht4:upd H3 x (.ins ac dx (C4 "kept_sums" (V.ref t) (C4 "signs" (V.str (Ar l)) []))) t=some (.tup (eG l m)):=by rw[Aj htx];exact ht
 have b4:SameBut x H3 (upd H3 x (.ins ac dx (C4 "kept_sums" (V.ref t) (C4 "signs" (V.str (Ar l)) [])))):=Cb;have hx4:=@Ac H3 x (.ins ac dx (C4 "kept_sums" (V.ref t) (C4 "signs" (V.str (Ar l)) [])));have but4:SameBut x H (upd H3 x (.ins ac dx (C4 "kept_sums" (V.ref t) (C4 "signs" (V.str (Ar l)) [])))):=((s1.but.trans b2).trans s3.but).trans b4;generalize upd H3 x _=H4 at *;have hne:hts l l.length≠[]:=λe=>by
  have:=congrArg k6 e;unfold hts at this;rw[du,fh,gw] at this;lia
 apply⟨p,hts l l.length,rfl,SqL.of hp4,hne,λg hg=>?_⟩;apply Dx hx4 Z.cl Z.cT (show 2<1000 by decide) ?_;have hp5:upd H4 x (.ins ac dx (C4 "greatest" (V.int g) (C4 "kept_sums" (V.ref t) (C4 "signs" (V.str (Ar l)) [])))) p=some (.lst ((hts l l.length).map V.int)):=by rw[Aj hpx];exact hp4
 apply⟨.inl ⟨rfl,_,SqL.of hp5⟩,?_⟩;apply⟨p,hts l l.length,rfl,SqL.of hp5,hne,λmn hmn=>?_⟩;apply⟨p,_,_,rfl,rfl,hp5,C1 _,rfl,?_⟩;apply Dx Ac Z.cl Z.cG (show 3<1000 by decide) ?_;rw[Vw];refine q _ (but4.trans Cb) ⟨dx,t,m,g,_,Ac,?_,hm,hg,?_⟩
 ·rw[Aj htx]
  exact ht4
 ·obtain rfl:mn=m:=by
   rcases hm with⟨e,_⟩|hm
   ·rw[e] at h0
    exact absurd h0 (jj _)
   ·exact hmn.uniq hm
  rw[Lg]
inductive Sb (C:dw)(vs:List V)(H:Hp)(Q:VK)(E:XK):Prop|mk(l:Za5)(_:vs=[.str (Ar l)])(_:l.length<=20000)(_:∀p (as:List dw) H',Ah H H'->H p=none->H' p=some (.lst (as.map V.ref))->Pcs C H' as (pcs l)->Q (.ref p) H')
include T in
theorem Up (F:Fun K "pieces_of" "pieces_of" Gf f fd)(bn:Mkr P w K mg base "Piece" ac 3 ["self","signs"] (Xm ac)):Ay P w K mg base CX0 5 f fd ["text"] (Sb ac):=by
 exists F.ok J4
 obtain⟨l,rfl,hl,q⟩:=h;refine⟨_,(Ab (Mu (i:=1) J4.nd rfl (vv rfl) (Al F8 (Al C5 (Al A0 (Ao Ca (by rfl) T.bZ Cd (tpa (pv 0) Aa)) (Ho rfl T.cw)) Ad) (Ho rfl T.cw))) (Ab (Xq (i:=2) rfl Su J4.nd rfl rfl (Ow rfl T.cp (tpa Ad (tpa (pv 1) Aa))) (λ_ _ _ _=>F6) (λ_ _ _ _=>(Al F8 (Al Io (pv 0) (Ao Ca (by rfl) T.bZ Cd (tpa (pv 2) Aa))) (pv 1)))) (Ae (An (dA rfl Rz (eA rfl T.cL (tpa (Al Hm (Ap (tpa Ad Aa)) (pv 2)) (tpa (Al Hm (pv 2) (Ap (tpa (Ao Ca (by rfl) T.bZ Cd (tpa (pv 0) Aa)) Aa))) Aa))) (λ_ _ _ _=>Gr (ttc Mh (pv 0) (pv 1))) (λ_ _ _ _=>(pL bn hr.m (tpa (G9 pD (pv 2) (E7 (pv 0)) (E7 (pv 1))) Aa)))))))),?_⟩
 have hs:(Ar l).length=l.length:=Au l;apply⟨_,rfl,fk (Ag (by rw[Au];lia)),?_⟩;rw[Au];k_is;have hm:((l.length:Nat):Int)+128-1=((l.length+127:Nat):Int):=by lia
 have hm2:(((l.length:Nat):Int)+128-1)/128=((pcM l.length:Nat):Int):=by rw[hm];unfold pcM;lia
 rw[hm2];have hM:pcM l.length<=200:=by unfold pcM;lia
 obtain⟨n,hn⟩:∃n,n=pcM l.length-1:=⟨_,rfl⟩;have hn2:(((pcM l.length:Nat):Int)-1).toNat=n:=by lia
 have hx:∀i,(((i+1)*l.length/pcM l.length:Nat):Int)=(1+(i:Int))*(l.length:Int)/(pcM l.length:Int):=λi=>by rw[Int.natCast_ediv,BN,BO,Int.add_comm];rfl
 refine⟨1,(pcM l.length:Nat),rfl,⟨by decide,by decide,by lia,by lia⟩,?_⟩;rw[hn2];refine R3 (λi=>(et i).map λk:Nat=>V.int (By l.length (k+1):Nat)) rfl (λi hi=>?_) (λi H1 R A hi s1 _ hA=>?_) (λD H1 hD s1 h1=>?_)
 ·rw[du,fh]
  exact Ag (by lia)
 ·apply⟨_,rfl,fk (Ag (by rw[Au];lia)),?_⟩;rw[Au];apply Rb (by lia) (by lia) ?_;apply tZ (by lia) (by lia) ?_;apply hA _ _ ?_ (Ah.refl _);rw[iu,eh,<-hx i];rfl
 ·have hcl:((et n).map λk:Nat=>V.int (By l.length (k+1):Nat)).length=n:=by rw[du,fh]
  apply⟨few (by simp),λz1 hz1=>?_⟩;have u1:=Ai (o:=.lst [V.int 0]) hz1;apply⟨z1,D,_,_,rfl,rfl,Ac,u1 _ _ h1,?_,λp1 hp1=>?_⟩
  ·rw[hcl]
   exact few (by simp only[fj,gw];lia)
  have u2:=Ai (o:=.lst ([V.int 0]++(et n).map λk:Nat=>V.int (By l.length (k+1):Nat))) hp1;have hq1:upd (upd H1 z1 (.lst [V.int 0])) p1 (.lst ([V.int 0]++(et n).map λk:Nat=>V.int (By l.length (k+1):Nat))) p1=_:=Ac;have s2:=(s1.trans u1).trans u2;have h2:=u2 _ _ (u1 _ _ h1);generalize upd (upd H1 z1 (.lst [V.int 0])) p1 (.lst ([V.int 0]++(et n).map λk:Nat=>V.int (By l.length (k+1):Nat)))=H2 at *;apply⟨_,rfl,fk (Ag (by rw[Au];lia)),?_⟩;rw[Au];apply⟨few (by simp),λz2 hz2=>?_⟩;have u3:=Ai (o:=.lst [V.int (l.length:Nat)]) hz2;apply⟨D,z2,_,_,rfl,rfl,u3 _ _ h2,Ac,?_,λp2 hp2=>?_⟩
  ·rw[hcl]
   exact few (by simp only[fj,gw];lia)
  have u4:=Ai (o:=.lst (((et n).map λk:Nat=>V.int (By l.length (k+1):Nat))++[V.int (l.length:Nat)])) hp2;have hq2:upd (upd H2 z2 (.lst [V.int (l.length:Nat)])) p2 (.lst (((et n).map λk:Nat=>V.int (By l.length (k+1):Nat))++[V.int (l.length:Nat)])) p2=_:=Ac;have s4:=(s2.trans u3).trans u4;have hq14:=u4 _ _ (u3 _ _ hq1);generalize upd (upd H2 z2 (.lst [V.int (l.length:Nat)])) p2 (.lst (((et n).map λk:Nat=>V.int (By l.length (k+1):Nat))++[V.int (l.length:Nat)]))=H4 at *;have hl1:([V.int 0]++(et n).map λk:Nat=>V.int (By l.length (k+1):Nat)).length=n+1:=by rw[d5,hcl];simp only[fj,gw];lia
  have hl2:(((et n).map λk:Nat=>V.int (By l.length (k+1):Nat))++[V.int (l.length:Nat)]).length=n+1:=by rw[d5,hcl];rfl
  have ha1:∀i,i<=n->([V.int 0]++(et n).map λk:Nat=>V.int (By l.length (k+1):Nat))[i]?=some (V.int (By l.length i:Nat)):=λi hi=>by
   cases i with
   |zero=>rw[Tx];rfl
   |succ i=>
    show((et n).map λk:Nat=>V.int (By l.length (k+1):Nat))[i]?=_;rw[d8,ij (by lia)];rfl
  have hL:l.length=By l.length (n+1):=by
   by_cases h0:l.length=0
   ·rw[h0];unfold By;rw[DH,ym]
   ·have:n+1=pcM l.length:=by unfold pcM at hn ⊢;lia
    rw[this,R5 (by lia)]
  have ha2:∀i,i<=n->(((et n).map λk:Nat=>V.int (By l.length (k+1):Nat))++[V.int (l.length:Nat)])[i]?=some (V.int (By l.length (i+1):Nat)):=λi hi=>by
   by_cases h:i<n
   ·rw[fb (by rw[hcl];exact h),d8,ij h]
    rfl
   ·obtain rfl:i=n:=by lia
    rw[e9 (by rw[hcl];exact d3 _),hcl,jh,<-hL];rfl
  apply⟨p1,p2,rfl,⟨_,SqL.of hq14⟩,⟨_,SqL.of hq2⟩,?_⟩;refine pR (SqL.of hq14) (SqL.of hq2) (λD i zs H'=>∃as:List dw,zs=as.map V.ref/\as.length=min i (pcM l.length)/\∀(k:Nat) a x,as[k]?=some a->(pcs l)[k]?=some x->Ik ac H' a x) (λD H' _ _=>⟨[],rfl,by rw[Nat.zero_min];rfl,λk a x e=>by cases e⟩) ?_ ?_ ?_ ?_ ?_
  ·rintro D i zs H' us o hD ⟨as,e1,e2,e3⟩
   refine⟨as,e1,e2,λk a x k1 k2=>?_⟩;obtain⟨d,t,m,g,o',x1,x2,x3⟩:=e3 k a x k1 k2;exact⟨d,t,m,g,o',by rw[Aj (λe=>by rw[e,hD] at x1;cases x1)];exact x1,by rw[Aj (λe=>by rw[e,hD] at x2;cases x2)];exact x2,x3⟩
  ·rintro D i zs H' hi ⟨as,rfl,e2,e3⟩
   rw[du,e2];exact Ag (by lia)
  ·rintro D i zs H' H'' s ⟨as,e1,e2,e3⟩
   exact⟨as,e1,e2,λk a x k1 k2=>(e3 k a x k1 k2).kp (Ah.kp s)⟩
  ·intro D i zs y y2 H5 A R hy hy2 s5 hD0 hD5 hPv hR hA
   obtain⟨as,rfl,e2,e3⟩:=hPv;have hi:i<=n:=by have:=Bs hy;rw[hl1] at this;lia
   rw[ha1 i hi] at hy;rw[ha2 i hi] at hy2;obtain rfl:=d0 hy;obtain rfl:=d0 hy2;apply B5 (λhlt=>?_) (λhlt=>?_)
   ·have hlt:By l.length i<By l.length (i+1):=by lia
    have hiM:i<pcM l.length:=by
     by_cases h0:pcM l.length=0
     ·unfold By at hlt
      rw[h0,DL,DL] at hlt;lia
     ·lia
    have hsz:=K3 hiM;have hst:=O0 (k:=i) (fB hiM);apply⟨_,rfl,fk (Ag (by rw[Au];lia)),?_⟩;rw[Ua];k_is;intro x dx hx0 hdx hxd;refine⟨x,dx,_,rfl,Ac,by rw[hsz];lia,by rw[hsz];lia,λH6 s6 hP6=>⟨rfl,?_⟩⟩;have s6:=Gz hx0 hdx s6;refine hA _ _ s6 ⟨as++[x],by rw[eh];rfl,by rw[d5,e2];simp only[fj,gw];lia,λk a y k1 k2=>?_⟩;rw[iy (by lia)] at e2
    by_cases hk:k<as.length
    ·rw[fb hk] at k1
     exact(e3 k a y k1 k2).kp (Ah.kp s6)
    ·have hk2:=Bs k1
     rw[d5] at hk2;obtain rfl:k=as.length:=by simp only[fj,gw] at hk2;lia
     rw[e9 (d3 _),jh] at k1;obtain rfl:x=a:=d0 k1;rw[e2,Od hiM] at k2;obtain rfl:=d0 k2;exact hP6
   ·refine hR _ (Ah.refl _) ⟨as,rfl,?_,e3⟩
    have hM0:pcM l.length=0:=by
     by_cases h0:l.length=0
     ·rw[h0];rfl
     ·exfalso
      have:=O0 (k:=i) (show 0<l.length by lia);lia
    rw[e2,hM0,DJ,DJ]
  ·intro D5 zs H5 hD5 s5 hPv h5
   obtain⟨as,rfl,e2,e3⟩:=hPv;rw[hl1,hl2,DK] at e2;refine q D5 as H5 (s4.trans s5) (s4.free hD5) h5 ⟨?_,e3⟩;rw[e2,Dm];lia
theorem dY {x:Za5}{m m':Int}(hx:0<x.length)(h1:La x m)(h2:La x m'):m=m':=by
 rcases h1 with⟨e,_⟩|h1
 ·rw[e] at hx
  exact absurd hx (jj _)
 ·rcases h2 with⟨e,_⟩|h2
  ·rw[e] at hx
   exact absurd hx (jj _)
  ·exact h1.uniq h2
theorem Kv {x b:dw}(s:SameBut x H H')(hb:b≠x)(h:H' b=none):H b=none:=by
 cases e:H b with
 |none=>rfl
 |some u=>
  rw[s b u hb e] at h;cases h
def Fr4 (CR:dw)(H H':Hp)(x p:dw):Prop:=∃(dr b k t o:dw) (n:V),H' x=some (.ins CR dr (Z9 (.ref p) (.ref b) (.ref k) n (.ref t) (.ref o)))/\H b=none/\H k=none/\H t=none/\H o=none
inductive W1 (C CR:dw)(vs:List V)(H:Hp)(Q:VK)(E:XK):Prop|mk(x dx p:dw)(as:List dw)(ls:List (Za5))(_:vs=[.ref x,.ref p])(_:H x=some (.ins CR dx []))(_:H p=some (.lst (as.map V.ref)))(_:Pcs C H as ls)(_:En ls)(_:ls.length<=400)(_:∀H',SameBut x H H'->Bd C CR H' x ls->Fr4 CR H H' x p->Q .non H')
variable (Y:Qc K ac)
include T ad Y in
theorem Q3 (F:Fun K "__init__" "PiecedRow.__init__" Bo f fd)(be:Cal P w K mg base "running_sums" 1 ["numbers"] tX)(We:rO P w K mg base "Heights" "__init__" 1 ["self","length","table","often_least"] (X9 aa)):Ay P w K mg base CX0 2 f fd ["self","pieces"] (W1 ac aa):=by
 exists F.ok Fk
 obtain⟨x,dx,p,as,ls,rfl,hx,hp,hP,hZ,hn,q⟩:=h;refine⟨_,(Ab (tsf (pv 0) (pv 1)) (Ab (tsf (pv 0) (A4 be hr.m (tpa (K0 rfl L9 (Ct (pv 1)) (λ_ _ _ _=>F6) (λ_ _ _ _=>(Ao Ca (by rfl) T.bZ Cd (tpa (F3 K (pv 0)) Aa)))) Aa))) (Ab (tsf (pv 0) (A4 be hr.m (tpa (K0 rfl L5 (Ct (pv 1)) (λ_ _ _ _=>F6) (λ_ _ _ _=>(tix (gK K) (F3 K (pv 0)) Ad))) Aa))) (Ab (On (i:=2) rfl L8 Fk.nd rfl rfl (eA rfl T.cL (tpa (tfl (pv 0)) (tpa (tfl (pv 0)) Aa))) (λ_ _ _ _=>F6) (λ_ _ _ _=>(Al C5 (Al Io Ad (pv 0)) (pv 1)))) (Ab (On (i:=3) rfl L6 Fk.nd rfl rfl (eA rfl T.cL (tpa (pv 2) (tpa (pv 1) Aa))) (λ_ _ _ _=>F6) (λ_ _ _ _=>(Ux (tpa (pv 0) (tpa (Al A0 (pv 0) (tix (gK K) (F3 K (pv 1)) Ad)) (tpa (Al A0 (pv 0) (F3 K (pv 1))) Aa)))))) (Ae (Bl (tO We hr.m rfl (tpa (pv 0) (tpa (tix Az (tfl (pv 0)) (Cg Bn Ad)) (tpa (pv 3) (tpa (K0 rfl Mc (Ct (pv 1)) (λ_ _ _ _=>F6) (λ_ _ _ _=>(F3 K (pv 0)))) Aa)))))))))))),?_⟩
 have hne:∀a∈as,a≠x:=λa ha e=>by
  obtain⟨k,hk⟩:=km ha;have hk1:=(fc.mp hk).1;have hx2:ls[k]?=some (ls[k]'(by rw[<-hP.1];exact hk1)):=dq _;obtain⟨d,t,m,g,o,h1,_⟩:=hP.2 k a _ hk hx2;rw[e,hx] at h1;cases h1
 have hpx:p≠x:=λe=>by rw[e,hx] at hp;cases hp
 have hal:(as.map V.ref).length=ls.length:=by rw[du,hP.1]
 apply Dx hx ad.cl ad.cj (show 0<1000 by decide) ?_;rw[show C4 ("kept_pieces":Str) (V.ref p) []=gJ (.ref p) from rfl];have hx1:=@Ac H x (.ins aa dx (gJ (.ref p)));have b1:SameBut x H (upd H x (.ins aa dx (gJ (.ref p)))):=Cb;have hP1:=hP.but b1 hx hne;have hp1:=b1 _ _ hpx hp;generalize upd H x _=H1 at *;apply⟨p,rfl,⟨_,SqL.of hp1⟩,?_⟩;refine Ie (SqL.of hp1) (λi=>nV ((ls.map k6).take i)) rfl (λi hi=>?_) (λi v H2 R A hv s2 _ hA=>?_) (λD2 H2 hD2 s2 h2=>?_)
 ·unfold nV
  rw[du,d9];exact Ag (by lia)
 ·obtain⟨a,y,rfl,ea,ey,hy⟩:=hP1.get hv
  obtain⟨d,t,m,g,o,y1,y2,y3⟩:=hy;apply⟨a,ac,d,_,_,rfl,s2 _ _ y1,Y.cl,Y.cI,rfl,?_⟩;k_is;have:=hZ i y ey;refine⟨_,rfl,fk (Ag (by rw[Au];lia)),?_⟩;rw[Au];refine hA _ _ ?_ (Ah.refl _);rw[ip,d8,ey];unfold nV;rw[eh];rfl
 rw[hal,fm (by rw[du];exact d3 _)] at h2;apply⟨D2,ls.map k6,rfl,h2,by rw[du];lia,λbg H3 s3 hb3 hbg=>?_⟩;have hbe:nV ((et ((ls.map k6).length+1)).map λi=>((ls.map k6).take i).sum)=bgs ls:=by
  unfold bgs;rw[du];exact congrArg nV (j0 λj _=>lT ls j)
 rw[hbe] at hbg;have s13:=s2.trans s3;have hbx:bg≠x:=(Am (s2 _ _ hx1) hb3).symm;have hx3:=s13 _ _ hx1;have hp3:=s13 _ _ hp1;have hP3:=hP1.kp (Ah.kp s13);have but3:=b1.trans s13.but;apply Dx hx3 ad.cl ad.b8 (show 1<1000 by decide) ?_;rw[show C4 ("begins":Str) (V.ref bg) (gJ (.ref p))=fK (.ref p) (.ref bg) from rfl];have hx4:=@Ac H3 x (.ins aa dx (fK (.ref p) (.ref bg)));have b4:SameBut x H3 (upd H3 x (.ins aa dx (fK (.ref p) (.ref bg)))):=Cb;have hP4:=hP3.but b4 hx3 hne;have hp4:=b4 _ _ hpx hp3;have hbg4:=b4 _ _ hbx hbg;have but4:=but3.trans b4;generalize upd H3 x _=H4 at *;apply⟨p,rfl,⟨_,SqL.of hp4⟩,?_⟩;refine Ie (SqL.of hp4) (λi=>nV ((kns ls).take i)) rfl (λi hi=>?_) (λi v H5 R A hv s5 _ hA=>?_) (λD5 H5 hD5 s5 h5=>?_)
 ·unfold nV
  rw[du,d9];exact Ag (by lia)
 ·obtain⟨a,y,rfl,ea,ey,hy⟩:=hP4.get hv
  obtain⟨d,t,m,g,o,y1,y2,y3⟩:=hy;apply⟨a,ac,d,_,_,rfl,s5 _ _ y1,Y.cl,Y.cO,rfl,?_⟩;apply Xb (SqT.of (s5 _ _ y2)) (v:=.int (y.count true:Nat)) rfl ?_;refine hA _ _ ?_ (Ah.refl _);unfold kns;rw[ip,d8,ey];unfold nV;rw[eh];rfl
 rw[hal,fm (by unfold kns;rw[du];exact d3 _)] at h5;apply⟨D5,kns ls,rfl,h5,by unfold kns;rw[du];lia,λkn H6 s6 hk6 hkn=>?_⟩;have hkl:(kns ls).length=ls.length:=by unfold kns;rw[du]
 rw[hkl] at hkn;have s46:=s5.trans s6;have hkx:kn≠x:=(Am (s5 _ _ hx4) hk6).symm;have hx6:=s46 _ _ hx4;have hp6:=s46 _ _ hp4;have hbg6:=s46 _ _ hbg4;have hP6:=hP4.kp (Ah.kp s46);have but6:=but4.trans s46.but;apply Dx hx6 ad.cl ad.cH (show 2<1000 by decide) ?_;rw[show C4 ("knots_ahead":Str) (V.ref kn) (fK (.ref p) (.ref bg))=fE (.ref p) (.ref bg) (.ref kn) from rfl];have hx7:=@Ac H6 x (.ins aa dx (fE (.ref p) (.ref bg) (.ref kn)));have b7:SameBut x H6 (upd H6 x (.ins aa dx (fE (.ref p) (.ref bg) (.ref kn)))):=Cb;have hP7:=hP6.but b7 hx6 hne;have hp7:=b7 _ _ hpx hp6;have hbg7:=b7 _ _ hbx hbg6;have hkn7:=b7 _ _ hkx hkn;have but7:=but6.trans b7;generalize upd H6 x _=H7 at *;apply⟨x,aa,dx,_,.ref kn,rfl,hx7,ad.cl,ad.cH,rfl,?_⟩;apply⟨x,aa,dx,_,.ref bg,rfl,hx7,ad.cl,ad.b8,rfl,?_⟩;apply⟨kn,bg,rfl,⟨_,SqL.of hkn7⟩,⟨_,SqL.of hbg7⟩,?_⟩;have hkl2:(nV ((et (ls.length+1)).map λi=>((kns ls).take i).sum)).length=ls.length+1:=by unfold nV;rw[du,du,fh]
 have kat:∀{i:Nat} {v:V},(nV ((et (ls.length+1)).map λi=>((kns ls).take i).sum))[i]?=some v->v=.int (((kns ls).take i).sum:Nat):=λ{i v} e=>by
  have hi:=Bs e;rw[hkl2] at hi;unfold nV at e;rw[d8,d8,ij hi] at e;exact(d0 e).symm
 refine uT (SqL.of hkn7) (SqL.of hbg7) (λi=>((et i).map λj=>2*(((kns ls).take j).sum:Int)-(bgn ls j:Int)).map V.int) rfl (λi hi=>?_) (λi v v2 H8 R A hv hv2 s8 _ hA=>?_) (λD8 H8 hD8 s8 h8=>?_)
 ·rw[hkl2,fM] at hi
  rw[du,du,fh];exact Ag (by lia)
 ·have hi:=Bs hv
  rw[hkl2] at hi;rw[Ha (by lia)] at hv2;obtain rfl:=kat hv;obtain rfl:=d0 hv2;apply hA _ _ ?_ (Ah.refl _);rw[iu,eh,eh];rfl
 rw[hkl2,fM,DK] at h8;have hx8:=s8 _ _ hx7;have hp8:=s8 _ _ hp7;have hbg8:=s8 _ _ hbg7;have hP8:=hP7.kp (Ah.kp s8);have but8:=but7.trans s8.but;have hll:(((et (ls.length+1)).map λj=>2*(((kns ls).take j).sum:Int)-(bgn ls j:Int)).map V.int).length=ls.length+1:=by rw[du,du,fh]
 apply⟨D8,p,rfl,⟨_,SqL.of h8⟩,⟨_,SqL.of hp8⟩,?_⟩;refine rM (SqL.of h8) (SqL.of hp8) (λD i zs H'=>∃rs:List dw,zs=rs.map V.ref/\rs.length=i/\∀(j:Nat) (r:dw),rs[j]?=some r->yS H' ls r j) (λD H' _ _=>⟨[],rfl,rfl,λj r e=>by cases e⟩) (λD i zs H' us o hD ⟨rs,e1,e2,e3⟩=>⟨rs,e1,e2,λj r e x ex=>let ⟨m,g,r1,r2⟩:=e3 j r e x ex;⟨m,g,by rw[Aj (Pi r1 hD (by intro z;cases z))];exact r1,r2⟩⟩) ?_ (λD i zs H' H'' s ⟨rs,e1,e2,e3⟩=>⟨rs,e1,e2,λj r e x ex=>let ⟨m,g,r1,r2⟩:=e3 j r e x ex;⟨m,g,s _ _ r1,r2⟩⟩) ?_ ?_
 ·rintro D i zs H' hi ⟨rs,rfl,h,_⟩
  rw[du,h];rw[hll,hal] at hi;exact Ag (by lia)
 ·rintro D i zs y y2 H9 A R hy hy2 s9 _ _ ⟨rs,rfl,hPv,hTR⟩ hA
  obtain⟨z,hz,rfl⟩:=Zu hy;have hil:=Bs hz;rw[du,fh] at hil;rw[d8,ij hil] at hz;obtain rfl:hBg ls i=z:=d0 hz;obtain⟨a,c,rfl,ea,ec,hc⟩:=hP8.get hy2;obtain⟨d,t,m,g,o,y1,y2,y3⟩:=hc;apply⟨a,ac,d,_,_,rfl,s9 _ _ y1,Y.cl,Y.cO,rfl,?_⟩;apply Xb (SqT.of (s9 _ _ y2)) (v:=.int m) rfl ?_;apply⟨a,ac,d,_,_,rfl,s9 _ _ y1,Y.cl,Y.cT,rfl,?_⟩;apply⟨few (by simp),λtp htp=>?_⟩;refine hA _ _ (Ai htp) ⟨rs++[tp],by rw[eh];rfl,by rw[d5,hPv];rfl,λj r e x ex=>?_⟩
  by_cases hj:j<rs.length
  ·rw[fb hj] at e
   obtain⟨m',g',r1,r2⟩:=hTR j r e x ex;exact⟨m',g',Ai htp _ _ r1,r2⟩
  ·rw[e9 (by lia)] at e
   have hj1:j-rs.length=0:=by
    have:=Bs e;simp at this;lia
   rw[hj1] at e;obtain rfl:tp=r:=d0 e;obtain rfl:j=i:=by lia
   rw[ec] at ex;obtain rfl:=d0 ex;exact⟨m,g,Ac,y3.1,y3.2.1⟩
 ·rintro D9 zs H9 hD9 s9 ⟨rs,rfl,hPv,hTR⟩ h9
  rw[hll,hal,m8 (by lia)] at hPv;have hkn9:=s9 _ _ (s8 _ _ hkn7);have hD9x:D9≠x:=(Am hx8 hD9).symm;have hx9:=s9 _ _ hx8;have hp9:=s9 _ _ hp8;have hbg9:=s9 _ _ hbg8;have hP9:=hP8.kp (Ah.kp s9);have but9:=but8.trans s9.but;apply⟨x,aa,dx,_,.ref bg,rfl,hx9,ad.cl,ad.b8,rfl,?_⟩;apply Bk (SqL.of hbg9) (v:=.int (ls.flatten.length:Nat)) ?_ ?_
  ·unfold bgs
   rw[Rc,Gq];exact N0 _ _
  apply⟨p,rfl,⟨_,SqL.of hp9⟩,?_⟩;refine mJ (SqL.of hp9) (λi ys H'=>ys.length=i/\∀(j:Nat) (v:V) (x:Za5) (m:Int),ys[j]?=some v->ls[j]?=some x->La x m->v=.int ((hts x x.length).count m:Nat)) (λ_ _=>⟨rfl,λj v x m e=>by cases e⟩) (λi ys H' D zs o _ h=>h) (λi ys H' hi h=>?_) ?_ ?_
  ·rw[h.1]
   rw[hal] at hi;exact Ag (by lia)
  ·intro i ys y H10 A R hy s10 hPv2 hA
   obtain⟨a,c,rfl,ea,ec,hc⟩:=hP9.get hy;obtain⟨d,t,m,g,o,y1,y2,y3⟩:=hc;apply⟨a,ac,d,_,_,rfl,s10 _ _ y1,Y.cl,Y.cG,rfl,?_⟩;refine hA _ _ (Ah.refl _) ⟨by rw[d5,hPv2.1];rfl,λj v x m' e ex hm'=>?_⟩
   by_cases hj:j<ys.length
   ·rw[fb hj] at e
    exact hPv2.2 j v x m' e ex hm'
   ·rw[e9 (by lia)] at e
    have hj1:j-ys.length=0:=by
     have:=Bs e;simp at this;lia
    rw[hj1] at e;have hPv3:=hPv2.1;obtain rfl:j=i:=by lia
    rw[ec] at ex;obtain rfl:=d0 ex;rw[<-d0 e,y3.2.2];obtain rfl:m=m':=dY (hZ _ _ ec).1 y3.1 hm';rfl
  ·intro D10 ys H10 hD10 s10 hPv2 h10
   have hx10:=s10 _ _ hx9;apply⟨x,dx,.ref p,.ref bg,.ref kn,_,_,_,rfl,hx10,?_⟩;have b11:SameBut x H10 (upd H10 x (.ins aa dx (Z9 (.ref p) (.ref bg) (.ref kn) (.int (ls.flatten.length:Nat)) (.ref D9) (.ref D10)))):=Cb;have hD10x:D10≠x:=(Am hx9 hD10).symm;have kt:∀{b:dw} {xs:List V},H10 b=some (.tup xs)->upd H10 x (.ins aa dx (Z9 (.ref p) (.ref bg) (.ref kn) (.int (ls.flatten.length:Nat)) (.ref D9) (.ref D10))) b=some (.tup xs):=λ{b xs} e=>b11 _ _ (Pi e hx10 (by intro z;cases z)) e;refine q _ ((but9.trans s10.but).trans b11) ⟨dx,p,bg,_,_,_,Ac,⟨⟨as,b11 _ _ hpx (s10 _ _ hp9),(hP9.kp (Ah.kp s10)).but b11 hx10 hne⟩,b11 _ _ hbx (s10 _ _ hbg9),hZ,hn⟩,⟨kn,rfl,b11 _ _ hkx (s10 _ _ hkn9)⟩,⟨D9,rs,rfl,b11 _ _ hD9x (s10 _ _ h9),hPv,λj r e x' ex=>let ⟨m,g,r1,r2⟩:=hTR j r e x' ex;⟨m,g,kt (s10 _ _ r1),r2⟩⟩,⟨D10,ys,rfl,b11 _ _ hD10x h10,by rw[hPv2.1,hal],hPv2.2⟩⟩ ⟨dx,bg,kn,D9,D10,_,Ac,Kv (b1.trans s2.but) hbx hb3,Kv (but4.trans s5.but) hkx hk6,Kv but8 hD9x hD9,Kv but9 hD10x hD10⟩
inductive mZ (C CR:dw)(ts:List Tb)(vs:List V)(H:Hp)(Q:VK)(E:XK):Prop|mk(x:dw)(ls:List (Za5))(n:Nat)(_:vs=[.ref x,.int n])(_:Bd C CR H x ls)(_:Tbs ts H)(_:∀(k:Nat) H',k<=ls.length->bgn ls k<=n->(k<ls.length->n<bgn ls (k+1))->SmT ts H H'->Q (.int k) H')
variable (hK:K.In base) (hB:base.BuiltinsAt mg Pt) (aE:Cal P w K mg base "first_that" 3 ["low","high","holds"] (P5 P w K mg base 2))
include T ad hK hB aE in
theorem Qh {f c:dw}(F:S6 K "stretch_at" "PiecedRow.stretch_at" A5 f fd c Pt)(hts:(⟨Pt,Ei,"PiecedRow.stretch_at.<locals>.<lambda>"⟩:Tb)∈ts):Ay P w K mg base CX0 4 f fd ["self","place"] (mZ ac aa ts):=by
 refine F.ok Je (λvs H Q E h=>?_) (λA outer s H vs Q E hr h=>?_)
 ·obtain⟨x,ls,n,rfl,_⟩:=h
  rfl
 ·obtain⟨x,ls,n,rfl,hR,hT,q⟩:=h
  obtain⟨dx,p,b,k,t,o,hx,hW,_⟩:=id hR;obtain⟨as,hp,hP⟩:=hW.pcs;refine⟨_,(Ae (An (Zy (qual:="PiecedRow.stretch_at.<locals>.<lambda>") (k:=1) aE hr.m Ad (Ao Av (by rfl) T.bZ Cd (tpa (tfl (pv 0)) Aa)) (F.code hK) hB rfl (by kernel_rfl) He (λ_ _ _ _ _ _ _ hr=>(tpc Mg (tix (Hk K) (F3 K (pv 2)) (Al A0 (pv 0) Ad)) (pv 1)))))),?_⟩;apply⟨x,aa,dx,_,_,rfl,hx,ad.cl,ad.cj,rfl,?_⟩;apply⟨p,_,rfl,.inl (SqL.of hp),?_⟩;rw[show(as.map V.ref).length=ls.length by rw[du,hP.1]];k_is;have hk:=hT.1 _ hts;refine⟨0,(ls.length:Nat),λi=>decide (n<bgn ls (i.toNat+1)),rfl,rfl,by lia,hk,λi H3 hi1 hi2 s3=>?_,λm H' hm1 hm2 hm3 hm4 s' t'=>?_⟩
  ·obtain⟨pt,hpt⟩:=Tb.tbl hk
   have kp:∀{b:dw} {u:HO},(∀ps,u≠.tbl ps)->H b=some u->H3 b=some u:=λ{b u} nt e=>s3 b u (λz=>by rw[z,hpt] at e;cases e;exact nt pt rfl) e;have hx3:=kp (by intro ps e;cases e) hx;have hb3:=kp (by intro ps e;cases e) hW.bg;apply⟨x,aa,dx,_,_,rfl,hx3,ad.cl,ad.b8,rfl,?_⟩;k_is;obtain⟨k,rfl⟩:=jw hi1;refine Bk (SqL.of hb3) (v:=.int (bgn ls (k+1):Nat)) (Bf (j:=k+1) (Ha (show k+1<=ls.length by lia))) ?_;apply⟨?_,Ah.refl _⟩;rw[gz];exact congrArg V.bl (decide_eq_decide.mpr (by lia))
  ·obtain⟨k,rfl⟩:=jw hm1
   refine q k H' (by lia) ?_ (λhlt=>?_) (lS hT hts s' t')
   ·rcases ni k with rfl|hk0
    ·rw[Rl];exact fg _
    ·have:=hm3 (by lia)
     dsimp only at this;rw[show(((k:Int)-1).toNat+1)=k by lia] at this;have:=of_decide_eq_false this;lia
   ·have:=hm4 (by lia)
    dsimp only at this;rw[gz] at this;exact of_decide_eq_true this
inductive lV (C CR:dw)(ts:List Tb)(vs:List V)(H:Hp)(Q:VK)(E:XK):Prop|mk(x:dw)(ls:List (Za5))(n:Nat)(_:vs=[.ref x,.int n])(_:Bd C CR H x ls)(_:Tbs ts H)(_:∀(k:Nat) H',k<=ls.length->(0<k->bgn ls (k-1)<n)->(k<ls.length->n<=bgn ls k)->SmT ts H H'->Q (.int k) H')
include T ad hK hB aE in
theorem Ql {f c:dw}(F:S6 K "pieces_to" "PiecedRow.pieces_to" Ba f fd c Pt)(hts:(⟨Pt,E4,"PiecedRow.pieces_to.<locals>.<lambda>"⟩:Tb)∈ts):Ay P w K mg base CX0 4 f fd ["self","place"] (lV ac aa ts):=by
 refine F.ok Kh (λvs H Q E h=>?_) (λA outer s H vs Q E hr h=>?_)
 ·obtain⟨x,ls,n,rfl,_⟩:=h
  rfl
 ·obtain⟨x,ls,n,rfl,hR,hT,q⟩:=h
  obtain⟨dx,p,b,k,t,o,hx,hW,_⟩:=id hR;obtain⟨as,hp,hP⟩:=hW.pcs;refine⟨_,(Ae (An (Zy (qual:="PiecedRow.pieces_to.<locals>.<lambda>") (k:=1) aE hr.m Ad (Ao Av (by rfl) T.bZ Cd (tpa (tfl (pv 0)) Aa)) (F.code hK) hB rfl (by kernel_rfl) Hx (λ_ _ _ _ _ _ _ hr=>(tpc lW (tix (Hk K) (F3 K (pv 2)) (pv 0)) (pv 1)))))),?_⟩;apply⟨x,aa,dx,_,_,rfl,hx,ad.cl,ad.cj,rfl,?_⟩;apply⟨p,_,rfl,.inl (SqL.of hp),?_⟩;rw[show(as.map V.ref).length=ls.length by rw[du,hP.1]];k_is;have hk:=hT.1 _ hts;refine⟨0,(ls.length:Nat),λi=>decide (n<=bgn ls i.toNat),rfl,rfl,by lia,hk,λi H3 hi1 hi2 s3=>?_,λm H' hm1 hm2 hm3 hm4 s' t'=>?_⟩
  ·obtain⟨pt,hpt⟩:=Tb.tbl hk
   have kp:∀{b:dw} {u:HO},(∀ps,u≠.tbl ps)->H b=some u->H3 b=some u:=λ{b u} nt e=>s3 b u (λz=>by rw[z,hpt] at e;cases e;exact nt pt rfl) e;have hx3:=kp (by intro ps e;cases e) hx;have hb3:=kp (by intro ps e;cases e) hW.bg;apply⟨x,aa,dx,_,_,rfl,hx3,ad.cl,ad.b8,rfl,?_⟩;k_is;obtain⟨k,rfl⟩:=jw hi1;refine Bk (SqL.of hb3) (v:=.int (bgn ls k:Nat)) (Bf (j:=k) (Ha (show k<=ls.length by lia))) ?_;apply⟨?_,Ah.refl _⟩;rw[gz];exact congrArg V.bl (decide_eq_decide.mpr (by lia))
  ·obtain⟨k,rfl⟩:=jw hm1
   refine q k H' (by lia) (λhk0=>?_) (λhlt=>?_) (lS hT hts s' t')
   ·have:=hm3 (by lia)
    dsimp only at this;rw[show((k:Int)-1).toNat=k-1 by lia] at this;have:=of_decide_eq_false this;lia
   ·have:=hm4 (by lia)
    dsimp only at this;rw[gz] at this;exact of_decide_eq_true this
inductive Pb (C CR:dw)(ts:List Tb)(vs:List V)(H:Hp)(Q:VK)(E:XK):Prop|mk(x:dw)(ls:List (Za5))(lo hi:Nat)(_:vs=[.ref x,.int lo,.int hi])(_:Bd C CR H x ls)(_:Tbs ts H)(_:lo<=hi)(_:hi<=ls.flatten.length)(_:∀H',SmT ts H H'->Q (.str (Ar ((ls.flatten.drop lo).take (hi-lo)))) H')
theorem oU (xs:List V){a b:Nat}(h:b<=xs.length):L4 xs (some (a:Int)) (some (b:Int))=(xs.drop a).take (b-a):=by
 unfold L4;rw[HT.sIx_nat,HT.sIx_nat,iy h]
 by_cases ha:a<=xs.length
 ·rw[iy ha]
 ·rw[m8 (by lia),i6 (d3 _),i6 (by lia),xm,xm]
theorem Zw {ls:List (Za5)}(hZ:En ls){i j:Nat}(h:i<j)(hj:j<=ls.length):bgn ls i<bgn ls j:=by
 have hi:i<ls.length:=by lia
 have:=Dt (dq hi);have h1:=(hZ i _ (dq hi)).1;have h2:=Em (ls:=ls) (show i+1<=j by lia);lia
theorem Vo {ls:List (Za5)}(hZ:En ls):∀j,j<=ls.length->bgn ls j<=128*j
 |0,_=>by rw[Rl];exact fg _
 |j+1,h=>by
  have h1:=Vo hZ j (by lia);have h2:=(hZ j _ (dq (show j<ls.length by lia))).2;rw[Dt (dq (show j<ls.length by lia))];lia
variable (ar:Mth P w K mg base aa "stretch_at" 4 ["self","place"] (mZ ac aa ts)) (aP:Mth P w K mg base aa "pieces_to" 4 ["self","place"] (lV ac aa ts))
include T ad Y ar aP in
theorem Qu (F:Fun K "stretch" "PiecedRow.stretch" Cu f fd):Ay P w K mg base CX0 5 f fd ["self","low","high"] (Pb ac aa ts):=by
 exists F.ok Cq
 obtain⟨x,ls,lo,hi,rfl,hR,hT,hlh,hhi,q⟩:=h;obtain⟨dx,p,b,k,t,o,hx,hW,_⟩:=id hR;obtain⟨as,hp,hP⟩:=id hW.pcs;refine⟨_,(Ab (tst 3 Cq.nd (Bg ar hr.m (pv 0) (tpa (pv 1) Aa))) (Ab (tst 4 Cq.nd (Dz ly rg rc Vg Aw (tpa (K0 rfl J0 (Ct (G9 Nc (tfl (pv 0)) (E7 (pv 3)) (E7 (Bg aP hr.m (pv 0) (tpa (pv 2) Aa))))) (λ_ _ _ _=>F6) (λ_ _ _ _=>(F3 K (pv 0)))) Aa))) (Ab (tst 5 Cq.nd (tix Az (tfl (pv 0)) (pv 3))) (Ae (An (G9 pD (pv 4) (E7 (Al C5 (pv 1) (pv 5))) (E7 (Al C5 (pv 2) (pv 5))))))))),?_⟩
 apply⟨x,dx,_,rfl,hx,rfl,?_⟩;apply⟨x,ls,lo,rfl,hR,hT,λk1 H1 hk1 ha1 hb1 s1=>?_⟩;have hx1:=s1.k hx;have hR1:=hR.kp s1.kp;apply⟨rfl,?_⟩;apply⟨x,aa,dx,_,_,rfl,hx1,ad.cl,ad.cj,rfl,?_⟩;apply⟨x,dx,_,rfl,hx1,rfl,?_⟩;apply⟨x,ls,hi,rfl,hR1,s1.ok,λk2 H2 hk2 ha2 hb2 s2=>?_⟩;have s12:=s1.trans s2;have hx2:=s12.k hx;have hp2:=s12.k hp;have hW2:=hW.kp s12.kp;have hP2:=hP.kp s12.kp;have hkk:k1<=k2:=by
  by_cases h:k1<=k2
  ·exact h
  ·exfalso
   have h1:=hb2 (by lia);have h2:=Zw hW.sz (show k2<k1 by lia) hk1;lia
 have hend:hi<=bgn ls k2:=by
  by_cases h:k2<ls.length
  ·exact hb2 h
  ·rw[show k2=ls.length by lia,Gq];exact hhi
 have hal:(as.map V.ref).length=ls.length:=by rw[du,hP.1]
 apply⟨p,_,rfl,SqL.of hp2,λD hD=>?_⟩;rw[oU _ (by rw[hal];exact hk2)] at *;obtain⟨uD,hD2⟩:=As (o:=.lst (((as.map V.ref).drop k1).take (k2-k1))) hD;have hP3:=hP2.kp (Ah.kp uD);have hx3:=uD _ _ hx2;have hbg3:=uD _ _ hW2.bg;have s3:=s12.then uD;generalize upd H2 D _=H3 at *;have hcl:(((as.map V.ref).drop k1).take (k2-k1)).length=k2-k1:=by rw[d9,ib,hal];lia
 have hfw:=hW.fw;apply⟨D,rfl,⟨_,SqL.of hD2⟩,?_⟩;refine Ie (SqL.of hD2) (λi=>(((ls.drop k1).take (k2-k1)).take i).map λl=>V.str (Ar l)) rfl (λi hi=>?_) (λi v H4 R A hv s4 _ hA=>?_) (λD4 H4 hD4 s4 h4=>?_)
 ·rw[du,d9,d9,ib]
  exact Ag (by lia)
 ·have hi:=Bs hv
  rw[hcl] at hi;rw[fe hi,kh] at hv;obtain⟨a,y,rfl,ea,ey,hy⟩:=hP3.get hv;obtain⟨d,t,m,g,o,y1,y2,y3⟩:=hy;apply⟨a,ac,d,_,_,rfl,s4 _ _ y1,Y.cl,Y.cI,rfl,?_⟩;refine hA _ _ ?_ (Ah.refl _);rw[ip,fe hi,kh,ey,eh];rfl
 rw[hcl,fm (by rw[d9];lia)] at h4;have hfl:ls.flatten.length<=60000:=by
  have:=Vo hW.sz ls.length (d3 _);rw[Gq] at this;lia
 apply Rr (ls:=(ls.drop k1).take (k2-k1)) h4 ?_ ?_
 ·rw[Xa ls hkk,d9,ib]
  lia
 rw[Xa ls hkk];apply⟨x,aa,dx,_,_,rfl,s4 _ _ hx3,ad.cl,ad.b8,rfl,?_⟩;apply Bk (SqL.of (s4 _ _ hbg3)) (v:=.int (bgn ls k1:Nat)) (Bf (j:=k1) (Ha hk1)) ?_;apply⟨_,rfl,fk (Ag (by rw[Au,d9,ib];lia)),?_⟩;rw[show(lo:Int)-(bgn ls k1:Nat)=((lo-bgn ls k1:Nat):Int) by lia,show(hi:Int)-(bgn ls k1:Nat)=((hi-bgn ls k1:Nat):Int) by lia,Ua,show hi-bgn ls k1-(lo-bgn ls k1)=hi-lo by lia,sC ls.flatten ha1 hlh hend];exact q _ (s3.then s4)
inductive gM (C CR:dw)(ts:List Tb)(vs:List V)(H:Hp)(Q:VK)(E:XK):Prop|mk(x:dw)(ls:List (Za5))(_:vs=[.ref x])(_:Bd C CR H x ls)(_:Tbs ts H)(_:∀H',SmT ts H H'->Q (.str (Ar ls.flatten)) H')
variable (au:Mth P w K mg base aa "stretch" 5 ["self","low","high"] (Pb ac aa ts))
include T ad au in
theorem Wb (F:Fun K "text" "Heights.text" Hv f fd):Ay P w K mg base CX0 6 f fd ["self"] (gM ac aa ts):=by
 exists F.ok Py
 obtain⟨x,ls,rfl,hR,hT,q⟩:=h;obtain⟨dx,p,b,k,t,o,hx,hW,_⟩:=id hR;refine⟨_,(Ae (An (Bg au hr.m (pv 0) (tpa Ad (tpa (tfl (pv 0)) Aa))))),?_⟩;apply⟨x,dx,_,rfl,hx,rfl,?_⟩;apply⟨x,aa,dx,_,_,rfl,hx,ad.cl,ad.cD,rfl,?_⟩;apply⟨x,ls,0,ls.flatten.length,rfl,hR,hT,fg _,d3 _,λH' s'=>?_⟩;rw[td,mz,lx];exact q H' s'
theorem gA (ls:List (Za5))(j:Nat):((kns ls).take j).sum=(ls.flatten.take (bgn ls j)).count true:=by
 unfold kns;rw[<-Ox,List.count_flatten,<-ng]
theorem wI (ls:List (Za5))(j:Nat):hBg ls j=hgt ls.flatten (bgn ls j):=by
 unfold hBg hgt;rw[gA]
def knV (ls:List (Za5)):List V:=nV ((et (ls.length+1)).map λi=>((kns ls).take i).sum)
theorem dR {ls:List (Za5)}{j:Nat}(h:j<=ls.length):(knV ls)[j]?=some (.int ((ls.flatten.take (bgn ls j)).count true:Nat)):=by
 unfold knV nV;rw[d8,d8,ij (by lia),<-gA];rfl
theorem Lv (l:Za5){a n:Nat}(h:a<=n):(l.take n).count true=(l.take a).count true+((l.drop a).take (n-a)).count true:=by
 rw[<-iq,<-pi,lw h]
inductive Zf (C CR:dw)(ts:List Tb)(vs:List V)(H:Hp)(Q:VK)(E:XK):Prop|mk(x:dw)(ls:List (Za5))(n:Nat)(_:vs=[.ref x,.int n])(_:Bd C CR H x ls)(_:Tbs ts H)(_:n<=ls.flatten.length)(_:∀H',SmT ts H H'->Q (.int ((ls.flatten.take n).count true:Nat)) H')
include T ad ar au in
theorem Qe (F:Fun K "opens_ahead" "PiecedRow.opens_ahead" Cw f fd):Ay P w K mg base CX0 6 f fd ["self","place"] (Zf ac aa ts):=by
 exists F.ok Eg
 obtain⟨x,ls,n,rfl,hR,hT,hn,q⟩:=h;obtain⟨dx,p,b,k,t,o,hx,hW,hTb⟩:=id hR;obtain⟨ka,rfl,hka⟩:=hTb.kn;refine⟨_,(Ab (tst 2 Eg.nd (Bg ar hr.m (pv 0) (tpa (pv 1) Aa))) (Ae (An (Al A0 (tix Az (tfl (pv 0)) (pv 2)) (Dz ly w9 w8 Xk (Bg au hr.m (pv 0) (tpa (tix Az (tfl (pv 0)) (pv 2)) (tpa (pv 1) Aa))) (tpa Aw Aa)))))),?_⟩
 apply⟨x,dx,_,rfl,hx,rfl,?_⟩;apply⟨x,ls,n,rfl,hR,hT,λk1 H1 hk1 ha1 hb1 s1=>?_⟩;have hx1:=s1.k hx;have hR1:=hR.kp s1.kp;apply⟨x,aa,dx,_,_,rfl,hx1,ad.cl,ad.cH,rfl,?_⟩;apply Bk (SqL.of (s1.k hka)) (v:=.int ((ls.flatten.take (bgn ls k1)).count true:Nat)) (Bf (j:=k1) (dR hk1)) ?_;apply⟨x,dx,_,rfl,hx1,rfl,?_⟩;apply⟨x,aa,dx,_,_,rfl,hx1,ad.cl,ad.b8,rfl,?_⟩;apply Bk (SqL.of (s1.k hW.bg)) (v:=.int (bgn ls k1:Nat)) (Bf (j:=k1) (Ha hk1)) ?_;apply⟨x,ls,bgn ls k1,n,rfl,hR1,s1.ok,ha1,hn,λH2 s2=>?_⟩;apply⟨rfl,?_⟩;apply⟨Ar _,49,rfl,rfl,?_⟩;rw[(Tk _).1];k_is;have e:=Lv ls.flatten ha1;have:=q H2 (s1.trans s2);rw[e] at this;exact this
inductive Uj (C CR:dw)(ts:List Tb)(vs:List V)(H:Hp)(Q:VK)(E:XK):Prop|mk(x:dw)(ls:List (Za5))(n:Nat)(_:vs=[.ref x,.int n])(_:Bd C CR H x ls)(_:Tbs ts H)(_:n<=ls.flatten.length)(_:∀H',SmT ts H H'->Q (.int (hgt ls.flatten n)) H')
include T ad in
theorem Q2 (F:Fun K "height" "Heights.height" Fu f fd)(bo:Mth P w K mg base aa "opens_ahead" 6 ["self","place"] (Zf ac aa ts)):Ay P w K mg base CX0 7 f fd ["self","place"] (Uj ac aa ts):=by
 exists F.ok Ng
 obtain⟨x,ls,n,rfl,hR,hT,hn,q⟩:=h;obtain⟨dx,p,b,k,t,o,hx,hW,hTb⟩:=id hR;refine⟨_,(Ae (An (Al C5 (Al Io Ad (Bg bo hr.m (pv 0) (tpa (pv 1) Aa))) (pv 1)))),?_⟩;apply⟨x,dx,_,rfl,hx,rfl,?_⟩;apply⟨x,ls,n,rfl,hR,hT,hn,λH1 s1=>?_⟩;k_is;exact q H1 s1
inductive fI (C CR:dw)(ts:List Tb)(vs:List V)(H:Hp)(Q:VK)(E:XK):Prop|mk(x:dw)(ls:List (Za5))(n:Nat)(_:vs=[.ref x,.int n])(_:Bd C CR H x ls)(_:Tbs ts H)(_:n<ls.flatten.length)(_:∀H',SmT ts H H'->Q (.bl (ls.flatten.getD n false)) H')
theorem lZ {l:Za5}{n:Nat}(h:n<l.length):(l.drop n).take (n+1-n)=[l.getD n false]:=by
 rw[gy,ke h,pw,List.take_zero];unfold ge;rw[dq h];rfl
include T ad au in
theorem Qg (F:Fun K "is_opening" "PiecedRow.is_opening" Dc f fd):Ay P w K mg base CX0 6 f fd ["self","place"] (fI ac aa ts):=by
 exists F.ok Jk
 obtain⟨x,ls,n,rfl,hR,hT,hn,q⟩:=h;obtain⟨dx,p,b,k,t,o,hx,hW,hTb⟩:=id hR;refine⟨_,(Ae (An (tpc Fo (Bg au hr.m (pv 0) (tpa (pv 1) (tpa (Al A0 (pv 1) Ad) Aa))) Aw))),?_⟩;apply⟨x,dx,_,rfl,hx,rfl,?_⟩;apply⟨x,ls,n,n+1,by rw[show((n+1:Nat):Int)=(n:Int)+1 by lia];rfl,hR,hT,by lia,hn,λH1 s1=>?_⟩;rw[lZ hn];k_is;have:=q H1 s1
 cases hg:ls.flatten.getD n false with
 |true=>rw[hg] at this;exact this
 |false=>rw[hg] at this;exact this
inductive Sn (C CR:dw)(vs:List V)(H:Hp)(Q:VK)(E:XK):Prop|mk(x:dw)(ls:List (Za5))(k:Nat)(_:vs=[.ref x,.int k])(_:Bd C CR H x ls)(_:k<=ls.length)(_:Q (.int (bgn ls k:Nat)) H)
include T ad in
theorem Qq (F:Fun K "begin_of" "PiecedRow.begin_of" Do f fd):Ay P w K mg base CX0 1 f fd ["self","number"] (Sn ac aa):=by
 exists F.ok Kq
 obtain⟨x,ls,k,rfl,hR,hk,q⟩:=h;obtain⟨dx,p,b,kk,t,o,hx,hW,hTb⟩:=id hR;refine⟨_,(Ae (An (tix Az (tfl (pv 0)) (pv 1)))),?_⟩;apply⟨x,aa,dx,_,_,rfl,hx,ad.cl,ad.b8,rfl,?_⟩;apply Bk (SqL.of hW.bg) (v:=.int (bgn ls k:Nat)) (Bf (j:=k) (Ha hk)) ?_;k_is;exact q
theorem wR {y:Za5}{q:Nat}(h:y[q]?=some true):(occ true y y.length)[(y.take q).count true]?=some q:=by
 have hq:=Bs h;have hc:(occ true y q).length=(y.take q).count true:=by
  rw[(P3 y q).1];rfl
 have e:occ true y (q+1)=occ true y q++[q]:=by
  rw[Jb];unfold ge;rw[h];rfl
 have e2:(occ true y (q+1))[(y.take q).count true]?=some q:=by
  rw[e,<-hc,e9 (d3 _),jh];rfl
 rw[<-e2];exact sD (by lia) (by rw[e,d5,hc];exact pf _)
inductive Ms (C CR:dw)(ts:List Tb)(vs:List V)(H:Hp)(Q:VK)(E:XK):Prop|mk(x:dw)(ls:List (Za5))(n p:Nat)(_:vs=[.ref x,.int n])(_:Bd C CR H x ls)(_:Tbs ts H)(_:ls.flatten[p]?=some true)(_:(ls.flatten.take p).count true=n)(_:∀H',SmT ts H H'->Q (.int (p:Nat)) H')
theorem nB {ls:List (Za5)}{k p:Nat}{y:Za5}(hy:ls[k]?=some y)(h1:bgn ls k<=p)(h2:p<bgn ls (k+1)):ls.flatten[p]?=y[p-bgn ls k]?:=by
 have e:=Lw ls k;have hk:=Bs hy;have hd:ls.drop k=y::ls.drop (k+1):=by
  rw[ke hk];rw[dq hk] at hy;rw[d0 hy]
 rw[hd,jl] at e;have hb:=Dt hy;have:(ls.flatten.drop (bgn ls k))[p-bgn ls k]?=ls.flatten[p]?:=by rw[kh,lw h1]
 rw[<-this,<-e,fb (by lia)]
theorem R9 {ls:List (Za5)}{k p:Nat}{y:Za5}(hy:ls[k]?=some y)(h1:bgn ls k<=p)(h2:p<=bgn ls (k+1)):(ls.flatten.drop (bgn ls k)).take (p-bgn ls k)=y.take (p-bgn ls k):=by
 have e:=Lw ls k;have hk:=Bs hy;have hd:ls.drop k=y::ls.drop (k+1):=by
  rw[ke hk];rw[dq hk] at hy;rw[d0 hy]
 rw[hd,jl] at e;have hb:=Dt hy;rw[<-e,vn (by lia)]
include T ad Y hK hB aE in
theorem Qt {f c:dw}(F:S6 K "opening" "PiecedRow.opening" A8 f fd c Pt)(hts:(⟨Pt,Fq,"PiecedRow.opening.<locals>.<lambda>"⟩:Tb)∈ts):Ay P w K mg base CX0 4 f fd ["self","number"] (Ms ac aa ts):=by
 refine F.ok Ck (λvs H Q E h=>?_) (λA outer s H vs Q E hr h=>?_)
 ·obtain⟨x,ls,n,p,rfl,_⟩:=h
  rfl
 ·obtain⟨x,ls,n,pp,rfl,hR,hT,hpp,hcn,q⟩:=h
  obtain⟨dx,p,b,k,t,o,hx,hW,hTb⟩:=id hR;obtain⟨ka,rfl,hka⟩:=hTb.kn;obtain⟨as,hp,hP⟩:=hW.pcs;refine⟨_,(Ab (tst 2 Ck.nd (Zy (qual:="PiecedRow.opening.<locals>.<lambda>") (k:=1) aE hr.m Ad (Ao Av (by rfl) T.bZ Cd (tpa (tfl (pv 0)) Aa)) (F.code hK) hB rfl (by kernel_rfl) Jj (λ_ _ _ _ _ _ _ hr=>(tpc Mg (tix (Hk K) (F3 K (pv 2)) (Al A0 (pv 0) Ad)) (pv 1))))) (Ab (tst 3 Ck.nd (tfl (tix Az (tfl (pv 0)) (pv 2)))) (Ab (On (i:=4) rfl Kf Ck.nd rfl rfl (jI rfl T.cK (tpa (pv 3) Aa) (Va (tix Az (tfl (pv 0)) (pv 2)) Zs)) (λ_ _ _ _=>Gr (ttc Fo (pv 1) Aw)) (λ_ _ _ _=>(pv 0))) (Ae (An (tix Az (pv 4) (Al C5 (pv 1) (tix Az (tfl (pv 0)) (pv 2))))))))),?_⟩
  apply⟨x,aa,dx,_,_,rfl,hx,ad.cl,ad.cj,rfl,?_⟩;apply⟨p,_,rfl,.inl (SqL.of hp),?_⟩;rw[show(as.map V.ref).length=ls.length by rw[du,hP.1]];k_is;have hk:=hT.1 _ hts;refine⟨0,(ls.length:Nat),λi=>decide (n<(ls.flatten.take (bgn ls (i.toNat+1))).count true),rfl,rfl,by lia,hk,λi H3 hi1 hi2 s3=>?_,λm H' hm1 hm2 hm3 hm4 s' t'=>?_⟩
  ·obtain⟨pt,hpt⟩:=Tb.tbl hk
   have kp:∀{b:dw} {u:HO},(∀ps,u≠.tbl ps)->H b=some u->H3 b=some u:=λ{b u} nt e=>s3 b u (λz=>by rw[z,hpt] at e;cases e;exact nt pt rfl) e;have hx3:=kp (by intro ps e;cases e) hx;have hk3:=kp (by intro ps e;cases e) hka;apply⟨x,aa,dx,_,_,rfl,hx3,ad.cl,ad.cH,rfl,?_⟩;k_is;obtain⟨k,rfl⟩:=jw hi1;refine Bk (SqL.of hk3) (v:=.int ((ls.flatten.take (bgn ls (k+1))).count true:Nat)) (Bf (j:=k+1) (dR (show k+1<=ls.length by lia))) ?_;apply⟨?_,Ah.refl _⟩;rw[gz];exact congrArg V.bl (decide_eq_decide.mpr (by lia))
  ·obtain⟨m,rfl⟩:=jw hm1
   have sm:=lS hT hts s' t';have hlt:=Bs hpp;have hup:n<(ls.flatten.take ls.flatten.length).count true:=by
    rw[<-hcn];exact M7 hpp hlt
   have hml:m<ls.length:=by
    by_cases h:m<ls.length
    ·exact h
    ·exfalso
     by_cases h0:m=0
     ·have e0:ls=[]:=je (by lia)
      rw[e0] at hlt;exact absurd hlt (BI _)
     ·have:=hm3 (by lia)
      dsimp only at this;rw[show((m:Int)-1).toNat+1=ls.length by lia,Gq] at this;exact of_decide_eq_false this hup
   have hlo:(ls.flatten.take (bgn ls m)).count true<=n:=by
    rcases ni m with rfl|h0
    ·rw[Rl];exact fg _
    ·have:=hm3 (by lia)
     dsimp only at this;rw[show((m:Int)-1).toNat+1=m by lia] at this;exact AW (of_decide_eq_false this)
   have hhi:n<(ls.flatten.take (bgn ls (m+1))).count true:=by
    have:=hm4 (by lia);dsimp only at this;rw[gz] at this;exact of_decide_eq_true this
   have hp1:bgn ls m<=pp:=by
    by_cases h:bgn ls m<=pp
    ·exact h
    ·have:=M7 hpp (show pp<bgn ls m by lia)
     lia
   have hp2:pp<bgn ls (m+1):=by
    by_cases h:pp<bgn ls (m+1)
    ·exact h
    ·have e:=Lv ls.flatten (show bgn ls (m+1)<=pp by lia)
     lia
   obtain⟨a,y,ea,ey,hy⟩:∃a y,as[m]?=some a/\ls[m]?=some y/\Ik ac H a y:=by
    have e2:as[m]?=some (as[m]'(by rw[hP.1];exact hml)):=dq _;exact⟨_,_,e2,dq hml,hP.2 m _ _ e2 (dq hml)⟩
   obtain⟨d,t',m',g,o,y1,y2,y3⟩:=hy;apply⟨x,aa,dx,_,_,rfl,sm.k hx,ad.cl,ad.cj,rfl,?_⟩;apply Bk (SqL.of (sm.k hp)) (v:=.ref a) (Bf (j:=m) (by rw[d8,ea];rfl)) ?_;apply⟨a,ac,d,_,_,rfl,sm.k y1,Y.cl,Y.cI,rfl,?_⟩;apply⟨x,aa,dx,_,_,rfl,sm.k hx,ad.cl,ad.b8,rfl,?_⟩;apply Bk (SqL.of (sm.k hW.bg)) (v:=.int (bgn ls m:Nat)) (Bf (j:=m) (Ha (fk hml))) ?_;k_is;have hsz:=hW.sz m y ey;have hfw:=hW.fw;have hbl:=Vo hW.sz m (fk hml);refine⟨_,_,rfl,rfl,by lia,?_⟩;refine jU (λi=>(occ true y i).map λq=>V.int ((bgn ls m+q:Nat):Int)) rfl (λi hi=>?_) (λi c H4 R A hc s4 hR4 hA4=>?_) (λD H4 hD s4 h4=>?_)
   ·rw[du]
    refine Ag ?_;have e1:=(P3 y i).1;have e2:=(P3 y i).2;rw[show(Ar y).cps.size=y.length from Au y] at hi;lia
   ·obtain⟨bb,hb,rfl⟩:=P7 hc
    apply B5 (λh1=>?_) (λh1=>?_)
    ·have e:bb=true:=by cases bb with|true=>rfl|false=>exact absurd h1 (by decide)
     subst e;apply hA4 _ _ ?_ (Ah.refl _);rw[Jb];unfold ge;rw[hb,eh];rfl
    ·have e:bb=false:=by cases bb with|false=>rfl|true=>exact absurd rfl h1
     subst e;refine hR4 ?_ _ (Ah.refl _);rw[Jb];unfold ge;rw[hb,eh];exact kq _
   ·rw[show(Ar y).cps.size=y.length from Au y] at h4
    have hqq:y[pp-bgn ls m]?=some true:=by rw[<-nB ey hp1 hp2];exact hpp
    have hoc:=wR hqq;have hcc:(y.take (pp-bgn ls m)).count true+(ls.flatten.take (bgn ls m)).count true=n:=by
     rw[<-R9 ey hp1 (fk hp2),yo,<-Lv _ hp1,hcn]
    have sm4:=sm.then s4;apply⟨x,aa,dx,_,_,rfl,sm4.k hx,ad.cl,ad.cH,rfl,?_⟩;apply Bk (SqL.of (sm4.k hka)) (v:=.int ((ls.flatten.take (bgn ls m)).count true:Nat)) (Bf (j:=m) (dR (fk hml))) ?_;k_is;rw[show(n:Int)-((ls.flatten.take (bgn ls m)).count true:Nat)=((y.take (pp-bgn ls m)).count true:Nat) by lia];refine Bk (SqL.of h4) (v:=.int (pp:Nat)) (Bf (by rw[d8,hoc];show some (V.int ((bgn ls m+(pp-bgn ls m):Nat):Int))=_;rw[lw hp1])) ?_;k_is;exact q H4 sm4
theorem Tbs.keepN {p:dw}{o o':HO}(h:Tbs ts H)(hp:H p=some o')(nt:∀ps,o'≠.tbl ps:=by intro ps e;cases e)(nf:∀a b,o'≠.frz a b:=by intro a b e;cases e):Tbs ts (upd H p o):=by
 refine⟨λt ht=>?_,h.2⟩;obtain⟨ps,e1,e2,e3⟩:=h.1 t ht;exact⟨ps,by rw[Aj (λz=>by rw[z,hp] at e1;exact nt _ (d0 e1))];exact e1,e2,e3.imp id λ⟨c,oc,a1,a2,a3⟩=>⟨c,oc,a1,by rw[Aj (λz=>by rw[z,hp] at a2;exact nf _ _ (d0 a2))];exact a2,a3⟩⟩
theorem SmT.push {p:dw}{o:HO}(s:SmT ts H H1)(hp:H p=none)(hl:H1 p=some (.lst xs)):SmT ts H (upd H1 p o):=by
 refine⟨⟨λb u n e=>?_,λb ps e=>?_⟩,s.ok.keepN hl⟩
 ·rw[Aj (Am e hp)]
  exact s.sm.keep b u n e
 ·rw[Aj (Am e hp)]
  exact s.sm.tb b ps e
theorem tE (l:Za5)(a m j:Nat)(hj:j<=m):hgt l a+hgt ((l.drop a).take m) j=hgt l (a+j):=by
 unfold hgt;rw[pi,iq,sw,iy hj];lia
def hw (l:Za5)(lo hi:Nat):List Int:=(et (hi-lo)).map λj=>hgt l (lo+j+1)
theorem Ja (l:Za5)(lo hi:Nat):(hw l lo hi).length=hi-lo:=by unfold hw;rw[du,fh]
theorem Rw {l:Za5}{lo hi j:Nat}(h:j<hi-lo):(hw l lo hi)[j]?=some (hgt l (lo+j+1)):=by unfold hw;rw[d8,ij h];rfl
theorem zS {l:Za5}{lo hi:Nat}{x:Int}(h:x∈hw l lo hi):∃i,lo<i/\i<=hi/\hgt l i=x:=by
 unfold hw at h;obtain⟨j,hj,e⟩:=lj.mp h;have:=jn.mp hj;exact⟨lo+j+1,by lia,by lia,e⟩
theorem mI {l:Za5}{lo hi i:Nat}(h1:lo<i)(h2:i<=hi):hgt l i∈hw l lo hi:=by
 unfold hw;exact lj.mpr ⟨i-lo-1,jn.mpr (by lia),by rw[show lo+(i-lo-1)+1=i by lia]⟩
theorem vS {l:Za5}{lo hi:Nat}(h1:lo<=hi)(h2:hi<=l.length):htB ((l.drop lo).take (hi-lo)) (hgt l lo) ((l.drop lo).take (hi-lo)).length=hw l lo hi:=by
 have e:((l.drop lo).take (hi-lo)).length=hi-lo:=by rw[d9,ib];lia
 rw[e];unfold htB hts hw;rw[jz];refine j0 λj hj=>?_;have:=jn.mp hj;show hgt l lo+hgt ((l.drop lo).take (hi-lo)) (j+1)=_;rw[tE l lo (hi-lo) (j+1) (by lia)];rfl
theorem Ov {l:Za5}{a b c:Nat}(h1:a<=b)(h2:b<=c):hw l a c=hw l a b++hw l b c:=by
 refine og λi=>?_
 by_cases hi:i<b-a
 ·rw[Rw (by lia),fb (by rw[Ja];exact hi),Rw hi]
 ·by_cases hi2:i<c-a
  ·rw[Rw hi2,e9 (by rw[Ja];lia),Ja,Rw (by lia),show b+(i-(b-a))+1=a+i+1 by lia]
  ·rw[gt (by rw[Ja];lia),gt (by rw[d5,Ja,Ja];lia)]
structure pT (ls:List (Za5)) (lo hi:Nat) (los his:Za4):Prop where
 ln:los.length=his.length
 nil:¬ lo<hi->los.length=0
 fst:lo<hi->los[0]?=some lo
 nxt:∀(i b:Nat),his[i]?=some b->b=los.getD (i+1) hi
 at':∀(i a b:Nat),los[i]?=some a->his[i]?=some b->a<b/\lo<=a/\b<=hi/\∃k,k<ls.length/\bgn ls k<=a/\b<=bgn ls (k+1)
inductive Yb (C CR:dw)(ts:List Tb)(vs:List V)(H:Hp)(Q:VK)(E:XK):Prop|mk(x:dw)(ls:List (Za5))(lo:Nat)(hi:Int)(_:vs=[.ref x,.int lo,.int hi])(_:Bd C CR H x ls)(_:Tbs ts H)(_:hi<=(ls.flatten.length:Int))(_:∀p as los his H',SmT ts H H'->H p=none->H' p=some (.lst (as.map V.ref))->vF H H' as (nV los) (nV his)->pT ls lo hi.toNat los his->los.length<=401->Q (.ref p) H')
variable (aK:Mth P w K mg base aa "begin_of" 1 ["self","number"] (Sn ac aa))
include T ad ar aK in
theorem Q4 (F:Fun K "parts" "Heights.parts" Ep f fd):Ay P w K mg base CX0 5 f fd ["self","low","high"] (Yb ac aa ts):=by
 exists F.ok Jh
 obtain⟨x,ls,lo,hi,rfl,hR,hT,hl,q⟩:=h;obtain⟨dx,p,b,k,t,o,hx,hW,hTb⟩:=id hR;have hfw:=hW.fw;refine⟨_,(Ab (Bj (ttc lW (pv 1) (pv 2)) (Ae (An (Ap Aa)))
  At) (Ab (Xq (i:=3) rfl Mv Jh.nd rfl rfl (Ow rfl T.cp (tpa (Al A0 (Bg ar hr.m (pv 0) (tpa (pv 1) Aa)) Ad) (tpa (Al A0 (Bg ar hr.m (pv 0) (tpa (Al C5 (pv 2) Ad) Aa)) Ad) Aa))) (λ_ _ _ _=>F6) (λ_ _ _ _=>(Bg aK hr.m (pv 1) (tpa (pv 0) Aa)))) (Ae (An (qO rfl rfl T.cz rfl T.cL (tpa (Al Hm (Ap (tpa (pv 1) Aa)) (pv 3)) (tpa (Al Hm (pv 3) (Ap (tpa (pv 2) Aa))) Aa))))))),?_⟩
 apply B5 (λh0=>?_) (λh0=>?_)
 ·apply⟨fg _,λp hp=>?_⟩;exact q p [] [] [] _ (SmT.of hT (Ai hp)) hp Ac ⟨rfl,λi t x y e=>by cases e⟩ ⟨rfl,λ_=>rfl,λh=>absurd h (by lia),λi b e=>(by cases e),λi a b e=>(by cases e)⟩ (fg _)
 ·obtain⟨hn,rfl⟩:∃hn:Nat,hi=(hn:Int):=⟨hi.toNat,by lia⟩
  rw[gz] at q;have hlt:lo<hn:=by lia
  apply⟨x,dx,_,rfl,hx,rfl,?_⟩;apply⟨x,ls,lo,rfl,hR,hT,λk1 H1 hk1 ha1 hb1 s1=>?_⟩;apply⟨x,dx,_,rfl,s1.k hx,rfl,?_⟩;apply⟨x,ls,hn-1,by rw[show((hn-1:Nat):Int)=(hn:Int)-1 by lia];rfl,hR.kp s1.kp,s1.ok,λk2 H2 hk2 ha2 hb2 s2=>?_⟩;have s12:=s1.trans s2;have hR2:=hR.kp s12.kp;have hx2:=s12.k hx;have hk2l:k2<ls.length:=by
   by_cases h:k2<ls.length
   ·exact h
   ·obtain rfl:k2=ls.length:=by lia
    rw[Gq] at ha2;lia
  have hb2:=hb2 hk2l;have hk12:k1<=k2:=by
   by_cases h:k1<=k2
   ·exact h
   ·have:=Em (ls:=ls) (show k2+1<=k1 by lia)
    lia
  apply⟨_,_,rfl,⟨by lia,by lia,by lia,by lia⟩,?_⟩;rw[show((k2:Int)+1-((k1:Int)+1)).toNat=k2-k1 by lia];refine R3 (λi=>nV ((et i).map λj=>bgn ls (k1+1+j))) rfl (λi hi=>?_) (λi H3 R A hi s3 _ hA=>?_) (λD1 H3 hD1 s3 h1=>?_)
  ·rw[Fl,du,fh]
   exact Ag (by lia)
  ·apply⟨x,dx,_,rfl,s3 _ _ hx2,rfl,?_⟩;apply⟨x,ls,k1+1+i,by rw[show((k1+1+i:Nat):Int)=(k1:Int)+1+(i:Int) by lia];rfl,hR2.kp (Ah.kp s3),by lia,?_⟩;refine hA _ _ ?_ (Ah.refl _);rw[iu,eh];unfold nV;rw[eh];rfl
  have t3:=s12.then s3;obtain⟨cs,hcs⟩:∃cs,cs=(et (k2-k1)).map λj=>bgn ls (k1+1+j):=⟨_,rfl⟩;have hcl:cs.length=k2-k1:=by rw[hcs,du,fh]
  rw[<-hcs] at h1;apply⟨few (by simp),λa1 hf1=>?_⟩;obtain⟨u1,e1⟩:=As (o:=.lst [V.int (lo:Int)]) hf1;have h12:=u1 _ _ h1;have t4:=t3.then u1;generalize upd H3 a1 _=H4 at *;apply⟨a1,D1,_,_,rfl,rfl,e1,h12,fk (Ag (by rw[Fl,hcl,jk];lia)),λa2 hf2=>?_⟩;have u2:=Ai (o:=.lst ([V.int (lo:Int)]++nV cs)) hf2;have e2:upd H4 a2 (.lst ([V.int (lo:Int)]++nV cs)) a2=some (.lst (nV (lo::cs))):=Ac;have h13:=u2 _ _ h12;have t5:=t4.then u2;generalize upd H4 a2 _=H5 at *;apply⟨few (by simp),λa3 hf3=>?_⟩;obtain⟨u3,e3⟩:=As (o:=.lst [V.int (hn:Int)]) hf3;have h14:=u3 _ _ h13;have e23:=u3 _ _ e2;have t6:=t5.then u3;generalize upd H5 a3 _=H6 at *;apply⟨D1,a3,_,_,rfl,rfl,h14,e3,fk (Ag (by rw[Fl,hcl,jk];lia)),λa4 hf4=>?_⟩;have u4:=Ai (o:=.lst (nV cs++[V.int (hn:Int)])) hf4;have e4:upd H6 a4 (.lst (nV cs++[V.int (hn:Int)])) a4=some (.lst (nV (cs++[hn]))):=by rw[Ac,<-mE];rfl
  have e24:=u4 _ _ e23;have t7:=t6.then u4;generalize upd H6 a4 _=H7 at *;k_is;have hll:(lo::cs).length=(cs++[hn]).length:=by rw[fj,d5];rfl
  refine⟨a2,a4,_,_,rfl,SqL.of e24,SqL.of e4,by rw[Fl,Fl,hll],λp as H8 s8 hp0 hp hN=>?_⟩;have t8:=t7.then s8;have cat:∀i,i<k2-k1->cs[i]?=some (bgn ls (k1+1+i)):=λi hi=>by rw[hcs,d8,ij hi];rfl
  refine q p as (lo::cs) (cs++[hn]) H8 t8 (t7.sm.free hp0) hp ⟨hN.1,λi t' x' y' g1 g2 g3=>?_⟩ ⟨hll,λh=>absurd hlt h,λ_=>rfl,λi b e=>?_,λi a b ea eb=>?_⟩ (by rw[fj,hcl];lia)
  ·obtain⟨n1,n2⟩:=hN.2 i t' x' y' g1 g2 g3
   exact⟨t7.sm.free n1,n2⟩
  ·show b=cs.getD i hn
   by_cases hi:i<k2-k1
   ·rw[fb (by lia)] at e
    unfold ge;rw[e];rfl
   ·have hi2:=Bs e
    rw[d5,hcl] at hi2;obtain rfl:i=cs.length:=by simp only[fj,gw] at hi2;lia
    rw[e9 (d3 _),jh] at e;unfold ge;rw[gt (d3 _)];exact(d0 e).symm
  ·have hi2:=Bs eb
   rw[d5,hcl] at hi2;have hi3:i<=k2-k1:=by simp only[fj,gw] at hi2;lia
   have ga:bgn ls (k1+i)<=a/\lo<=a/\a<bgn ls (k1+i+1)/\a<hn:=by
    cases i with
    |zero=>
     obtain rfl:lo=a:=d0 ea;exact⟨ha1,d3 _,hb1 (by lia),hlt⟩
    |succ i=>
     have ea:cs[i]?=some a:=ea;rw[cat i (by lia)] at ea;obtain rfl:=d0 ea;have m1:=Em (ls:=ls) (show k1+1<=k1+1+i by lia);have m2:=Em (ls:=ls) (show k1+1+i<=k2 by lia);have m3:=Zw hW.sz (show k1+1+i<k1+(i+1)+1 by lia) (by lia);have m4:=hb1 (by lia);rw[show k1+(i+1)=k1+1+i by lia] at m3 ⊢;exact⟨d3 _,by lia,m3,by lia⟩
   have gb:b<=bgn ls (k1+i+1)/\b<=hn/\a<b:=by
    by_cases hi:i<k2-k1
    ·rw[fb (by lia),cat i hi] at eb
     obtain rfl:=d0 eb;have m2:=Em (ls:=ls) (show k1+1+i<=k2 by lia);rw[show k1+i+1=k1+1+i by lia] at ga ⊢;exact⟨d3 _,by lia,ga.2.2.1⟩
    ·obtain rfl:i=cs.length:=by lia
     rw[e9 (d3 _),jh] at eb;obtain rfl:hn=b:=d0 eb;rw[show k1+cs.length+1=k2+1 by lia];exact⟨by lia,d3 _,ga.2.2.2⟩
   exact⟨gb.2.2,ga.2.1,gb.2.1,k1+i,by lia,ga.1,gb.1⟩
theorem Tl {ls:List (Za5)}{k i:Nat}{y:Za5}(hy:ls[k]?=some y)(hi:i<=y.length):hgt ls.flatten (bgn ls k+i)=hBg ls k+hgt y i:=by
 have hb:=Dt hy;have e:=R9 hy (p:=bgn ls k+i) (by lia) (by lia);rw[gy] at e;have e2:=Lv ls.flatten (show bgn ls k<=bgn ls k+i by lia);rw[gy,e] at e2;rw[wI];unfold hgt;rw[e2];lia
theorem gL {y:Za5}{i:Nat}(h0:0<i)(h:i<=y.length):hgt y i∈hts y y.length:=by
 unfold hts;exact lj.mpr ⟨i-1,jn.mpr (by lia),by rw[show i-1+1=i by lia]⟩
theorem Wl {ls:List (Za5)}{n k k':Nat}(h1:bgn ls k<=n)(h2:n<bgn ls (k+1))(h3:bgn ls k'<=n)(h4:n<bgn ls (k'+1)):k=k':=by
 rcases qt k k' with h|h|h
 ·have:=Em (ls:=ls) (show k+1<=k' by lia);lia
 ·exact h
 ·have:=Em (ls:=ls) (show k'+1<=k by lia);lia
theorem wF {ls:List (Za5)}{n k:Nat}(hn:n<ls.flatten.length)(hk:k<=ls.length)(h1:bgn ls k<=n):k<ls.length:=by
 by_cases h:k<ls.length
 ·exact h
 ·obtain rfl:k=ls.length:=by lia
  rw[Gq] at h1;lia
inductive mB (C CR:dw)(ts:List Tb)(vs:List V)(H:Hp)(Q:VK)(E:XK):Prop|mk(x:dw)(ls:List (Za5))(lo:Nat)(h:Int)(_:vs=[.ref x,.int lo,.int h])(_:Bd C CR H x ls)(_:Tbs ts H)(_:lo<ls.flatten.length)(_:∀(b:Bool) H',(b=false->∀k,k<ls.length->bgn ls k<=lo->lo<bgn ls (k+1)->∀i,bgn ls k<i->i<=bgn ls (k+1)->hgt ls.flatten i≠h)->SmT ts H H'->Q (.bl b) H')
include T ad ar in
theorem Qv (F:Fun K "may_meet" "Heights.may_meet" Et f fd):Ay P w K mg base CX0 5 f fd ["self","low","height"] (mB ac aa ts):=by
 exists F.ok Go
 obtain⟨x,ls,lo,h,rfl,hR,hT,hl,q⟩:=h;obtain⟨dx,p,b,k,t,o,hx,hW,hTb⟩:=id hR;obtain⟨ta,rs,rfl,ht,hrl,hrs⟩:=hTb.tb;refine⟨_,(Ab (tst 3 Go.nd (tix Az (tfl (pv 0)) (Bg ar hr.m (pv 0) (tpa (pv 1) Aa)))) (Ae (An (Yl Nf Nf (tix U2 (pv 3) Ad) (pv 2) (tix U2 (pv 3) Ad))))),?_⟩
 apply⟨x,aa,dx,_,_,rfl,hx,ad.cl,ad.cR,rfl,?_⟩;apply⟨x,dx,_,rfl,hx,rfl,?_⟩;apply⟨x,ls,lo,rfl,hR,hT,λk1 H1 hk1 ha1 hb1 s1=>?_⟩;have hkl:=wF hl hk1 ha1;have hb1:=hb1 hkl;have hj:k1<rs.length:=by lia
 have ey:ls[k1]?=some (ls[k1]):=dq hkl;obtain⟨mn,mx,hr1,hmn,hmx⟩:=hrs _ _ (dq hj) _ ey;have hbs:=Dt ey;have hin:∀i,bgn ls k1<i->i<=bgn ls (k1+1)->∃j,0<j/\j<=(ls[k1]).length/\hgt ls.flatten i=hBg ls k1+hgt (ls[k1]) j:=λi h1 h2=>⟨i-bgn ls k1,by lia,by lia,by rw[<-Tl ey (by lia),lw (fk h1)]⟩;have hmn:Gp (hts (ls[k1]) (ls[k1]).length) mn:=by
  rcases hmn with⟨e,_⟩|h
  ·have:=(hW.sz _ _ ey).1
   rw[e] at this;exact absurd this (jj _)
  ·exact h
 have hr1:=s1.k hr1;apply Bk (SqL.of (s1.k ht)) (Bf (by rw[d8,dq hj];rfl)) ?_;apply Xb (SqT.of hr1) (v:=.int (hBg ls k1+mn)) rfl ?_;k_is
 by_cases h1:hBg ls k1+mn<=h
 ·rw[decide_eq_true h1]
  apply Xb (SqT.of hr1) (v:=.int (hBg ls k1+mx)) rfl ?_;apply q _ H1 (λhb k' hk' g1 g2 i hi1 hi2 he=>?_) s1;obtain rfl:=Wl ha1 hb1 g1 g2;obtain⟨j,j1,j2,j3⟩:=hin i hi1 hi2;have:=hmx.2 _ (gL j1 j2);rw[decide_eq_true (show h<=hBg ls k1+mx by lia)] at hb;cases hb
 ·rw[decide_eq_false h1]
  apply q false H1 (λ_ k' hk' g1 g2 i hi1 hi2 he=>?_) s1;obtain rfl:=Wl ha1 hb1 g1 g2;obtain⟨j,j1,j2,j3⟩:=hin i hi1 hi2;have:=hmn.2 _ (gL j1 j2);lia
inductive uF (C CR:dw)(ts:List Tb)(vs:List V)(H:Hp)(Q:VK)(E:XK):Prop|mk(x:dw)(ls:List (Za5))(lo hi:Nat)(_:vs=[.ref x,.int lo,.int hi])(_:Bd C CR H x ls)(_:Tbs ts H)(_:lo<=hi)(_:hi<=ls.flatten.length)(_:hi-lo<=1000)(_:∀p H',SmT ts H H'->H p=none->H' p=some (.lst ((hw ls.flatten lo hi).map V.int))->Q (.ref p) H')
variable (ax:Mth P w K mg base aa "height" 7 ["self","place"] (Uj ac aa ts))
include T aD ad au ax in
theorem Qd (F:Fun K "heights_within" "Heights.heights_within" Cs f fd):Ay P w K mg base CX0 8 f fd ["self","low","high"] (uF ac aa ts):=by
 exists F.ok Hw
 obtain⟨x,ls,lo,hi,rfl,hR,hT,h1,h2,h3,q⟩:=h;obtain⟨dx,p,b,k,t,o,hx,hW,hTb⟩:=id hR;refine⟨_,(Ae (An (A4 aD hr.m (tpa (Bg au hr.m (pv 0) (tpa (pv 1) (tpa (pv 2) Aa))) (tpa (Bg ax hr.m (pv 0) (tpa (pv 1) Aa)) Aa))))),?_⟩;apply⟨x,dx,_,rfl,hx,rfl,?_⟩;apply⟨x,ls,lo,hi,rfl,hR,hT,h1,h2,λH1 s1=>?_⟩;apply⟨x,dx,_,rfl,s1.k hx,rfl,?_⟩;apply⟨x,ls,lo,rfl,hR.kp s1.kp,s1.ok,by lia,λH2 s2=>?_⟩;apply⟨(ls.flatten.drop lo).take (hi-lo),hgt ls.flatten lo,rfl,by rw[d9];lia,λp H3 s3 hp0 hp=>?_⟩;rw[vS h1 h2] at hp;have s12:=s1.trans s2;exact q p H3 (s12.then s3) (s12.sm.free hp0) hp
def Tr (l:Za5)(lo hi:Nat)(h:Int):Option Nat->Prop
 |some j=>lo<j/\j<=hi/\hgt l j=h/\∀i,lo<i->i<j->hgt l i≠h
 |none=>∀i,lo<i->i<=hi->hgt l i≠h
def pJ:Option Nat->V
 |some j=>.int (j:Nat)
 |none=>.non
theorem X2:∀{ns:List Int} {x:Int},x∈ns->∃j:Nat,ns[j]?=some x/\∀i:Nat,i<j->ns[i]?≠some x
 |y::ns,x,h=>by
  by_cases e:y=x
  ·exact⟨0,by rw[e];rfl,λi hi=>absurd hi (BI _)⟩
  ·obtain⟨j,h1,h2⟩:=X2 (List.mem_of_ne_of_mem (λz=>e z.symm) h)
   refine⟨j+1,h1,λi hi=>?_⟩
   cases i with
   |zero=>exact λz=>e (d0 z)
   |succ i=>exact h2 i (by lia)
theorem qS {w:List Int}{e:Int}:inV (.int e) (w.map V.int)=decide (e∈w):=by
 unfold inV;rw[CH]
 by_cases h:e∈w
 ·rw[decide_eq_true h,ra]
  exact⟨e,h,by simp[eqV]⟩
 ·rw[decide_eq_false h]
  refine qq.mpr λhc=>?_;obtain⟨x,hx,hxe⟩:=ra.mp hc;have:x=e:=by simpa [eqV] using hxe
  exact h (this▸hx)
inductive Xp (C CR:dw)(ts:List Tb)(vs:List V)(H:Hp)(Q:VK)(E:XK):Prop|mk(x:dw)(ls:List (Za5))(lo hi:Nat)(h:Int)(_:vs=[.ref x,.int lo,.int hi,.int h])(_:Bd C CR H x ls)(_:Tbs ts H)(_:lo<=hi)(_:hi<=ls.flatten.length)(_:hi-lo<=1000)(_:∀r H',Tr ls.flatten lo hi h r->SmT ts H H'->Q (pJ r) H')
variable (aF:Mth P w K mg base aa "heights_within" 8 ["self","low","high"] (uF ac aa ts))
include T ad aF in
theorem Qj (F:Fun K "next_within" "Heights.next_within" Dj f fd):Ay P w K mg base CX0 9 f fd ["self","low","high","height"] (Xp ac aa ts):=by
 exists F.ok Fb
 obtain⟨x,ls,lo,hi,h,rfl,hR,hT,h1,h2,h3,q⟩:=h;obtain⟨dx,p,b,k,t,o,hx,hW,hTb⟩:=id hR;refine⟨_,(Ab (tst 4 Fb.nd (Bg aF hr.m (pv 0) (tpa (pv 1) (tpa (pv 2) Aa)))) (Ae (An (Fa (P2 iP (pv 3) (pv 4) rfl) (Al A0 (Al A0 (pv 1) Ad) (Dz fv PySem.F.slot_list_index PySem.F.type_list_index nR (pv 4) (tpa (pv 3) Aa))) C9)))),?_⟩
 apply⟨x,dx,_,rfl,hx,rfl,?_⟩;apply⟨x,ls,lo,hi,rfl,hR,hT,h1,h2,h3,λp H1 s1 hp0 hp=>?_⟩;apply⟨p,_,rfl,.inl (SqL.of hp),rfl,C1 _,?_⟩;rw[qS]
 by_cases hm:h∈hw ls.flatten lo hi
 ·rw[decide_eq_true hm,show(if false=true then !true else true)=true by decide]
  obtain⟨j,hj,hno⟩:=X2 hm;have hjl:=Bs hj;rw[Ja] at hjl;apply⟨.inl ⟨rfl,_,SqL.of hp⟩,?_⟩;apply⟨p,_,h,j,rfl,rfl,hp,hj,hno,?_⟩;k_is;rw[Rw hjl] at hj;have:=q (some (lo+j+1)) H1 ⟨by lia,by lia,d0 hj,λi hi1 hi2 he=>?_⟩ s1
  ·rw[show pJ (some (lo+j+1))=V.int ((lo:Int)+1+(j:Int)) by show V.int _=_;congr 1;lia] at this
   exact this
  ·refine hno (i-lo-1) (by lia) ?_
   rw[Rw (by lia),show lo+(i-lo-1)+1=i by lia,he]
 ·rw[decide_eq_false hm,show(if false=true then !false else false)=false by decide]
  k_is;exact q none H1 (λi hi1 hi2 he=>hm (he▸mI hi1 hi2)) s1
theorem pT.sz {ls:List (Za5)}(hZ:En ls){lo hi:Nat}{los his:Za4}(h:pT ls lo hi los his){i a b:Nat}(ea:los[i]?=some a)(eb:his[i]?=some b):b-a<=128:=by
 obtain⟨_,_,_,k,hk,h1,h2⟩:=h.at' i a b ea eb;have e:=Dt (dq hk);have:=(hZ k _ (dq hk)).2;lia
inductive T1 (C CR:dw)(ts:List Tb)(vs:List V)(H:Hp)(Q:VK)(E:XK):Prop|mk(x:dw)(ls:List (Za5))(p:Nat)(h:Int)(_:vs=[.ref x,.int p,.int h])(_:Bd C CR H x ls)(_:Tbs ts H)(_:p<=ls.flatten.length)(_:∀r H',Tr ls.flatten p ls.flatten.length h r->SmT ts H H'->Q (pJ r) H')
variable (aG:Mth P w K mg base aa "parts" 5 ["self","low","high"] (Yb ac aa ts)) (aQ:Mth P w K mg base aa "may_meet" 5 ["self","low","height"] (mB ac aa ts))
include T ad aG aQ in
theorem Qz (F:Fun K "next_at" "Heights.next_at" Fi f fd)(bp:Cal P w K mg base "check_place" 3 ["place","greatest"] Xh)(bq:Cal P w K mg base "check_height" 3 ["height"] nH)(bu:Mth P w K mg base aa "next_within" 9 ["self","low","high","height"] (Xp ac aa ts)):Ay P w K mg base CX0 10 f fd ["self","place","height"] (T1 ac aa ts):=by
 exists F.ok Dd
 obtain⟨x,ls,p,h,rfl,hR,hT,hp,q⟩:=h;obtain⟨dx,pp,b,kk,t,o,hx,hW,hTb⟩:=id hR;refine⟨_,(Ab (Bl (A4 bp hr.m (tpa (pv 1) (tpa (tfl (pv 0)) Aa)))) (Ab (Bl (A4 bq hr.m (tpa (pv 2) Aa))) (Ab (Fe i8 rfl (Ct (Bg aG hr.m (pv 0) (tpa (pv 1) (tpa (tfl (pv 0)) Aa)))) (Sy rfl (Ek (tgn 3 Dd.nd) (Ek (tgn 4 Dd.nd) M9))) (Ab (tst 5 Dd.nd (Fa (Cj (Bg aQ hr.m (pv 0) (tpa (pv 3) (tpa (pv 2) Aa)))) (Bg bu hr.m (pv 0) (tpa (pv 3) (tpa (pv 4) (tpa (pv 2) Aa)))) C9)) (Ae (Bj (K4 (M8 (pv 5))) (Ae (An (pv 5)))
  At)))) (Ae (An C9))))),?_⟩
 apply⟨x,aa,dx,_,_,rfl,hx,ad.cl,ad.cD,rfl,?_⟩;apply⟨p,_,rfl,by lia,by lia,?_⟩;apply⟨h,rfl,?_⟩;apply⟨x,dx,_,rfl,hx,rfl,?_⟩;apply⟨x,aa,dx,_,_,rfl,hx,ad.cl,ad.cD,rfl,?_⟩;apply⟨x,ls,p,(ls.flatten.length:Int),rfl,hR,hT,tw _,λpa as los his H1 s1 hpa0 hpa hN hO hll=>?_⟩;rw[gz] at hO;have hR1:=hR.kp s1.kp;have hal:as.length=los.length:=by rw[hN.1,Fl]
 refine⟨pa,rfl,⟨_,SqL.of hpa⟩,?_⟩;refine Ty (as:=as) (xs:=nV los) (ys:=nV his) hN.1 (by rw[hal,Fl,hO.ln]) (λi G H2=>(∃v3 v4 v5:Option V,G=[some (.ref x),some (.int (p:Nat)),some (.int h),v3,v4,v5])/\SmT ts H1 H2/\∀k,p<k->k<=los.getD i ls.flatten.length->hgt ls.flatten k≠h) ?_ (λi G H2 _ h=>SqL.of (h.2.1.k hpa)) (λi t x y G H2 e1 e2 e3 h=>h.2.1.k (hN.2 i t x y e1 e2 e3).2) ?_ ?_
 ·refine⟨⟨_,_,_,rfl⟩,SmT.refl s1.ok,λk hk1 hk2=>?_⟩
  by_cases hpl:p<ls.flatten.length
  ·unfold ge at hk2
   rw[hO.fst hpl] at hk2;exact absurd hk2 (by show ¬ k<=p;lia)
  ·have:=hO.nil hpl
   unfold ge at hk2;rw[gt (by lia)] at hk2;exact absurd hk2 (by show ¬ k<=ls.flatten.length;lia)
 ·rintro i y y2 G H2 hy hy2 ⟨⟨v3,v4,v5,rfl⟩,s2,hno⟩
  obtain⟨a,ea,rfl⟩:=Mm hy;obtain⟨c,ec,rfl⟩:=Mm hy2;obtain⟨ok1,ok2,ok3,k0,ok4,ok5,ok6⟩:=hO.at' i a c ea ec;have hsz:=hO.sz hW.sz ea ec;have cv1:los.getD i ls.flatten.length=a:=by unfold ge;rw[ea];rfl
  have cv2:=hO.nxt i c ec;have hR2:=hR1.kp s2.kp;have hx2:=s2.k (s1.k hx);have go:(∀k,a<k->k<=c->hgt ls.flatten k≠h)->∀k,p<k->k<=los.getD (i+1) ls.flatten.length->hgt ls.flatten k≠h:=λhh k k1 k2=>by
   by_cases k3:k<=a
   ·exact hno k k1 (by rw[cv1];exact k3)
   ·exact hh k (by lia) (by rw[cv2];exact k2)
  apply⟨x,dx,_,rfl,hx2,rfl,?_⟩;apply⟨x,ls,a,h,rfl,hR2,s2.ok,by lia,λbb H3 hbb s3=>?_⟩;have s23:=s2.trans s3
  cases bb with
  |true=>
   apply⟨x,dx,_,rfl,s3.k hx2,rfl,?_⟩;apply⟨x,ls,a,c,h,rfl,hR2.kp s3.kp,s3.ok,by lia,ok3,by lia,λr H4 hr3 s4=>?_⟩
   cases r with
   |some j=>
    k_is;obtain⟨j1,j2,j3,j4⟩:=hr3;refine q (some j) H4 ⟨by lia,by lia,j3,λi' i1 i2 he=>?_⟩ ((s1.trans s23).trans s4)
    by_cases k3:i'<=a
    ·exact hno i' i1 (by rw[cv1];exact k3) he
    ·exact j4 i' (by lia) i2 he
   |none=>
    k_is;rw[show(!decide (pJ none=V.non))=false from rfl];k_is;exact⟨⟨_,_,_,rfl⟩,s23.trans s4,go hr3⟩
  |false=>
   k_is;rw[show(!decide (V.non=V.non))=false from rfl];k_is;exact⟨⟨_,_,_,rfl⟩,s23,go λk k1 k2=>hbb rfl k0 ok4 ok5 (by lia) k (by lia) (by lia)⟩
 ·rintro G H2 ⟨⟨v3,v4,v5,rfl⟩,s2,hno⟩
  rw[hal] at hno;apply q none H2 (λi i1 i2=>hno i i1 ?_) (s1.trans s2);unfold ge;rw[gt (d3 _)];exact i2
theorem Z5 {l:Za5}{lo hi j:Nat}{h:Int}{r:Option Nat}(h1:Tr l lo hi h (some j))(h2:Tr l lo hi h r):r=some j:=by
 obtain⟨a1,a2,a3,a4⟩:=h1
 cases r with
 |none=>exact absurd a3 (h2 j a1 a2)
 |some i=>
  obtain⟨b1,b2,b3,b4⟩:=h2;rcases qt i j with h|h|h
  ·exact absurd b3 (a4 i b1 h)
  ·rw[h]
  ·exact absurd a3 (b4 j a1 h)
inductive Ss (C CR:dw)(ts:List Tb)(vs:List V)(H:Hp)(Q:VK)(E:XK):Prop|mk(x:dw)(ls:List (Za5))(p j:Nat)(_:vs=[.ref x,.int p])(_:Bd C CR H x ls)(_:Tbs ts H)(_:ls.flatten[p]?=some true)(_:Tr ls.flatten p ls.flatten.length (hgt ls.flatten p) (some (j+1)))(_:∀H',SmT ts H H'->Q (.int (j:Nat)) H')
include T ad ax in
theorem Q0 (F:Fun K "partner" "Heights.partner" Fd f fd)(bv:Mth P w K mg base aa "is_opening" 6 ["self","place"] (fI ac aa ts))(bx:Mth P w K mg base aa "next_at" 10 ["self","place","height"] (T1 ac aa ts)):Ay P w K mg base CX0 11 f fd ["self","place"] (Ss ac aa ts):=by
 exists F.ok Mo
 obtain⟨x,ls,p,j,rfl,hR,hT,hp,hj,q⟩:=h;obtain⟨dx,pp,b,kk,t,o,hx,hW,hTb⟩:=id hR;have hpl:=Bs hp;refine⟨_,(Ab (Bj (Cj (Bg bv hr.m (pv 0) (tpa (pv 1) Aa))) (Ae (An (Al C5 (Bg bx hr.m (pv 0) (tpa (pv 1) (tpa (Bg ax hr.m (pv 0) (tpa (pv 1) Aa)) Aa))) Ad)))
  At) (Ae Cl)),?_⟩
 apply⟨x,dx,_,rfl,hx,rfl,?_⟩;apply⟨x,ls,p,rfl,hR,hT,hpl,λH1 s1=>?_⟩;rw[show ls.flatten.getD p false=true by unfold ge;rw[hp];rfl];apply⟨x,dx,_,rfl,s1.k hx,rfl,?_⟩;apply⟨x,dx,_,rfl,s1.k hx,rfl,?_⟩;apply⟨x,ls,p,rfl,hR.kp s1.kp,s1.ok,by lia,λH2 s2=>?_⟩;have s12:=s1.trans s2;apply⟨x,ls,p,_,rfl,hR.kp s12.kp,s12.ok,by lia,λr H3 hr3 s3=>?_⟩;rw[Z5 hj hr3,show pJ (some (j+1))=V.int ((j:Int)+1) by show V.int _=_;congr 1];k_is;rw[show((j:Int)+1-1)=(j:Int) by lia];exact q H3 (s12.trans s3)
inductive Xz (C CR:dw)(ts:List Tb)(vs:List V)(H:Hp)(Q:VK)(E:XK):Prop|mk(x:dw)(ls:List (Za5))(lo hi:Nat)(_:vs=[.ref x,.int lo,.int hi])(_:Bd C CR H x ls)(_:Tbs ts H)(_:lo<ls.flatten.length)(_:∀(b:Bool) H',(b=true->∃k,k<ls.length/\lo=bgn ls k/\hi=bgn ls (k+1))->SmT ts H H'->Q (.bl b) H')
include T ad ar aK in
theorem Qm (F:Fun K "is_stretch" "Heights.is_stretch" Dv f fd):Ay P w K mg base CX0 5 f fd ["self","low","high"] (Xz ac aa ts):=by
 exists F.ok Ft
 obtain⟨x,ls,lo,hi,rfl,hR,hT,hl,q⟩:=h;obtain⟨dx,p,b,k,t,o,hx,hW,hTb⟩:=id hR;refine⟨_,(Ab (tst 3 Ft.nd (Bg ar hr.m (pv 0) (tpa (pv 1) Aa))) (Ae (An (R4 (tpc Fo (pv 1) (Bg aK hr.m (pv 0) (tpa (pv 3) Aa))) (So (tpc Fo (pv 2) (Bg aK hr.m (pv 0) (tpa (Al A0 (pv 3) Ad) Aa)))))))),?_⟩
 apply⟨x,dx,_,rfl,hx,rfl,?_⟩;apply⟨x,ls,lo,rfl,hR,hT,λk1 H1 hk1 ha1 hb1 s1=>?_⟩;have hkl:=wF hl hk1 ha1;have hR1:=hR.kp s1.kp;apply⟨x,dx,_,rfl,s1.k hx,rfl,?_⟩;apply⟨x,ls,k1,rfl,hR1,hk1,?_⟩;apply B5 (λh1=>?_) (λ_=>q false H1 (λe=>by cases e) s1);have h1:lo=bgn ls k1:=by
  have:=V.int.inj h1;lia
 apply⟨x,dx,_,rfl,s1.k hx,rfl,?_⟩;apply⟨x,ls,k1+1,by rw[show((k1+1:Nat):Int)=(k1:Int)+1 by lia];rfl,hR1,by lia,?_⟩;apply q _ H1 (λhb=>⟨k1,hkl,h1,?_⟩) s1;have:=V.int.inj (of_decide_eq_true hb);lia
theorem lG {ls:List (Za5)}{k:Nat}{y:Za5}(hy:ls[k]?=some y):hw ls.flatten (bgn ls k) (bgn ls (k+1))=(hts y y.length).map (hBg ls k + ·):=by
 have hb:=Dt hy;unfold hw hts;rw[hb,gy,jz];refine j0 λj hj=>?_;have:=jn.mp hj;show _=hBg ls k+hgt y (j+1);rw[qw,Tl hy (by lia)]
theorem Yw (ns:List Int)(a m:Int):(ns.map (a + ·)).count (a+m)=ns.count m:=by
 induction ns with
 |nil=>rfl
 |cons n r ih=>
  rw[ju,li,li,ih]
  by_cases h:n=m
  ·simp[h]
  ·simp[h]
theorem fQ {l:Za5}{lo hi:Nat}{h:Int}(hn:∀i,lo<i->i<=hi->hgt l i≠h):(hw l lo hi).count h=0:=List.count_eq_zero.mpr λhm=>by
 obtain⟨i,h1,h2,h3⟩:=zS hm;exact hn i h1 h2 h3
inductive Yg (C CR:dw)(ts:List Tb)(vs:List V)(H:Hp)(Q:VK)(E:XK):Prop|mk(x:dw)(ls:List (Za5))(lo hi k:Nat)(h:Int)(_:vs=[.ref x,.int lo,.int hi,.int h])(_:Bd C CR H x ls)(_:Tbs ts H)(_:lo<hi)(_:k<ls.length)(_:bgn ls k<=lo)(_:hi<=bgn ls (k+1))(_:∀H',SmT ts H H'->Q (.int ((hw ls.flatten lo hi).count h:Nat)) H')
include T ad ar aF aQ in
theorem Qf (F:Fun K "often_within" "Heights.often_within" Db f fd)(bz:Mth P w K mg base aa "is_stretch" 5 ["self","low","high"] (Xz ac aa ts)):Ay P w K mg base CX0 9 f fd ["self","low","high","height"] (Yg ac aa ts):=by
 exists F.ok E2
 obtain⟨x,ls,lo,hi,k0,h,rfl,hR,hT,hlh,hk0,hb0,hb1,q⟩:=h;obtain⟨dx,p,b,k,t,o,hx,hW,hTb⟩:=id hR;obtain⟨ta,rs,rfl,ht,hrl,hrs⟩:=hTb.tb;obtain⟨oa,os,rfl,ho,hol,hos⟩:=hTb.ol;have hle:=dF ls (k0+1);have hl:lo<ls.flatten.length:=by lia
 have ey:ls[k0]?=some (ls[k0]):=dq hk0;have hbs:=Dt ey;have hsz:=hW.sz _ _ ey;refine⟨_,(Ab (tst 4 E2.nd (Bg ar hr.m (pv 0) (tpa (pv 1) Aa))) (Ab (Bj (PW.pt (Mr (ttc Fo (pv 3) (tix U2 (tix Az (tfl (pv 0)) (pv 4)) Ad)) (J5 (Cj (Bg bz hr.m (pv 0) (tpa (pv 1) (tpa (pv 2) Aa))))))) (Ae (An (tix Az (tfl (pv 0)) (pv 4))))
  At) (Ae (An (Fa (Cj (Bg aQ hr.m (pv 0) (tpa (pv 1) (tpa (pv 3) Aa)))) (Dz fv wk wj Tj (Bg aF hr.m (pv 0) (tpa (pv 1) (tpa (pv 2) Aa))) (tpa (pv 3) Aa)) Ad))))),?_⟩
 apply⟨x,dx,_,rfl,hx,rfl,?_⟩;apply⟨x,ls,lo,rfl,hR,hT,λk1 H1 hk1 ha1 hc1 s1=>?_⟩;have hkl:=wF hl hk1 ha1;obtain rfl:k1=k0:=Wl ha1 (hc1 hkl) hb0 (by lia);have hj:k1<rs.length:=by lia
 obtain⟨mn,mx,hr1,hmn,hmx⟩:=hrs _ _ (dq hj) _ ey;apply⟨x,aa,dx,_,_,rfl,s1.k hx,ad.cl,ad.cR,rfl,?_⟩;apply Bk (SqL.of (s1.k ht)) (Bf (by rw[d8,dq hj];rfl)) ?_;apply Xb (SqT.of (s1.k hr1)) (v:=.int (hBg ls k1+mn)) rfl ?_;apply B5 (λh1=>?_) (λh1=>?_)
 ·have h1:h=hBg ls k1+mn:=V.int.inj h1
  apply⟨x,dx,_,rfl,s1.k hx,rfl,?_⟩;apply⟨x,ls,lo,hi,rfl,hR.kp s1.kp,s1.ok,hl,λbb H2 hbb s2=>?_⟩;have s12:=s1.trans s2
  cases bb with
  |true=>
   obtain⟨k2,hk2,e1,e2⟩:=hbb rfl;obtain rfl:k1=k2:=Wl (n:=lo) hb0 (by lia) (by lia) (by lia);have hjo:k1<os.length:=by lia
   have hv:=hos k1 _ _ _ (dq hjo) ey hmn;apply⟨x,aa,dx,_,_,rfl,s12.k hx,ad.cl,ad.cG,rfl,?_⟩;apply Bk (SqL.of (s12.k ho)) (v:=os[k1]) (Bf (dq hjo)) ?_;k_is;have:=q H2 s12;rw[e1,e2,lG ey,h1,Yw] at this;rw[hv];exact this
  |false=>
   apply⟨x,dx,_,rfl,s12.k hx,rfl,?_⟩;apply⟨x,ls,lo,h,rfl,hR.kp s12.kp,s12.ok,hl,λb3 H3 hb3 s3=>?_⟩;have s13:=s12.trans s3
   cases b3 with
   |true=>
    apply⟨x,dx,_,rfl,s13.k hx,rfl,?_⟩;apply⟨x,ls,lo,hi,rfl,hR.kp s13.kp,s13.ok,by lia,by lia,by lia,λp4 H4 s4 hp40 hp4=>?_⟩;apply⟨.inl ⟨rfl,_,SqL.of hp4⟩,?_⟩;apply⟨p4,_,_,rfl,rfl,hp4,C1 _,rfl,?_⟩;rw[Lg];exact q H4 (s13.trans s4)
   |false=>
    k_is;have:=q H3 s13;rw[fQ λi h1 h2=>hb3 rfl k1 hkl ha1 (by lia) i (by lia) (by lia)] at this;exact this
 ·apply⟨x,dx,_,rfl,s1.k hx,rfl,?_⟩;apply⟨x,ls,lo,h,rfl,hR.kp s1.kp,s1.ok,hl,λb3 H3 hb3 s3=>?_⟩;have s13:=s1.trans s3
  cases b3 with
  |true=>
   apply⟨x,dx,_,rfl,s13.k hx,rfl,?_⟩;apply⟨x,ls,lo,hi,rfl,hR.kp s13.kp,s13.ok,by lia,by lia,by lia,λp4 H4 s4 hp40 hp4=>?_⟩;apply⟨.inl ⟨rfl,_,SqL.of hp4⟩,?_⟩;apply⟨p4,_,_,rfl,rfl,hp4,C1 _,rfl,?_⟩;rw[Lg];exact q H4 (s13.trans s4)
  |false=>
   k_is;have:=q H3 s13;rw[fQ λi h1 h2=>hb3 rfl k1 hkl ha1 (by lia) i (by lia) (by lia)] at this;exact this
def lvP (l:Za5)(h:Int)(lo n:Nat):Za4:=(et n).filter λq=>decide (hgt l (lo+q+1)=h)
theorem Nz (l:Za5)(h:Int)(lo n:Nat):lvP l h lo (n+1)=lvP l h lo n++if hgt l (lo+n+1)=h then[n] else[]:=by
 unfold lvP;rw[iu,k8,nY];simp only[decide_eq_true_eq]
theorem gC (l:Za5)(h:Int)(lo n:Nat):∀d,∃r,lvP l h lo (n+d)=lvP l h lo n++r
 |0=>⟨[],(kq _).symm⟩
 |d+1=>by
  obtain⟨r,e⟩:=gC l h lo n d;exact⟨_,by rw[<-qw,Nz,e,gj]⟩
theorem eY (l:Za5)(h:Int)(lo n:Nat):(lvP l h lo n).length=(hw l lo (lo+n)).count h:=by
 unfold lvP hw;rw[gy,List.count,List.countP_map,<-List.countP_eq_length_filter];congr 1
theorem vP {l:Za5}{h:Int}{lo n j:Nat}(hj:j<n)(hh:hgt l (lo+j+1)=h):(lvP l h lo n)[(lvP l h lo j).length]?=some j:=by
 obtain⟨r,e⟩:=gC l h lo (j+1) (n-(j+1));rw[show j+1+(n-(j+1))=n by lia,Nz,if_pos hh] at e;rw[e,gj,e9 (d3 _),jh];rfl
inductive iD (C CR:dw)(ts:List Tb)(vs:List V)(H:Hp)(Q:VK)(E:XK):Prop|mk(x:dw)(ls:List (Za5))(lo hi nth j:Nat)(h:Int)(_:vs=[.ref x,.int lo,.int hi,.int h,.int nth])(_:Bd C CR H x ls)(_:Tbs ts H)(_:lo<j)(_:j<=hi)(_:hi<=ls.flatten.length)(_:hi-lo<=1000)(_:hgt ls.flatten j=h)(_:(hw ls.flatten lo (j-1)).count h=nth)(_:∀H',SmT ts H H'->Q (.int (j:Nat)) H')
include T ad aF in
theorem Qo (F:Fun K "nth_within" "Heights.nth_within" Cr f fd):Ay P w K mg base CX0 9 f fd ["self","low","high","height","nth"] (iD ac aa ts):=by
 exists F.ok Fn
 obtain⟨x,ls,lo,hi,nth,j,h,rfl,hR,hT,h1,h2,h3,h4,h5,h6,q⟩:=h;obtain⟨dx,p,b,k,t,o,hx,hW,hTb⟩:=id hR;have hfl:ls.flatten.length<=60000:=by
  have:=Vo hW.sz ls.length (d3 _);have hfw:=hW.fw;rw[Gq] at this;lia
 refine⟨_,(Ab (tst 5 Fn.nd (Bg aF hr.m (pv 0) (tpa (pv 1) (tpa (pv 2) Aa)))) (Ae (An (tix Az (dA rfl Jf (iZ rfl T.cK (tpa (pv 5) Aa) (Va (Al A0 (pv 1) Ad) Zs)) (λ_ _ _ _=>Gr (ttc Fo (pv 1) (pv 2))) (λ_ _ _ _=>(pv 0))) (pv 4))))),?_⟩
 apply⟨x,dx,_,rfl,hx,rfl,?_⟩;apply⟨x,ls,lo,hi,rfl,hR,hT,by lia,h3,h4,λp1 H1 s1 hp10 hp1=>?_⟩;apply⟨p1,lo+1,rfl,by rw[show((lo+1:Nat):Int)=(lo:Int)+1 by lia],by lia,⟨_,SqL.of hp1⟩,?_⟩;refine iN hp1 (λi=>(lvP ls.flatten h lo i).map λq=>V.int ((lo+1+q:Nat):Int)) rfl (λi hi=>?_) (λi v H4 R A hv s4 hR4 hA4=>?_) (λD H4 hD s4 hD4=>?_)
 ·rw[du] at hi ⊢
  rw[Ja] at hi;have e1:(lvP ls.flatten h lo i).length<=i:=by
   unfold lvP;have:=sf (λq=>decide (hgt ls.flatten (lo+q+1)=h)) (et i);rw[fh] at this;exact this
  exact Ag (by lia)
 ·have hil:=Bs hv
  rw[du,Ja] at hil;rw[d8,Rw hil] at hv;obtain rfl:V.int (hgt ls.flatten (lo+i+1))=v:=d0 hv;apply B5 (λe=>?_) (λe=>?_)
  ·apply hA4 _ _ ?_ (Ah.refl _);rw[Nz,if_pos (V.int.inj e),eh];rfl
  ·refine hR4 ?_ _ (Ah.refl _)
   rw[Nz,if_neg (λz=>e (congrArg V.int z)),kq]
 ·rw[du,Ja] at hD4
  have hn:(lvP ls.flatten h lo (j-1-lo)).length=nth:=by rw[eY,show lo+(j-1-lo)=j-1 by lia,h6]
  have ha:=vP (l:=ls.flatten) (h:=h) (lo:=lo) (n:=hi-lo) (j:=j-1-lo) (by lia) (by rw[show lo+(j-1-lo)+1=j by lia];exact h5);rw[hn] at ha;apply Bk (SqL.of hD4) (v:=.int (j:Nat)) (Bf (by rw[d8,ha];show some (V.int ((lo+1+(j-1-lo):Nat):Int))=_;rw[show lo+1+(j-1-lo)=j by lia])) ?_;k_is;exact q H4 (s1.then s4)
theorem jC {K:dn}{a:dw}{as:List dw}{ys:List V}{fr:St}{tc:TT}{Q:VK}(hx:as.length=xs.length)(hy:as.length=ys.length)(ha:H1 a=some (.lst (as.map V.ref)))(ht:∀(i:Nat) t x y,as[i]?=some t->xs[i]?=some x->ys[i]?=some y->H1 t=some (.tup [x,y]))(hT:Tbs ts H1)(acc:Nat->List V)(h0:acc 0=[])(hz:∀i,i<as.length->(acc i).length<sizeLine)
  (turn:∀(i:Nat) x y H (R:Hp->Prop) (A:VK),xs[i]?=some x->ys[i]?=some y->SmT ts H1 H->(∀v H',acc (i+1)=acc i++[v]->SmT ts H H'->A v H')->tc (some x::some y::fr) H λb H3=>if b=true then te (some x::some y::fr) H3 A else R H3)
  (fin:∀D H,H1 D=none->SmT ts H1 H->H D=some (.lst (acc as.length))->Q (.ref D) H):Km K (Itl K a) H1 fr tc te Q:=by
 intro D hD;refine⟨λi m H=>i+m=as.length/\SmT ts H1 H/\H D=some (.lst (acc i)),⟨as.length,by lia,SmT.of hT (Ai hD),by rw[Ac,h0]⟩,?_⟩;rintro i m H ⟨him,sm,hd⟩
 by_cases hi:i<as.length
 ·refine .inr ⟨⟨_,.ref as[i],SqL.of (sm.k ha),by rw[d8,dq hi];rfl⟩,λv H' h=>?_⟩
  obtain⟨rfl,hv⟩:=h;have hv:=hv _ (SqL.of (sm.k ha));rw[d8,dq hi] at hv;obtain rfl:=d0 hv;have e1:xs[i]?=some (xs[i]'(by lia)):=dq _;have e2:ys[i]?=some (ys[i]'(by lia)):=dq _;refine⟨as[i],_,_,rfl,SqT.of (sm.k (ht i _ _ _ (dq hi) e1 e2)),?_⟩;exact turn i _ _ _ _ _ e1 e2 sm λy H'' e s2=>⟨acc i,s2.k hd,hz i hi,m-1,by lia,by lia,(sm.trans s2).push hD (s2.k hd),by rw[Ac,e]⟩
 ·obtain rfl:i=as.length:=by lia
  exact .inl ⟨⟨_,SqL.of (sm.k ha),by rw[du];exact d3 _⟩,fin D H hD sm hd⟩
def lvl (l:Za5)(lo hi:Nat):Nat:=if lo<hi then 1+(hw l lo (hi-1)).count (hgt l lo) else 0
theorem pT.sums {ls:List (Za5)}{lo hi:Nat}{los his:Za4}(h:pT ls lo hi los his)(hh:Int):∀i,i<=los.length->lo<=los.getD i hi\/hi<=lo->(((et i).map λj=>(((hw ls.flatten (los.getD j 0) (his.getD j 0)).count hh:Nat):Int)).sum=((hw ls.flatten lo (los.getD i hi)).count hh:Nat)):=by
 intro i
 induction i with
 |zero=>
  intro _ _
  by_cases hlt:lo<hi
  ·have:=h.fst hlt
   unfold ge;rw[this];show(0:Int)=((hw ls.flatten lo lo).count hh:Nat);unfold hw;rw[jh];rfl
  ·have:=h.nil hlt
   unfold ge;rw[gt (by lia)];show(0:Int)=((hw ls.flatten lo hi).count hh:Nat);unfold hw;rw[show hi-lo=0 by lia];rfl
 |succ i ih=>
  intro hi1 _;have ea:los[i]?=some (los[i]'(by lia)):=dq _;have eb:his[i]?=some (his[i]'(by have:=h.ln;lia)):=dq _;obtain⟨g1,g2,g3,_⟩:=h.at' i _ _ ea eb;have hn:=h.nxt i _ eb;have ga:los.getD i hi=los[i]'(by lia):=by unfold ge;rw[ea];rfl
  have ih:=ih (by lia) (.inl (by rw[ga];exact g2));rw[ga] at ih;rw[iu,eh,AY,ih,<-hn,Ov g2 (fk g1),iq];have ga0:los.getD i 0=los[i]'(by lia):=by unfold ge;rw[ea];rfl
  have gb0:his.getD i 0=his[i]'(by have:=h.ln;lia):=by unfold ge;rw[eb];rfl
  show _+([(((hw ls.flatten (los.getD i 0) (his.getD i 0)).count hh:Nat):Int)]:List Int).sum=_;rw[ga0,gb0,zo];lia
inductive gN (C CR:dw)(ts:List Tb)(vs:List V)(H:Hp)(Q:VK)(E:XK):Prop|mk(x:dw)(ls:List (Za5))(lo hi:Nat)(_:vs=[.ref x,.int lo,.int hi])(_:Bd C CR H x ls)(_:Tbs ts H)(_:hi<=ls.flatten.length)(_:∀H',SmT ts H H'->Q (.int (lvl ls.flatten lo hi:Nat)) H')
variable (aR:Mth P w K mg base aa "often_within" 9 ["self","low","high","height"] (Yg ac aa ts))
include T ad ax aG aR in
theorem Qn (F:Fun K "many_level" "Heights.many_level" Cp f fd):Ay P w K mg base CX0 10 f fd ["self","low","high"] (gN ac aa ts):=by
 exists F.ok Fs
 obtain⟨x,ls,lo,hi,rfl,hR,hT,h2,q⟩:=h;obtain⟨dx,p,b,k,t,o,hx,hW,hTb⟩:=id hR;refine⟨_,(Ab (Bj (ttc lW (pv 1) (pv 2)) (Ae (An Ad))
  At) (Ab (Mu (i:=3) Fs.nd rfl (vv rfl) (Bg ax hr.m (pv 0) (tpa (pv 1) Aa))) (Ae (An (Al A0 Ad (Ao (oJ rfl) (by rfl) T.n_sum zB (tpa (dA rfl Jq (Ct (Bg aG hr.m (pv 0) (tpa (pv 1) (tpa (Al C5 (pv 2) Ad) Aa)))) (λ_ _ _ _=>F6) (λ_ _ _ _=>(Bg aR hr.m (pv 3) (tpa (pv 0) (tpa (pv 1) (tpa (pv 2) Aa)))))) Aa))))))),?_⟩
 apply B5 (λh0=>?_) (λh0=>?_)
 ·k_is
  have:=q H (SmT.refl hT);unfold lvl at this;rw[if_neg (by lia)] at this;exact this
 ·have hlt:lo<hi:=by lia
  apply⟨x,dx,_,rfl,hx,rfl,?_⟩;apply⟨x,ls,lo,rfl,hR,hT,by lia,λH1 s1=>?_⟩;apply⟨x,dx,_,rfl,s1.k hx,rfl,?_⟩;apply⟨x,ls,lo,(hi:Int)-1,rfl,hR.kp s1.kp,s1.ok,by lia,λpa as los his H2 s2 hpa0 hpa hN hO hll=>?_⟩;rw[show((hi:Int)-1).toNat=hi-1 by lia] at hO;have s12:=s1.trans s2;have hal:as.length=los.length:=by rw[hN.1,Fl]
  refine⟨pa,rfl,⟨_,SqL.of hpa⟩,?_⟩;refine jC (xs:=nV los) (ys:=nV his) hN.1 (by rw[hal,Fl,hO.ln]) hpa (λi t x y e1 e2 e3=>(hN.2 i t x y e1 e2 e3).2) s2.ok (λi=>((et i).map λj=>(((hw ls.flatten (los.getD j 0) (his.getD j 0)).count (hgt ls.flatten lo):Nat):Int)).map V.int) rfl (λi hi=>?_) (λi y y2 H3 R A hy hy2 s3 hA=>?_) (λD H3 hD s3 h3=>?_)
  ·rw[du,du,fh]
   exact Ag (by lia)
  ·obtain⟨a,ea,rfl⟩:=Mm hy
   obtain⟨c,ec,rfl⟩:=Mm hy2;obtain⟨ok1,ok2,ok3,k0,ok4,ok5,ok6⟩:=hO.at' i a c ea ec;have s13:=s12.trans s3;apply⟨x,dx,_,rfl,s13.k hx,rfl,?_⟩;apply⟨x,ls,a,c,k0,_,rfl,hR.kp s13.kp,s13.ok,ok1,ok4,ok5,ok6,λH4 s4=>?_⟩;refine hA _ _ ?_ s4;rw[iu,eh,eh];have ga0:los.getD i 0=a:=by unfold ge;rw[ea];rfl
   have gb0:his.getD i 0=c:=by unfold ge;rw[ec];rfl
   show _++[V.int (((hw ls.flatten (los.getD i 0) (his.getD i 0)).count (hgt ls.flatten lo):Nat):Int)]=_;rw[ga0,gb0]
  ·apply⟨D,_,rfl,SqL.of h3,?_⟩;rw[hal,hO.sums _ _ (d3 _) (by unfold ge;rw[gt (d3 _)];show lo<=hi-1\/_;lia)];rw[show los.getD los.length (hi-1)=hi-1 by unfold ge;rw[gt (d3 _)];rfl];k_is;have:=q H3 (s12.trans s3);unfold lvl at this;rw[if_pos hlt] at this;rw[show(1:Int)+((hw ls.flatten lo (hi-1)).count (hgt ls.flatten lo):Nat)=((1+(hw ls.flatten lo (hi-1)).count (hgt ls.flatten lo):Nat):Int) by lia];exact this
inductive pA (C CR:dw)(ts:List Tb)(vs:List V)(H:Hp)(Q:VK)(E:XK):Prop|mk(x:dw)(ls:List (Za5))(lo nth j:Nat)(_:vs=[.ref x,.int lo,.int nth])(_:Bd C CR H x ls)(_:Tbs ts H)(_:lo<=j)(_:j<=ls.flatten.length)(_:hgt ls.flatten j=hgt ls.flatten lo)(_:lvl ls.flatten lo j=nth)(_:∀H',SmT ts H H'->Q (.int (j:Nat)) H')
include T ad ax aG aR in
theorem Qs (F:Fun K "nth_level" "Heights.nth_level" D0 f fd)(bA:Mth P w K mg base aa "nth_within" 9 ["self","low","high","height","nth"] (iD ac aa ts)):Ay P w K mg base CX0 10 f fd ["self","low","nth"] (pA ac aa ts):=by
 exists F.ok Bp
 obtain⟨x,ls,lo,nth,j,rfl,hR,hT,hj1,hj2,hj3,hj4,q⟩:=h;obtain⟨dx,p,b,k,t,o,hx,hW,hTb⟩:=id hR;refine⟨_,(Ab (Bj (ttc Fo (pv 2) Ad) (Ae (An (pv 1)))
  At) (Ab (tst 3 Bp.nd (Bg ax hr.m (pv 0) (tpa (pv 1) Aa))) (Ab (Fe i8 rfl (Ct (Bg aG hr.m (pv 0) (tpa (pv 1) (tpa (tfl (pv 0)) Aa)))) (Sy rfl (Ek (tgn 4 Bp.nd) (Ek (tgn 5 Bp.nd) M9))) (Ab (tst 6 Bp.nd (Bg aR hr.m (pv 0) (tpa (pv 4) (tpa (pv 5) (tpa (pv 3) Aa))))) (Ab (Bj (ttc Nf (pv 2) (pv 6)) (Ae (An (Bg bA hr.m (pv 0) (tpa (pv 4) (tpa (pv 5) (tpa (pv 3) (tpa (Al C5 (pv 2) Ad) Aa)))))))
  At) (Ae (tau 2 Bp.nd (pv 6) vU))))) (Ae (An C9))))),?_⟩
 apply B5 (λh0=>?_) (λh0=>?_)
 ·have h0:nth=0:=by
   have:=V.int.inj h0;lia
  k_is;have e:j=lo:=by
   by_cases h:lo<j
   ·unfold lvl at hj4
    rw[if_pos h] at hj4;lia
   ·lia
  rw[<-e];exact q H (SmT.refl hT)
 ·have h0:0<nth:=Nat.pos_of_ne_zero λz=>h0 (by rw[z];rfl)
  have hlt:lo<j:=by
   by_cases h:lo<j
   ·exact h
   ·unfold lvl at hj4
    rw[if_neg h] at hj4;lia
  unfold lvl at hj4;rw[if_pos hlt] at hj4;apply⟨x,dx,_,rfl,hx,rfl,?_⟩;apply⟨x,ls,lo,rfl,hR,hT,by lia,λH1 s1=>?_⟩;apply⟨x,dx,_,rfl,s1.k hx,rfl,?_⟩;apply⟨x,aa,dx,_,_,rfl,s1.k hx,ad.cl,ad.cD,rfl,?_⟩;apply⟨x,ls,lo,(ls.flatten.length:Int),rfl,hR.kp s1.kp,s1.ok,tw _,λpa as los his H2 s2 hpa0 hpa hN hO hll=>?_⟩;rw[gz] at hO;have s12:=s1.trans s2;have hR2:=hR.kp s12.kp;have hal:as.length=los.length:=by rw[hN.1,Fl]
  refine⟨pa,rfl,⟨_,SqL.of hpa⟩,?_⟩;refine Ty (as:=as) (xs:=nV los) (ys:=nV his) hN.1 (by rw[hal,Fl,hO.ln]) (λi G H3=>(∃(m:Nat) (v3 v4 v5:Option V),G=[some (.ref x),some (.int (lo:Nat)),some (.int (m:Nat)),some (.int (hgt ls.flatten lo)),v3,v4,v5]/\m+(hw ls.flatten lo (los.getD i ls.flatten.length)).count (hgt ls.flatten lo)=nth)/\SmT ts H2 H3/\los.getD i ls.flatten.length<j) ?_ (λi G H3 _ h=>SqL.of (h.2.1.k hpa)) (λi t x y G H3 e1 e2 e3 h=>h.2.1.k (hN.2 i t x y e1 e2 e3).2) ?_ ?_
  ·have e0:los.getD 0 ls.flatten.length=lo:=by unfold ge;rw[hO.fst (by lia)];rfl
   refine⟨⟨nth,_,_,_,rfl,?_⟩,SmT.refl s2.ok,by rw[e0];exact hlt⟩;rw[e0];unfold hw;rw[jh];rfl
  ·rintro i y y2 G H3 hy hy2 ⟨⟨m,v3,v4,v5,rfl,hm⟩,s3,hno⟩
   obtain⟨a,ea,rfl⟩:=Mm hy;obtain⟨c,ec,rfl⟩:=Mm hy2;obtain⟨ok1,ok2,ok3,k0,ok4,ok5,ok6⟩:=hO.at' i a c ea ec;have hsz:=hO.sz hW.sz ea ec;have cv1:los.getD i ls.flatten.length=a:=by unfold ge;rw[ea];rfl
   have cv2:=hO.nxt i c ec;rw[cv1] at hm hno;have s13:=s12.trans s3;apply⟨x,dx,_,rfl,s13.k hx,rfl,?_⟩;apply⟨x,ls,a,c,k0,_,rfl,hR.kp s13.kp,s13.ok,ok1,ok4,ok5,ok6,λH4 s4=>?_⟩;have s14:=s13.trans s4;have eac:=Ov (l:=ls.flatten) ok2 (fk ok1);apply B5 (λg=>?_) (λg=>?_)
   ·have hjc:j<=c:=by
     by_cases h:j<=c
     ·exact h
     ·exfalso
      have e1:=Ov (l:=ls.flatten) (a:=lo) (b:=c) (c:=j-1) (by lia) (by lia);rw[e1,eac,iq,iq] at hj4;lia
    have e2:=Ov (l:=ls.flatten) (a:=lo) (b:=a) (c:=j-1) (by lia) (by lia);rw[e2,iq] at hj4;apply⟨x,dx,_,rfl,s14.k hx,rfl,?_⟩;apply⟨x,ls,a,c,m-1,j,_,by rw[show((m-1:Nat):Int)=(m:Int)-1 by lia];rfl,hR.kp s14.kp,s14.ok,hno,hjc,ok3,by lia,hj3,by lia,λH5 s5=>?_⟩;k_is;exact q H5 (s14.trans s5)
   ·have hcj:c<j:=by
     by_cases h:c<j
     ·exact h
     ·exfalso
      have e1:=Ov (l:=ls.flatten) (a:=lo) (b:=a) (c:=j-1) (by lia) (by lia);have e2:=Ov (l:=ls.flatten) (a:=a) (b:=j-1) (c:=c) (by lia) (by lia);have e3:0<(hw ls.flatten (j-1) c).count (hgt ls.flatten lo):=List.count_pos_iff.mpr (hj3▸mI (by lia) (by lia));rw[e1,iq] at hj4;rw[e2,iq] at g;lia
    apply⟨⟨m-(hw ls.flatten a c).count (hgt ls.flatten lo),_,_,_,by rw[show((m-(hw ls.flatten a c).count (hgt ls.flatten lo):Nat):Int)=(m:Int)-((hw ls.flatten a c).count (hgt ls.flatten lo):Nat) by lia];rfl,?_⟩,s3.trans s4,by rw[<-cv2];exact hcj⟩;rw[<-cv2,eac,iq];lia
  ·rintro G H3 ⟨⟨m,v3,v4,v5,rfl,hm⟩,s3,hno⟩
   rw[hal] at hno;exfalso;unfold ge at hno;rw[gt (d3 _)] at hno;exact absurd hno (by show ¬ ls.flatten.length<j;lia)
inductive mG (C CR CS:dw)(ts:List Tb)(vs:List V)(H:Hp)(Q:VK)(E:XK):Prop|mk(x:dw)(ls:List (Za5))(_:vs=[.ref x])(_:Cf C CR CS H x ls)(_:Tbs ts H)(_:∀H',SmT ts H H'->Q (.str (Ar ls.flatten)) H')
include T ah in
theorem Wc (F:Fun K "row" "Openings.row" Hu f fd)(bC:Mth P w K mg base aa "text" 6 ["self"] (gM ac aa ts)):Ay P w K mg base CX0 7 f fd ["self"] (mG ac aa ae ts):=by
 exists F.ok Pp
 obtain⟨x,ls,rfl,⟨dx,r,e,hx,hR⟩,hT,q⟩:=h;obtain⟨dp,p,b,k,t,o,hp,_⟩:=id hR;refine⟨_,(Ae (An (Fy bC hr.m (tfl (pv 0))))),?_⟩;apply⟨x,ae,dx,_,_,rfl,hx,ah.cl,ah.cf,rfl,?_⟩;apply⟨r,dp,_,rfl,hp,rfl,?_⟩;k_is;exact⟨r,ls,rfl,hR,hT,q⟩
inductive Uh (C CR CS:dw)(ts:List Tb)(vs:List V)(H:Hp)(Q:VK)(E:XK):Prop|mk(x:dw)(ls:List (Za5))(_:vs=[.ref x])(_:Cf C CR CS H x ls)(_:Tbs ts H)(_:Vs 0 ls.flatten)(_:ls.flatten.length<=8000)(_:∀p (ds:Za4) H',SmT ts H H'->H p=none->H' p=some (.lst ((B2 ds).map V.int))->Dok ds->Aq ds=ls.flatten->Q (.ref p) H')
include T ah in
theorem Q1 (F:Fun K "elders" "Openings.elders" Fc f fd)(bE:Cal P w K mg base "elders_of" 2 ["text"] Se)(bF:Mth P w K mg base ae "row" 7 ["self"] (mG ac aa ae ts)):Ay P w K mg base CX0 8 f fd ["self"] (Uh ac aa ae ts):=by
 exists F.ok M3
 obtain⟨x,ls,rfl,hS,hT,hv,hl,q⟩:=h;obtain⟨dx,r,e,hx,hR⟩:=id hS;refine⟨_,(Ae (An (A4 bE hr.m (tpa (Fy bF hr.m (pv 0)) Aa)))),?_⟩;apply⟨x,dx,_,rfl,hx,rfl,?_⟩;apply⟨x,ls,rfl,hS,hT,λH1 s1=>?_⟩;k_is;exact⟨ls.flatten,rfl,hv,hl,λp ds H2 s2 h0 h1 hD e=>q p ds H2 (s1.then s2) (s1.sm.free h0) h1 hD e⟩
inductive Y9 (K:dn)(C CR CS CN:dw)(ts:List Tb)(vs:List V)(H:Hp)(Q:VK)(E:XK):Prop|mk(x:dw)(ls:List (Za5))(ds:Za4)(k:V)(_:vs=[.ref x,k])(_:Cf C CR CS H x ls)(_:Tbs ts H)(_:Dok ds)(_:ls.flatten=Aq ds)(_:Any K H k)(_:(∀j:Nat,k=.int j->j<ds.length->∀H',SmT ts H H'->Q (.int ((2*j-dAt ds j:Nat):Int)) H'))(_:(NoK k ds.length->E (.ref CN) none H))
variable (aA:Mth P w K mg base ae "many_knots" 2 ["self"] (Y4 ac aa ae))
include T ah aA in
theorem Qx (F:Fun K "opening" "Openings.opening" Eu f fd)(bG:mM P w K mg base "check_knot" 3 ["k","many_knots"] (Pg K ai))(bH:Mth P w K mg base aa "opening" 4 ["self","number"] (Ms ac aa ts)):Ay P w K mg base (CXE P w) 5 f fd ["self","k"] (Y9 K ac aa ae ai ts):=by
 exists F.okE Mb
 obtain⟨x,ls,ds,k,rfl,hS,hT,hD,hrow,hA,q,qe⟩:=h;obtain⟨dx,r,e,hx,hR⟩:=id hS;obtain⟨dp,p,b,kk,t,o,hp,_⟩:=id hR;refine⟨_,(Ab (Bl (U0 bG hr.m (Gw rfl) (tpa (pv 1) (tpa (Fy aA hr.m (pv 0)) Aa)))) (Ae (An (Bg bH hr.m (tfl (pv 0)) (tpa (pv 1) Aa))))),?_⟩
 apply⟨x,dx,_,rfl,hx,rfl,?_⟩;apply⟨x,ls,rfl,hS,?_⟩;rw[hrow,Bh hD,nq _ (by decide:0<2)];apply⟨k,_,rfl,hA,λhin=>?_,λhb=>qe hb⟩;obtain⟨k,rfl,hk⟩:=rT hin;have hk:k<ds.length:=by lia
 apply⟨x,ae,dx,_,_,rfl,hx,ah.cl,ah.cf,rfl,?_⟩;apply⟨r,dp,_,rfl,hp,rfl,?_⟩;k_is;obtain⟨_,h1,h2⟩:=P4 hD hk;refine⟨r,ls,k,2*k-dAt ds k,rfl,hR,hT,by rw[hrow];exact h1,by rw[hrow];exact h2,λH1 s1=>?_⟩;exact q k rfl hk H1 s1
theorem Xf {ds:Za4}(h:Dok ds){k:Nat}(hk:k<ds.length):Tr (Aq ds) (2*k-dAt ds k) (Aq ds).length (hgt (Aq ds) (2*k-dAt ds k)) (some (2*k-dAt ds k+2*(C3 ds k).length+1+1)):=by
 obtain⟨A,B,h1,h2,h3,h4,h5,h6⟩:=Uy h hk;have hu:=Oi (Ig h hk);have hl:=congrArg k6 h2;have hlu:=Bh (Ig h hk);rw[d5,d5,hlu] at hl;have hg0:hgt (Aq ds) (2*k-dAt ds k)=dAt ds k:=h4;have hin:∀i,2*k-dAt ds k<i->i<2*k-dAt ds k+2*(C3 ds k).length+1+1->hgt (Aq ds) i≠dAt ds k:=λi i1 i2 he=>by
  have e5:=h5 (i-A.length) (by lia);rw[show A.length+(i-A.length)=i by lia] at e5;have e6:=hu.1 (i-A.length) (by lia);have he:hg (Aq ds) i=dAt ds k:=he;lia
 rw[hg0];have e6:hgt (Aq ds) (2*k-dAt ds k+2*(C3 ds k).length+1+1)=dAt ds k:=by
  have:=h6;rw[h1,show 2*k-dAt ds k+1+2*(C3 ds k).length+1=2*k-dAt ds k+2*(C3 ds k).length+1+1 by lia] at this;exact this
 refine⟨by lia,?_,e6,hin⟩;have hB:0<B.length:=by
  cases B with
  |cons b B=>exact Nat.succ_pos _
  |nil=>
   exfalso;rw[kq] at h2;have e7:=(Oi h).2;rw[show 2*ds.length=A.length+2*(C3 ds k).length by rw[<-Bh h,hl];rfl,h5 _ (d3 _),hu.2] at e7;lia
 lia
inductive Xw (C CR CS:dw)(ts:List Tb)(vs:List V)(H:Hp)(Q:VK)(E:XK):Prop|mk(x:dw)(ls:List (Za5))(ds:Za4)(k:Nat)(_:vs=[.ref x,.int k])(_:Cf C CR CS H x ls)(_:Tbs ts H)(_:Dok ds)(_:ls.flatten=Aq ds)(_:k<ds.length)(_:∀H',SmT ts H H'->Q (.int ((2*k-dAt ds k+2*(C3 ds k).length+1:Nat):Int)) H')
variable (ay:Te P w K mg base ae "opening" 5 ["self","k"] (Y9 K ac aa ae ai ts))
include T ah ay in
theorem Qw (F:Fun K "closing" "Openings.closing" Ew f fd)(bI:Mth P w K mg base aa "partner" 11 ["self","place"] (Ss ac aa ts)):Ay P w K mg base CX0 12 f fd ["self","k"] (Xw ac aa ae ts):=by
 exists F.ok Ma
 obtain⟨x,ls,ds,k,rfl,hS,hT,hD,hrow,hk,q⟩:=h;obtain⟨dx,r,e,hx,hR⟩:=id hS;obtain⟨dp,p,b,kk,t,o,hp,_⟩:=id hR;refine⟨_,(Ae (An (Bg bI hr.m (tfl (pv 0)) (tpa (N8 ay hr.m dU (pv 0) (tpa (pv 1) Aa)) Aa)))),?_⟩;apply⟨x,ae,dx,_,_,rfl,hx,ah.cl,ah.cf,rfl,?_⟩;apply⟨r,dp,_,rfl,hp,rfl,?_⟩;apply⟨x,dx,_,rfl,hx,rfl,?_⟩;apply⟨x,ls,ds,.int k,rfl,hS,hT,hD,hrow,B1 _,λj e hj H1 s1=>?_,λhb=>(hb.yes hk).elim⟩;obtain rfl:k=j:=by have:=V.int.inj e;lia
 k_is;obtain⟨_,h1,_⟩:=P4 hD hk;refine⟨r,ls,2*k-dAt ds k,2*k-dAt ds k+2*(C3 ds k).length+1,rfl,hR.kp s1.kp,s1.ok,by rw[hrow];exact h1,by rw[hrow];exact Xf hD hk,λH2 s2=>?_⟩;exact q H2 (s1.trans s2)
theorem Z6 (l:Za5){lo hi:Nat}(h:lo<=hi):lvl l lo hi=((et (hi-lo)).filter λi=>decide (hgt l (lo+i)=hgt l lo)).length:=by
 unfold lvl
 by_cases hlt:lo<hi
 ·rw[if_pos hlt,show hi-lo=hi-1-lo+1 by lia,ky,List.filter_cons,if_pos (by rw[kl];exact decide_eq_true rfl),fj,yo]
  congr 1;have:=eY l (hgt l lo) lo (hi-1-lo);rw[show lo+(hi-1-lo)=hi-1 by lia] at this;rw[<-this,List.filter_map,du];rfl
 ·rw[if_neg hlt,show hi-lo=0 by lia]
  rfl
theorem Ra {A B:Za5}{U:Za4}(hU:Dok U){t:Nat}(ht:t<=U.length):lvl (A++(Aq U++B)) A.length (A.length+2*t)=(B4 U t (-1)).length:=by
 have hl:=Bh hU;rw[Z6 _ (by lia),gy,<-rS hU ht];congr 1;refine List.filter_congr λi hi=>?_;have hi:=jn.mp hi;have e:hgt (A++(Aq U++B)) (A.length+i)=hgt (A++(Aq U++B)) A.length+hg (Aq U) i:=by
  have e1:=Oe (P:=A) (X:=Aq U++B) i;have e2:=Oe (P:=A) (X:=Aq U++B) 0;rw[kl,show hg (Aq U++B) 0=0 by unfold hg;simp] at e2;rw[Uq (P:=Aq U) (X:=B) (by lia)] at e1;show hg _ _=hg _ _+_;lia
 rw[e];exact decide_eq_decide.mpr (by lia)
inductive Zd (K:dn)(C CR CS CN:dw)(ts:List Tb)(vs:List V)(H:Hp)(Q:VK)(E:XK):Prop|mk(x:dw)(ls:List (Za5))(ds:Za4)(k:V)(_:vs=[.ref x,k])(_:Cf C CR CS H x ls)(_:Tbs ts H)(_:Dok ds)(_:ls.flatten=Aq ds)(_:Any K H k)(_:(∀j:Nat,k=.int j->j<ds.length->∀H',SmT ts H H'->Q (.int ((B4 ds ds.length j).length:Nat)) H'))(_:(NoK k ds.length->E (.ref CN) none H))
theorem kU {ds:Za4}(h:Dok ds){k:Nat}(hk:k<ds.length):(B4 (C3 ds k) (C3 ds k).length (-1)).length=(B4 ds ds.length k).length:=by
 obtain⟨a,b,_⟩:=Cm (ds:=ds) hk;have:=Sd h hk (C3 ds k).length (by rw[E8];exact d3 _);rw[this,E8,show k+1+(Cc ds k-(k+1))=Cc ds k by lia,<-X6 h hk]
variable (aT:Mth P w K mg base aa "many_level" 10 ["self","low","high"] (gN ac aa ts))
include T ah ay aT in
theorem Q6 (F:Fun K "many" "Openings.many" Gk f fd)(bJ:Mth P w K mg base ae "closing" 12 ["self","k"] (Xw ac aa ae ts)):Ay P w K mg base (CXE P w) 13 f fd ["self","k"] (Zd K ac aa ae ai ts):=by
 exists F.okE Os
 obtain⟨x,ls,ds,k,rfl,hS,hT,hD,hrow,hA,q,qe⟩:=h;obtain⟨dx,r,e,hx,hR⟩:=id hS;obtain⟨dp,p,b,kk,t,o,hp,_⟩:=id hR;refine⟨_,(Ae (An (Bg aT hr.m (tfl (pv 0)) (tpa (Al A0 (N8 ay hr.m (Gw rfl) (pv 0) (tpa (pv 1) Aa)) Ad) (tpa (Bg bJ hr.m (pv 0) (tpa (pv 1) Aa)) Aa))))),?_⟩;apply⟨x,ae,dx,_,_,rfl,hx,ah.cl,ah.cf,rfl,?_⟩;apply⟨r,dp,_,rfl,hp,rfl,?_⟩;apply⟨x,dx,_,rfl,hx,rfl,?_⟩;apply⟨x,ls,ds,k,rfl,hS,hT,hD,hrow,hA,λj e hk H1 s1=>?_,λhb=>qe hb⟩;subst e;have q:=q j rfl hk;obtain⟨k,rfl⟩:∃k,k=j:=⟨j,rfl⟩;apply⟨x,dx,_,rfl,s1.k hx,rfl,?_⟩;apply⟨x,ls,ds,k,rfl,hS.kp s1.kp,s1.ok,hD,hrow,hk,λH2 s2=>?_⟩;have s12:=s1.trans s2;k_is;obtain⟨A',B,h1,h2,_⟩:=Uy hD hk;have hnx:=(Xf hD hk).2.1;refine⟨r,ls,2*k-dAt ds k+1,2*k-dAt ds k+2*(C3 ds k).length+1,by rw[show((2*k-dAt ds k+1:Nat):Int)=((2*k-dAt ds k:Nat):Int)+1 by lia];rfl,hR.kp s12.kp,s12.ok,by rw[hrow];lia,λH3 s3=>?_⟩;rw[hrow]
 conv at q=>intro H' s;rw[<-kU hD hk,<-Ra (A:=A') (B:=B) (Ig hD hk) (d3 _),<-h2]
 rw[h1,show 2*k-dAt ds k+1+2*(C3 ds k).length=2*k-dAt ds k+2*(C3 ds k).length+1 by lia] at q;exact q H3 (s12.trans s3)
inductive nM (K:dn)(C CR CS CN:dw)(ts:List Tb)(vs:List V)(H:Hp)(Q:VK)(E:XK):Prop|mk(x:dw)(ls:List (Za5))(ds:Za4)(k i:V)(_:vs=[.ref x,k,i])(_:Cf C CR CS H x ls)(_:Tbs ts H)(_:Dok ds)(_:ls.flatten=Aq ds)(_:Any K H k)(_:NoK k ds.length)(_:E (.ref CN) none H)
variable (aU:Te P w K mg base ae "many" 13 ["self","k"] (Zd K ac aa ae ai ts))
include T ah aU in
theorem Wj (F:Fun K "nth" "Wood.nth" My f fd):Ay P w K mg base (CXE P w) 14 f fd ["self","k","i"] (nM K ac aa ae ai ts):=by
 exists F.okE Ph
 obtain⟨x,ls,ds,k,i,rfl,hS,hT,hD,hrow,hA,hb,qe⟩:=h;obtain⟨dx,r,e,hx,hR⟩:=id hS;refine⟨_,(Ab (tst 3 Ph.nd (N8 aU hr.m (Gw rfl) (pv 0) (tpa (pv 1) Aa))) (Ab Cl
  (Ae Cl))),?_⟩
 apply⟨x,dx,_,rfl,hx,rfl,?_⟩;k_is;exact⟨x,ls,ds,k,rfl,hS,hT,hD,hrow,hA,λj e hj=>absurd hj (by subst e;exact hb.yes),λ_=>qe⟩
inductive gX (C CR CS:dw)(ts:List Tb)(vs:List V)(H:Hp)(Q:VK)(E:XK):Prop|mk(x:dw)(ls:List (Za5))(ds:Za4)(_:vs=[.ref x])(_:Cf C CR CS H x ls)(_:Tbs ts H)(_:Dok ds)(_:ls.flatten=Aq ds)(_:∀H',SmT ts H H'->Q (.int ((B4 ds ds.length (-1)).length:Nat)) H')
theorem gO {U:Za4}(hU:Dok U){t:Nat}(ht:t<=U.length):lvl (Aq U) 0 (2*t)=(B4 U t (-1)).length:=by
 have:=Ra (A:=[]) (B:=[]) hU ht;rw[kq] at this;rw[show([]:Za5).length+2*t=2*t by simp] at this;exact this
include T ah aO aT in
theorem Qp (F:Fun K "many_tops" "Openings.many_tops" Dp f fd):Ay P w K mg base CX0 11 f fd ["self"] (gX ac aa ae ts):=by
 exists F.ok Kr
 obtain⟨x,ls,ds,rfl,hS,hT,hD,hrow,q⟩:=h;obtain⟨dx,r,e,hx,hR⟩:=id hS;obtain⟨dp,p,b,kk,t,o,hp,_⟩:=id hR;refine⟨_,(Ae (An (Bg aT hr.m (tfl (pv 0)) (tpa Ad (tpa (Fy aO hr.m (tfl (pv 0))) Aa))))),?_⟩;apply⟨x,ae,dx,_,_,rfl,hx,ah.cl,ah.cf,rfl,?_⟩;apply⟨r,dp,_,rfl,hp,rfl,?_⟩;apply⟨x,ae,dx,_,_,rfl,hx,ah.cl,ah.cf,rfl,?_⟩;apply⟨r,dp,_,rfl,hp,rfl,?_⟩;apply⟨r,ls,rfl,hR,?_⟩;apply⟨r,ls,0,ls.flatten.length,rfl,hR,hT,d3 _,λH1 s1=>?_⟩;rw[hrow,Bh hD,gO hD (d3 _)];exact q H1 s1
theorem yU (xs:List V)(m:Nat):L4 xs none (some (m:Int))=xs.take m:=by
 unfold L4;rw[HT.sIx_nat];show(xs.drop 0).take (min m xs.length-0)=_;rw[td,mz]
 by_cases h:m<=xs.length
 ·rw[iy h]
 ·rw[m8 (by lia),fm (d3 _),fm (by lia)]
theorem tH (xs:List V)(m:Nat):L4 xs (some (m:Int)) none=xs.drop m:=by
 unfold L4;rw[HT.sIx_nat]
 by_cases h:m<=xs.length
 ·rw[iy h]
  exact fm (by rw[ib];exact d3 _)
 ·rw[m8 (by lia),i6 (d3 _),i6 (by lia),xm]
theorem En.app {a b:List (Za5)}(ha:En a)(hb:En b):En (a++b):=λk x h=>by
 by_cases hk:k<a.length
 ·rw[fb hk] at h
  exact ha k x h
 ·rw[e9 (by lia)] at h
  exact hb _ x h
theorem En.take {a:List (Za5)}(ha:En a)(n:Nat):En (a.take n):=λk x h=>by
 have hk:=Bs h;rw[d9] at hk;rw[fe (by lia)] at h;exact ha k x h
theorem En.drop {a:List (Za5)}(ha:En a)(n:Nat):En (a.drop n):=λk x h=>by
 rw[kh] at h;exact ha _ x h
theorem Pcs.app {as bs:List dw}{ls ms:List (Za5)}(h1:Pcs C H as ls)(h2:Pcs C H bs ms):Pcs C H (as++bs) (ls++ms):=by
 refine⟨by rw[d5,d5,h1.1,h2.1],λk a x e1 e2=>?_⟩
 by_cases hk:k<as.length
 ·rw[fb hk] at e1
  rw[fb (by rw[<-h1.1];exact hk)] at e2;exact h1.2 k a x e1 e2
 ·rw[e9 (by lia)] at e1
  rw[e9 (by rw[<-h1.1];lia),<-h1.1] at e2;exact h2.2 _ a x e1 e2
theorem Pcs.take {as:List dw}{ls:List (Za5)}(h:Pcs C H as ls)(n:Nat):Pcs C H (as.take n) (ls.take n):=by
 refine⟨by rw[d9,d9,h.1],λk a x e1 e2=>?_⟩;have hk:=Bs e1;rw[d9] at hk;rw[fe (by lia)] at e1 e2;exact h.2 k a x e1 e2
theorem Pcs.drop {as:List dw}{ls:List (Za5)}(h:Pcs C H as ls)(n:Nat):Pcs C H (as.drop n) (ls.drop n):=by
 refine⟨by rw[ib,ib,h.1],λk a x e1 e2=>?_⟩;rw[kh] at e1 e2;exact h.2 _ a x e1 e2
def Vh (ls:List (Za5))(lo hi n f b:Nat):Prop:=∃f0 b0,f0<=ls.length/\bgn ls f0<=lo/\(f0<ls.length->lo<bgn ls (f0+1))/\b0<=ls.length/\(0<b0->bgn ls (b0-1)<hi)/\hi<=bgn ls b0 /\
 (f=f0/\b=b0/\64<=lo-bgn ls f0+(bgn ls b0-hi)+n\/f=f0-1/\b=min (b0+1) ls.length/\lo-bgn ls f0+(bgn ls b0-hi)+n<64)
def Ey (ls:List (Za5))(lo hi:Nat)(t:Za5)(f b:Nat):Za5:=(ls.flatten.drop (bgn ls f)).take (lo-bgn ls f)++(t++(ls.flatten.drop hi).take (bgn ls b-hi))
def E5 (ls:List (Za5))(lo hi:Nat)(t:Za5)(f b:Nat):List (Za5):=ls.take f++pcs (Ey ls lo hi t f b)++ls.drop b
theorem Vh.ok {ls:List (Za5)}{lo hi n f b:Nat}(h:Vh ls lo hi n f b):f<=ls.length/\b<=ls.length/\bgn ls f<=lo/\hi<=bgn ls b:=by
 obtain⟨f0,b0,h1,h2,h3,h4,h5,h6,h7⟩:=h;rcases h7 with⟨rfl,rfl,_⟩|⟨rfl,rfl,_⟩
 ·exact⟨h1,h4,h2,h6⟩
 ·have m1:=Em (ls:=ls) (show f0-1<=f0 by lia)
  have m2:=Em (ls:=ls) (show b0<=min (b0+1) ls.length by lia);exact⟨by lia,by lia,by lia,by lia⟩
theorem mQ {ls:List (Za5)}{lo hi f b:Nat}{t:Za5}(h1:bgn ls f<=lo)(h2:hi<=bgn ls b):(E5 ls lo hi t f b).flatten=ls.flatten.take lo++(t++ls.flatten.drop hi):=by
 unfold E5 Ey;rw[jc,jc,Bw,Ox,Lw];have e1:ls.flatten.take (bgn ls f)++(ls.flatten.drop (bgn ls f)).take (lo-bgn ls f)=ls.flatten.take lo:=by
  rw[<-pi,lw h1]
 have e2:(ls.flatten.drop hi).take (bgn ls b-hi)++ls.flatten.drop (bgn ls b)=ls.flatten.drop hi:=by
  have:=jv (bgn ls b-hi) (ls.flatten.drop hi);rw[wo,lw h2] at this;exact this
 rw[<-e1];simp only[gj];rw[e2]
theorem fL {ls:List (Za5)}{lo hi f b:Nat}{t:Za5}:(Ey ls lo hi t f b).length<=lo+t.length+(ls.flatten.length-hi):=by
 unfold Ey;simp only[d5,d9,ib];lia
theorem eM {ls:List (Za5)}{lo hi f b:Nat}{t:Za5}(hl:lo<=hi)(hh:hi<=ls.flatten.length)(hn:ls.flatten.length+t.length<=20000)(h2:ls.length<=100):(E5 ls lo hi t f b).length<=400:=by
 unfold E5;have:=fL (ls:=ls) (lo:=lo) (hi:=hi) (f:=f) (b:=b) (t:=t);simp only[d5,Dm,d9,ib];unfold pcM;lia
theorem Ti {ls:List (Za5)}(h:En ls){lo hi f b:Nat}{t:Za5}:En (E5 ls lo hi t f b):=((h.take f).app (Lh _)).app (h.drop b)
inductive gT (C CR:dw)(ts:List Tb)(vs:List V)(H:Hp)(Q:VK)(E:XK):Prop|mk(x:dw)(ls:List (Za5))(lo hi:Nat)(t:Za5)(_:vs=[.ref x,.int lo,.int hi,.str (Ar t)])(_:Bd C CR H x ls)(_:Tbs ts H)(_:lo<=hi)(_:hi<=ls.flatten.length)(_:ls.flatten.length+t.length<=20000)(_:ls.length<=100)(_:∀(r p f b:Nat) H0 H',Vh ls lo hi t.length f b->SmT ts H H0->Ah H0 H'->H0 r=none->H p=none->H0 p≠none->Bd C CR H' r (E5 ls lo hi t f b)->Fr4 CR H0 H' r p->Q (.ref r) H')
variable (aV:Cal P w K mg base "pieces_of" 5 ["text"] (Sb ac)) (aW:Mkr P w K mg base "PiecedRow" aa 2 ["self","pieces"] (W1 ac aa))
include T ad ar aP au aV aW in
theorem Qr (F:Fun K "replaced" "PiecedRow.replaced" Dq f fd):Ay P w K mg base CX0 6 f fd ["self","low","high","text"] (gT ac aa ts):=by
 exists F.ok Bb
 obtain⟨x,ls,lo,hi,t,rfl,hR,hT,hlh,hhi,hsz,hfw,q⟩:=h;obtain⟨dx,p,b,k,tt,o,hx,hW,hTb⟩:=id hR;obtain⟨as,hp,hP⟩:=id hW.pcs;have hal:(as.map V.ref).length=ls.length:=by rw[du,hP.1]
 refine⟨_,(Ab (tst 4 Bb.nd (Bg ar hr.m (pv 0) (tpa (pv 1) Aa))) (Ab (tst 5 Bb.nd (Bg aP hr.m (pv 0) (tpa (pv 2) Aa))) (Ab (tst 6 Bb.nd (Al C5 (Al A0 (Al C5 (pv 1) (tix Az (tfl (pv 0)) (pv 4))) (tix Az (tfl (pv 0)) (pv 5))) (pv 2))) (Ab (Ot (ttc Mh (Al A0 (pv 6) (Ao Ca (by rfl) T.bZ Cd (tpa (pv 3) Aa))) (Ho rfl T.cy)) (Ab (tst 4 Bb.nd (Ao (iY rfl) (by rfl) T.cW uL (tpa (Al C5 (pv 4) Ad) (tpa Ad Aa)))) (Ae (tst 5 Bb.nd (Ao (jD rfl) (by rfl) T.cQ pZ (tpa (Al A0 (pv 5) Ad) (tpa (Ao Av (by rfl) T.bZ Cd (tpa (tfl (pv 0)) Aa)) Aa))))))
  At) (Ab (tst 7 Bb.nd (Al Hl (Al Hl (Bg au hr.m (pv 0) (tpa (tix Az (tfl (pv 0)) (pv 4)) (tpa (pv 1) Aa))) (pv 3)) (Bg au hr.m (pv 0) (tpa (pv 2) (tpa (tix Az (tfl (pv 0)) (pv 5)) Aa))))) (Ae (An (pL aW hr.m (tpa (Al Hm (Al Hm (G9 Nc (tfl (pv 0)) Ve (E7 (pv 4))) (A4 aV hr.m (tpa (pv 7) Aa))) (G9 Nc (tfl (pv 0)) (E7 (pv 5)) Ve)) Aa))))))))),?_⟩
 apply⟨x,dx,_,rfl,hx,rfl,?_⟩;apply⟨x,ls,lo,rfl,hR,hT,λk1 H1 hk1 ha1 hb1 s1=>?_⟩;apply⟨x,dx,_,rfl,s1.k hx,rfl,?_⟩;apply⟨x,ls,hi,rfl,hR.kp s1.kp,s1.ok,λk2 H2 hk2 ha2 hb2 s2=>?_⟩;have s12:=s1.trans s2;have hend:hi<=bgn ls k2:=by
  by_cases h:k2<ls.length
  ·exact hb2 h
  ·rw[show k2=ls.length by lia,Gq];exact hhi
 apply⟨x,aa,dx,_,_,rfl,s12.k hx,ad.cl,ad.b8,rfl,?_⟩;apply Bk (SqL.of (s12.k hW.bg)) (v:=.int (bgn ls k1:Nat)) (Bf (j:=k1) (Ha hk1)) ?_;apply⟨x,aa,dx,_,_,rfl,s12.k hx,ad.cl,ad.b8,rfl,?_⟩;apply Bk (SqL.of (s12.k hW.bg)) (v:=.int (bgn ls k2:Nat)) (Bf (j:=k2) (Ha hk2)) ?_;apply Uo (λG H3=>(∃(f b:Nat) (v:Option V),G=[some (.ref x),some (.int (lo:Nat)),some (.int (hi:Nat)),some (.str (Ar t)),some (.int (f:Nat)),some (.int (b:Nat)),v,none]/\Vh ls lo hi t.length f b)/\H3=H2) ?_ ?_
 ·apply⟨_,rfl,fk (Ag (by rw[Au];lia)),?_⟩;rw[Au];apply B5 (λh=>?_) (λh=>?_)
  ·apply⟨_,_,rfl,?_⟩;apply⟨x,aa,dx,_,_,rfl,s12.k hx,ad.cl,ad.cj,rfl,?_⟩;apply⟨p,_,rfl,.inl (SqL.of (s12.k hp)),?_⟩;rw[hal];apply⟨_,_,rfl,?_⟩;have e1:(if((k1:Int)-1)<0 then(0:Int) else(k1:Int)-1)=((k1-1:Nat):Int):=by split<;>lia
   have e2:(if(ls.length:Int)<(k2:Int)+1 then(ls.length:Int) else(k2:Int)+1)=((min (k2+1) ls.length:Nat):Int):=by split<;>lia
   rw[e1,e2];k_is;exact⟨⟨_,_,_,rfl,k1,k2,hk1,ha1,hb1,hk2,ha2,hend,.inr ⟨rfl,rfl,by lia⟩⟩,rfl⟩
  ·k_is
   exact⟨⟨_,_,_,rfl,k1,k2,hk1,ha1,hb1,hk2,ha2,hend,.inl ⟨rfl,rfl,by lia⟩⟩,rfl⟩
 ·rintro G H3 ⟨⟨f,b2,v,rfl,hN⟩,rfl⟩
  obtain⟨n1,n2,n3,n4⟩:=hN.ok;apply⟨x,dx,_,rfl,s12.k hx,rfl,?_⟩;apply⟨x,aa,dx,_,_,rfl,s12.k hx,ad.cl,ad.b8,rfl,?_⟩;apply Bk (SqL.of (s12.k hW.bg)) (v:=.int (bgn ls f:Nat)) (Bf (j:=f) (Ha n1)) ?_;apply⟨x,ls,bgn ls f,lo,rfl,hR.kp s12.kp,s12.ok,n3,by lia,λH4 s4=>?_⟩;have s14:=s12.trans s4;have hmid:=fL (ls:=ls) (lo:=lo) (hi:=hi) (f:=f) (b:=b2) (t:=t);apply⟨_,_,rfl,rfl,?_,?_⟩
  ·simp only[Au,d9,ib]
   exact fk (Ag (by lia))
  apply⟨x,dx,_,rfl,s14.k hx,rfl,?_⟩;apply⟨x,aa,dx,_,_,rfl,s14.k hx,ad.cl,ad.b8,rfl,?_⟩;apply Bk (SqL.of (s14.k hW.bg)) (v:=.int (bgn ls b2:Nat)) (Bf (j:=b2) (Ha n2)) ?_;apply⟨x,ls,hi,bgn ls b2,rfl,hR.kp s14.kp,s14.ok,n4,dF _ _,λH5 s5=>?_⟩;have s15:=s14.trans s5;k_is;rw[E9];refine⟨_,_,rfl,rfl,?_,?_⟩
  ·simp only[Au,d5,d9,ib]
   exact fk (Ag (by lia))
  rw[E9,gj];apply⟨x,aa,dx,_,_,rfl,s15.k hx,ad.cl,ad.cj,rfl,?_⟩;apply⟨p,_,rfl,SqL.of (s15.k hp),λD1 hD1=>?_⟩;rw[yU,<-ng] at *;obtain⟨u1,e1⟩:=As (o:=.lst ((as.take f).map V.ref)) hD1;have s16:=s15.then u1;generalize upd H5 D1 _=H6 at *;apply⟨Ey ls lo hi t f b2,rfl,by lia,λp7 bs H7 s7 hp70 hp7 hP7=>?_⟩;have s17:=s16.then s7;have e17:=s7 _ _ e1;k_is;have hml:bs.length<=200:=by
   rw[hP7.1,Dm];unfold pcM;lia
  refine⟨D1,p7,_,_,rfl,rfl,e17,hp7,fk (Ag (by rw[du,du,d9,hP.1];lia)),λD2 hD2=>?_⟩;rw[<-eh] at *;obtain⟨u2,e2⟩:=As (o:=.lst ((as.take f++bs).map V.ref)) hD2;have hP72:=hP7.kp (Ah.kp u2);have s18:=s17.then u2;generalize upd H7 D2 _=H8 at *;apply⟨x,aa,dx,_,_,rfl,s18.k hx,ad.cl,ad.cj,rfl,?_⟩;apply⟨p,_,rfl,SqL.of (s18.k hp),λD3 hD3=>?_⟩;rw[tH,<-xn] at *;obtain⟨u3,e3⟩:=As (o:=.lst ((as.drop b2).map V.ref)) hD3;have e23:=u3 _ _ e2;have hP73:=hP72.kp (Ah.kp u3);have s19:=s18.then u3;generalize upd H8 D3 _=H9 at *;apply⟨D2,D3,_,_,rfl,rfl,e23,e3,fk (Ag (by rw[du,du,d5,d9,ib,hP.1];lia)),λD4 hD4=>?_⟩;rw[<-eh] at *;obtain⟨u4,e4⟩:=As (o:=.lst ((as.take f++bs++as.drop b2).map V.ref)) hD4;have hP74:=hP73.kp (Ah.kp u4);have s20:=s19.then u4;have hD40:=s19.sm.free hD4;generalize upd H9 D4 _=H10 at *;have hPn:Pcs ac H10 (as.take f++bs++as.drop b2) (E5 ls lo hi t f b2):=((((hP.kp s20.kp).take f).app hP74).app ((hP.kp s20.kp).drop b2));k_is;intro r dr hr0 hdr hrd;have sN:Ah H10 (upd (upd H10 dr (.own r)) r (.ins aa dr [])):=Jo hr0 hdr;refine⟨r,dr,D4,_,_,rfl,Ac,sN _ _ e4,hPn.kp (Ah.kp sN),Ti hW.sz,eM hlh hhi hsz hfw,λH11 s11 hR11 hF11=>⟨rfl,?_⟩⟩;refine q r D4 f b2 H10 H11 hN s20 (Gz hr0 hdr s11) hr0 hD40 (by rw[e4];intro z;cases z) hR11 ?_;obtain⟨dr',b',k',t',o',n',g0,g1,g2,g3,g4⟩:=hF11;exact⟨dr',b',k',t',o',n',g0,sN.free g1,sN.free g2,sN.free g3,sN.free g4⟩
theorem Bd.but {CR x r:dw}{ls:List (Za5)}{fs:List (Str×V)}(h:Bd C CR H r ls)(s:SameBut x H H')(hx:H x=some (.ins CS dx fs))(hf:fs.length<4):Bd C CR H' r ls:=by
 obtain⟨d,p,b,k,t,o,h1,⟨⟨as,hp,hP⟩,hb,hz,hn⟩,hT⟩:=h;refine⟨d,p,b,k,t,o,s _ _ (λe=>?_) h1,⟨⟨as,s _ _ (λe=>?_) hp,hP.but s hx λa ha e=>?_⟩,s _ _ (λe=>?_) hb,hz,hn⟩,hT.keep λb xs=>⟨λe=>s _ _ (Pi e hx (by intro z;cases z)) e,λe=>s _ _ (Pi e hx (by intro z;cases z)) e⟩⟩
 ·rw[e,hx] at h1
  cases h1;exact absurd hf (by show ¬ 6<4;decide)
 ·rw[e,hx] at hp
  cases hp
 ·obtain⟨k,hk⟩:=km ha
  have hk1:=(fc.mp hk).1;obtain⟨d,t,m,g,o,h1,_⟩:=hP.2 k a _ hk (dq (by rw[<-hP.1];exact hk1));rw[e,hx] at h1;cases h1;exact absurd hf (by show ¬ 4<4;decide)
 ·rw[e,hx] at hb
  cases hb
def hide (e:dw)(H:Hp):Hp:=λb=>if b=e then none else H b
theorem B8 {e b:dw}(h:b≠e):hide e H b=H b:=if_neg h
theorem Wt {e:dw}:Kp (hide e H) H:=λb u n h=>by
 unfold hide at h;split at h
 ·cases h
 ·exact h
theorem nA {e:dw}{o:HO}:hide e (upd H e o)=hide e H:=by
 funext b
 unfold hide;split
 ·rfl
 ·rename_i hb
  exact Aj hb
theorem rH {e:dw}(k:Kp H H')(h:H e=none):Kp H (hide e H'):=λb u n hb=>by
 rw[B8 (Am hb h)];exact k b u n hb
theorem Jy {e b:dw}{u:HO}(h:hide e H b=some u):b≠e/\H b=some u:=by
 unfold hide at h;split at h
 ·cases h
 ·rename_i hb
  exact⟨hb,h⟩
theorem Ll {e:dw}(k:Kp H H'):Kp (hide e H) (hide e H'):=λb u n hb=>by
 obtain⟨h1,h2⟩:=Jy hb;rw[B8 h1];exact k b u n h2
theorem Ec {e x:dw}(s:SameBut x H H'):SameBut x (hide e H) (hide e H'):=λb u hb h=>by
 obtain⟨h1,h2⟩:=Jy h;rw[B8 h1];exact s b u hb h2
theorem Bd.hide {CR x e p:dw}{H0:Hp}{ls:List (Za5)}{zs:List V}(h:Bd C CR H' x ls)(hF:Fr4 CR H0 H' x p)(he0:H0 e≠none)(hep:p≠e)(he:H' e=some (.lst zs)):Bd C CR (TK.hide e H') x ls:=by
 obtain⟨dx,p',b',k',t',o',h1,⟨⟨as,hp,hP⟩,hb,hz,hn⟩,hT⟩:=h;obtain⟨dr,b,k,t,o,n,g0,g1,g2,g3,g4⟩:=hF;rw[g0] at h1;have e1:=d0 h1;unfold Z9 at e1;simp only[HO.ins.injEq,um,qj,V.ref.injEq,true_and,and_true] at e1;obtain⟨rfl,rfl,rfl,rfl,rfl,rfl,rfl⟩:=e1;have nb:∀{c:dw},H0 c=none->c≠e:=λ{c} hc z=>he0 (z▸hc);have kk:∀{c:dw} {u:HO},(∀ys,u≠.lst ys)->H' c=some u->TK.hide e H' c=some u:=λ{c u} nu hc=>by
  rw[B8 (λz=>by rw[z,he] at hc;exact nu _ (d0 hc).symm)];exact hc
 refine⟨dr,p,b,_,_,_,kk (by intro ys z;cases z) g0,⟨⟨as,by rw[B8 hep];exact hp,hP.1,λj a y e1 e2=>?_⟩,by rw[B8 (nb g1)];exact hb,hz,hn⟩,?_,?_,?_⟩
 ·obtain⟨d,t,m,g,o,y1,y2,y3⟩:=hP.2 j a y e1 e2
  exact⟨d,t,m,g,o,kk (by intro ys z;cases z) y1,kk (by intro ys z;cases z) y2,y3⟩
 ·obtain⟨a,e1,e2⟩:=hT.kn
  obtain rfl:=V.ref.inj e1;exact⟨k,rfl,by rw[B8 (nb g2)];exact e2⟩
 ·obtain⟨a,rs,e1,e2,e3,e4⟩:=hT.tb
  obtain rfl:=V.ref.inj e1;exact⟨t,rs,rfl,by rw[B8 (nb g3)];exact e2,e3,λj r er x' ex=>let ⟨m,g,r1,r2⟩:=e4 j r er x' ex;⟨m,g,kk (by intro ys z;cases z) r1,r2⟩⟩
 ·obtain⟨a,os,e1,e2,e3⟩:=hT.ol
  obtain rfl:=V.ref.inj e1;exact⟨o,os,rfl,by rw[B8 (nb g4)];exact e2,e3⟩
def Ut (C:dw)(H:Hp)(p:dw)(ls:List (Za5)):Prop:=(∃as:List dw,H p=some (.lst (as.map V.ref))/\Pcs C H as ls)/\En ls/\ls.length<=400
theorem Ut.kp {p:dw}{ls:List (Za5)}(h:Ut C H p ls)(k:Kp H H'):Ut C H' p ls:=⟨let ⟨as,h1,h2⟩:=h.1;⟨as,k.k h1,h2.kp k⟩,h.2⟩
theorem Ut.but {p x:dw}{ls:List (Za5)}{fs:List (Str×V)}(h:Ut C H p ls)(s:SameBut x H H')(hx:H x=some (.ins CS dx fs))(hf:fs.length<4):Ut C H' p ls:=by
 obtain⟨⟨as,hp,hP⟩,h2⟩:=h;refine⟨⟨as,s _ _ (Pi hp hx (by intro z;cases z)) hp,hP.but s hx λa ha e=>?_⟩,h2⟩;obtain⟨k,hk⟩:=km ha;have hk1:=(fc.mp hk).1;obtain⟨d,t,m,g,o,h1,_⟩:=hP.2 k a _ hk (dq (by rw[<-hP.1];exact hk1));rw[e,hx] at h1;cases h1;exact absurd hf (by show ¬ 4<4;decide)
def xX (C:dw)(H:Hp)(ps:List dw)(prs:List (List (Za5))):Prop:=ps.length=prs.length/\∀(i:Nat) p ls,ps[i]?=some p->prs[i]?=some ls->Ut C H p ls
structure Gd (C CR CS:dw) (H:Hp) (x e:dw) (ls:List (Za5)) (prs:List (List (Za5))):Prop where
 hx:∃dx r,H x=some (.ins CS dx (Pr (.ref r) (.ref e)))/\Bd C CR (hide e H) r ls
 he:∃ps:List dw,H e=some (.lst (ps.map V.ref))/\xX C (hide e H) ps prs
theorem Gd.sh {CR x e:dw}{ls:List (Za5)}{prs:List (List (Za5))}(h:Gd C CR CS H x e ls prs):Cf C CR CS H x ls:=let ⟨dx,r,h1,h2⟩:=h.hx;⟨dx,r,_,h1,h2.kp Wt⟩
theorem Gd.kp {CR x e:dw}{ls:List (Za5)}{prs:List (List (Za5))}(h:Gd C CR CS H x e ls prs)(k:Kp H H'):Gd C CR CS H' x e ls prs:=by
 obtain⟨⟨dx,r,h1,h2⟩,⟨ps,h3,h4⟩⟩:=h;exact⟨⟨dx,r,k.k h1,h2.kp (Ll k)⟩,⟨ps,k.k h3,h4.1,λi p ls e1 e2=>(h4.2 i p ls e1 e2).kp (Ll k)⟩⟩
structure SmE (ts:List Tb) (x e:dw) (H H':Hp):Prop where
 keep:∀b u,b≠x->b≠e->(∀ps,u≠HO.tbl ps)->H b=some u->H' b=some u
 fr:∀b,H' b=none->H b=none
 ok:Tbs ts H'
theorem SmE.of {x e:dw}(s:SmT ts H H'):SmE ts x e H H':=⟨λb u _ _ n h=>s.k h n,λb h=>s.sm.free h,s.ok⟩
theorem SmE.trans {x e:dw}(a:SmE ts x e H H1)(b:SmE ts x e H1 H2):SmE ts x e H H2:=⟨λc u n1 n2 n h=>b.keep c u n1 n2 n (a.keep c u n1 n2 n h),λc h=>a.fr c (b.fr c h),b.ok⟩
inductive W6 (K:dn)(C CR CS CW:dw)(vs:List V)(H:Hp)(Q:VK)(E:XK):Prop|mk(x dx:dw)(v:V)(o:Option (List V))(_:vs=[.ref x,v])(_:H x=some (.ins CS dx []))(_:ThA K H v o)(_:(∀ds,Ia o ds->∀e H',SameBut x H H'->Gd C CR CS H' x e (pcs (Aq ds)) []->H e=none->Q .non H'))(_:Zq CW H E o)
variable (aX:mM P w K mg base "row_of" 4 ["elders"] (pP K ag))
include T ah aV aW aX in
theorem Wg (F:Fun K "__init__" "Shaped.__init__" Ix f fd)(Q8:rO P w K mg base "Openings" "__init__" 1 ["self","pairs"] (Yk ae)):Ay P w K mg base (CXE P w) 6 f fd ["self","elders"] (W6 K ac aa ae ag):=by
 exists F.okE R1
 obtain⟨x,dx,v,o,rfl,hx,hTh,q,qe⟩:=h;refine⟨_,(Ab (Bl (tO Q8 hr.m rfl (tpa (pv 0) (tpa (pL aW hr.m (tpa (A4 aV hr.m (tpa (U0 aX hr.m (Gw rfl) (tpa (pv 1) Aa)) Aa)) Aa)) Aa)))) (Ae (tsf (pv 0) (Ap Aa)))),?_⟩
 apply⟨v,o,rfl,hTh,λds hG H1 s1=>?_,qe⟩;have q:=q ds hG;obtain⟨hD,hn,_⟩:=hG.ok;have hrl:=Bh hD;apply⟨Aq ds,rfl,by lia,λp as H2 s2 hp0 hp hP=>?_⟩;have s12:=s1.trans s2;have hx2:=s12 _ _ hx;k_is;intro r dr hr0 hdr hrd;have sN:Ah H2 (upd (upd H2 dr (.own r)) r (.ins aa dr [])):=Jo hr0 hdr;refine⟨r,dr,p,as,_,rfl,Ac,sN _ _ hp,hP.kp (Ah.kp sN),Lh _,?_,λH3 s3 hR3 _=>⟨rfl,?_⟩⟩
 ·rw[Dm]
  unfold pcM;lia
 have s13:=s12.trans (Gz hr0 hdr s3);have hx3:=s13 _ _ hx;apply⟨x,dx,.ref r,rfl,hx3,?_⟩;have b4:SameBut x H3 (upd H3 x (.ins ae dx [("pairs",.ref r)])):=Cb;have hR4:=hR3.but b4 hx3 (by decide);have hx4:=@Ac H3 x (.ins ae dx [("pairs",.ref r)]);have but4:=s13.but.trans b4;generalize upd H3 x _=H4 at *;apply⟨fg _,λe he=>?_⟩;obtain⟨s5,e5⟩:=As (o:=.lst []) he;have hR5:=hR4.kp (rH (Ah.kp s5) he);have hx5:=s5 _ _ hx4;have but5:=but4.trans s5.but;have hxe:x≠e:=Am hx4 he;generalize upd H4 e _=H5 at *;apply Dx hx5 ah.cl ah.cP (show 1<1000 by decide) ?_;rw[show C4 ("earlier":Str) (V.ref e) [("pairs",.ref r)]=Pr (.ref r) (.ref e) from rfl];have b6:SameBut x H5 (upd H5 x (.ins ae dx (Pr (.ref r) (.ref e)))):=Cb;refine q e _ (but5.trans b6) ⟨⟨dx,r,Ac,hR5.but (Ec b6) (by rw[B8 hxe];exact hx5) (by show 1<4;decide)⟩,⟨[],b6 _ _ hxe.symm e5,rfl,λi p ls e1=>by cases e1⟩⟩ (Kv but4 hxe.symm he)
inductive T3 (C CR CS:dw)(vs:List V)(H:Hp)(Q:VK)(E:XK):Prop|mk(x:dw)(ls:List (Za5))(_:vs=[.ref x])(_:Cf C CR CS H x ls)(_:∀p H',Ah H H'->H p=none->H' p=some (.lst (ls.map λl=>.str (Ar l)))->Q (.ref p) H')
include T ah Y in
theorem Q7 (F:Fun K "pieces" "Shaped.pieces" Eo f fd)(W:Qa K aa):Ay P w K mg base CX0 1 f fd ["self"] (T3 ac aa ae):=by
 exists F.ok N7
 obtain⟨x,ls,rfl,⟨dx,r,e,hx,hR⟩,q⟩:=h;obtain⟨dp,p,b,k,t,o,hr2,hW,_⟩:=id hR;obtain⟨as,hp,hP⟩:=id hW.pcs;have hfw:=hW.fw;refine⟨_,(Ae (An (K0 rfl Mt (Ct (tfl (tfl (pv 0)))) (λ_ _ _ _=>F6) (λ_ _ _ _=>(F3 K (pv 0)))))),?_⟩;apply⟨x,ae,dx,_,_,rfl,hx,ah.cl,ah.cf,rfl,?_⟩;apply⟨r,aa,dp,_,_,rfl,hr2,W.cl,W.cj,rfl,?_⟩;apply⟨p,rfl,⟨_,SqL.of hp⟩,?_⟩;refine Ie (SqL.of hp) (λi=>(ls.take i).map λl=>V.str (Ar l)) rfl (λi hi=>?_) (λi v H1 R A hv s1 _ hA=>?_) (λD H1 hD s1 h1=>?_)
 ·rw[du,d9]
  exact Ag (by lia)
 ·obtain⟨a,y,rfl,ea,ey,hy⟩:=hP.get hv
  obtain⟨d,t,m,g,o,y1,y2,y3⟩:=hy;apply⟨a,ac,d,_,_,rfl,s1 _ _ y1,Y.cl,Y.cI,rfl,?_⟩;refine hA _ _ ?_ (Ah.refl _);rw[ip,ey,eh];rfl
 ·rw[du,hP.1,lx] at h1
  exact q D H1 s1 hD h1
def ShA (C CR CS:dw)(H H':Hp)(x e:dw)(ls ls':List (Za5))(prs:List (List (Za5))):Prop:=∀c zs,c≠e->H c=some (.lst zs)->Gd C CR CS (hide c H) x e ls prs->Gd C CR CS (hide c H') x e ls' (prs++[ls])
theorem Oh {a b:dw}:hide a (hide b H)=hide b (hide a H):=by
 funext c
 unfold hide
 by_cases h1:c=a
 ·by_cases h2:c=b
  ·rw[if_pos h1,if_pos h2]
  ·rw[if_pos h1,if_neg h2,if_pos h1]
 ·by_cases h2:c=b
  ·rw[if_neg h1,if_pos h2,if_pos h2]
  ·rw[if_neg h1,if_neg h2,if_neg h2,if_neg h1]
inductive gB (C CR CS:dw)(ts:List Tb)(vs:List V)(H:Hp)(Q:VK)(E:XK):Prop|mk(x e:dw)(ls:List (Za5))(prs:List (List (Za5)))(lo hi:Nat)(t:Za5)(_:vs=[.ref x,.int lo,.int hi,.str (Ar t)])(_:Gd C CR CS H x e ls prs)(_:Tbs ts H)(_:lo<=hi)(_:hi<=ls.flatten.length)(_:ls.flatten.length+t.length<=20000)(_:ls.length<=100)(_:prs.length<=1000)(_:∀f b H',Vh ls lo hi t.length f b->Gd C CR CS H' x e (E5 ls lo hi t f b) (prs++[ls])->SmE ts x e H H'->ShA C CR CS H H' x e ls (E5 ls lo hi t f b) prs->Q .non H')
include T ah in
theorem Qi (F:Fun K "replace_signs" "Shaped.replace_signs" De f fd)(Y:Qa K aa)(bK:Mth P w K mg base aa "replaced" 6 ["self","low","high","text"] (gT ac aa ts)):Ay P w K mg base CX0 7 f fd ["self","low","high","text"] (gB ac aa ae ts):=by
 exists F.ok Jg
 obtain⟨x,e,ls,prs,lo,hi,t,rfl,hS,hT,h1,h2,h3,h4,h5,q⟩:=h;obtain⟨⟨dx,r,hx,hR⟩,⟨ps,he,hH⟩⟩:=id hS;obtain⟨dp,p,b,kk,tt,o,hp,hW,_⟩:=id hR;obtain⟨hpe,hp'⟩:=Jy hp;refine⟨_,(Ab (Bl (Dz fv gp gn Bt (tfl (pv 0)) (tpa (tfl (tfl (pv 0))) Aa))) (Ae (tsf (pv 0) (Bg bK hr.m (tfl (pv 0)) (tpa (pv 1) (tpa (pv 2) (tpa (pv 3) Aa))))))),?_⟩
 apply⟨x,ae,dx,_,.ref e,rfl,hx,ah.cl,ah.cP,rfl,?_⟩;apply⟨.inl ⟨rfl,_,SqL.of he⟩,?_⟩;apply⟨x,ae,dx,_,.ref r,rfl,hx,ah.cl,ah.cf,rfl,?_⟩;apply⟨r,aa,dp,_,.ref p,rfl,hp',Y.cl,Y.cj,rfl,?_⟩;apply Bv he (Ag (by rw[du,hH.1];lia)) ?_;have hxe:x≠e:=Pi hx he (by intro z;cases z);have hT1:Tbs ts (upd H e (.lst (ps.map V.ref++[V.ref p]))):=hT.keepN he;have hid:hide e (upd H e (.lst (ps.map V.ref++[V.ref p])))=hide e H:=nA;have hx1:upd H e (.lst (ps.map V.ref++[V.ref p])) x=some (.ins ae dx (Pr (.ref r) (.ref e))):=by rw[Aj hxe];exact hx
 have he1:upd H e (.lst (ps.map V.ref++[V.ref p])) e=some (.lst ((ps++[p]).map V.ref)):=by rw[Ac,eh];rfl
 have kp1:∀b u,b≠e->H b=some u->upd H e (.lst (ps.map V.ref++[V.ref p])) b=some u:=λb u hb hu=>by rw[Aj hb];exact hu
 have fr1:∀b,upd H e (.lst (ps.map V.ref++[V.ref p])) b=none->H b=none:=λb hb=>by
  rw[Aj (λz=>by rw[z,Ac] at hb;cases hb)] at hb;exact hb
 generalize upd H e _=H1 at *;have hR1:Bd ac aa (hide e H1) r ls:=by rw[hid];exact hR
 have hp1:H1 r=some (.ins aa dp _):=(Jy (by rw[hid];exact hp)).2;apply⟨x,ae,dx,_,.ref r,rfl,hx1,ah.cl,ah.cf,rfl,?_⟩;apply⟨r,dp,_,rfl,hp1,rfl,?_⟩;apply⟨r,ls,lo,hi,t,rfl,hR1.kp Wt,hT1,h1,h2,h3,h4,λr' p' f b H0 H' hN s0 s0' hr0 hp0 hp0' hR' hF'=>?_⟩;have s2:=s0.then s0';have hx2:=s2.k hx1;have he2:=s2.k he1;apply Dx hx2 ah.cl ah.cf (show 2<1000 by decide) ?_;rw[show C4 ("pairs":Str) (V.ref r') (Pr (.ref r) (.ref e))=Pr (.ref r') (.ref e) from rfl];have b3:SameBut x H' (upd H' x (.ins ae dx (Pr (.ref r') (.ref e)))):=Cb;have hhx:hide e H' x=some (.ins ae dx (Pr (.ref r) (.ref e))):=by rw[B8 hxe];exact hx2
 have kk':Kp (hide e H) (hide e H'):=by rw[<-hid];exact Ll s2.kp
 have hhist:xX ac (hide e (upd H' x (.ins ae dx (Pr (.ref r') (.ref e))))) (ps++[p]) (prs++[ls]):=by
  refine⟨by rw[d5,d5,hH.1];rfl,λi a ms e1 e2=>?_⟩
  by_cases hi:i<ps.length
  ·rw[fb hi] at e1
   rw[fb (by rw[<-hH.1];exact hi)] at e2;exact((hH.2 i a ms e1 e2).kp kk').but (Ec b3) hhx (by show 2<4;decide)
  ·rw[e9 (by lia)] at e1
   rw[e9 (by rw[<-hH.1];lia),<-hH.1] at e2;have hi0:i-ps.length=0:=by
    have:=Bs e1;simp at this;lia
   rw[hi0] at e1 e2;obtain rfl:p=a:=d0 e1;obtain rfl:ls=ms:=d0 e2;have hl:Ut ac (hide e H) p ls:=⟨hW.pcs,hW.sz,hW.fw⟩;exact(hl.kp kk').but (Ec b3) hhx (by show 2<4;decide)
 have hRh:=hR'.hide hF' (by rw[s0.k he1];intro z;cases z) (Am he1 hp0).symm he2;refine q f b _ hN ⟨⟨dx,r',Ac,hRh.but (Ec b3) hhx (by show 2<4;decide)⟩,⟨ps++[p],b3 _ _ hxe.symm he2,hhist⟩⟩ ⟨λc u n1 n2 n hc=>b3 _ _ n1 (s2.k (kp1 c u n2 hc) n),λc hc=>?_,s2.ok.keepN hx2⟩ λc zs hce hc hSc=>?_
 ·rw[Aj (λz=>by rw[z,Ac] at hc;cases hc)] at hc
  exact fr1 c (s2.sm.free hc)
 ·have hc1:=kp1 c _ hce hc
  have hc2:=s2.k hc1;have hcx:c≠x:=Pi hc hx (by intro z;cases z);have hr'e:r'≠e:=(Am (s0.k he1) hr0).symm;obtain⟨dr5,b5,k5,t5,o5,n5,g0,g1,g2,g3,g4⟩:=id hF';have hRc:=hRh.hide (e:=c) (zs:=zs) ⟨dr5,b5,k5,t5,o5,n5,by rw[B8 hr'e];exact g0,g1,g2,g3,g4⟩ (by rw[s0.k hc1];intro z;cases z) (Am hc1 hp0).symm (by rw[B8 hce];exact hc2);rw[Oh] at hRc;have hhc:hide e (hide c H') x=some (.ins ae dx (Pr (.ref r) (.ref e))):=by rw[B8 hxe,B8 hcx.symm];exact hx2
  obtain⟨⟨dx6,r6,hx6,hR6⟩,⟨ps6,he6,hH6⟩⟩:=hSc;rw[B8 hcx.symm,hx] at hx6;obtain rfl:r=r6:=by
   have e1:=d0 hx6;unfold Pr at e1;simp only[HO.ins.injEq,um,qj,V.ref.injEq,true_and,and_true] at e1;exact e1.2
  rw[B8 hce.symm,he] at he6;obtain rfl:ps=ps6:=List.map_inj_right (λa b h=>V.ref.inj h) |>.mp (HO.lst.inj (d0 he6));obtain⟨dp6,p6,b6,kk6,tt6,o6,hp6,hW6,_⟩:=id hR6;have hp66:=(Jy (Jy hp6 |>.2)).2;obtain rfl:p=p6:=by
   rw[hp'] at hp66;have e1:=d0 hp66;unfold Z9 at e1;simp only[HO.ins.injEq,um,qj,V.ref.injEq,true_and,and_true] at e1;exact e1.2.1
  have kc:Kp (hide e (hide c H)) (hide e (hide c H')):=by
   rw[Oh,Oh (a:=e) (b:=c)];exact Ll kk'
  refine⟨⟨dx,r',by rw[B8 hcx.symm];exact Ac,hRc.but (Ec (Ec b3)) hhc (by show 2<4;decide)⟩,⟨ps++[p],by rw[B8 hce.symm];exact b3 _ _ hxe.symm he2,by rw[d5,d5,hH.1];rfl,λi a ms e1 e2=>?_⟩⟩
  by_cases hi:i<ps.length
  ·rw[fb hi] at e1
   rw[fb (by rw[<-hH.1];exact hi)] at e2;exact((hH6.2 i a ms e1 e2).kp kc).but (Ec (Ec b3)) hhc (by show 2<4;decide)
  ·rw[e9 (by lia)] at e1
   rw[e9 (by rw[<-hH.1];lia),<-hH.1] at e2;have hi0:i-ps.length=0:=by
    have:=Bs e1;simp at this;lia
   rw[hi0] at e1 e2;obtain rfl:p=a:=d0 e1;obtain rfl:ls=ms:=d0 e2;have hl:Ut ac (hide e (hide c H)) p ls:=⟨hW6.pcs,hW6.sz,hW6.fw⟩;exact(hl.kp kc).but (Ec (Ec b3)) hhc (by show 2<4;decide)
inductive lJ (K:dn)(C CR CS CN:dw)(ts:List Tb)(vs:List V)(H:Hp)(Q:VK)(E:XK):Prop|mk(x:dw)(ls:List (Za5))(ds:Za4)(k:V)(_:vs=[.ref x,k])(_:Cf C CR CS H x ls)(_:Tbs ts H)(_:Dok ds)(_:ls.flatten=Aq ds)(_:Any K H k)(_:NoK k ds.length)(_:E (.ref CN) none H)
include T ah ay in
theorem Wi (F:Fun K "cut" "Shaped.cut" Ka f fd):Ay P w K mg base (CXE P w) 6 f fd ["self","k"] (lJ K ac aa ae ai ts):=by
 exists F.okE Mj
 obtain⟨x,ls,ds,k,rfl,hS,hT,hD,hrow,hA,hb,qe⟩:=h;obtain⟨dx,r,e,hx,hR⟩:=id hS;refine⟨_,(Ab (tst 2 Mj.nd (N8 ay hr.m (Gw rfl) (pv 0) (tpa (pv 1) Aa))) (Ab Cl
  (Ab Cl
  (Ab Cl
  (Ae Cl))))),?_⟩
 apply⟨x,dx,_,rfl,hx,rfl,?_⟩;k_is;exact⟨x,ls,ds,k,rfl,hS,hT,hD,hrow,hA,λj e hj=>absurd hj (by subst e;exact hb.yes),λ_=>qe⟩
inductive Vi (C CR CS CD:dw)(vs:List V)(H:Hp)(Q:VK)(E:XK):Prop|mk(x e:dw)(ls:List (Za5))(_:vs=[.ref x])(_:Gd C CR CS H x e ls [])(_:E (.ref CD) none H)
include T ah in
theorem Qy (F:Fun K "take_back" "Shaped.take_back" Er f fd):Ay P w K mg base (CXE P w) 4 f fd ["self"] (Vi ac aa ae aj):=by
 exists F.okE Md
 obtain⟨x,e,ls,rfl,hS,qe⟩:=h;obtain⟨⟨dx,r,hx,hR⟩,⟨ps,he,hH⟩⟩:=id hS;obtain rfl:ps=[]:=je hH.1;refine⟨_,(Ab (Bj (ttc Fo (Ao Av (by rfl) T.bZ Cd (tpa (tfl (pv 0)) Aa)) Ad) (Ae (Nt T.cY rfl (tpa Aw Aa)))
  At) (Ae Cl)),?_⟩
 apply⟨x,ae,dx,_,.ref e,rfl,hx,ah.cl,ah.cP,rfl,?_⟩;apply⟨e,_,rfl,.inl (SqL.of he),?_⟩;apply B5 (λ_=>?_) (λh=>absurd rfl h);k_is;exact⟨by decide,qe⟩
theorem qL {ds:Za4}(h:Dok ds){k a:Nat}(hk:k<ds.length)(h1:k<a)(h2:a<Cc ds k)(e:eld ds a=(k:Int)):eld (C3 ds k) (a-(k+1))=-1:=by
 have hu:=Ig h hk;have hat:=P9 (ds:=ds) (k:=k) (i:=a-(k+1)) (by lia);rw[show k+1+(a-(k+1))=a by lia,(Uw h hk h1 h2).mp e,jh] at hat;have:=F1 hu (k:=a-(k+1)) (by rw[E8];lia);rw[hat,Dg hu _ (by rw[E8];lia)] at this;exact(d0 this).symm
theorem fF {ds:Za4}(h:Dok ds){ko:Option Nat}{place a:Nat}{top:Int}(g:GAt ds ko place a off top):let within:=match ko with|some k=>2*k-dAt ds k+1|none=>0
  within<=2*a-off/\2*a-off<=(Aq ds).length/\hgt (Aq ds) (2*a-off)=hgt (Aq ds) within/\lvl (Aq ds) within (2*a-off)=place:=by
 cases ko with
 |none=>
  obtain⟨rfl,rfl,h3,h4,h5⟩:=g;refine⟨fg _,by rw[Bh h];lia,?_,?_⟩
  ·show hg (Aq ds) (2*a)=hg (Aq ds) 0
   rw[show hg (Aq ds) 0=0 by unfold hg;simp];rcases h5 with rfl|⟨h5,h6⟩
   ·exact(Oi h).2
   ·exact(Wk h (by lia)).mpr ⟨a,h5,h6,rfl⟩
  ·show lvl (Aq ds) 0 (2*a)=_
   rw[gO h h3,h4]
 |some k=>
  obtain⟨hk,rfl,rfl,h3,h4,h5,h6⟩:=g;obtain⟨e1,e2,_⟩:=Cm (ds:=ds) hk;obtain⟨A,B,a1,a2,a3,a4,a5,a6⟩:=Uy h hk;have hu:=Ig h hk;have hul:=E8 ds k;have hlen:=congrArg k6 a2;rw[d5,d5,Bh hu] at hlen;have ea:2*a-(dAt ds k+1)=A.length+2*(a-(k+1)):=by lia
  refine⟨?_,?_,?_,?_⟩
  ·show 2*k-dAt ds k+1<=_
   lia
  ·rw[ea,hlen]
   lia
  ·show hg (Aq ds) _=hg (Aq ds) (2*k-dAt ds k+1)
   rw[ea,a5 _ (by lia),<-a1];have:=a5 0 (fg _);rw[kl,show hg (Aq (C3 ds k)) 0=0 by unfold hg;simp] at this;rw[this];congr 1;rcases h6 with h6|⟨h6,h7⟩
   ·rw[show a-(k+1)=(C3 ds k).length by lia]
    exact(Oi hu).2
   ·exact(Wk hu (by lia)).mpr ⟨_,by lia,qL h hk h3 h6 h7,rfl⟩
  ·show lvl (Aq ds) (2*k-dAt ds k+1) _=_
   rw[ea,<-a1,a2,Ra hu (by lia),Sd h hk _ (by lia),show k+1+(a-(k+1))=a by lia,h5]
def jS (CN CG CW CL CD:dw)(H:Hp)(C:dw)(od:Option dw)(r:List V):Prop:=(C=CN/\r=[.str "knot"])\/(C=CG/\r=[.str "graft"])\/(C=CW/\∃(dx:dw) (n:Nat),od=some dx/\H dx=some (.xd [("place",.int (n:Nat))])/\r=[.str "wood",.int (n:Nat)])\/(C=CL/\r=[.str "large"])\/(C=CD/\r=[.str "deed"])
def rJ (n kd:Nat)(k place:V)(o:Option (List V))(r:List V):Prop:=(k≠.non/\NoK k n/\r=[.str "knot"])\/(k=.non/\((inI place 0 kd=false/\r=[.str "graft"])\/(inI place 0 kd=true/\∃j:Nat,Kz o j/\r=[.str "wood",.int j])))\/∃j:Nat,k=.int j/\j<n/\((inI place 0 kd=false/\r=[.str "graft"])\/(inI place 0 kd=true/\∃es,Ia o es/\4000<n+es.length/\r=[.str "large"]))
theorem ThA.smT {K:dn}{v:V}{o:Option (List V)}(s:SmT ts H H')(h:ThA K H v o):ThA K H' v o:=by
 cases o with
 |some xs=>obtain⟨a,e,ha,hf,r⟩:=h;exact⟨a,e,s.k ha,λx hx=>s.any (hf x hx),r⟩
 |none=>obtain⟨t,ht,r⟩:=h;exact⟨t,Gj.sameT s.sm ht,r⟩
inductive Tm (K:dn)(C CR CS CN CG CW CL CD:dw)(ts:List Tb)(vs:List V)(H:Hp)(Q:VK)(E:XK):Prop|mk(x e:dw)(ls:List (Za5))(prs:List (List (Za5)))(ds:Za4)(k place v:V)(o:Option (List V))(kd:Nat)(_:vs=[.ref x,k,place,v])(_:Gd C CR CS H x e ls prs)(_:Tbs ts H)(_:Dok ds)(_:ls.flatten=Aq ds)(_:Any K H k)(_:Any K H place)(_:ThA K H v o)(_:ls.length<=100)(_:prs.length<=1000)(_:ds.length<=4000)(_:(k=.non->kd=(B4 ds ds.length (-1)).length))(_:(∀j:Nat,k=.int j->kd=(B4 ds ds.length j).length))(_:((∃r,rJ ds.length kd k place o r/\∀D od H',jS CN CG CW CL CD H' D od r->SmT ts H H'->E (.ref D) od H') \/ ∃(j pl a off:Nat) (top:Int) (es:Za4),k=.int j/\place=.int pl/\Ia o es/\GAt ds (some j) pl a off top/\ds.length+es.length<=4000/\∀f b H',Vh ls (2*a-off) (2*a-off) (2*es.length) f b->(E5 ls (2*a-off) (2*a-off) (Aq es) f b).flatten=Aq (Mn ds es a off)->Gd C CR CS H' x e (E5 ls (2*a-off) (2*a-off) (Aq es) f b) (prs++[ls])->SmE ts x e H H'->Q .non H'))
include T aC ah aA ay aU aX in
theorem Wd (F:Fun K "graft" "Shaped.graft" Hf f fd)(bL:Mth P w K mg base ae "many_tops" 11 ["self"] (gX ac aa ae ts))(bM:Mth P w K mg base aa "nth_level" 10 ["self","low","nth"] (pA ac aa ts))(bN:Mth P w K mg base ae "replace_signs" 7 ["self","low","high","text"] (gB ac aa ae ts)):Ay P w K mg base (CXE P w) 14 f fd ["self","k","place","elders"] (Tm K ac aa ae ai am ag ao aj ts):=by
 exists F.okE Df
 obtain⟨x,e,ls,prs,ds,k,place,v,o,kd,rfl,hS,hT,hD,hrow,hAk,hAp,hTh,hl,hpr,hn,hk0,hk1,hq⟩:=h;obtain⟨⟨dx,r,hx,hR⟩,⟨ps,he,hH⟩⟩:=id hS;obtain⟨dp,p,b,kk,tt,o2,hp,hW,_⟩:=id hR;obtain⟨hpe,hp'⟩:=Jy hp;have hrl:=Bh hD;refine⟨_,(Ab (tst 4 Df.nd (Fa (K4 (U6 (pv 1))) (Fy bL hr.m (pv 0)) (N8 aU hr.m (Gw rfl) (pv 0) (tpa (pv 1) Aa)))) (Ab (Bj (Ds (Cj (A4 aC hr.m (tpa (pv 2) (tpa Ad (tpa (pv 4) Aa)))))) (Ae (Nt T.di rfl (tpa Aw Aa)))
  At) (Ab (tst 5 Df.nd (U0 aX hr.m (Gw rfl) (tpa (pv 3) Aa))) (Ab (Bj (ttc Mg (Al A0 (Fy aA hr.m (pv 0)) (Ao Av (by rfl) T.bZ Cd (tpa (pv 3) Aa))) (Ho rfl T.cu)) (Ae (Nt T.db rfl (tpa Aw Aa)))
  At) (Ab (tst 6 Df.nd (Fa (K4 (U6 (pv 1))) Ad (Al A0 (N8 ay hr.m (Gw rfl) (pv 0) (tpa (pv 1) Aa)) Ad))) (Ab (tst 7 Df.nd (Bg bM hr.m (tfl (pv 0)) (tpa (pv 6) (tpa (pv 2) Aa)))) (Ae (Bl (Bg bN hr.m (pv 0) (tpa (pv 7) (tpa (pv 7) (tpa (pv 5) Aa)))))))))))),?_⟩
 rcases hq with⟨rr,hdue,qe⟩|⟨j,pl,a,off,top,es,rfl,rfl,hG,hGA,hde,q⟩
 ·rcases hdue with⟨hkn,hb,rfl⟩|⟨rfl,hdue⟩|⟨j,rfl,hj,hdue⟩
  ·apply B5 (λhc=>absurd hc hkn) (λ_=>?_);apply⟨x,dx,_,rfl,hx,rfl,?_⟩;k_is;exact⟨x,ls,ds,k,rfl,hS.sh,hT,hD,hrow,hAk,λj e hj=>absurd hj (by subst e;exact hb.yes),λ_=>qe _ _ _ (.inl ⟨rfl,rfl⟩) (SmT.refl hT)⟩
  ·apply B5 (λ_=>?_) (λhc=>absurd rfl hc);apply⟨x,dx,_,rfl,hx,rfl,?_⟩;apply⟨x,ls,ds,rfl,hS.sh,hT,hD,hrow,λH1 s1=>?_⟩;rw[<-hk0 rfl];apply⟨place,0,kd,rfl,s1.any hAp,?_⟩;rcases hdue with⟨hf,rfl⟩|⟨ht,n,hn,rfl⟩
   ·rw[hf]
    k_is;exact⟨by decide,qe _ _ _ (.inr (.inl ⟨rfl,rfl⟩)) s1⟩
   ·rw[ht]
    apply⟨v,o,rfl,hTh.smT s1,λes hG=>(Ge hn hG).elim,λm hm dy H2 s2 _ hy=>?_⟩;obtain rfl:=Ij hm hn;exact qe _ _ _ (.inr (.inr (.inl ⟨rfl,dy,m,rfl,hy,rfl⟩))) (s1.then s2)
  ·apply B5 (λhc=>by cases hc) (λ_=>?_);apply⟨x,dx,_,rfl,hx,rfl,?_⟩;apply⟨x,ls,ds,.int j,rfl,hS.sh,hT,hD,hrow,hAk,λj' ej _ H1 s1=>?_,λhb=>(hb.yes hj).elim⟩;rw[<-hk1 j' ej];apply⟨place,0,kd,rfl,s1.any hAp,?_⟩;rcases hdue with⟨hf,rfl⟩|⟨ht,es,hG,hes,rfl⟩
   ·rw[hf]
    k_is;exact⟨by decide,qe _ _ _ (.inr (.inl ⟨rfl,rfl⟩)) s1⟩
   ·rw[ht]
    obtain⟨hDe,hel,rfl⟩:=hG.ok;obtain⟨l,rfl,hla,_⟩:=id hTh;apply⟨.ref l,_,rfl,hTh.smT s1,λes' hG' H2 s2=>?_,Lm hG⟩;have s12:=s1.then s2;apply⟨x,dx,_,rfl,s12.k hx,rfl,?_⟩;apply⟨x,ls,rfl,hS.sh.kp s12.kp,?_⟩;rw[hrow,hrl,nq _ (by decide:0<2)];apply⟨l,_,rfl,.inl (SqL.of (s12.k hla)),?_⟩;rw[du,Bc];apply B5 (λ_=>?_) (λhc=>absurd (by lia) hc);k_is;exact⟨by decide,qe _ _ _ (.inr (.inr (.inr (.inl ⟨rfl,rfl⟩)))) s12⟩
 ·obtain⟨hDe,hel4,rfl⟩:=hG.ok
  obtain⟨l,rfl,hla,_⟩:=id hTh;obtain⟨g1,g2,g3,g4⟩:=fF hD hGA;obtain⟨k1,k2,k3,k4⟩:=hGA.ok hD;obtain⟨hDg,P0,S0,p1,p2,p3⟩:=Ts hD hDe k1 k2 k3;have hel:=Bh hDe;have hlo:P0.length=2*a-off:=by lia
  have fin:∀f b,Vh ls (2*a-off) (2*a-off) (Aq es).length f b->(E5 ls (2*a-off) (2*a-off) (Aq es) f b).flatten=Aq (Mn ds es a off):=λf b hN=>by
   obtain⟨m1,m2,m3,m4⟩:=hN.ok;rw[mQ m3 m4,p3,hrow,p2,<-hlo,wm,BL]
  have hk:j<ds.length:=hGA.1;have hpl:pl<=(B4 ds ds.length j).length:=by
   obtain⟨_,_,_,h3,h4,h5,_⟩:=hGA;rw[<-h5,X6 hD hk];exact oQ h4
  apply B5 (λhc=>by cases hc) (λ_=>?_);apply⟨x,dx,_,rfl,hx,rfl,?_⟩;apply⟨x,ls,ds,.int j,rfl,hS.sh,hT,hD,hrow,hAk,λj' ej _ H1 s1=>?_,λhb=>(hb.yes hk).elim⟩;obtain rfl:j=j':=by have:=V.int.inj ej;lia
  apply⟨.int pl,0,_,rfl,s1.any hAp,?_⟩;rw[fG (by lia)];apply⟨.ref l,_,rfl,hTh.smT s1,λes' hG' H2 s2=>?_,Lm hG⟩;obtain rfl:es=es':=(Ou hDe hG').symm;have s12:=s1.then s2;apply⟨x,dx,_,rfl,s12.k hx,rfl,?_⟩;apply⟨x,ls,rfl,hS.sh.kp s12.kp,?_⟩;rw[hrow,hrl,nq _ (by decide:0<2)];apply⟨l,_,rfl,.inl (SqL.of (s12.k hla)),?_⟩;rw[du,Bc];apply B5 (λhc=>absurd hc (by lia)) (λ_=>?_);apply B5 (λhc=>by cases hc) (λ_=>?_);apply⟨x,dx,_,rfl,s12.k hx,rfl,?_⟩;apply⟨x,ls,ds,.int j,rfl,hS.sh.kp s12.kp,s12.ok,hD,hrow,B1 _,λj' ej _ H3 s3=>?_,λhb=>(hb.yes hk).elim⟩;obtain rfl:j=j':=by have:=V.int.inj ej;lia
  have s13:=s12.trans s3;apply⟨x,ae,dx,_,.ref r,rfl,s13.k hx,ah.cl,ah.cf,rfl,?_⟩;apply⟨r,dp,_,rfl,s13.k hp',rfl,?_⟩;apply⟨r,ls,2*j-dAt ds j+1,pl,2*a-off,by rw[show((2*j-dAt ds j+1:Nat):Int)=((2*j-dAt ds j:Nat):Int)+1 by lia];rfl,(hR.kp Wt).kp s13.kp,s13.ok,g1,by rw[hrow];exact g2,by rw[hrow];exact g3,by rw[hrow];exact g4,λH4 s4=>?_⟩;have s14:=s13.trans s4;apply⟨x,dx,_,rfl,s14.k hx,rfl,?_⟩;apply⟨x,e,ls,prs,2*a-off,2*a-off,Aq es,rfl,hS.kp s14.kp,s14.ok,d3 _,by rw[hrow];exact g2,by rw[hrow,hrl,hel];lia,hl,hpr,λf b H5 hN hS5 s5 _=>?_⟩;exact q f b H5 (by rw[<-hel];exact hN) (fin f b hN) hS5 ((SmE.of s14).trans s5)
inductive pU (K:dn)(vs:List V)(H:Hp)(Q:VK)(E:XK):Prop|mk(a:dw)(ns:List Int)(k:Nat)(_:vs=[.ref a,.int k])(_:SqL K H a (ns.map V.int))(_:∀c:Int,Q (.int c) H)
include T in
theorem Sg (F:Fun K "_law_cell_at" "_law_cell_at" Iy f fd):Ay P w K mg base CX0 1 f fd ["_law_script","_law_k"] (pU K):=by
 exists F.ok Ry
 obtain⟨a,ns,k,rfl,hS,q⟩:=h;refine⟨_,(Ab (Bj (ttc Mh (pv 1) (Ao Av (by rfl) T.bZ Cd (tpa (pv 0) Aa))) (Ae (An (tix Az (pv 0) (pv 1))))
  At) (Ae (An Ad))),?_⟩
 apply⟨a,_,rfl,.inl hS,?_⟩;k_is;rw[du];refine B5 (λhb=>?_) (λhb=>?_)
 ·k_is
  have hk:k<ns.length:=by lia
  refine Bk hS (v:=.int ns[k]) ?_ (q _);refine Bf ?_;rw[d8,dq hk];rfl
 ·k_is
  exact q 0
include T in
theorem U9 (F:Fun K "_law_whole" "_law_whole" Lc f fd):Ay P w K mg base CX0 1 f fd ["_law_found"] (Nv K):=by
 exists F.ok Wr
 obtain⟨x,rfl,⟨t,b1,b2,ty,k1,k2,e⟩,q⟩:=h;refine⟨_,(Ae (An (R4 (Ao Du (by rfl) T.ce Bi (tpa (pv 0) (tpa (Ic (v:=.ty "int") rfl T.cS lX rfl) Aa))) (So (kM (Ao Du (by rfl) T.ce Bi (tpa (pv 0) (tpa (Ic (v:=.ty "bool") rfl T.cX kO rfl) Aa)))))))),?_⟩;apply⟨_,_,_,_,rfl,ty,k1,?_⟩;rw[<-e] at q
 cases b1 with
 |false=>
  k_is;exact q
 |true=>
  apply⟨_,_,_,_,rfl,ty,k2,?_⟩;k_is;exact q
inductive eI(vs:List V)(H:Hp)(Q:VK)(E:XK):Prop|mk(c k:Int)(_:vs=[.int c,.int k])(_:0<=k)(_:k<=1000)(_:∀r:Int,0<=r->r<2147483587->Q (.int r) H)
include T in
theorem Wz (F:Fun K "_law_mixed" "_law_mixed" K5 f fd):Ay P w K mg base CX0 1 f fd ["_law_cell","_law_k"] eI:=by
 exists F.ok Nd
 obtain⟨c,k,rfl,h0,h1,q⟩:=h;refine⟨_,(Ab (tst 2 Nd.nd (Al Dl (Al Io (Al A0 (Al Dl (pv 0) Ad) Ad) (Al A0 Ad (Al Io (Al Io Ad (pv 1)) (pv 1)))) Ad)) (Ae (An (Al Dl (Al Io (Al A0 (pv 2) (Al Io Ad (pv 1))) (Al A0 Ad (Al Io Ad (pv 1)))) Ad)))),?_⟩
 apply Rb (by lia) (by lia) ?_;k_is;have b1:=sg c (show(2147483647:Int)≠0 by decide);have b2:=ql c (show(0:Int)<2147483647 by decide);refine mH (by lia) (by lia) ?_;apply Rb (by lia) (by lia) ?_;k_is;exact q _ (sg _ (by decide)) (ql _ (by decide))
inductive Yi (K:dn)(vs:List V)(H:Hp)(Q:VK)(E:XK):Prop|mk(a:dw)(ns:List Int)(k:Nat)(m:Int)(_:vs=[.ref a,.int k,.int m])(_:SqL K H a (ns.map V.int))(_:0<=m)(_:m<=100)(_:∀p (ds:List Int) H',Ah H H'->H p=none->H' p=some (.lst (ds.map V.int))->ds.length=m.toNat->Q (.ref p) H')
variable (az:Cal P w K mg base "_law_cell_at" 1 ["_law_script","_law_k"] (pU K)) (aL:Cal P w K mg base "_law_mixed" 1 ["_law_cell","_law_k"] eI)
include T az aL in
theorem Td (F:Fun K "_law_digits" "_law_digits" Kj f fd) :
  Ay P w K mg base CX0 2 f fd ["_law_script","_law_at","_law_many"] (Yi K):=by
 exists F.ok El
 obtain⟨a,ns,k,m,rfl,hS,h0,h1,q⟩:=h;refine⟨_,(Ab (tst 3 El.nd (Al Io (Ao kQ (by rfl) T.n_abs zU (tpa (A4 az hr.m (tpa (pv 0) (tpa (Al A0 (pv 1) Ad) Aa))) Aa)) (Al C5 Ad (Al Dl (A4 az hr.m (tpa (pv 0) (tpa (pv 1) Aa))) Ad)))) (Ab (tst 4 El.nd (Ap Aa)) (Ab (Fe i8 rfl (Js rfl T.cp (tpa (pv 2) Aa)) (tgn 5 El.nd) (Ae (Bj (ttc Mg (pv 3) Ad) (Ab (Bl (Dz fv gp gn Bt (pv 4) (tpa (Al Dl (pv 3) Ad) Aa))) (Ae (tst 3 El.nd (Al F8 (pv 3) Ad)))) (Ae (Bl (Dz fv gp gn Bt (pv 4) (tpa (Al Dl (A4 aL hr.m (tpa (A4 az hr.m (tpa (pv 0) (tpa (Al A0 (Al A0 (pv 1) Ad) (Al Dl (pv 5) Ad)) Aa))) (tpa (pv 5) Aa))) Ad) Aa))))))) (Ae (An (pv 4)))))),?_⟩
 apply⟨a,ns,k+1,rfl,hS,λc1=>?_⟩;apply⟨_,rfl,?_⟩;apply⟨a,ns,k,rfl,hS,λc2=>?_⟩;apply Rb (by lia) (by lia) ?_;apply⟨fg _,λp hp=>?_⟩;apply⟨m,rfl,by lia,by lia,?_⟩;have s0:Ah H (upd H p (.lst [])):=Ai hp;have push:∀{H1:Hp} {o:HO},Ah H H1->Ah H (upd H1 p o):=λs1 b u e=>by rw[Aj (Am e hp)];exact s1 _ _ e
 have z1:∀{l:List Int} {i:Nat},l.length=i->i<m.toNat->(l.map V.int).length<sizeLine:=λe hi=>by
  rw[du,e];exact G6 (by lia)
 refine Ln (λi G H1=>∃(ds:List Int) (x:Int) (v5:Option V),G=[some (.ref a),some (.int k),some (.int m),some (.int x),some (.ref p),v5]/\ds.length=i/\H1 p=some (.lst (ds.map V.int))/\Ah H H1) ⟨[],_,_,rfl,rfl,Ac,s0⟩ ?_ ?_
 ·rintro i G H1 hi ⟨ds,x,v5,rfl,hd,hH,sm⟩
  apply B5 (λhb=>?_) (λhb=>?_)
  ·apply⟨.inl ⟨rfl,_,SqL.of hH⟩,?_⟩;apply Bv hH (z1 hd hi) ?_;k_is;exact⟨ds++[x%64],_,_,rfl,by rw[d5,hd];rfl,by rw[Ac,eh];rfl,push sm⟩
  ·apply⟨.inl ⟨rfl,_,SqL.of hH⟩,?_⟩;apply⟨a,ns,k+1+i%9,?_,sm.seq hS,λc3=>?_⟩
   ·rw[show(k:Int)+1+(0+(i:Int))%9=((k+1+i%9:Nat):Int) by lia]
    rfl
   apply⟨c3,_,rfl,by lia,by lia,λr _ _=>?_⟩;apply Bv hH (z1 hd hi) ?_;k_is;exact⟨ds++[r%64],_,_,rfl,by rw[d5,hd];rfl,by rw[Ac,eh];rfl,push sm⟩
 ·rintro G H1 ⟨ds,x,v5,rfl,hd,hH,sm⟩
  k_is;exact q p ds H1 sm hp hH hd
inductive lI(vs:List V)(H:Hp)(Q:VK)(E:XK):Prop|mk(a:dw)(gs:List Int)(_:vs=[.ref a])(_:H a=some (.lst (gs.map V.int)))(_:gs.length<=1000)(_:∀p (ds:Za4) H',Ah H H'->H p=none->H' p=some (.lst ((B2 ds).map V.int))->Dok ds->ds.length=gs.length->Q (.ref p) H')
theorem uS (xs:List V)(m:Nat):L4 xs none (some (m:Int))=xs.take m:=by
 unfold L4;rw[HT.sIx_nat];show(xs.drop 0).take (min m xs.length-0)=xs.take m;rw[td,mz]
 by_cases h:m<=xs.length
 ·rw[iy h]
 ·rw[m8 (by lia),fm (d3 _),fm (by lia)]
include T in
theorem Yv (F:Fun K "_law_wood" "_law_wood" M4 f fd):Ay P w K mg base CX0 1 f fd ["_law_digits_here"] lI:=by
 exists F.ok E3
 obtain⟨a,gs,rfl,ha,hn,q⟩:=h;refine⟨_,(Ab (tst 1 E3.nd (Ap Aa)) (Ab (tst 2 E3.nd (Ap Aa)) (Ab (Fe i8 rfl (Js rfl T.cp (tpa (Ao Av (by rfl) T.bZ Cd (tpa (pv 0) Aa)) Aa)) (tgn 3 E3.nd) (Ab (tst 2 E3.nd (G9 Nc (pv 2) Ve (E7 (Al C5 (Ao Av (by rfl) T.bZ Cd (tpa (pv 2) Aa)) (Al Dl (tix Az (pv 0) (pv 3)) (Al A0 (Ao Av (by rfl) T.bZ Cd (tpa (pv 2) Aa)) Ad)))))) (Ab (Bl (Dz fv gp gn Bt (pv 1) (tpa (tix Az (Al Hm (Ap (tpa (Cg Bn Ad) Aa)) (pv 2)) (Cg Bn Ad)) Aa))) (Ae (tst 2 E3.nd (Al Hm (pv 2) (Ap (tpa (pv 3) Aa)))))))) (Ae (An (pv 1)))))),?_⟩
 apply⟨fg _,λp hp=>?_⟩;apply⟨fg _,λp0 hp0=>?_⟩;have t0:=Ai (o:=.lst []) hp;have t1:=Ai (o:=.lst []) hp0;apply⟨a,_,rfl,.inl (SqL.of (t1 _ _ (t0 _ _ ha))),?_⟩;k_is;rw[du];refine⟨_,rfl,by lia,by lia,?_⟩;rw[gz];refine Ln (λk G H1=>(∃(q:dw) (ds:Za4) (v:Option V),G=[some (.ref a),some (.ref p),some (.ref q),v]/\Dok ds/\ds.length=k/\H1 p=some (.lst ((B2 ds).map V.int))/\H1 q=some (.lst ((way ds k).tail.map V.int))/\p≠q)/\Ah H H1)
  ⟨⟨p0,[],_,rfl,(λk hk=>by cases hk),rfl,t1 _ _ Ac,Ac,Am Ac hp0⟩,t0.trans t1⟩ ?_ ?_
 ·rintro k G H1 hk ⟨⟨q1,ds,v,rfl,hD,hl,hp1,hq1,hne⟩,s1⟩
  have hw:=Dy hD k (by lia);have hh:=oZ hD (k:=k) (by lia);have hok:=Mw hD k (by lia);have hwt:(way ds k).tail.length=opn ds k:=by rw[List.length_tail];lia
  apply⟨q1,_,rfl,.inl (SqL.of hq1),?_⟩;k_is;rw[du,hwt];obtain⟨g,hg⟩:∃g,gs[k]?=some g:=⟨gs[k],dq hk⟩;refine Bk (SqL.of (s1 _ _ ha)) (v:=.int g) ?_ ?_
  ·rw[show(0+(k:Int))=(k:Int) by lia]
   exact Bf (Ui hg)
  apply⟨q1,_,rfl,.inl (SqL.of hq1),?_⟩;k_is;rw[du,hwt];refine tN (by lia) ?_;k_is;obtain⟨d,hd,hd1⟩:∃d:Nat,(opn ds k:Int)-g%((opn ds k:Int)+1)=(d:Int)/\d<=opn ds k:=by
   have e0:=sg g (show(opn ds k:Int)+1≠0 by lia);have e1:=ql g (show 0<(opn ds k:Int)+1 by lia);exact⟨((opn ds k:Int)-g%((opn ds k:Int)+1)).toNat,by lia,by lia⟩
  rw[hd];refine⟨q1,_,rfl,SqL.of hq1,λq2 h2=>?_⟩;rw[uS] at *;rw[<-ng] at *;have u2:=Ai (o:=.lst (((way ds k).tail.take d).map V.int)) h2;apply⟨.inl ⟨rfl,_,SqL.of (u2 _ _ hp1)⟩,?_⟩;apply⟨few (by simp),λq3 h3=>?_⟩;have u3:=Ai (o:=.lst [V.int (-1)]) h3;apply⟨q3,q2,_,_,rfl,rfl,Ac,u3 _ _ Ac,?_,λq4 h4=>?_⟩
  ·rw[du,d9]
   exact few (by simp only[fj,gw];lia)
  have ew:[V.int (-1)]++((way ds k).tail.take d).map V.int=((way ds k).take (d+1)).map V.int:=by
   rw[hh];rfl
  rw[ew] at *;have u4:=Ai (o:=.lst (((way ds k).take (d+1)).map V.int)) h4;have hx:(way ds k)[d+1-1]?=some ((way ds k).getD d 0):=by
   rw[ul];unfold ge;rw[dq (by lia)];rfl
  apply Bk (SqL.of Ac) (G7 (by lia) hx) ?_;k_is;have u24:=(u2.trans u3).trans u4;refine Bv (u24 _ _ hp1) ?_ ?_
  ·rw[du,Bc]
   exact Ag (by lia)
  have hpq2:q2≠p:=(Am hp1 h2).symm;have hq2':upd (upd (upd (upd H1 q2 (.lst (((way ds k).tail.take d).map V.int))) q3 (.lst [V.int (-1)])) q4 (.lst (((way ds k).take (d+1)).map V.int))) p (.lst ((B2 ds).map V.int++[V.int ((way ds k).getD d 0)])) q2=some (.lst (((way ds k).tail.take d).map V.int)):=by
   rw[Aj hpq2];exact u4 _ _ (u3 _ _ Ac)
  have s5:=Bz (o:=.lst ((B2 ds).map V.int++[V.int ((way ds k).getD d 0)])) (s1.trans u24) hp;have hp5:upd (upd (upd (upd H1 q2 (.lst (((way ds k).tail.take d).map V.int))) q3 (.lst [V.int (-1)])) q4 (.lst (((way ds k).take (d+1)).map V.int))) p (.lst ((B2 ds).map V.int++[V.int ((way ds k).getD d 0)])) p=some (.lst ((B2 ds).map V.int++[V.int ((way ds k).getD d 0)])):=Ac;generalize upd (upd (upd (upd H1 q2 (.lst (((way ds k).tail.take d).map V.int))) q3 (.lst [V.int (-1)])) q4 (.lst (((way ds k).take (d+1)).map V.int))) p (.lst ((B2 ds).map V.int++[V.int ((way ds k).getD d 0)]))=H5 at *;apply⟨few (by simp),λq6 h6=>?_⟩;have u6:=Ai (o:=.lst [V.int (0+(k:Int))]) h6;refine⟨q2,q6,_,_,rfl,rfl,u6 _ _ hq2',Ac,?_,λq7 h7=>?_⟩
  ·rw[du,d9]
   exact few (by simp only[fj,gw];lia)
  have u7:=Ai (o:=.lst (((way ds k).tail.take d).map V.int++[V.int (0+(k:Int))])) h7;k_is;have hp7:=u7 _ _ (u6 _ _ hp5);refine⟨⟨q7,ds++[d],_,rfl,Nh hD (by rw[hl];exact hd1),by rw[d5,hl];rfl,?_,?_,Am (u6 _ _ hp5) h7⟩,(s5.trans u6).trans u7⟩
  ·rw[hp7,Lp,eh,hl]
   rfl
  ·have e:=Nj ds d
   rw[hl] at e;rw[Ac,e,show(0+(k:Int))=(k:Int) by lia];have e2:((way ds k).take (d+1)++[(k:Int)]).tail=(way ds k).tail.take d++[(k:Int)]:=by
    rw[hh];rfl
   rw[e2,eh];rfl
 ·rintro G H1 ⟨⟨q1,ds,v,rfl,hD,hl,hp1,hq1,hne⟩,s1⟩
  k_is;exact q p ds H1 s1 hp hp1 hD hl
inductive Xu (K:dn)(vs:List V)(H:Hp)(Q:VK)(E:XK):Prop|mk(v:V)(o:Option (List V))(_:vs=[v])(_:ThA K H v o)(_:(∀xs,o=some xs->xs.length<=300))(_:∀r H',vV o r->Ah H H'->Q r H')
variable (aM:Cal P w K mg base "_law_whole" 1 ["_law_found"] (Nv K))
include T aM in
theorem Wo (F:Fun K "_law_fault" "_law_fault" K6 f fd):Ay P w K mg base CX0 2 f fd ["_law_elders"] (Xu K):=by
 exists F.ok Gu
 obtain⟨v,o,rfl,hT,hn,q⟩:=h;refine⟨_,(Ab (Bj (Ds (Cj (Ao Du (by rfl) T.ce Bi (tpa (pv 0) (tpa (Ic (v:=.ty "list") rfl T.cz Og rfl) Aa))))) (Ae (An Ad))
  At) (Ab (tst 1 Gu.nd (Ap Aa)) (Ab (Fe i8 rfl (Js rfl T.cp (tpa (Ao Av (by rfl) T.bZ Cd (tpa (pv 0) Aa)) Aa)) (tgn 2 Gu.nd) (Ab (tst 3 Gu.nd (tix Az (pv 0) (pv 2))) (Ab (Ot (PW.pt (Kk (Ds (Cj (A4 aM hr.m (tpa (pv 3) Aa)))) (Iv (PW.pt (Mr (ttc Re (pv 3) (Cg Bn Ad)) (J5 (P2 Vl (pv 3) (pv 1) rfl))))))) (Ae (An (pv 2)))
  At) (Ab (Sm i8 (PW.pt (Mr (ttc (Vx (Ks hr)) (pv 1) (Ap Aa)) (J5 (ttc Re (tix Az (pv 1) (Cg Bn Ad)) (pv 3))))) (Ae (Bl (eF fv rh rf Zj (pv 1))))) (Ae (Bl (Dz fv gp gn Bt (pv 1) (tpa (pv 2) Aa)))))))) (Ae (An C9))))),?_⟩
 k_is
 cases o with
 |none=>
  obtain⟨t,ht,hk⟩:=hT;refine⟨_,_,_,_,rfl,ht,hk,?_⟩;k_is;exact q _ _ (.inr ⟨0,rfl,rfl⟩) (Ah.refl _)
 |some xs=>
  have hn:=hn xs rfl;obtain⟨a,rfl,ha,hf,_⟩:=hT;refine⟨_,_,_,_,rfl,.lst ha,Mf,?_⟩;apply⟨fg _,λp hp=>?_⟩;obtain⟨t0,hp0⟩:=As (o:=.lst []) hp;generalize upd H p _=H0 at *;apply⟨a,_,rfl,.inl (SqL.of (t0 _ _ ha)),?_⟩;apply⟨_,rfl,by lia,by lia,?_⟩;rw[gz];refine Ln (λk G H1=>(∃(ds:Za4) (v w:Option V),G=[some (.ref a),some (.ref p),v,w]/\Dok ds/\ds.length=k/\xs.take k=(B2 ds).map V.int/\H1 p=some (.lst ((way ds k).tail.map V.int)))/\Ah H H1) ?_ ?_ ?_
  ·exact⟨⟨[],_,_,rfl,(λk hk=>by cases hk),rfl,rfl,hp0⟩,t0⟩
  ·rintro k G H1 hk ⟨⟨ds,v,w,rfl,hD,hl,htk,hq1⟩,s1⟩
   obtain⟨x,hx⟩:∃x,xs[k]?=some x:=⟨xs[k],dq hk⟩;have hfx:=(hf x (ir hx)).same s1;have hat:atI xs (0+(k:Int))=some x:=by
    rw[show(0+(k:Int))=(k:Int) by lia];exact Bf hx
   have hw0:=Dg hD k (by lia);obtain⟨wt,hwt⟩:∃wt,way ds k=-1::wt:=by
    cases hw:way ds k with
    |nil=>rw[hw] at hw0;cases hw0
    |cons y wt=>rw[hw] at hw0;exact⟨wt,by rw[d0 hw0]⟩
   have hwl:=Dy hD k (by lia);rw[hwt,fj] at hwl;have hok:=Mw hD k (by lia);rw[hwt,BJ] at hq1;have out:(∀e,xs[k]?=some (V.int e)->e∉way ds k)->∀H3,Ah H H3->Q (.int (0+(k:Int))) H3:=λhb H3 s3=>by
    rw[show(0+(k:Int))=(k:Int) by lia];exact q _ _ (.inr ⟨k,rfl,ds,hD,hl,hk,by lia,htk,.inr hb⟩) s3
   apply Bk (SqL.of (s1 _ _ ha)) hat ?_;apply Uo (λG H2=>∃(e:Int) (d:Nat),G=[some (.ref a),some (.ref p),some (.int (0+(k:Int))),some (.int e)]/\x=.int e/\(way ds k)[d]?=some e/\H2=H1) ?_ ?_
   ·apply⟨x,rfl,hfx,?_⟩
    cases hix:isI x with
    |false=>
     apply out (λe he=>?_) H1 s1;rw[hx] at he;rw[d0 he] at hix;cases hix
    |true=>
     obtain⟨e,rfl⟩:=Rs hix;apply Uv (λhe=>?_) (λhe=>?_)
     ·apply⟨p,_,rfl,.inl (SqL.of hq1),rfl,C1 _,?_⟩;rw[vE]
      by_cases hm:e∈wt
      ·rw[decide_eq_true hm,show(if true=true then !true else true)=false by decide]
       k_is;obtain⟨d,hd⟩:=km hm;exact⟨e,d+1,rfl,rfl,by rw[hwt];exact hd,rfl⟩
      ·rw[decide_eq_false hm,show(if true=true then !false else false)=true by decide]
       apply out (λe' he'=>?_) H1 s1;rw[hx] at he';rw[<-V.int.inj (d0 he'),hwt];intro hc;rcases gd.mp hc with h1|h1
       ·exact he (congrArg V.int h1)
       ·exact hm h1
     ·have he:=V.int.inj he
      subst he;k_is;exact⟨-1,0,rfl,rfl,hw0,rfl⟩
   ·rintro G H2 ⟨e,d,rfl,rfl,hd,rfl⟩
    have hdl:=Bs hd;rw[hwt,fj] at hdl;apply Rn (λG H3=>G=[some (.ref a),some (.ref p),some (.int (0+(k:Int))),some (.int e)]/\Ah H H3/\∃m,d<=m/\m<=wt.length/\H3 p=some (.lst ((wt.take m).map V.int))) (λ_ H3=>fY H3 p) ⟨rfl,s1,wt.length,by lia,d3 _,by rw[fm (d3 _)];exact hq1⟩ ?_;rintro z G H3 ⟨rfl,s3,m,hm1,hm2,hp3⟩ hz;rw[No hp3,Dr hm2] at hz;apply⟨fg _,λz1 hz1=>?_⟩;have u4:=Ai (o:=.lst []) hz1;apply kX (ns:=wt.take m) (ms:=[]) (SqL.of (u4 _ _ hp3)) (SqL.of Ac) ?_;generalize upd H3 z1 _=H4 at *;have hp4:=u4 _ _ hp3;have s4:=s3.trans u4
    by_cases hmd:m=d
    ·subst hmd
     have hgd:(way ds k).getD m 0=e:=by unfold ge;rw[hd];rfl
     have e1:=Nj ds m;rw[hl,hwt,pw,qz] at e1;have fin:∃(ds':Za4) (v w:Option V),[some (.ref a),some (.ref p),some (.int (0+(k:Int))),some (.int e)]=[some (.ref a),some (.ref p),v,w]/\Dok ds'/\ds'.length=k+1/\xs.take (k+1)=(B2 ds').map V.int/\upd H4 p (.lst ((wt.take m).map V.int++[V.int (0+(k:Int))])) p=some (.lst ((way ds' (k+1)).tail.map V.int)):=by
      refine⟨ds++[m],_,_,rfl,Nh hD (by rw[hl];lia),by rw[d5,hl];rfl,?_,?_⟩
      ·rw[Tv hx,htk,Lp,hl,hgd,eh]
       rfl
      ·rw[Ac,e1,BJ,eh,show(0+(k:Int))=(k:Int) by lia]
       rfl
     by_cases h0:m=0
     ·rw[decide_eq_true (show wt.take m=[] by rw[h0];rfl)]
      apply⟨.inl ⟨rfl,_,SqL.of hp4⟩,?_⟩;apply Bv hp4 (Ag (by rw[Dr hm2];lia)) ?_;exact⟨fin,Bz s4 hp⟩
     ·rw[decide_eq_false (show ¬ wt.take m=[] from λz=>by have:=congrArg k6 z;rw[d9,gw] at this;lia)]
      k_is;have hy:wt[m-1]?=some e:=by
       rw[hwt,show m=m-1+1 by lia,qy] at hd;exact hd
      refine Bk (SqL.of hp4) (G7 (by lia) hy) ?_;apply Uv (λh=>absurd rfl h) (λ_=>?_);apply⟨.inl ⟨rfl,_,SqL.of hp4⟩,?_⟩;apply Bv hp4 (Ag (by rw[Dr hm2];lia)) ?_;exact⟨fin,Bz s4 hp⟩
    ·have hy:wt[m-1]?=some (wt[m-1]'(by lia)):=dq _
     generalize wt[m-1]'(by lia)=y at hy;have hye:y≠e:=λz=>by
      have e2:(way ds k)[m]?=some y:=by rw[hwt,show m=m-1+1 by lia,qy];exact hy
      have:=M1 hD k d m _ _ (by lia) (by lia) hd e2;lia
     rw[decide_eq_false (show ¬ wt.take m=[] from λz=>by have:=congrArg k6 z;rw[d9,gw] at this;lia)];apply Bk (SqL.of hp4) (G7 (by lia) hy) ?_;apply Uv (λ_=>?_) (λh=>absurd (V.int.inj h) hye);refine Zv ?_;apply⟨.inl ⟨rfl,_,SqL.of hp4⟩,?_⟩;refine⟨p,_,.int y,rfl,rfl,hp4,?_,?_⟩
     ·rw[Dr hm2,Ui (n:=y)]
      rw[fe (by lia)];exact hy
     k_is;rw[Oq hm2];refine⟨⟨rfl,Bz s4 hp,m-1,by lia,by lia,Ac⟩,?_⟩;rw[No Ac,Dr (by lia)];lia
  ·rintro G H1 ⟨⟨ds,v,w,rfl,hD,hl,htk,hq1⟩,s1⟩
   rw[fm (d3 _)] at htk;k_is;exact q _ _ (.inl ⟨rfl,ds,hD,by lia,htk⟩) s1
def kNm:Nat->Str
 |0=>"knot"
 |1=>"graft"
 |2=>"wood"
 |3=>"large"
 |_=>"deed"
theorem wM {j:Nat}(h:j<5):(([decide (j=0),decide (j=1),decide (j=2),decide (j=3),decide (j=4)]).filter id).length=1:=by
 match j,h with
 |0,_=>rfl
 |1,_=>rfl
 |2,_=>rfl
 |3,_=>rfl
 |4,_=>rfl
theorem Ys {z:Str}{j:Nat}{p:Pos}:PE X (.List [.Constant (.str z) j p] pos) (Th (Fp (tC (.str z)) Ld)):=Ap (tpa Aw Aa)
theorem yR {z1 z2 z3 z4 z5:Str}{j1 j2 j3 j4 j5:Nat}{p1 p2 p3 p4 p5 q1 q2 q3 q4 q5:Pos}:PE X (.List [.List [.Constant (.str z1) j1 p1] q1,.List [.Constant (.str z2) j2 p2] q2,.List [.Constant (.str z3) j3 p3] q3,.List [.Constant (.str z4) j4 p4] q4,.List [.Constant (.str z5) j5 p5] q5] pos) (Th (Fp (Th (Fp (tC (.str z1)) Ld)) (Fp (Th (Fp (tC (.str z2)) Ld)) (Fp (Th (Fp (tC (.str z3)) Ld)) (Fp (Th (Fp (tC (.str z4)) Ld)) (Fp (Th (Fp (tC (.str z5)) Ld)) Ld)))))):=by
 refine Ap ?_;refine tpa Ys ?_;refine tpa Ys ?_;refine tpa Ys ?_;refine tpa Ys ?_;exact tpa Ys Aa
theorem jA {lo:Int}{n:Nat}{fr:St}{tc:TT}{Q:VK}(Pv:dw->Nat->List V->Hp->Prop)(h0:∀D H,Pv D 0 [] H)
  (stab:∀D i ys H o,Pv D i ys H->Pv D i ys (upd H D o))(hz:∀D i ys H,Pv D i ys H->ys.length<sizeLine)
  (turn:∀D (i:Nat) ys H (A:VK) (R:Hp->Prop),i<n->Ah H1 H->H D=some (.lst ys)->Pv D i ys H->(∀H',Ah H H'->Pv D (i+1) ys H'->R H')->(∀y H',Ah H H'->Pv D (i+1) (ys++[y]) H'->A y H')->tc (some (.int (lo+i))::fr) H λb H3=>if b=true then te (some (.int (lo+i))::fr) H3 A else R H3)
  (fin:∀D ys H,H1 D=none->Ah H1 H->Pv D n ys H->H D=some (.lst ys)->Q (.ref D) H):Vm (Itr lo n) H1 fr tc te Q:=by
 intro D hD;refine⟨λi m H=>i<=n/\m=n-i/\Ah H1 H/\∃ys,H D=some (.lst ys)/\Pv D i ys H,⟨n,fg _,rfl,Ai hD,[],Ac,h0 D _⟩,?_⟩;rintro i m H ⟨hi,rfl,sm,ys,hl,hp⟩
 by_cases h:i=n
 ·subst h
  exact .inl ⟨d3 _,fin D ys H hD sm hp hl⟩
 ·have hlt:i<n:=jt hi h
  refine .inr ⟨hlt,λx H' hyl=>?_⟩;obtain⟨rfl,rfl⟩:x=.int (lo+i)/\H'=H:=⟨hyl.2,hyl.1⟩;refine turn D i ys H' _ _ hlt sm hl hp (λH4 s4 hp4=>?_) (λy H4 s4 hp4=>?_)
  ·exact⟨n-(i+1),by lia,by lia,rfl,sm.trans s4,ys,s4 _ _ hl,hp4⟩
  ·refine⟨ys,s4 _ _ hl,hz D i ys _ hp,n-(i+1),by lia,by lia,rfl,λb u e=>?_,ys++[y],Ac,stab _ _ _ _ _ hp4⟩
   rw[Aj (Am e hD)];exact s4 _ _ (sm _ _ e)
inductive Y3 (CN CG CW CL CD:dw)(vs:List V)(H:Hp)(Q:VK)(E:XK):Prop|mk(e C:dw)(od:Option dw)(r:List V)(_:vs=[.ref e])(_:H e=some (Po e C od))(_:jS CN CG CW CL CD H C od r)(_:∀p H',Ah H H'->H p=none->H' p=some (.lst r)->Q (.ref p) H')
include T in
theorem W4 (F:Fun K "_law_kind" "_law_kind" Hn f fd):Ay P w K mg base CX0 1 f fd ["_law_e"] (Y3 ai am ag ao aj):=by
 exists F.ok Pl
 obtain⟨e,C,od,r,rfl,he,ho,q⟩:=h;obtain⟨fo,O⟩:=T.cU;obtain⟨j,hj5,hk,kv,k0,k1,k2,k3,k4,hr2⟩:∃j:Nat,j<5/\Gx K C/\kitOne K (.ref C) (.type "ValueError")=some true/\kitOne K (.ref C) (.ref ai)=some (decide (j=0))/\kitOne K (.ref C) (.ref am)=some (decide (j=1))/\kitOne K (.ref C) (.ref ag)=some (decide (j=2))/\kitOne K (.ref C) (.ref ao)=some (decide (j=3))/\kitOne K (.ref C) (.ref aj)=some (decide (j=4))/\((j=2/\C=ag/\∃(dx:dw) (n:Nat),od=some dx/\H dx=some (.xd [("place",.int (n:Nat))])/\r=[.str "wood",.int (n:Nat)])\/(j≠2/\r=[.str (kNm j)])):=by
  rcases ho with⟨rfl,rfl⟩|⟨rfl,rfl⟩|⟨rfl,hw⟩|⟨rfl,rfl⟩|⟨rfl,rfl⟩
  ·exact⟨0,by decide,T.cZ,(T.ci.d 5).1,T.ci.1,T.ci.2.1,T.ci.2.2.1,T.ci.2.2.2.1,(T.ci.d 4).1,.inr ⟨by decide,rfl⟩⟩
  ·exact⟨1,by decide,T.c9,(T.cm.d 5).1,T.cm.1,T.cm.2.1,T.cm.2.2.1,T.cm.2.2.2.1,(T.cm.d 4).1,.inr ⟨by decide,rfl⟩⟩
  ·exact⟨2,by decide,T.cM,(T.ck.d 5).1,T.ck.1,T.ck.2.1,T.ck.2.2.1,T.ck.2.2.2.1,(T.ck.d 4).1,.inl ⟨rfl,rfl,hw⟩⟩
  ·exact⟨3,by decide,T.dc,(T.cg.d 5).1,T.cg.1,T.cg.2.1,T.cg.2.2.1,T.cg.2.2.2.1,(T.cg.d 4).1,.inr ⟨by decide,rfl⟩⟩
  ·exact⟨4,by decide,T.df,(T.cn.d 5).1,T.cn.1,T.cn.2.1,T.cn.2.2.1,T.cn.2.2.2.1,(T.cn.d 4).1,.inr ⟨by decide,rfl⟩⟩
 have h1f:=wM hj5;refine⟨_,(Ab (Mu (i:=1) Pl.nd rfl (vv rfl) (Ap (tpa (Ao (Di K) (by rfl) T.ce Bi (tpa (pv 0) (tpa (Ly (v:=.ref _) rfl T.c5 rfl) Aa))) (tpa (Ao (Di K) (by rfl) T.ce Bi (tpa (pv 0) (tpa (Ly (v:=.ref _) rfl T.de rfl) Aa))) (tpa (Ao (Di K) (by rfl) T.ce Bi (tpa (pv 0) (tpa (Ly (v:=.ref _) rfl T.cV rfl) Aa))) (tpa (Ao (Di K) (by rfl) T.ce Bi (tpa (pv 0) (tpa (Ly (v:=.ref _) rfl T.da rfl) Aa))) Aa)))))) (Ab (Bl (Dz fv gp gn Bt (pv 1) (tpa (Ao (Di K) (by rfl) T.ce Bi (tpa (pv 0) (tpa (Ly (v:=.ref _) rfl T.dj rfl) Aa))) Aa))) (Ab (Bj (PW.pt (Kk (Ds (Cj (Ao (Di K) (by rfl) T.ce Bi (tpa (pv 0) (tpa (Ic (v:=.ty "ValueError") rfl T.dh Vq rfl) Aa))))) (Iv (ttc Re (Ao Av (by rfl) T.bZ Cd (tpa (K0 rfl S1 (Ct (pv 1)) (λ_ _ _ _=>Gr (Cj (pv 0))) (λ_ _ _ _=>(pv 0))) Aa)) Ad)))) (Ae (An (Ap (tpa Aw Aa))))
  At) (Ab (Bj (Cj (tix Az (pv 1) Ad)) (Ae (An (Ap (tpa Aw (tpa (lP (pv 0)) Aa)))))
  At) (Ae (An (tix Az (K0 rfl S9 (Js rfl T.cp (tpa Ad Aa)) (λ_ _ _ _=>Gr (Cj (tix (Hk K) (pv 1) (pv 0)))) (λ_ _ _ _=>(tix (Hk K) yR (pv 0)))) Ad))))))),?_⟩
 apply⟨e,C,od,_,_,_,rfl,he,hk,rfl,k0,?_⟩;apply⟨e,C,od,_,_,_,rfl,he,hk,rfl,k1,?_⟩;apply⟨e,C,od,_,_,_,rfl,he,hk,rfl,k2,?_⟩;apply⟨e,C,od,_,_,_,rfl,he,hk,rfl,k3,?_⟩;apply⟨few (by simp),λp1 h1=>?_⟩;obtain⟨t1,e1⟩:=As (o:=.lst [V.bl (decide (j=0)),V.bl (decide (j=1)),V.bl (decide (j=2)),V.bl (decide (j=3))]) h1;generalize upd H p1 _=H1 at *;apply⟨.inl ⟨rfl,_,SqL.of e1⟩,?_⟩;apply⟨e,C,od,_,_,_,rfl,t1 _ _ he,hk,rfl,k4,?_⟩;apply Bv e1 (few (by simp)) ?_;obtain⟨bs,hbs⟩:∃bs,[decide (j=0),decide (j=1),decide (j=2),decide (j=3),decide (j=4)]=bs:=⟨_,rfl⟩;have e2:upd H1 p1 (.lst ([V.bl (decide (j=0)),V.bl (decide (j=1)),V.bl (decide (j=2)),V.bl (decide (j=3))]++[V.bl (decide (j=4))])) p1=some (.lst (bs.map V.bl)):=by rw[Ac,<-hbs];rfl
 have t2:Ah H (upd H1 p1 (.lst ([V.bl (decide (j=0)),V.bl (decide (j=1)),V.bl (decide (j=2)),V.bl (decide (j=3))]++[V.bl (decide (j=4))]))):=Bz t1 h1;generalize upd H1 p1 _=H2 at *;rw[hbs] at h1f;apply⟨e,C,od,_,_,_,rfl,t2 _ _ he,hk,rfl,kv,?_⟩;apply⟨p1,rfl,⟨_,SqL.of e2⟩,Ie (SqL.of e2) (λi=>((bs.take i).filter id).map V.bl) rfl (λi hi=>?_) (λi x H5 R A' hx s5 kR kA=>?_) (λD5 H5 h5 s5 hD5=>?_)⟩
 ·rw[du]
  exact G6 (ie (sf _ _) (by rw[d9,<-hbs];simp only[fj,gw];lia))
 ·rw[d8] at hx
  cases hb:bs[i]? with
  |none=>rw[hb] at hx;cases hx
  |some b=>
   rw[hb] at hx;obtain rfl:=d0 hx
   cases b with
   |true=>
    k_is;exact kA _ _ (by rw[ip,hb,k8,eh];rfl) (Ah.refl _)
   |false=>
    k_is;exact kR (by rw[ip,hb,k8,eh];simp) _ (Ah.refl _)
 rw[du,lx] at hD5;have e5:=s5 _ _ e2;have w5:=t2.trans s5;apply⟨D5,_,rfl,.inl (SqL.of hD5),?_⟩;rw[du,h1f];apply Uv (λh=>absurd rfl h) (λ_=>?_);apply Bk (SqL.of e5) (v:=.bl (decide (j=2))) (by rw[<-hbs];rfl) ?_;rcases hr2 with⟨rfl,rfl,dx,n,rfl,hdx,rfl⟩|⟨hj2,rfl⟩
 ·rw[show decide ((2:Nat)=2)=true from rfl]
  apply⟨e,_,_,fo,dx,_,n,rfl,w5 _ _ he,O,T.cM,w5 _ _ hdx,rfl,?_⟩;apply⟨few (by simp),λp6 h6=>?_⟩;exact q p6 _ (w5.trans (Ai h6)) (w5.free h6) Ac
 ·rw[decide_eq_false hj2]
  apply⟨_,rfl,by decide,by decide,?_⟩;refine jA (λD i ys H'=>(i<=j/\ys=[])\/(j<i/\∃p,p≠D/\ys=[.ref p]/\H' p=some (.lst [V.str (kNm j)])/\H p=none)) (λD H'=>.inl ⟨fg _,rfl⟩) (λD i ys H' o h=>?_) (λD i ys H' h=>?_) (λD i ys H6 A' R hi s6 hD6 hPv kR kA=>?_) (λD ys H6 hD s6 hPv h6=>?_)
  ·rcases h with h|⟨h1,p,h2,h3,h4,h5⟩
   ·exact .inl h
   ·exact .inr ⟨h1,p,h2,h3,by rw[Aj h2];exact h4,h5⟩
  ·rcases h with⟨_,rfl⟩|⟨_,p,_,rfl,_⟩
   ·exact G6 (fg _)
   ·exact G6 (by simp)
  ·have hi:i<5:=hi
   apply Bk (SqL.of (s6 _ _ e5)) (v:=.bl (decide (j=i))) ?_ ?_
   ·rw[<-hbs,yq]
    refine Bf ?_
    match i,hi with
    |0,_=>rfl
    |1,_=>rfl
    |2,_=>rfl
    |3,_=>rfl
    |4,_=>rfl
   by_cases hji:j=i
   ·rw[decide_eq_true hji]
    apply⟨few (by simp),λq0 g0=>?_⟩;have u0:=Ai (o:=.lst [V.str "knot"]) g0;have f0:upd H6 q0 (.lst [V.str "knot"]) q0=some (.lst [V.str (kNm 0)]):=Ac;generalize upd H6 q0 _=G0 at *;apply⟨few (by simp),λq1 g1=>?_⟩;have u1:=Ai (o:=.lst [V.str "graft"]) g1;have f1:upd G0 q1 (.lst [V.str "graft"]) q1=some (.lst [V.str (kNm 1)]):=Ac;generalize upd G0 q1 _=G1 at *;apply⟨few (by simp),λq2 g2=>?_⟩;have u2:=Ai (o:=.lst [V.str "wood"]) g2;have f2:upd G1 q2 (.lst [V.str "wood"]) q2=some (.lst [V.str (kNm 2)]):=Ac;generalize upd G1 q2 _=G2 at *;apply⟨few (by simp),λq3 g3=>?_⟩;have u3:=Ai (o:=.lst [V.str "large"]) g3;have f3:upd G2 q3 (.lst [V.str "large"]) q3=some (.lst [V.str (kNm 3)]):=Ac;generalize upd G2 q3 _=G3 at *;apply⟨few (by simp),λq4 g4=>?_⟩;have u4:=Ai (o:=.lst [V.str "deed"]) g4;have f4:upd G3 q4 (.lst [V.str "deed"]) q4=some (.lst [V.str (kNm 4)]):=Ac;generalize upd G3 q4 _=G4 at *;apply⟨few (by simp),λq5 g5=>?_⟩;obtain⟨u5,f5⟩:=As (o:=.lst [V.ref q0,V.ref q1,V.ref q2,V.ref q3,V.ref q4]) g5;generalize upd G4 q5 _=G5 at *;k_is;have v1:=u0.trans u1;have v2:=v1.trans u2;have v3:=v2.trans u3;obtain⟨p,hp1,hp2,hp3⟩:∃p,[V.ref q0,V.ref q1,V.ref q2,V.ref q3,V.ref q4][i]?=some (.ref p)/\G5 p=some (.lst [V.str (kNm i)])/\H6 p=none:=by
     match i,hi with
     |0,_=>exact⟨q0,rfl,u5 _ _ (u4 _ _ (u3 _ _ (u2 _ _ (u1 _ _ f0)))),g0⟩
     |1,_=>exact⟨q1,rfl,u5 _ _ (u4 _ _ (u3 _ _ (u2 _ _ f1))),u0.free g1⟩
     |2,_=>exact⟨q2,rfl,u5 _ _ (u4 _ _ (u3 _ _ f2)),v1.free g2⟩
     |3,_=>exact⟨q3,rfl,u5 _ _ (u4 _ _ f3),v2.free g3⟩
     |4,_=>exact⟨q4,rfl,u5 _ _ f4,v3.free g4⟩
    refine Bk (SqL.of f5) (v:=.ref p) (by rw[yq];exact Bf hp1) ?_;refine kA _ _ ((v3.trans u4).trans u5) (.inr ⟨by lia,p,(Am hD6 hp3).symm,?_,by rw[hji];exact hp2,(w5.trans s6).free hp3⟩);rcases hPv with⟨_,rfl⟩|⟨h1,_⟩
    ·rfl
    ·lia
   ·rw[decide_eq_false hji]
    apply kR _ (Ah.refl _) ?_;rcases hPv with⟨h1,h2⟩|⟨h1,h2⟩
    ·exact .inl ⟨by lia,h2⟩
    ·exact .inr ⟨by lia,h2⟩
  rcases hPv with⟨h1,_⟩|⟨_,p,_,rfl,hp,hp0⟩
  ·exact absurd (show 5<=j from h1) (by lia)
  refine Bk (SqL.of h6) (v:=.ref p) rfl ?_;exact q p H6 (w5.trans s6) hp0 hp
theorem jS.same {CN CG CW CL CD:dw}{r:List V}(s:Ah H H')(h:jS CN CG CW CL CD H C od r):jS CN CG CW CL CD H' C od r:=by
 rcases h with h|h|⟨h1,dx,n,h2,h3,h4⟩|h
 ·exact .inl h
 ·exact .inr (.inl h)
 ·exact .inr (.inr (.inl ⟨h1,dx,n,h2,s _ _ h3,h4⟩))
 ·exact .inr (.inr (.inr h))
inductive Xi (K:dn)(C CR CS:dw)(ts:List Tb)(vs:List V)(H:Hp)(Q:VK)(E:XK):Prop|mk(x e:dw)(ls:List (Za5))(prs:List (List (Za5)))(ds:Za4)(z:Str)(k place v:V)(_:vs=[.ref x,.str z,k,place,v])(_:Gd C CR CS H x e ls prs)(_:Tbs ts H)(_:Dok ds)(_:ls.flatten=Aq ds)(_:Any K H k)(_:ls.length<=100)(_:prs.length<=1000)(_:ds.length<=4000)(_:((z="cut"/\NoK k ds.length/\∀p H',SmT ts H H'->H p=none->H' p=some (.lst [.str "knot"])->Q (.ref p) H') \/ (z="back"/\prs=[]/\∀p H',SmT ts H H'->H p=none->H' p=some (.lst [.str "deed"])->Q (.ref p) H') \/ (z="graft"/\∃(o:Option (List V)) (kd:Nat),Any K H place/\ThA K H v o/\(k=.non->kd=(B4 ds ds.length (-1)).length)/\(∀j:Nat,k=.int j->kd=(B4 ds ds.length j).length) /\ ((∃r,rJ ds.length kd k place o r/\∀p H',SmT ts H H'->H p=none->H' p=some (.lst r)->Q (.ref p) H') \/ ∃(j pl a off:Nat) (top:Int) (es:Za4),k=.int j/\place=.int pl/\Ia o es/\GAt ds (some j) pl a off top/\ds.length+es.length<=4000/\∀f b p H',Vh ls (2*a-off) (2*a-off) (2*es.length) f b->(E5 ls (2*a-off) (2*a-off) (Aq es) f b).flatten=Aq (Mn ds es a off)->Gd C CR CS H' x e (E5 ls (2*a-off) (2*a-off) (Aq es) f b) (prs++[ls])->SmE ts x e H H'->H' p=some (.lst [.str "good"])->Q (.ref p) H'))))
variable (aH:Cal P w K mg base "_law_kind" 1 ["_law_e"] (Y3 ai am ag ao aj))
include T ah aH in
theorem Xs (F:Fun K "_law_done" "_law_done" Mx f fd)(bO:Te P w K mg base ae "cut" 6 ["self","k"] (lJ K ac aa ae ai ts))(bP:Te P w K mg base ae "graft" 14 ["self","k","place","elders"] (Tm K ac aa ae ai am ag ao aj ts))(bQ:Te P w K mg base ae "take_back" 4 ["self"] (Vi ac aa ae aj)):Ay P w K mg base CX0 15 f fd ["_law_wood_here","_law_way","_law_k","_law_place","_law_elders"] (Xi K ac aa ae ts):=by
 exists F.ok Ii
 obtain⟨x,e,ls,prs,ds,z,k,place,v,rfl,hS,hT,hD,hrow,hA,hl,hpr,hn,hq⟩:=h;obtain⟨dx,r,hx,_⟩:=id hS.hx;refine⟨_,(Ab (tst 5 Ii.nd C9) (Ab (dD (i:=6) rfl rfl rfl Ii.nd rfl rfl rfl T.cN (λE pins G=>(Es (Yx (ttc Fo (pv 1) Aw) (Es (Hq (Sa bO hr.m Jd (pv 0) (tpa (pv 2) Aa)))) (Es (Yx (ttc Fo (pv 1) Aw) (Es (Hq (Sa bP hr.m Jd (pv 0) (tpa (pv 2) (tpa (pv 3) (tpa (pv 4) Aa)))))) (Es (Hq (jZ bQ hr.m Jd (pv 0))))))))) (λe=>(Ae (tst 5 Ii.nd (pv 6))))) (Ab (Bj (K4 (U6 (pv 5))) (Ae (An (Ap (tpa Aw Aa))))
  At) (Ae (An (A4 aH hr.m (tpa (pv 5) Aa))))))),?_⟩
 apply⟨λCv od H'=>∃C r,Cv=.ref C/\jS ai am ag ao aj H' C od r/\SmT ts H H'/\∀p H2,SmT ts H H2->H p=none->H2 p=some (.lst r)->Q (.ref p) H2,?_,?_⟩
 ·k_is
  rcases hq with⟨rfl,hb,q⟩|⟨rfl,rfl,q⟩|⟨rfl,o,kd,hAp,hTh,hk0,hk1,hq⟩
  ·refine B5 (λ_=>?_) (λh=>absurd rfl h)
   apply⟨x,dx,_,rfl,hx,rfl,?_⟩;k_is;exact⟨x,ls,ds,k,rfl,hS.sh,hT,hD,hrow,hA,hb,_,_,rfl,.inl ⟨rfl,rfl⟩,SmT.refl hT,q⟩
  ·refine B5 (λh=>absurd h (by decide)) (λ_=>?_)
   apply B5 (λh=>absurd h (by decide)) (λ_=>?_);apply⟨x,dx,_,rfl,hx,rfl,?_⟩;k_is;exact⟨x,e,ls,rfl,hS,_,_,rfl,.inr (.inr (.inr (.inr ⟨rfl,rfl⟩))),SmT.refl hT,q⟩
  ·refine B5 (λh=>absurd h (by decide)) (λ_=>?_)
   apply B5 (λ_=>?_) (λh=>absurd rfl h);apply⟨x,dx,_,rfl,hx,rfl,?_⟩;apply⟨x,e,ls,prs,ds,k,place,v,o,kd,rfl,hS,hT,hD,hrow,hA,hAp,hTh,hl,hpr,hn,hk0,hk1,?_⟩;rcases hq with⟨r,hdue,q⟩|⟨j,pl,a,off,top,es,h1,h2,h3,h4,h5,q⟩
   ·exact .inl ⟨r,hdue,λD od H' hK s'=>⟨D,r,rfl,hK,s',q⟩⟩
   ·refine .inr ⟨j,pl,a,off,top,es,h1,h2,h3,h4,h5,λf b H' hN hfl hS' s'=>?_⟩
    apply⟨few (by simp),λp hp=>?_⟩;have u:=Ai (o:=.lst [V.str "good"]) hp;exact q f b p _ hN hfl (hS'.kp (Ah.kp u)) (s'.trans (SmE.of (SmT.of s'.ok u))) Ac
 ·rintro C od H' e2 ⟨C',r,hC,hK,sH,q⟩ he
  obtain rfl:=se hC;obtain⟨t1,he1⟩:=As (o:=Po e2 C od) he;have hK1:=hK.same t1;have s1:=sH.then t1;generalize upd H' e2 _=H1 at *;refine⟨?_,?_⟩
  ·rcases hK with⟨rfl,_⟩|⟨rfl,_⟩|⟨rfl,_⟩|⟨rfl,_⟩|⟨rfl,_⟩
   ·exact T.cr
   ·exact T.cC
   ·exact T.cq
   ·exact T.cx
   ·exact T.cF
  k_is;exact⟨e2,C,od,r,rfl,he1,hK1,λp H2 s2 f2 e2=>q p H2 (s1.then s2) (s1.sm.free f2) e2⟩
inductive Xc (K:dn)(vs:List V)(H:Hp)(Q:VK)(E:XK):Prop|mk(v:V)(o:Option (List V))(n:Nat)(_:vs=[v])(_:ThA K H v o)(_:Kz o n)(_:∀p H',Ah H H'->H p=none->H' p=some (.lst [.str "wood",.int (n:Nat)])->Q (.ref p) H')
variable (aI:rE P w K mg base "Shaped" ae 6 ["self","elders"] (W6 K ac aa ae ag))
include T ah aH aI in
theorem P8 (F:Fun K "_law_no_wood" "_law_no_wood" Iu f fd):Ay P w K mg base CX0 8 f fd ["_law_elders"] (Xc K):=by
 exists F.ok Fh
 obtain⟨v,o,n,rfl,hTh,hn,q⟩:=h;refine⟨_,(Ab (tst 1 Fh.nd C9) (Ab (dD (i:=2) rfl rfl rfl Fh.nd rfl rfl rfl T.cN (λE pins G=>(Es (Hq (mY aI hr.m Jd (tpa (pv 0) Aa))))) (λe=>(Ae (tst 1 Fh.nd (pv 2))))) (Ab (Bj (K4 (U6 (pv 1))) (Ae (An (Ap (tpa Aw Aa))))
  At) (Ae (An (A4 aH hr.m (tpa (pv 1) Aa))))))),?_⟩
 apply⟨λC od H'=>Ah H H'/\C=.ref ag/\∃dx:dw,od=some dx/\H' dx=some (.xd [("place",.int (n:Nat))]),?_,?_⟩
 ·k_is
  intro x dx hx hdx hne;refine⟨x,dx,v,o,rfl,Ac,hTh.same (Jo hx hdx),λds hG=>(Ge hn hG).elim,λm hm dy H' s1 _ hy=>⟨(Jo hx hdx).trans s1,rfl,dy,rfl,?_⟩⟩;rw[Ij hn hm];exact hy
 ·rintro C od H' e ⟨sH,hC,dx,rfl,hx⟩ he
  obtain rfl:=se hC;obtain⟨t1,he1⟩:=As (o:=Po e C (some dx)) he;have hx1:=t1 _ _ hx;have s1:=sH.trans t1;generalize upd H' e _=H1 at *;refine⟨T.cq,?_⟩;k_is;exact⟨e,C,some dx,_,rfl,he1,.inr (.inr (.inl ⟨rfl,dx,n,rfl,hx1,rfl⟩)),λp H2 s2 f2 e2=>q p H2 (s1.trans s2) (s1.free f2) e2⟩
theorem wK {k:V}{g:Int}(h:isI k=false):inI k 0 g=false:=by
 cases k<;>first|rfl|cases h
inductive iF (K:dn)(vs:List V)(H:Hp)(Q:VK)(E:XK):Prop|mk(n kd:Nat)(k place v:V)(o:Option (List V))(_:vs=[.int (n:Nat),k,place,.int (kd:Nat),v])(_:Any K H k)(_:Any K H place)(_:ThA K H v o)(_:(k=.non\/NoK k n))(_:(∀xs,o=some xs->xs.length<=300))(_:n<=1000)(_:∀r p H',Ah H H'->H p=none->H' p=some (.lst r)->(r=[.str "good"]\/rJ n kd k place o r)->Q (.ref p) H')
variable (aJ:Cal P w K mg base "_law_fault" 2 ["_law_elders"] (Xu K))
include T aM aJ in
theorem eC (F:Fun K "_law_due" "_law_due" Oo f fd):Ay P w K mg base CX0 3 f fd ["_law_many","_law_k","_law_place","_law_children","_law_elders"] (iF K):=by
 exists F.ok dM
 obtain⟨n,kd,k,place,v,o,rfl,hAk,hAp,hTh,hk,hxs,hn,q⟩:=h;refine⟨_,(Ab (Bj (PW.pt (Mr (K4 (M8 (pv 1))) (J5 (PW.pt (Kk (Ds (Cj (A4 aM hr.m (tpa (pv 1) Aa)))) (Iv (Ds (Rg Nf Mh Ad (pv 1) (pv 0))))))))) (Ae (An (Ap (tpa Aw Aa))))
  At) (Ab (Bj (PW.pt (Kk (Ds (Cj (A4 aM hr.m (tpa (pv 2) Aa)))) (Iv (Ds (Rg Nf Nf Ad (pv 2) (pv 3)))))) (Ae (An (Ap (tpa Aw Aa))))
  At) (Ab (Bj (K4 (M8 (A4 aJ hr.m (tpa (pv 4) Aa)))) (Ae (An (Ap (tpa Aw (tpa (A4 aJ hr.m (tpa (pv 4) Aa)) Aa)))))
  At) (Ae (An (tix Az (Ap (tpa (Ap (tpa Aw Aa)) (tpa (Ap (tpa Aw Aa)) Aa))) (Om jP (by rfl) T.cS lX (tpa (tpc Mg (Al A0 (pv 0) (Ao Av (by rfl) T.bZ Cd (tpa (pv 4) Aa))) Ad) Aa)))))))),?_⟩
 by_cases hkn:k=.non
 ·subst hkn
  have graft:inI place 0 kd=false->∀p,H p=none->Q (.ref p) (upd H p (.lst [V.str "graft"])):=λhf p hp=>q _ p _ (Ai hp) hp Ac (.inr (.inr (.inl ⟨rfl,.inl ⟨hf,rfl⟩⟩)));apply⟨place,rfl,hAp,?_⟩
  cases hix:isI place with
  |false=>
   k_is;exact⟨few (by simp),graft (wK hix)⟩
  |true=>
   obtain⟨i,rfl⟩:=Rs hix;apply B5 (λh0=>?_) (λh0=>?_)
   ·k_is
    by_cases h1:i<=(kd:Int)
    ·have hin:inI (.int i) 0 (kd:Int)=true:=by rw[F7,decide_eq_true h0,decide_eq_true h1];rfl
     rw[decide_eq_true h1];apply⟨v,o,rfl,hTh,hxs,λr H1 hr1 s1=>?_⟩;rcases hr1 with⟨rfl,es,hG⟩|⟨j,rfl,hF⟩
     ·obtain⟨hDe,hel,rfl⟩:=hG.ok
      obtain⟨l,rfl,hla,_⟩:=id hTh;have hx3:=hxs _ rfl;apply⟨few (by simp),λq1 g1=>?_⟩;obtain⟨u1,f1⟩:=As (o:=.lst [V.str "good"]) g1;generalize upd H1 q1 _=G1 at *;apply⟨few (by simp),λq2 g2=>?_⟩;have u2:=Ai (o:=.lst [V.str "large"]) g2;generalize upd G1 q2 _=G2 at *;apply⟨few (by simp),λq3 g3=>?_⟩;obtain⟨u3,f3⟩:=As (o:=.lst [V.ref q1,V.ref q2]) g3;generalize upd G2 q3 _=G3 at *;have w3:=((s1.trans u1).trans u2).trans u3;apply⟨l,_,rfl,.inl (SqL.of (w3 _ _ hla)),?_⟩;k_is;rw[decide_eq_false (show ¬(4000:Int)<(n:Int)+(((B2 es).map V.int).length:Nat) by lia)];refine .inr ⟨_,rfl,?_⟩;refine Bk (SqL.of f3) (v:=.ref q1) rfl ?_;exact q _ q1 _ w3 (s1.free g1) (u3 _ _ (u2 _ _ f1)) (.inl rfl)
     ·apply⟨v,o,rfl,hTh.same s1,hxs,λr H2 hr2 s2=>?_⟩;rcases hr2 with⟨rfl,es,hG⟩|⟨j2,rfl,hF2⟩
      ·exact(Ge hF hG).elim
      obtain rfl:=Ij hF hF2;apply⟨few (by simp),λp hp=>?_⟩;exact q _ p _ ((s1.trans s2).trans (Ai hp)) ((s1.trans s2).free hp) Ac (.inr (.inr (.inl ⟨rfl,.inr ⟨hin,j,hF,rfl⟩⟩)))
    ·rw[decide_eq_false h1]
     k_is;exact⟨few (by simp),graft (by rw[F7,decide_eq_false h1,qi])⟩
   ·k_is
    exact⟨few (by simp),graft (by rw[F7,decide_eq_false h0,wq])⟩
 ·have hb:NoK k n:=hk.resolve_left hkn
  have knot:∀p,H p=none->Q (.ref p) (upd H p (.lst [V.str "knot"])):=λp hp=>q _ p _ (Ai hp) hp Ac (.inr (.inl ⟨hkn,hb,rfl⟩));apply Uv (λ_=>?_) (λh=>absurd h hkn);apply⟨k,rfl,hAk,?_⟩
  cases hix:isI k with
  |false=>
   k_is;exact⟨few (by simp),knot⟩
  |true=>
   obtain⟨i,rfl⟩:=Rs hix;apply B5 (λh0=>?_) (λh0=>?_)
   ·k_is
    rw[decide_eq_false (show ¬ i<(n:Int) from λh1=>hb.no (by rw[F7,decide_eq_true h0,decide_eq_true (show i<=(n:Int)-1 by lia)];rfl))];k_is;exact⟨few (by simp),knot⟩
   ·k_is
    exact⟨few (by simp),knot⟩
theorem sV {l:Za5}{k:Nat}{x:Za5}(h2:2<=pcM l.length)(hx:(pcs l)[k]?=some x):64<=x.length:=by
 have hk:=Bs hx;rw[Dm] at hk;rw[Od hk] at hx;obtain rfl:=d0 hx;rw[K3 hk];have hm:0<pcM l.length:=by lia
 have h3:64*pcM l.length<=l.length:=by unfold pcM at h2 ⊢;lia
 have h4:k*l.length+64*pcM l.length<=(k+1)*l.length:=by rw[ze,EW];lia
 have:=pq (c:=pcM l.length) h4;rw[sr _ _ hm] at this;show 64<=(k+1)*l.length/pcM l.length-k*l.length/pcM l.length;lia
theorem Gn.app {A B:List (Za5)}(hA:Gn A)(hBw:Gn B)(hj:∀x y,A[A.length-1]?=some x->B[0]?=some y->64<x.length+y.length):Gn (A++B):=λk x y h1 h2=>by
 by_cases hk:k+1<A.length
 ·rw[fb (by lia)] at h1 h2
  exact hA k x y h1 h2
 ·by_cases hk2:k+1=A.length
  ·rw[fb (by lia),show k=A.length-1 by lia] at h1
   rw[e9 (by lia),show k+1-A.length=0 by lia] at h2;exact hj x y h1 h2
  ·rw[e9 (by lia)] at h1 h2
   rw[show k+1-A.length=k-A.length+1 by lia] at h2;exact hBw _ x y h1 h2
theorem Gn.take {A:List (Za5)}(hA:Gn A)(n:Nat):Gn (A.take n):=λk x y h1 h2=>by
 have hk:=Bs h2;rw[d9] at hk;rw[fe (by lia)] at h1 h2;exact hA k x y h1 h2
theorem Gn.drop {A:List (Za5)}(hA:Gn A)(n:Nat):Gn (A.drop n):=λk x y h1 h2=>by
 rw[kh] at h1 h2;exact hA _ x y h1 h2
theorem pX {ls:List (Za5)}{lo hi f b:Nat}{t:Za5}(hl:lo<=hi)(hh:hi<=ls.flatten.length)(h3:bgn ls f<=lo)(h4:hi<=bgn ls b):(Ey ls lo hi t f b).length=(lo-bgn ls f)+t.length+(bgn ls b-hi):=by
 have:=dF ls b;unfold Ey;simp only[d5,d9,ib];lia
theorem pW {ls:List (Za5)}(hZ:En ls)(hW:Gn ls){lo hi f b:Nat}{t:Za5}(hN:Vh ls lo hi t.length f b)(hl:lo<=hi)(hh:hi<=ls.flatten.length):Gn (E5 ls lo hi t f b):=by
 obtain⟨m1,m2,m3,m4⟩:=hN.ok;have hms:=pX (t:=t) hl hh m3 m4;obtain⟨f0,b0,h1,h2,h3,h4,h5,h6,h7⟩:=hN;have one:∀(k:Nat) (y:Za5),(pcs (Ey ls lo hi t f b))[k]?=some y->64<=y.length\/y.length=(Ey ls lo hi t f b).length:=λk y hy=>by
  have hk:=Bs hy;rw[Dm] at hk
  by_cases hp:2<=pcM (Ey ls lo hi t f b).length
  ·exact .inl (sV hp hy)
  ·refine .inr ?_
   have e1:pcM (Ey ls lo hi t f b).length=1:=by lia
   have e2:=Dm (Ey ls lo hi t f b);rw[e1] at e2;obtain rfl:k=0:=by lia
   have e3:=Bw (Ey ls lo hi t f b);generalize pcs (Ey ls lo hi t f b)=M at *
   match M,e2 with
   |[z],_=>
    obtain rfl:z=y:=d0 hy;rw[<-e3];simp
 have pc1:∀(j:Nat) (y:Za5),ls[j]?=some y->0<y.length:=λj y hy=>(hZ j y hy).1;have hM0:(Ey ls lo hi t f b).length=0->f=0:=λhz=>by
  rcases h7 with⟨rfl,rfl,h8⟩|⟨rfl,rfl,h8⟩
  ·lia
  ·by_cases hf:f0-1=0
   ·exact hf
   ·exfalso
    have:=Zw hZ (show f0-1<f0 by lia) h1;lia
 unfold E5;refine Gn.app (Gn.app (hW.take f) (Xe _) λx y hx hy=>?_) (hW.drop b) λx y hx hy=>?_
 ·have hf:0<f:=by
   have:=Bs hx;rw[d9] at this;lia
  rw[d9,iy m1,fe (by lia)] at hx;have hx1:=pc1 _ _ hx;rcases one 0 y hy with h8|h8
  ·lia
  ·rcases h7 with⟨rfl,rfl,h9⟩|⟨rfl,rfl,h9⟩
   ·lia
   ·have e1:ls[f0-1]?=some (ls[f0-1]'(by lia)):=dq _
    have e2:=Dt e1;rw[show f0-1+1=f0 by lia] at e2;have:=hW (f0-1-1) x _ hx (by rw[show f0-1-1+1=f0-1 by lia];exact e1);lia
 ·rw[kh,kl] at hy
  have hbl:=Bs hy;have hy1:=pc1 _ _ hy
  by_cases hM:(Ey ls lo hi t f b).length=0
  ·have hf:=hM0 hM
   have e0:pcs (Ey ls lo hi t f b)=[]:=je (by rw[Dm];unfold pcM;lia);rw[e0,hf] at hx;cases hx
  ·have hp:0<(pcs (Ey ls lo hi t f b)).length:=by rw[Dm];unfold pcM;lia
   rw[d5,e9 (by lia),show(ls.take f).length+(pcs (Ey ls lo hi t f b)).length-1-(ls.take f).length=(pcs (Ey ls lo hi t f b)).length-1 by lia] at hx;rcases one _ x hx with h8|h8
   ·lia
   ·rcases h7 with⟨rfl,rfl,h9⟩|⟨rfl,rfl,h9⟩
    ·lia
    ·have eb:min (b0+1) ls.length=b0+1:=by lia
     rw[eb] at hy hms h8;have e1:ls[b0]?=some (ls[b0]'(by lia)):=dq _;have e2:=Dt e1;have:=hW b0 _ y e1 hy;lia
theorem dX {ds es:Za4}(a off:Nat):(Mn ds es a off).length=ds.length+es.length:=by
 unfold Mn;rw[d5,d5,du,d9,ib];lia
def Wq (ls:List (Za5)):List V:=ls.map λl=>V.str (Ar l)
theorem rV {ls:List (Za5)}{i:Nat}{v:V}(h:(Wq ls)[i]?=some v):∃y,ls[i]?=some y/\v=.str (Ar y):=by
 unfold Wq at h;rw[d8] at h
 cases e:ls[i]? with
 |none=>rw[e] at h;cases h
 |some y=>rw[e] at h;exact⟨y,rfl,(d0 h).symm⟩
theorem mV (ls:List (Za5)):(Wq ls).length=ls.length:=du _
theorem iK (ls:List (Za5)):(Wq ls).all Cy=true:=by
 unfold Wq;rw[List.all_map];exact ki.mpr λ_ _=>rfl
theorem lB {ls:List (Za5)}{i:Nat}{y:Za5}(h:ls[i]?=some y):(Wq ls)[i]?=some (.str (Ar y)):=by
 unfold Wq;rw[d8,h];rfl
theorem N9 {n k:Nat}(h:k<n):dAt (et n) k=k:=by
 unfold dAt ge;rw[ij h];rfl
theorem Us {n:Nat}:∀k,k<=n->opn (et n) k=k
 |0,_=>rfl
 |k+1,h=>by
  show dAt _ k+1=_;rw[N9 (by lia)]
theorem qR (n:Nat):Dok (et n):=λk hk=>by
 rw[fh] at hk;rw[N9 hk,Us k (by lia)];exact d3 _
theorem fX {n:Nat}:∀k,k<=n->way (et n) k=-1::(et k).map λi:Nat=>(i:Int)
 |0,_=>rfl
 |k+1,h=>by
  show(way _ k).take (dAt _ k+1)++[(k:Int)]=_;rw[N9 (by lia),fX k (by lia),fm (by rw[fj,du,fh];exact d3 _),iu,eh];rfl
theorem gH {n k:Nat}(h:k<n):eld (et n) k=(k:Int)-1:=by
 unfold eld;rw[N9 h,fX k (by lia)]
 cases k with
 |zero=>rfl
 |succ k=>
  unfold ge;rw[qy,d8,ij (by lia)];show(k:Int)=_;lia
theorem pK (n:Nat):B2 (et (n+1))=-1::(et n).map λi:Nat=>(i:Int):=by
 unfold B2;rw[fh,ky,ju,<-ky,gH (by lia),jz];congr 1;refine j0 λi hi=>?_;have hi:=jn.mp hi;show eld _ (i+1)=_;rw[gH (by lia)];lia
theorem W9 {n:Nat}:∀k,k<=n->Nm (et n) k=dv k true
 |0,_=>rfl
 |k+1,h=>by
  rw[Gy,W9 k (by lia)];unfold Be;rw[N9 (by lia),Us k (by lia),jh,sx];rfl
theorem sO (n:Nat):Aq (et n)=dv n true++dv n false:=by
 unfold Aq;rw[fh,W9 n (d3 _),Us n (d3 _)]
def chD:Za4:=et 3960
theorem Ci:chD.length=3960:=fh
theorem F2:Dok chD:=qR 3960
theorem mX:B2 chD=-1::(et 3959).map λi:Nat=>(i:Int):=pK 3959
theorem qM:Aq chD=dv 3960 true++dv 3960 false:=sO 3960
theorem Y0:B4 chD chD.length (3959:Nat)=[]:=Tn F2 (d3 _) (by rw[Ci];lia)
theorem Jp (n:Nat):(dv n 0:Za4).length=n:=gm
theorem Tu {n:Nat}(h:n<=4000):Ia (some ((dv n (-1:Int)).map V.int)) (dv n 0):=⟨Hd n,by rw[Jp];exact h,by rw[T5]⟩
theorem Tz (n:Nat):∀k,k<=n->Nm (dv n 0) k++dv (opn (dv n 0) k) false=(dv k [true,false]).flatten
 |0,_=>rfl
 |k+1,h=>by
  have ih:=Tz n k (by lia);have e1:opn (dv n 0) (k+1)=1:=by
   show dAt _ k+1=1;rw[Rt]
  rw[Gy,e1]
  conv=>rhs;rw[sx,jc,<-ih]
  unfold Be;rw[Rt,mz];simp
theorem lE (n:Nat):Aq (dv n 0)=(dv n [true,false]).flatten:=by
 have:=Tz n n (d3 _);unfold Aq;rw[Jp];exact this
theorem Lq (n:Nat):(dv ((n:Nat):Int).toNat [V.int (-1)]).flatten=(dv n (-1:Int)).map V.int:=by
 rw[gz];exact pM n (-1)
inductive gQ (K:dn)(ts:List Tb)(vs:List V)(H:Hp)(Q:VK)(E:XK):Prop|mk(a:dw)(ns:List Int)(_:vs=[.ref a])(_:SqL K H a (ns.map V.int))(_:Tbs ts H)(_:∀H',Kp H H'->Tbs ts H'->Q (.bl true) H')
theorem kN {K:dn}{a:dw}(k:Kp H H')(h:SqL K H a xs):SqL K H' a xs:=by
 rcases h with(h|⟨o,h⟩)|h
 ·exact .inl (.inl (k.k h))
 ·exact .inl (.inr ⟨o,k.k h⟩)
 ·exact .inr h
theorem Kp.trans (a:Kp H H1)(b:Kp H1 H2):Kp H H2:=λc u n h=>b c u n (a c u n h)
variable (av:Cal P w K mg base "_law_done" 15 ["_law_wood_here","_law_way","_law_k","_law_place","_law_elders"] (Xi K ac aa ae ts)) (aN:Mth P w K mg base ae "pieces" 1 ["self"] (T3 ac aa ae)) (aY:Cal P w K mg base "_law_no_wood" 8 ["_law_elders"] (Xc K))
include T ah aA az aI av aN aY in
theorem Vc (F:Fun K "_law_chain" "_law_chain" Ga f fd):Ay P w K mg base CX0 16 f fd ["_law_script"] (gQ K ts):=by
 exists F.ok Fj
 obtain⟨a,ns,rfl,hSq,hT,q⟩:=h;refine⟨_,(Ab (tst 1 Fj.nd (qD aI hr.m dU (tpa (Al Hm (Ap (tpa (Cg Bn Ad) Aa)) (iJ rfl rfl T.cz rfl T.cp (tpa Ad Aa))) Aa))) (Ab (Fe i8 rfl (Js rfl T.cp (tpa Ad Aa)) (tgn 2 Fj.nd) (Ab (tst 3 Fj.nd (Al A0 Ad (Al Dl (Al A0 (A4 az hr.m (tpa (pv 0) (tpa (Al A0 Ad (pv 2)) Aa))) (pv 2)) Ad))) (Ab (Bj (PW.pt (Kk (ttc (Im (Ks hr)) (A4 av hr.m (tpa (pv 1) (tpa Aw (tpa Ad (tpa Ad (tpa (Al U7 (Ap (tpa (Cg Bn Ad) Aa)) (pv 3)) Aa)))))) (Ap (tpa Aw Aa))) (Iv (ttc Re (Fy aA hr.m (pv 1)) Ad)))) (Ae (An Gm))
  At) (Ae (Bj (ttc (Im (Ks hr)) (A4 av hr.m (tpa (pv 1) (tpa Aw (tpa Ad (tpa Ad (tpa (Al U7 (Ap (tpa (Cg Bn Ad) Aa)) (pv 3)) Aa)))))) (Ap (tpa Aw Aa))) (Ae (An Gm))
  At))))) (Ab (Bj (ttc (Im (Ks hr)) (A4 av hr.m (tpa (pv 1) (tpa Aw (tpa C9 (tpa C9 (tpa C9 Aa)))))) (Ap (tpa Aw Aa))) (Ae (An Gm))
  At) (Ab (Bj (PW.pt (Kk (ttc (Im (Ks hr)) (A4 av hr.m (tpa (pv 1) (tpa Aw (tpa Ad (tpa Ad (tpa (Al U7 (Ap (tpa (Cg Bn Ad) Aa)) Ad) Aa)))))) (Ap (tpa Aw Aa))) (Iv (ttc Re (Fy aA hr.m (pv 1)) Ad)))) (Ae (An Gm))
  At) (Ab (Mu (i:=4) Fj.nd rfl (vv rfl) (Fy aN hr.m (pv 1))) (Ab (Bj (PW.pt (Kk (ttc Re (Dz ly rg rc Vg Aw (tpa (pv 4) Aa)) (Al Hl (Al Hl (Al N2 Aw Ad) (Al N2 Aw Ad)) (Al N2 Aw Ad))) (Iv (ttc (Vx (Ks hr)) (K0 rfl Rj (Ct (pv 4)) (λ_ _ _ _=>Gr (Ds (Rg Mh Mh Ad (Ao Ca (by rfl) T.bZ Cd (tpa (pv 0) Aa)) Ad))) (λ_ _ _ _=>(pv 0))) (Ap Aa))))) (Ae (An Gm))
  At) (Ab (Bj (ttc (Vx (Ks hr)) (K0 rfl R0 (Ow rfl T.cp (tpa Ad (tpa (Ao Av (by rfl) T.bZ Cd (tpa (pv 4) Aa)) Aa))) (λ_ _ _ _=>Gr (ttc Nf (Al A0 (Ao Ca (by rfl) T.bZ Cd (tpa (tix (Hk K) (pv 1) (Al C5 (pv 0) Ad)) Aa)) (Ao Ca (by rfl) T.bZ Cd (tpa (tix (Hk K) (pv 1) (pv 0)) Aa))) Ad)) (λ_ _ _ _=>(pv 0))) (Ap Aa)) (Ae (An Gm))
  At) (Ae (An (tpc (Z1 (Ks hr)) (A4 aY hr.m (tpa (Al U7 (Ap (tpa (Cg Bn Ad) Aa)) Ad) Aa)) (Ap (tpa Aw (tpa Ad Aa))))))))))))),?_⟩
 apply⟨few (by simp),λl0 hl0=>?_⟩;obtain⟨x0,y0⟩:=As (o:=.lst [V.int (-1)]) hl0;generalize upd H l0 _=H1 at *;apply⟨3959,rfl,by lia,λl1 hl1=>?_⟩;obtain⟨x1,y1⟩:=As (o:=.lst ((et 3959).map λi:Nat=>V.int i)) hl1;generalize upd H1 l1 _=H2 at *;apply⟨l0,l1,_,_,rfl,rfl,x1 _ _ y0,y1,by rw[du,fh];exact fk (Ag (by rw[jk];lia)),λl2 hl2=>?_⟩;have e2:[V.int (-1)]++(et 3959).map (λi:Nat=>V.int i)=(B2 chD).map V.int:=by
  rw[mX,ju,jz];rfl
 rw[e2] at *;obtain⟨x2,y2⟩:=As (o:=.lst ((B2 chD).map V.int)) hl2;generalize upd H2 l2 _=H3 at *;have w3:=(x0.trans x1).trans x2;k_is;intro x dx hx hdx hxd;have sN:Ah H3 (upd (upd H3 dx (.own x)) x (.ins ae dx [])):=Jo hx hdx;have hG0:=To F2 (show chD.length<=4000 by rw[Ci];lia);have hpc:(pcs (Aq chD)).length<=100:=by
  rw[Dm,Bh F2,Ci];unfold pcM;lia
 refine⟨x,dx,.ref l2,some ((B2 chD).map V.int),rfl,Ac,Jn (sN _ _ y2) (by rw[Bc,Ci];lia),λds hG e H4 b4 hS4 he4=>⟨rfl,?_⟩,Lm hG0⟩;obtain rfl:chD=ds:=(Ou F2 hG).symm;have s4:Ah H3 H4:=Gz hx hdx b4;have w4:=w3.trans s4;have hxH:=w3.free hx;have heH:=w3.free (sN.free he4);apply⟨_,rfl,by lia,by lia,?_⟩;have kd0:∀j:Nat,V.int ((3959:Nat):Int)=V.int (j:Int)->0=(B4 chD chD.length j).length:=λj ej=>by
  have:=V.int.inj ej;obtain rfl:j=3959:=by lia
  rw[Y0];rfl
 refine Ln (λi G Hc=>∃(v2 v3 v4:Option V),G=[some (.ref a),some (.ref x),v2,v3,v4]/\Gd ac aa ae Hc x e (pcs (Aq chD)) []/\Kp H Hc/\Tbs ts Hc) ⟨_,_,_,rfl,hS4,Ah.kp w4,hT.same w4⟩ ?_ ?_
 ·rintro i G H5 hi ⟨v2,v3,v4,rfl,hS5,k5,hT5⟩
  apply⟨a,ns,3+i,by rw[show(3+(0+(i:Int)))=((3+i:Nat):Int) by lia];rfl,kN k5 hSq,λc0=>?_⟩;k_is;obtain⟨m,hm,hm1,hm2⟩:∃m:Nat,41+(c0+(0+(i:Int)))%20=(m:Int)/\41<=m/\m<=60:=⟨(41+(c0+(0+(i:Int)))%20).toNat,by lia,by lia,by lia⟩;rw[hm];refine⟨few (by simp),λa6 ha6=>?_⟩;obtain⟨xa6,ya6⟩:=As (o:=.lst [V.int (-1)]) ha6;generalize upd H5 a6 _=A6 at *;apply⟨a6,((m:Nat):Int),_,rfl,rfl,ya6,by lia,by lia,fk (Ag (by rw[jk];lia)),λb6 hb6=>?_⟩;rw[Lq] at *;obtain⟨xb6,yb6⟩:=As (o:=.lst ((dv m (-1:Int)).map V.int)) hb6;generalize upd A6 b6 _=B6 at *;have wb6:=xa6.trans xb6;apply⟨x,e,pcs (Aq chD),[],chD,"graft",.int ((3959:Nat):Int),.int ((0:Nat):Int),.ref b6,rfl,hS5.kp (Ah.kp wb6),hT5.same wb6,F2,Bw _,B1 _,hpc,fg _,by rw[Ci];lia,.inr (.inr ⟨rfl,_,0,B1 _,Jn yb6 (by rw[gm];lia),(λh=>by cases h),kd0,.inl ⟨_,.inr (.inr ⟨3959,rfl,by rw[Ci];lia,.inr ⟨rfl,_,Tu (by lia),by rw[Ci,Jp];lia,rfl⟩⟩),λp6 H6 s6 hp60 hp6=>?_⟩⟩)⟩;apply⟨few (by simp),λc6 hc6=>?_⟩;have xc6:=Ai (o:=.lst [V.str "large"]) hc6;refine Fv (Bu.lsts (SqL.of (xc6 _ _ hp6)) (SqL.of Ac) rfl) ?_;generalize upd H6 c6 _=C6 at *;have t6:SmT ts _ C6:=((SmT.of hT5 wb6).trans s6).then xc6;k_is;have hS6:=hS5.kp t6.kp;obtain⟨dx6,r6,hx6,_⟩:=id (hS6).hx;refine⟨x,dx6,_,rfl,hx6,rfl,?_⟩;apply⟨x,_,rfl,(hS6).sh,?_⟩;rw[Bw,Bh F2,Ci,show 2*3960/2=3960 from rfl];apply Uv (λh=>absurd rfl h) (λ_=>?_);apply⟨few (by simp),λa7 ha7=>?_⟩;obtain⟨xa7,ya7⟩:=As (o:=.lst [V.int (-1)]) ha7;generalize upd C6 a7 _=A7 at *;apply⟨a7,((m:Nat):Int),_,rfl,rfl,ya7,by lia,by lia,fk (Ag (by rw[jk];lia)),λb7 hb7=>?_⟩;rw[Lq] at *;obtain⟨xb7,yb7⟩:=As (o:=.lst ((dv m (-1:Int)).map V.int)) hb7;generalize upd A7 b7 _=B7 at *;have wb7:=xa7.trans xb7;apply⟨x,e,pcs (Aq chD),[],chD,"graft",.int ((3959:Nat):Int),.int ((1:Nat):Int),.ref b7,rfl,hS6.kp (Ah.kp wb7),t6.ok.same wb7,F2,Bw _,B1 _,hpc,fg _,by rw[Ci];lia,.inr (.inr ⟨rfl,_,0,B1 _,Jn yb7 (by rw[gm];lia),(λh=>by cases h),kd0,.inl ⟨_,.inr (.inr ⟨3959,rfl,by rw[Ci];lia,.inl ⟨rfl,rfl⟩⟩),λp7 H7 s7 hp70 hp7=>?_⟩⟩)⟩;apply⟨few (by simp),λc7 hc7=>?_⟩;have xc7:=Ai (o:=.lst [V.str "graft"]) hc7;refine Fv (Bu.lsts (SqL.of (xc7 _ _ hp7)) (SqL.of Ac) rfl) ?_;generalize upd H7 c7 _=C7 at *;have t7:SmT ts _ C7:=((SmT.of t6.ok wb7).trans s7).then xc7;k_is;exact⟨_,_,_,rfl,hS6.kp t7.kp,Kp.trans k5 (Kp.trans t6.kp t7.kp),t7.ok⟩
 ·rintro G H5 ⟨v2,v3,v4,rfl,hS5,k5,hT5⟩
  apply⟨x,e,pcs (Aq chD),[],chD,"back",.non,.non,.non,rfl,hS5,hT5,F2,Bw _,Nl,hpc,fg _,by rw[Ci];lia,.inr (.inl ⟨rfl,rfl,λp8 H8 s8 hp80 hp8=>?_⟩)⟩;apply⟨few (by simp),λc8 hc8=>?_⟩;have xc8:=Ai (o:=.lst [V.str "deed"]) hc8;refine Fv (Bu.lsts (SqL.of (xc8 _ _ hp8)) (SqL.of Ac) rfl) ?_;generalize upd H8 c8 _=C8 at *;have t8:=s8.then xc8;have hS8:=hS5.kp t8.kp;apply⟨few (by simp),λa9 ha9=>?_⟩;obtain⟨xa9,ya9⟩:=As (o:=.lst [V.int (-1)]) ha9;generalize upd C8 a9 _=A9 at *;apply⟨a9,((40:Nat):Int),_,rfl,rfl,ya9,by lia,by lia,fk (Ag (by rw[jk];lia)),λb9 hb9=>?_⟩;rw[Lq] at *;obtain⟨xb9,yb9⟩:=As (o:=.lst ((dv 40 (-1:Int)).map V.int)) hb9;generalize upd A9 b9 _=B9 at *;have wb9:=xa9.trans xb9;k_is;have hk39:3959<chD.length:=by rw[Ci];lia
  obtain⟨e1,e2,_⟩:=Cm (ds:=chD) hk39;rw[Ci] at e2;have hGA:GAt chD (some 3959) 0 3960 3960 ((3959:Nat):Int):=⟨hk39,by rw[show dAt chD 3959=3959 from N9 (by lia)],rfl,by lia,by lia,by have:=Y0;rw[Ci] at this;rw[this];rfl,.inl (by lia)⟩;obtain⟨k1,k2,k3,k4⟩:=hGA.ok F2;obtain⟨hDg,P0,S0,z1,z2,z3⟩:=Ts F2 (Hd 40) k1 k2 k3;obtain⟨g1,g2,g3,g4⟩:=fF F2 hGA;refine⟨x,e,pcs (Aq chD),[],chD,"graft",.int ((3959:Nat):Int),.int ((0:Nat):Int),.ref b9,rfl,hS8.kp (Ah.kp wb9),t8.ok.same wb9,F2,Bw _,B1 _,hpc,fg _,by rw[Ci];lia,.inr (.inr ⟨rfl,_,0,B1 _,Jn yb9 (by rw[gm];lia),(λh=>by cases h),kd0,.inr ⟨3959,0,3960,3960,((3959:Nat):Int),dv 40 0,rfl,rfl,Tu (by lia),hGA,by rw[Ci,Jp];lia,λf b p10 H10 hN hfl hS10 s10 hp10=>?_⟩⟩)⟩;have hnz:En (E5 (pcs (Aq chD)) (2*3960-3960) (2*3960-3960) (Aq (dv 40 0)) f b):=Ti (Lh _);have hnw:Gn (E5 (pcs (Aq chD)) (2*3960-3960) (2*3960-3960) (Aq (dv 40 0)) f b):=pW (Lh _) (Xe _) (by rw[Bh (Hd 40)];exact hN) (d3 _) (by rw[Bw];exact g2);have hnl:(E5 (pcs (Aq chD)) (2*3960-3960) (2*3960-3960) (Aq (dv 40 0)) f b).length<=400:=eM (d3 _) (by rw[Bw];exact g2) (by rw[Bw,Bh F2,Bh (Hd 40),Ci,Jp];lia) hpc;generalize E5 (pcs (Aq chD)) (2*3960-3960) (2*3960-3960) (Aq (dv 40 0)) f b=ln at *;have hlf:ln.flatten=dv 3960 true++((dv 40 [true,false]).flatten++dv 3960 false):=by
   rw[qM] at z2;obtain⟨y1,y2⟩:=List.append_inj z2 (by rw[gm];lia);rw[hfl,z3,<-y1,<-y2,lE]
  have hll:ln.flatten.length=8000:=by rw[hfl,Bh hDg,dX,Ci,Jp]
  apply⟨few (by simp),λc11 hc11=>?_⟩;have xc11:=Ai (o:=.lst [V.str "good"]) hc11;refine Fv (Bu.lsts (SqL.of (xc11 _ _ hp10)) (SqL.of Ac) rfl) ?_;generalize upd H10 c11 _=C11 at *;have hS11:=hS10.kp (Ah.kp xc11);have m11:=s10.trans (SmE.of (SmT.of s10.ok xc11));have k11:Kp H C11:=λc u n h=>m11.keep c u (Am h hxH) (Am h heH) n (Kp.trans k5 (Kp.trans t8.kp (Ah.kp wb9)) c u n h);obtain⟨dx11,r11,hx11,_⟩:=id hS11.hx;apply⟨x,dx11,_,rfl,hx11,rfl,?_⟩;apply⟨x,_,rfl,hS11.sh,?_⟩;rw[hll,show 8000/2=4000 from rfl];apply Uv (λh=>absurd rfl h) (λ_=>?_);apply⟨x,dx11,_,rfl,hx11,rfl,?_⟩;apply⟨x,_,rfl,hS11.sh,λpp H12 u12 hpp0 hpp=>?_⟩;have k12:=Kp.trans k11 (Ah.kp u12);have hT12:=m11.ok.same u12;have hpp:H12 pp=some (.lst (Wq ln)):=hpp;apply⟨rfl,?_⟩;apply Rr hpp (by lia) ?_;apply⟨"1",((3960:Nat):Int),rfl,rfl,by lia,by lia,fk (Ag (by rw[show("1":Str).length=1 by rfl];lia)),few (by decide),?_⟩;rw[gz];apply⟨"10",((40:Nat):Int),rfl,rfl,by lia,by lia,fk (Ag (by rw[show("10":Str).length=2 by rfl];lia)),few (by decide),?_⟩;rw[gz];apply⟨_,_,rfl,rfl,fk (Ag (by rw[Kt,Kt,show("1":Str).length=1 by rfl,show("10":Str).length=2 by rfl];lia)),?_⟩;apply⟨"0",((3960:Nat):Int),rfl,rfl,by lia,by lia,fk (Ag (by rw[show("0":Str).length=1 by rfl];lia)),few (by decide),?_⟩;rw[gz];k_is;have hjn:K2 "1" 3960++K2 "10" 40++K2 "0" 3960=Ar ln.flatten:=by
   rw[hlf,show("1":Str)=Ar [true] from rfl,show("10":Str)=Ar [true,false] from rfl,show("0":Str)=Ar [false] from rfl,Mz,Mz,Mz,E9,E9,uo,uo,gj]
  refine⟨_,_,rfl,rfl,?_,?_⟩
  ·have:(K2 "1" 3960++K2 "10" 40).length+(K2 "0" 3960).length=(Ar ln.flatten).length:=by rw[<-hjn];exact(Str.length_append _ _).symm
   rw[this,Au,hll];exact fk (Ag (by lia))
  rw[hjn];apply Uv (λhne=>absurd rfl hne) (λ_=>?_);apply⟨pp,rfl,⟨_,SqL.of hpp⟩,?_⟩;refine Ie (SqL.of hpp) (λi=>[]) rfl (λi hi=>Ag (fg _)) (λi v H13 R A hv s13 hR hA=>?_) (λD13 H13 hD13 s13 h13=>?_)
  ·obtain⟨y,ey,rfl⟩:=rV hv
   have hy:=hnz i y ey;apply⟨_,rfl,fk (Ag (by rw[Au];lia)),?_⟩;rw[Au];apply B5 (λ_=>?_) (λh=>absurd h (by lia));k_is;rw[decide_eq_true (show((y.length:Nat):Int)<129 by lia)];k_is;exact hR rfl _ (Ah.refl _)
  apply⟨fg _,λz1 hz1=>?_⟩;have u14:=Ai (o:=.lst []) hz1;apply kX (ns:=[]) (ms:=[]) (SqL.of (u14 _ _ h13)) (SqL.of Ac) ?_;rw[decide_eq_true rfl];have s14:=s13.trans u14;have h14:=s14 _ _ hpp;generalize upd H13 z1 _=H14 at *;apply⟨pp,_,rfl,.inl (SqL.of h14),?_⟩;rw[mV];apply⟨1,(ln.length:Nat),rfl,⟨by decide,by decide,by lia,by lia⟩,?_⟩;refine R3 (λi=>[]) rfl (λi hi=>Ag (fg _)) (λi H15 R A hi s15 hR hA=>?_) (λD15 H15 hD15 s15 h15=>?_)
  ·have h15:=s15 _ _ h14
   have e1:ln[i]?=some (ln[i]'(by lia)):=dq _;have e2:ln[i+1]?=some (ln[i+1]'(by lia)):=dq _;generalize ln[i]'(by lia)=y1 at *;generalize ln[i+1]'(by lia)=y2 at *;have hw:=hnw i y1 y2 e1 e2;have hy1:=hnz i y1 e1;have hy2:=hnz (i+1) y2 e2;apply Bk (SqL.of h15) (v:=.str (Ar y1)) ?_ ?_
   ·rw[show(1+(i:Int)-1)=((i:Nat):Int) by lia]
    exact Bf (lB e1)
   apply⟨_,rfl,fk (Ag (by rw[Au];lia)),?_⟩;rw[Au];apply Bk (SqL.of h15) (v:=.str (Ar y2)) ?_ ?_
   ·rw[show(1+(i:Int))=((i+1:Nat):Int) by lia]
    exact Bf (lB e2)
   apply⟨_,rfl,fk (Ag (by rw[Au];lia)),?_⟩;rw[Au];k_is;rw[decide_eq_false (show ¬((y1.length:Nat):Int)+(y2.length:Nat)<=64 by lia)];k_is;exact hR rfl _ (Ah.refl _)
  apply⟨fg _,λz2 hz2=>?_⟩;have u16:=Ai (o:=.lst []) hz2;apply kX (ns:=[]) (ms:=[]) (SqL.of (u16 _ _ h15)) (SqL.of Ac) ?_;rw[decide_eq_true rfl];generalize upd H15 z2 _=H16 at *;have w16:=(s14.trans s15).trans u16;apply⟨few (by simp),λa17 ha17=>?_⟩;obtain⟨xa17,ya17⟩:=As (o:=.lst [V.int (-1)]) ha17;generalize upd H16 a17 _=A17 at *;apply⟨a17,((4001:Nat):Int),_,rfl,rfl,ya17,by lia,by lia,fk (Ag (by rw[jk];lia)),λb17 hb17=>?_⟩;rw[Lq] at *;obtain⟨xb17,yb17⟩:=As (o:=.lst ((dv 4001 (-1:Int)).map V.int)) hb17;generalize upd A17 b17 _=B17 at *;have w17:=(w16.trans xa17).trans xb17;apply⟨.ref b17,some ((dv 4001 (-1:Int)).map V.int),4000,rfl,⟨b17,rfl,yb17,λx hx=>by obtain⟨n,_,rfl⟩:=lj.mp hx;exact B1 n,by rw[du,gm];lia⟩,iI,λp18 H18 s18 hp180 hp18=>?_⟩;apply⟨few (by simp),λc18 hc18=>?_⟩;have xc18:=Ai (o:=.lst [V.str "wood",V.int 4000]) hc18;refine Fv (Bu.lsts (SqL.of (xc18 _ _ hp18)) (SqL.of Ac) rfl) ?_;have w18:=(w17.trans s18).trans xc18;exact q _ (Kp.trans k12 (Ah.kp w18)) (hT12.same w18)
inductive Xd (C CR CS:dw)(ts:List Tb)(vs:List V)(H:Hp)(Q:VK)(E:XK):Prop|mk(x:dw)(ls:List (Za5))(_:vs=[.ref x])(_:Cf C CR CS H x ls)(_:Tbs ts H)(_:ls.flatten=Aq [])(_:∀H',Ah H H'->Q (.bl true) H')
include T ah aH in
theorem Rk (F:Fun K "_law_of_none" "_law_of_none" Iw f fd)(bR:Te P w K mg base ae "nth" 14 ["self","k","i"] (nM K ac aa ae ai ts)):Ay P w K mg base CX0 15 f fd ["_law_wood_here"] (Xd ac aa ae ts):=by
 exists F.ok Fm
 obtain⟨x,ls,rfl,hS,hT,hrow,q⟩:=h;obtain⟨dx,r,e,hx,hR⟩:=id hS;refine⟨_,(Ab (tst 1 Fm.nd C9) (Ab (dD (i:=2) rfl rfl rfl Fm.nd rfl rfl rfl T.cN (λE pins G=>(Es (Hq (Sa bR hr.m Jd (pv 0) (tpa Ad (tpa Ad Aa)))))) (λe=>(Ae (tst 1 Fm.nd (pv 2))))) (Ae (An (R4 (vA (M8 (pv 1))) (So (tpc (Z1 (Ks hr)) (A4 aH hr.m (tpa (pv 1) Aa)) (Ap (tpa Aw Aa))))))))),?_⟩
 apply⟨λC od H'=>H'=H/\C=.ref ai/\od=none,?_,?_⟩
 ·apply⟨x,dx,_,rfl,hx,rfl,?_⟩;k_is;exact⟨x,ls,[],.int 0,.int 0,rfl,hS,hT,(λk hk=>by cases hk),hrow,B1 _,rfl,rfl,rfl,rfl⟩
 ·rintro C od H' e2 ⟨rfl,hC,rfl⟩ he
  obtain rfl:=se hC;obtain⟨t1,he1⟩:=As (o:=Po e2 C none) he;generalize upd H' e2 _=H1 at *;refine⟨T.cr,?_⟩;apply⟨e2,C,none,_,rfl,he1,.inl ⟨rfl,rfl⟩,λp H2 s2 f2 e2=>?_⟩;apply⟨few (by simp),λp3 h3=>?_⟩;have t3:=Ai (o:=.lst [V.str "knot"]) h3;refine Fv (Bu.lsts (SqL.of (t3 _ _ e2)) (SqL.of Ac) rfl) ?_;exact q _ ((t1.trans s2).trans t3)
inductive Yn (C CR CS:dw)(ts:List Tb)(vs:List V)(H:Hp)(Q:VK)(E:XK):Prop|mk(x e a:dw)(ls:List (Za5))(ds:Za4)(n:Int)(_:vs=[.ref x,.ref a,.int n])(_:Gd C CR CS H x e ls [])(_:Tbs ts H)(_:Dok ds)(_:ls.flatten=Aq ds)(_:H a=some (.lst ((B2 ds).map V.int)))(_:ls.length<=100)(_:ds.length<=100)(_:∀H',SmT ts H H'->Q (.bl true) H')
include T ah av in
theorem S4 (F:Fun K "_law_beyond" "_law_beyond" Gs f fd)(bS:Cal P w K mg base "_law_of_none" 15 ["_law_wood_here"] (Xd ac aa ae ts)):Ay P w K mg base CX0 16 f fd ["_law_wood_here","_law_elders","_law_number"] (Yn ac aa ae ts):=by
 exists F.ok Ir
 obtain⟨x,e,a,ls,ds,n,rfl,hS,hT,hD,hrow,ha,hl,hn,q⟩:=h;refine⟨_,(Ab (Bj (ttc (xF (Ks hr)) (pv 1) (Ap Aa)) (Ae (An (A4 bS hr.m (tpa (pv 0) Aa))))
  At) (Ab (Mu (i:=3) Ir.nd rfl (vv rfl) (Al Dl (pv 2) (Ao Av (by rfl) T.bZ Cd (tpa (pv 1) Aa)))) (Ab (tst 4 Ir.nd (Ao Av (by rfl) T.bZ Cd (tpa (K0 rfl Pn (Ct (pv 1)) (λ_ _ _ _=>Gr (ttc Fo (pv 0) (pv 1))) (λ_ _ _ _=>(pv 0))) Aa))) (Ae (An (tpc (Z1 (Ks hr)) (A4 av hr.m (tpa (pv 0) (tpa Aw (tpa (pv 3) (tpa (Al A0 (Al A0 (pv 4) Ad) (Al Dl (pv 2) Ad)) (tpa (Ap (tpa (Cg Bn Ad) Aa)) Aa)))))) (Ap (tpa Aw Aa)))))))),?_⟩
 apply⟨fg _,λz1 hz1=>?_⟩;have u1:=Ai (o:=.lst []) hz1;apply zA (ns:=B2 ds) (ms:=[]) (SqL.of (u1 _ _ ha)) (SqL.of Ac) ?_;generalize upd H z1 _=H1 at *
 by_cases hd0:ds.length=0
 ·obtain rfl:ds=[]:=je hd0
  rw[decide_eq_true (show B2 []=[] from rfl)];k_is;exact⟨x,ls,rfl,hS.sh.kp (Ah.kp u1),hT.same u1,hrow,λH2 s2=>q H2 (SmT.of hT (u1.trans s2))⟩
 ·rw[decide_eq_false (λz=>hd0 (by rw[<-Bc,z];rfl))]
  apply⟨a,_,rfl,.inl (SqL.of (u1 _ _ ha)),?_⟩;rw[du,Bc];apply⟨_,_,rfl,rfl,by lia,?_⟩;obtain⟨k,hk,hkd⟩:∃k:Nat,n%(ds.length:Int)=(k:Int)/\k<ds.length:=by
   have h1:=sg n (show(ds.length:Int)≠0 by lia);have h2:=ql n (show(0:Int)<ds.length by lia);exact⟨(n%(ds.length:Int)).toNat,by lia,by lia⟩
  k_is;rw[hk];refine⟨a,rfl,⟨_,SqL.of (u1 _ _ ha)⟩,?_⟩;refine Ie (SqL.of (u1 _ _ ha)) (λi=>(B4 ds i k).map λ_=>V.int (k:Nat)) rfl (λi hi=>?_) (λi y H2 R A hy u2 hR hA=>?_) (λD3 H3 hD3 u3 h3=>?_)
  ·rw[du,Bc] at hi
   rw[du];have:=Uu ds i k;exact Ag (by lia)
  ·have hi:=Bs hy
   rw[du,Bc] at hi;rw[d8,F4 hi] at hy;obtain rfl:=d0 hy;apply B5 (λe=>?_) (λe=>?_)
   ·apply hA _ _ ?_ (Ah.refl _);have e:=V.int.inj e;rw[Le e,eh,e];rfl
   ·refine hR ?_ _ (Ah.refl _)
    rw[Lk (λz=>e (congrArg V.int z))]
  rw[du,Bc] at h3;have w3:=u1.trans u3;apply⟨D3,_,rfl,.inl (SqL.of h3),?_⟩;rw[du];apply⟨few (by simp),λp4 hp4=>?_⟩;have u4:=Ai (o:=.lst [V.int (-1)]) hp4;have e4:upd H3 p4 (.lst [V.int (-1)]) p4=some (.lst ([(-1:Int)].map V.int)):=Ac;generalize upd H3 p4 _=H4 at *;have w4:=w3.trans u4;apply⟨x,e,ls,[],ds,"graft",.int k,_,.ref p4,rfl,hS.kp (Ah.kp w4),hT.same w4,hD,hrow,B1 _,hl,fg _,by lia,.inr (.inr ⟨rfl,_,(B4 ds ds.length k).length,B1 _,Jn e4 (by decide),(λh=>by cases h),(λj ej=>by rw[show j=k by have:=V.int.inj ej;lia]),.inl ⟨_,.inr (.inr ⟨k,rfl,hkd,.inl ⟨?_,rfl⟩⟩),λp5 H5 s5 hp50 hp5=>?_⟩⟩)⟩
  ·rw[F7,decide_eq_false (show ¬((B4 ds ds.length k).length:Int)+1+n%3<=((B4 ds ds.length k).length:Nat) by lia),qi]
  ·apply⟨few (by simp),λp6 hp6=>?_⟩;have u6:=Ai (o:=.lst [V.str "graft"]) hp6;refine Fv (Bu.lsts (SqL.of (u6 _ _ hp5)) (SqL.of Ac) rfl) ?_;exact q _ (((SmT.of hT w4).trans s5).then u6)
theorem eU {i:Int}{k:Nat}(h:xs.length=k)(h0:0<=i)(h1:i<k):∃v,v∈xs/\atI xs i=some v:=by
 have hk:i.toNat<xs.length:=by lia
 exact⟨xs[i.toNat],List.getElem_mem hk,rL h0 (dq hk)⟩
theorem Fw {K:dn}{a:dw}(h:H a=some (.lst xs))(hf:xs.all Cy=true)(hl:xs.length<=4):∃o,ThA K H (.ref a) o/\∀ys,o=some ys->ys.length<=300:=
 ⟨some xs,⟨a,rfl,h,λx hx=>qC (ki.mp hf x hx),by lia⟩,λys e=>by rw[<-d0 e];lia⟩
theorem tL {K:dn}{Q:VK}{a b:dw}{ys:List V}{c:Bool}(h1:SqL K H a xs)(h2:SqL K H b ys)(f1:xs.all Cy=true)(f2:ys.all Cy=true)(e:eqL xs ys=c)(q:Q (.bl (!c)) H):pI K true (.ref a) (.ref b) H Q:=by
 refine⟨a,b,xs,ys,rfl,rfl,h1,h2,f1,f2,?_⟩;rw[e];cases c<;>exact q
theorem iB {ds:Za4}(h:Dok ds){k:Nat}(hk:k<ds.length):eld ds k<0↔eld ds k=-1:=by
 have:=qI h (fk hk) (mT h hk);lia
include T ah az aL aI aJ av aN aY in
theorem wB (F:Fun K "law" "law" Rf f fd)(bT:Cal P w K mg base "_law_chain" 16 ["_law_script"] (gQ K ts))(bU:Cal P w K mg base "_law_wood" 1 ["_law_digits_here"] lI)(bV:Cal P w K mg base "_law_digits" 2 ["_law_script","_law_at","_law_many"] (Yi K))(bW:Cal P w K mg base "_law_due" 3 ["_law_many","_law_k","_law_place","_law_children","_law_elders"] (iF K))(bX:Cal P w K mg base "_law_beyond" 16 ["_law_wood_here","_law_elders","_law_number"] (Yn ac aa ae ts))(bY:Mth P w K mg base ae "elders" 8 ["self"] (Uh ac aa ae ts)):Ay P w K mg base CX0 17 f fd ["_law_script"] (eR K ts):=by
 exists F.ok Ea
 obtain⟨a,ns,rfl,hSq,hlen,hT,q⟩:=h;refine⟨_,(rZ.h (Il (si (tst 1 Ea.nd (A4 aL hr.m (tpa (A4 az hr.m (tpa (pv 0) (tpa Ad Aa))) (tpa Ad Aa))))) (Il (si (Ot (PW.pt (Mr (ttc Fo (Al Dl (Al F8 (pv 1) Ad) Ad) Ad) (J5 (Ds (Cj (A4 bT hr.m (tpa (pv 0) Aa))))))) (Ae (An Gm))
  At)) (Il (si (tst 2 Ea.nd (A4 bU hr.m (tpa (A4 bV hr.m (tpa (pv 0) (tpa Ad (tpa (Al Dl (pv 1) Ad) Aa)))) Aa)))) (Il (si (tst 3 Ea.nd (qD aI hr.m dU (tpa (Om N1 (by rfl) T.cz Og (tpa (pv 2) Aa)) Aa)))) (Il (si (tst 4 Ea.nd (Fy aN hr.m (pv 3)))) (Il (oG (i:=5) Ea.nd rfl (xl rfl) (kW (Ki (Cg Bn Ad) (Ki (Ao Av (by rfl) T.bZ Cd (tpa (pv 2) Aa)) (Ki C9 (Ki Gm (Ki Aw (Ki (Ap (tpa Ad Aa)) (Ki (Ux (tpa Ad Aa)) (Ki (Al wJ Ad Ad) (Ki rB (Ki Aw qE rfl) rfl) rfl) rfl) rfl) rfl) rfl) rfl) rfl) rfl))) (Il (oG (i:=6) Ea.nd rfl (xl rfl) (kW (Ki C9 (Ki (Ap (tpa Ad Aa)) (Ki (Ap (tpa (Cg Bn Ad) (tpa Ad Aa))) (Ki (Ap (tpa (Cg Bn Ad) (tpa Gm Aa))) (Ki (Ux (tpa (Cg Bn Ad) Aa)) (Ki (Ap (tpa (Cg Bn Ad) (tpa (Cg Bn Ad) Aa))) (Ki (Ap (tpa (Cg Bn Ad) (tpa Ad (tpa (Cg Bn Ad) (tpa Ad Aa))))) (Ki (Ap (tpa Aw Aa)) (Ki (Ap (tpa (Cg Bn Ad) (tpa Ad Aa))) qE rfl) rfl) rfl) rfl) rfl) rfl) rfl) rfl) rfl))) (Il (si (Fe i8 rfl (Ct (Al Hm (G9 Nc (pv 0) (E7 Ad) (E7 Ad)) (Ap (tpa (Ao Av (by rfl) T.bZ Cd (tpa (pv 0) Aa)) Aa)))) (tgn 7 Ea.nd) (Ab (tst 8 Ea.nd (A4 aL hr.m (tpa (pv 7) (tpa Ad Aa)))) (Ab (tst 9 Ea.nd (tix Az (pv 5) (Al Dl (pv 8) Ad))) (Ab (Bj (ttc (Im (Ks hr)) (A4 av hr.m (tpa (pv 3) (tpa Aw (tpa (pv 9) (tpa C9 (tpa C9 Aa)))))) (Ap (tpa Aw Aa))) (Ae (An Gm))
  At) (Ab (tst 10 Ea.nd (tix Az (pv 5) (Al Dl (Al F8 (pv 8) Ad) Ad))) (Ab (Ot (ttc Mg (Al Dl (Al F8 (pv 8) Ad) Ad) Ad) (Ae (tst 10 Ea.nd C9))
  At) (Ab (tst 11 Ea.nd (Ao Av (by rfl) T.bZ Cd (tpa (K0 rfl pO (Ct (pv 2)) (λ_ _ _ _=>Gr (ttc Mh (pv 0) Ad)) (λ_ _ _ _=>(pv 0))) Aa))) (Ab (tst 12 Ea.nd (tix Az (Al Hm (Ap (tpa Ad (tpa (pv 11) (tpa (Al A0 (pv 11) Ad) Aa)))) (pv 5)) (Al Dl (Al F8 (pv 8) Ad) Ad))) (Ab (tst 13 Ea.nd (tix Az (pv 6) (Al Dl (Al F8 (pv 8) Ad) Ad))) (Ab (Ot (PW.pt (Mr (K4 (M8 (A4 aJ hr.m (tpa (pv 13) Aa)))) (J5 (ttc (Im (Ks hr)) (A4 aY hr.m (tpa (pv 13) Aa)) (Ap (tpa Aw (tpa (A4 aJ hr.m (tpa (pv 13) Aa)) Aa))))))) (Ae (An Gm))
  At) (Ab (tst 14 Ea.nd (A4 bW hr.m (tpa (Ao Av (by rfl) T.bZ Cd (tpa (pv 2) Aa)) (tpa (pv 10) (tpa (pv 12) (tpa (pv 11) (tpa (pv 13) Aa))))))) (Ab (Ot (PW.pt (Mr (ttc (Vx (Ks hr)) (pv 14) (Ap (tpa Aw Aa))) (J5 (ttc (Im (Ks hr)) (A4 av hr.m (tpa (pv 3) (tpa Aw (tpa (pv 10) (tpa (pv 12) (tpa (pv 13) Aa)))))) (pv 14))))) (Ae (An Gm))
  At) (Ab (Bj (Ds (Cj (A4 bX hr.m (tpa (pv 3) (tpa (pv 2) (tpa (pv 8) Aa)))))) (Ae (An Gm))
  At) (Ab (Bj (PW.pt (Kk (ttc (Im (Ks hr)) (Fy bY hr.m (pv 3)) (pv 2)) (Iv (ttc (Im (Ks hr)) (Fy aN hr.m (pv 3)) (pv 4))))) (Ae (An Gm))
  At) (Ae (Bj (ttc (Im (Ks hr)) (A4 av hr.m (tpa (pv 3) (tpa Aw (tpa C9 (tpa C9 (tpa C9 Aa)))))) (Ap (tpa Aw Aa))) (Ae (An Gm))
  At))))))))))))))))) (xJ (si (An Gm)))))))))))),?_⟩
 apply⟨a,ns,0,rfl,hSq,λc0=>?_⟩;apply⟨c0,1,rfl,by lia,by lia,λr r0 r1=>?_⟩;apply Uo (λG H'=>G=[some (.ref a),some (.int r),none,none,none,none,none,none,none,none,none,none,none,none,none]/\Kp H H'/\Tbs ts H') ?_ ?_
 ·apply B5 (λ_=>?_) (λ_=>?_)
  ·apply⟨a,ns,rfl,hSq,hT,λH1 k1 hT1=>?_⟩;k_is;exact⟨rfl,k1,hT1⟩
  ·k_is
   exact⟨rfl,λ_ _ _ h=>h,hT⟩
 rintro G H1 ⟨rfl,k1,hT1⟩;have hSq1:=kN k1 hSq;apply⟨a,ns,2,r%31,rfl,hSq1,by lia,by lia,λp2 gs H2 s2 _ hg hgl=>?_⟩;apply⟨p2,gs,rfl,hg,by lia,λp3 ds H3 s3 hp30 hp3 hD hdl=>?_⟩;have w3:=s2.trans s3;have hrl:=Bh hD;have hpl:(pcs (Aq ds)).length<=100:=by
  rw[Dm,hrl];unfold pcM;lia
 apply⟨p3,_,rfl,.inl (SqL.of hp3),λp4 h4=>?_⟩;obtain⟨u4,hp4⟩:=As (o:=.lst ((B2 ds).map V.int)) h4;generalize upd H3 p4 _=H4 at *;k_is;intro x dx hx hdx hxd;have sN:Ah H4 (upd (upd H4 dx (.own x)) x (.ins ae dx [])):=Jo hx hdx;refine⟨x,dx,.ref p4,some ((B2 ds).map V.int),rfl,Ac,Jn (sN _ _ hp4) (by rw[Bc];lia),λds' hG e H5 b5 hS5 he5=>⟨rfl,?_⟩,Lm (To hD (by lia))⟩;obtain rfl:ds=ds':=(Ou hD hG).symm;have w5:=(w3.trans u4).trans (Gz hx hdx b5);have hp35:=(Gz hx hdx b5) _ _ (u4 _ _ hp3);obtain⟨dx5,r5,hx5,_⟩:=id hS5.hx;apply⟨x,dx5,_,rfl,hx5,rfl,?_⟩;apply⟨x,_,rfl,hS5.sh,λpp H6 s6 hpp0 hpp=>?_⟩;have hpp:H6 pp=some (.lst (Wq (pcs (Aq ds)))):=hpp;apply⟨p3,_,rfl,.inl (SqL.of (s6 _ _ hp35)),?_⟩;rw[du,Bc];apply⟨few (by simp),λo1 ho1=>?_⟩;obtain⟨v1,f1⟩:=As (o:=.lst [V.int 0]) ho1;generalize upd H6 o1 _=O1 at *;apply⟨few (by simp),λo2 ho2=>?_⟩;obtain⟨v2,f2⟩:=As (o:=.tup [V.int 0]) ho2;generalize upd O1 o2 _=O2 at *;apply⟨10,30,rfl,rfl,⟨by decide,by decide,by decide⟩,?_⟩;obtain⟨z30,hz30,hz31⟩:∃z:Int,(10:Int) ^ (30:Int).toNat=z/\1000<z:=⟨_,rfl,by decide⟩;k_is;rw[hz30];intro o3 ho3;obtain⟨v3,f3⟩:=As (o:=.dK []) ho3;generalize upd O2 o3 _=O3 at *;apply⟨few (by simp),λo4 ho4=>?_⟩;obtain⟨v4,f4⟩:=As (o:=.lst [V.int (-1),V.int (ds.length:Nat),V.non,V.bl true,V.str "0",V.ref o1,V.ref o2,V.int z30,V.ref o3,V.str "top"]) ho4;generalize upd O3 o4 _=O4 at *;apply⟨few (by simp),λo5 ho5=>?_⟩;obtain⟨v5,f5⟩:=As (o:=.lst [V.int 0]) ho5;generalize upd O4 o5 _=O5 at *;apply⟨few (by simp),λo6 ho6=>?_⟩;obtain⟨v6,f6⟩:=As (o:=.lst [V.int (-1),V.int 1]) ho6;generalize upd O5 o6 _=O6 at *;apply⟨few (by simp),λo7 ho7=>?_⟩;obtain⟨v7,f7⟩:=As (o:=.lst [V.int (-1),V.bl true]) ho7;generalize upd O6 o7 _=O7 at *;apply⟨few (by simp),λo8 ho8=>?_⟩;obtain⟨v8,f8⟩:=As (o:=.tup [V.int (-1)]) ho8;generalize upd O7 o8 _=O8 at *;apply⟨few (by simp),λo9 ho9=>?_⟩;obtain⟨v9,f9⟩:=As (o:=.lst [V.int (-1),V.int (-2)]) ho9;generalize upd O8 o9 _=O9 at *;apply⟨few (by simp),λo10 ho10=>?_⟩;obtain⟨v10,f10⟩:=As (o:=.lst [V.int (-1),V.int 0,V.int (-1),V.int 1]) ho10;generalize upd O9 o10 _=O10 at *;apply⟨few (by simp),λo11 ho11=>?_⟩;obtain⟨v11,f11⟩:=As (o:=.lst [V.str "0"]) ho11;generalize upd O10 o11 _=O11 at *;apply⟨few (by simp),λo12 ho12=>?_⟩;obtain⟨v12,f12⟩:=As (o:=.lst [V.int (-1),V.int 0]) ho12;generalize upd O11 o12 _=O12 at *;apply⟨few (by simp),λo13 ho13=>?_⟩;obtain⟨v13,f13⟩:=As (o:=.lst [V.non,V.ref o5,V.ref o6,V.ref o7,V.ref o8,V.ref o9,V.ref o10,V.ref o11,V.ref o12]) ho13;generalize upd O12 o13 _=O13 at *;k_is;have w13:Ah H6 O13:=(((((((((((v1.trans v2).trans v3).trans v4).trans v5).trans v6).trans v7).trans v8).trans v9).trans v10).trans v11).trans v12).trans v13;have hth:O13 o4=some (.lst [V.int (-1),V.int (ds.length:Nat),V.non,V.bl true,V.str "0",V.ref o1,V.ref o2,V.int z30,V.ref o3,V.str "top"]):=v13 _ _ (v12 _ _ (v11 _ _ (v10 _ _ (v9 _ _ (v8 _ _ (v7 _ _ (v6 _ _ (v5 _ _ f4))))))));have htv:∀v∈[V.int (-1),V.int (ds.length:Nat),V.non,V.bl true,V.str "0",V.ref o1,V.ref o2,V.int z30,V.ref o3,V.str "top"],Any K O13 v/\NoK v ds.length:=by
  intro v hv;simp only[gd,i5,or_false] at hv;rcases hv with rfl|rfl|rfl|rfl|rfl|rfl|rfl|rfl|rfl|rfl
  ·exact⟨B1 _,rfl⟩
  ·exact⟨B1 _,by unfold NoK;rw[F7,decide_eq_false (show ¬((ds.length:Nat):Int)<=(ds.length:Int)-1 by lia),qi]⟩
  ·exact⟨Nl,rfl⟩
  ·exact⟨oS _,rfl⟩
  ·exact⟨Ws _,rfl⟩
  ·exact⟨sJ (v13 _ _ (v12 _ _ (v11 _ _ (v10 _ _ (v9 _ _ (v8 _ _ (v7 _ _ (v6 _ _ (v5 _ _ (v4 _ _ (v3 _ _ (v2 _ _ f1)))))))))))),rfl⟩
  ·exact⟨qY (v13 _ _ (v12 _ _ (v11 _ _ (v10 _ _ (v9 _ _ (v8 _ _ (v7 _ _ (v6 _ _ (v5 _ _ (v4 _ _ (v3 _ _ f2))))))))))),rfl⟩
  ·exact⟨B1 _,by unfold NoK;rw[F7,decide_eq_false (show ¬ z30<=(ds.length:Int)-1 by lia),qi]⟩
  ·exact⟨⟨_,false,false,.dK (v13 _ _ (v12 _ _ (v11 _ _ (v10 _ _ (v9 _ _ (v8 _ _ (v7 _ _ (v6 _ _ (v5 _ _ (v4 _ _ f3)))))))))),by rfl,by rfl,rfl⟩,rfl⟩
  ·exact⟨Ws _,rfl⟩
 have hnv:∀v∈[V.non,V.ref o5,V.ref o6,V.ref o7,V.ref o8,V.ref o9,V.ref o10,V.ref o11,V.ref o12],∃o,ThA K O13 v o/\∀ys,o=some ys->ys.length<=300:=by
  intro v hv;simp only[gd,i5,or_false] at hv;rcases hv with rfl|rfl|rfl|rfl|rfl|rfl|rfl|rfl|rfl
  ·exact⟨none,⟨_,.non,by rfl⟩,nofun⟩
  ·exact Fw (v13 _ _ (v12 _ _ (v11 _ _ (v10 _ _ (v9 _ _ (v8 _ _ (v7 _ _ (v6 _ _ f5)))))))) rfl (by decide)
  ·exact Fw (v13 _ _ (v12 _ _ (v11 _ _ (v10 _ _ (v9 _ _ (v8 _ _ (v7 _ _ f6))))))) rfl (by decide)
  ·exact Fw (v13 _ _ (v12 _ _ (v11 _ _ (v10 _ _ (v9 _ _ (v8 _ _ f7)))))) rfl (by decide)
  ·exact⟨none,⟨_,.tup (v13 _ _ (v12 _ _ (v11 _ _ (v10 _ _ (v9 _ _ f8))))),by rfl⟩,nofun⟩
  ·exact Fw (v13 _ _ (v12 _ _ (v11 _ _ (v10 _ _ f9)))) rfl (by decide)
  ·exact Fw (v13 _ _ (v12 _ _ (v11 _ _ f10))) rfl (by decide)
  ·exact Fw (v13 _ _ (v12 _ _ f11)) rfl (by decide)
  ·exact Fw (v13 _ _ f12) rfl (by decide)
 generalize htd:[V.int (-1),V.int (ds.length:Nat),V.non,V.bl true,V.str "0",V.ref o1,V.ref o2,V.int z30,V.ref o3,V.str "top"]=tv at *;have htl:tv.length=10:=by rw[<-htd];rfl
 generalize hnd:[V.non,V.ref o5,V.ref o6,V.ref o7,V.ref o8,V.ref o9,V.ref o10,V.ref o11,V.ref o12]=nv at *;have hnl:nv.length=9:=by rw[<-hnd];rfl
 have hw:=w5.trans (s6.trans w13);have hS13:=hS5.kp (Ah.kp (s6.trans w13));have hT13:=hT1.same hw;have hp13:=w13 _ _ (s6 _ _ hp35);have hpp13:=w13 _ _ hpp;have hSq13:=hw.seq hSq1;clear w13 v1 v2 v3 v4 v5 v6 v7 v8 v9 v10 v11 v12 v13;apply⟨a,_,rfl,hSq13,λD6 hD6=>?_⟩;obtain⟨ms,hms,hml⟩:∃ms:List Int,L4 (ns.map V.int) (some 12) (some 32)=ms.map V.int/\ms.length<=20:=⟨(ns.drop 12).take 20,by rw[show L4 (ns.map V.int) (some 12) (some 32)=((ns.map V.int).drop 12).take (32-12) from oA _ 12 32,ng,xn],by rw[d9];lia⟩;rw[hms] at *;obtain⟨j6,h6⟩:=As (o:=.lst (ms.map V.int)) hD6;generalize upd O13 D6 _=J6 at *;apply⟨a,_,rfl,.inl (j6.seq hSq13),?_⟩;rw[du];apply⟨few (by simp),λD7 hD7=>?_⟩;obtain⟨j7,h7⟩:=As (o:=.lst [V.int (ns.length:Nat)]) hD7;generalize upd J6 D7 _=J7 at *;apply⟨D6,D7,_,_,rfl,rfl,j7 _ _ h6,h7,by rw[du];exact fk (Ag (by rw[jk];lia)),λD8 hD8=>?_⟩;have e8:ms.map V.int++[V.int (ns.length:Nat)]=(ms++[(ns.length:Int)]).map V.int:=by rw[eh];rfl
 rw[e8] at *;obtain⟨j8,h8⟩:=As (o:=.lst ((ms++[(ns.length:Int)]).map V.int)) hD8;generalize upd J7 D8 _=J8 at *;generalize ms++[(ns.length:Int)]=cs at *;have j38:=(j6.trans j7).trans j8;have hS8:=hS13.kp (Ah.kp j38);have hT8:=hT13.same j38;have hth8:=j38 _ _ hth;have hnw8:=j38 _ _ f13;have hp8:=j38 _ _ hp13;have hpp8:=j38 _ _ hpp13;have htv8:∀v∈tv,Any K J8 v/\NoK v ds.length:=λv hv=>⟨(htv v hv).1.same j38,(htv v hv).2⟩;have hnv8:∀v∈nv,∃o,ThA K J8 v o/\∀ys,o=some ys->ys.length<=300:=λv hv=>let ⟨o,h1,h2⟩:=hnv v hv;⟨o,h1.same j38,h2⟩;obtain⟨dx8,r8,hx8,_⟩:=id hS8.hx;refine⟨D8,rfl,⟨_,SqL.of h8⟩,?_⟩;refine Nb (xs:=cs.map V.int) (λi G Hc=>∃(v7 v8 v9 v10 v11 v12 v13 v14:Option V),G=[some (.ref a),some (.int r),some (.ref p3),some (.ref x),some (.ref pp),some (.ref o4),some (.ref o13),v7,v8,v9,v10,v11,v12,v13,v14]/\SmT ts J8 Hc) ⟨_,_,_,_,_,_,_,_,rfl,SmT.refl hT8⟩ (λi G Hc _ h=>?_) ?_ ?_
 ·obtain⟨_,_,_,_,_,_,_,_,_,m9⟩:=h
  exact SqL.of (m9.k h8)
 ·rintro i y G H9 hy ⟨v7,v8,v9,v10,v11,v12,v13,v14,rfl,m9⟩
  obtain⟨c,hc,rfl⟩:=Zu hy;apply⟨c,3,rfl,by decide,by decide,λm m0 m1=>?_⟩;k_is;obtain⟨vo,hvo,hao⟩:=eU (i:=m%10) htl (by lia) (by lia);refine Bk (SqL.of (m9.k hth8)) (v:=vo) hao ?_;apply⟨x,e,pcs (Aq ds),[],ds,"cut",vo,.non,.non,rfl,hS8.kp m9.kp,m9.ok,hD,Bw _,m9.any (htv8 vo hvo).1,hpl,fg _,by lia,.inl ⟨rfl,(htv8 vo hvo).2,λp10 H10 s10 hp100 hp10=>?_⟩⟩;apply⟨few (by simp),λc10 hc10=>?_⟩;have xc10:=Ai (o:=.lst [V.str "knot"]) hc10;refine Fv (Bu.lsts (SqL.of (xc10 _ _ hp10)) (SqL.of Ac) rfl) ?_;generalize upd H10 c10 _=C10 at *;have t10:=(m9.trans s10).then xc10;k_is;obtain⟨vk,hvk,hak⟩:=eU (i:=m/10%10) htl (by lia) (by lia);refine Bk (SqL.of (t10.k hth8)) (v:=vk) hak ?_;apply Uo (λG H'=>∃kv:V,G=[some (.ref a),some (.int r),some (.ref p3),some (.ref x),some (.ref pp),some (.ref o4),some (.ref o13),some (.int c),some (.int m),some vo,some kv,v11,v12,v13,v14]/\H'=C10/\Any K C10 kv/\(kv=.non\/NoK kv ds.length)) ?_ ?_
  ·apply B5 (λ_=>?_) (λ_=>?_)
   ·k_is
    exact⟨.non,rfl,rfl,Nl,.inl rfl⟩
   ·k_is
    exact⟨vk,rfl,rfl,t10.any (htv8 vk hvk).1,.inr (htv8 vk hvk).2⟩
  rintro G C10' ⟨kv,rfl,rfl,hkA,hkN⟩;apply⟨p3,rfl,⟨_,SqL.of (t10.k hp8)⟩,?_⟩;refine Ie (SqL.of (t10.k hp8)) (λi=>(B4 ds i (-1)).map λ_=>V.int (-1)) rfl (λi hi=>?_) (λi y H11 R A hy u11 hR hA=>?_) (λD11 H11 hD11 u11 h11=>?_)
  ·rw[du,Bc] at hi
   rw[du];have:=Uu ds i (-1);exact Ag (by lia)
  ·have hi:=Bs hy
   rw[du,Bc] at hi;rw[d8,F4 hi] at hy;obtain rfl:=d0 hy;apply B5 (λe=>?_) (λe=>?_)
   ·apply hA _ _ ?_ (Ah.refl _);have e:=(iB hD hi).mp e;rw[Le e,eh,e];rfl
   ·refine hR ?_ _ (Ah.refl _)
    rw[Lk (λz=>e ((iB hD hi).mpr z))]
  rw[du,Bc] at h11;apply⟨D11,_,rfl,.inl (SqL.of h11),?_⟩;rw[du];have hnt:=Uu ds ds.length (-1);obtain⟨nt,hntd⟩:∃nt,nt=(B4 ds ds.length (-1)).length:=⟨_,rfl⟩;rw[<-hntd] at hnt ⊢;have t11:=t10.then u11;apply⟨few (by simp),λq1 g1=>?_⟩;obtain⟨z1,y1⟩:=As (o:=.lst [V.int 0,V.int (nt:Nat),V.int ((nt:Nat)+1)]) g1;generalize upd H11 q1 _=G1 at *;have t12:=t11.then z1;apply⟨q1,o4,_,_,rfl,rfl,y1,t12.k hth8,by rw[htl];exact few (by simp),λq2 g2=>?_⟩;obtain⟨z2,y2⟩:=As (o:=.lst ([V.int 0,V.int (nt:Nat),V.int ((nt:Nat)+1)]++tv)) g2;generalize upd G1 q2 _=G2 at *;have t13:=t12.then z2;have c13:=(u11.trans z1).trans z2;k_is;obtain⟨vp,hvp,hap⟩:=eU (xs:=[V.int 0,V.int (nt:Nat),V.int ((nt:Nat)+1)]++tv) (i:=m/300%13) (k:=13) (by rw[d5,htl];rfl) (by lia) (by lia);refine Bk (SqL.of y2) (v:=vp) hap ?_;have hpA:Any K G2 vp:=by
   rcases mf.mp hvp with h|h
   ·simp only[gd,i5,or_false] at h
    rcases h with rfl|rfl|rfl<;>exact B1 _
   ·exact t13.any (htv8 vp h).1
  k_is;obtain⟨vw,hvw,haw⟩:=eU (xs:=nv) (i:=m/3900%9) hnl (by lia) (by lia);refine Bk (SqL.of (t13.k hnw8)) (v:=vw) haw ?_;obtain⟨o,hTh8,hxs⟩:=hnv8 vw hvw;have hTh:=hTh8.smT t13;have hkA2:=hkA.same c13;apply Uo (λG H'=>G=[some (.ref a),some (.int r),some (.ref p3),some (.ref x),some (.ref pp),some (.ref o4),some (.ref o13),some (.int c),some (.int m),some vo,some kv,some (.int (nt:Nat)),some vp,some vw,v14]/\Ah G2 H') ?_ ?_
  ·apply⟨vw,o,rfl,hTh,hxs,λr1 H14 hr1 s14=>?_⟩;rcases hr1 with⟨rfl,es,hG⟩|⟨j,rfl,hF⟩
   ·k_is
    exact⟨rfl,s14⟩
   ·apply⟨vw,o,j,rfl,hTh.same s14,hF,λp15 H15 s15 hp150 hp15=>?_⟩;apply⟨vw,o,rfl,hTh.same (s14.trans s15),hxs,λr2 H16 hr2 s16=>?_⟩;rcases hr2 with⟨rfl,es,hG⟩|⟨j2,rfl,hF2⟩
    ·exact(Ge hF hG).elim
    obtain rfl:=Ij hF hF2;apply⟨few (by simp),λc17 hc17=>?_⟩;have xc17:=Ai (o:=.lst [V.str "wood",V.int (j:Nat)]) hc17;refine Fv (Bu.lsts (SqL.of (xc17 _ _ (s16 _ _ hp15))) (SqL.of Ac) rfl) ?_;k_is;exact⟨rfl,((s14.trans s15).trans s16).trans xc17⟩
  rintro G H17 ⟨rfl,s17⟩;have t17:=t13.then s17;apply⟨p3,_,rfl,.inl (SqL.of (t17.k hp8)),?_⟩;rw[du,Bc];apply⟨ds.length,nt,kv,vp,vw,o,rfl,hkA2.same s17,hpA.same s17,hTh.same s17,hkN,hxs,by lia,λrr p18 H18 s18 hp180 hp18 hrr=>?_⟩;have t18:=t17.then s18;have c18:=s17.trans s18;apply Uo (λG H'=>G=[some (.ref a),some (.int r),some (.ref p3),some (.ref x),some (.ref pp),some (.ref o4),some (.ref o13),some (.int c),some (.int m),some vo,some kv,some (.int (nt:Nat)),some vp,some vw,some (.ref p18)]/\SmT ts J8 H') ?_ ?_
  ·apply⟨few (by simp),λc19 hc19=>?_⟩;obtain⟨xc19,yc19⟩:=As (o:=.lst [V.str "good"]) hc19;generalize upd H18 c19 _=C19 at *;have t19:=t18.then xc19;rcases hrr with rfl|hdue
   ·refine tL (c:=true) (SqL.of (xc19 _ _ hp18)) (SqL.of yc19) rfl rfl rfl ?_
    k_is;exact⟨rfl,t19⟩
   ·obtain⟨hfl,hng⟩:rr.all Cy=true/\eqL rr [V.str "good"]=false:=by
     rcases hdue with⟨_,_,rfl⟩|⟨_,⟨_,rfl⟩|⟨_,_,_,rfl⟩⟩|⟨_,_,_,⟨_,rfl⟩|⟨_,_,_,_,rfl⟩⟩<;>exact⟨rfl,rfl⟩
    refine tL (c:=false) (SqL.of (xc19 _ _ hp18)) (SqL.of yc19) hfl rfl hng ?_;k_is;obtain⟨kd,hkd0,hkd1,hdue2⟩:∃kd:Nat,(kv=.non->kd=(B4 ds ds.length (-1)).length)/\(∀j:Nat,kv=.int j->kd=(B4 ds ds.length j).length)/\rJ ds.length kd kv vp o rr:=by
     by_cases hkn:kv=.non
     ·exact⟨nt,λ_=>hntd,(λj ej=>by rw[hkn] at ej;cases ej),hdue⟩
     ·have hb:=hkN.resolve_left hkn
      obtain⟨kd,hkd⟩:∃kd:Nat,∀j:Nat,kv=.int j->kd=(B4 ds ds.length j).length:=by
       cases kv with
       |int i=>exact⟨(B4 ds ds.length i).length,λj ej=>by rw[V.int.inj ej]⟩
       |_=>exact⟨0,λj ej=>by cases ej⟩
      refine⟨kd,λh=>absurd h hkn,hkd,?_⟩;rcases hdue with h|⟨h,_⟩|⟨j,rfl,hj,_⟩
      ·exact .inl h
      ·exact absurd h hkn
      ·exact absurd hj hb.yes
    have c19':=c18.trans xc19;refine⟨x,e,pcs (Aq ds),[],ds,"graft",kv,vp,vw,rfl,hS8.kp t19.kp,t19.ok,hD,Bw _,hkA2.same c19',hpl,fg _,by lia,.inr (.inr ⟨rfl,o,kd,hpA.same c19',hTh.same c19',hkd0,hkd1,.inl ⟨rr,hdue2,λp20 H20 s20 hp200 hp20=>?_⟩⟩)⟩;apply Fv (Bu.lsts (SqL.of hp20) (SqL.of (s20.k (xc19 _ _ hp18))) hfl) ?_;k_is;exact⟨rfl,t19.trans s20⟩
  rintro G H20 ⟨rfl,t20⟩;apply⟨x,e,p3,pcs (Aq ds),ds,m,rfl,hS8.kp t20.kp,t20.ok,hD,Bw _,t20.k hp8,hpl,by lia,λH21 s21=>?_⟩;have t21:=t20.trans s21;apply⟨x,dx8,_,rfl,t21.k hx8,rfl,?_⟩;apply⟨x,_,rfl,(hS8.kp t21.kp).sh,t21.ok,by rw[Bw];exact nD hD,by rw[Bw,hrl];lia,λp22 ds22 H22 s22 hp220 hp22 hD22 e22=>?_⟩;obtain rfl:ds=ds22:=(lK hD22 hD (e22.trans (Bw _))).symm;have t22:=t21.trans s22;apply Fv (Bu.lsts (SqL.of hp22) (SqL.of (t22.k hp8)) (C1 _)) ?_;apply⟨x,dx8,_,rfl,t22.k hx8,rfl,?_⟩;apply⟨x,_,rfl,(hS8.kp t22.kp).sh,λp23 H23 s23 hp230 hp23=>?_⟩;have t23:=t22.then s23;apply Fv (Bu.lsts (SqL.of hp23) (SqL.of (t23.k hpp8)) (iK _)) ?_;apply⟨x,e,pcs (Aq ds),[],ds,"back",.non,.non,.non,rfl,hS8.kp t23.kp,t23.ok,hD,Bw _,Nl,hpl,fg _,by lia,.inr (.inl ⟨rfl,rfl,λp24 H24 s24 hp240 hp24=>?_⟩)⟩;apply⟨few (by simp),λc25 hc25=>?_⟩;have xc25:=Ai (o:=.lst [V.str "deed"]) hc25;refine Fv (Bu.lsts (SqL.of (xc25 _ _ hp24)) (SqL.of Ac) rfl) ?_;k_is;exact⟨_,_,_,_,_,_,_,_,rfl,(t23.trans s24).then xc25⟩
 ·rintro G H9 _
  k_is;exact q H9
end
set_option maxHeartbeats 8000000 in
theorem all_mk:AllMk:=by
 intro l w K h mg fa X G hfa ac aa ae aZ ba f0 od0 an0 sl0 oc0 kV0 dc0 pm0 cd0 ct0 f22 od22 an22 sl22 oc22 kV22 dc22 pm22 ct22 oo22 f23 od23 an23 sl23 oc23 kV23 dc23 pm23 ct23 oo23 f30 od30 an30 sl30 oc30 kV30 dc30 pm30 ct30 oo30 t_MOST_KNOTS t_MOST_SIGNS_pairs t_MOST_SIGNS_woods t_PIECE_SIGNS t_ENOUGH_SIGNS aq ai am ag ao aj nm_NoWood qn_NoWood N_NoWood bs_NoWood sn_NoWood sub_NoWood ab_NoWood col_NoWood dd_NoWood k0_NoWood k1_NoWood k2_NoWood k3_NoWood k5_NoWood cd_Piece fd_Piece cd_PiecedRow fd_PiecedRow cd_Shaped fd_Shaped bc_Heights bc_Openings i0 a0 l0 c0 k0 g1 g2 g3 g4 g5 g6 g7 g8 g9 g10 g11 g12 g13 g14 g15 g16 g17 g18 g19 g20 g21 i22 a22 l22 c22 k22 lc22 hc22 i23 a23 l23 c23 k23 lc23 hc23 g24 g25 g26 g27 g28 g29 i30 a30 l30 c30 k30 lc30 hc30 g31 g32 g33 g34 g35 g36 g37 g38 g39 g40 g41 g42 g43 g44 g45 g46 g47 g48 g49 g50 g51 g52 g53 g54 g55 g56 g57 g58 g59 g60 g61 g62 g63 g64 g65 g66 g67 g68 g69 cu cE cA cw cy z_range z_len z_int z_bool z_str z_isinstance z_list z_tuple z_zip z_enumerate z_abs z_max z_min z_sum z_dict z_ValueError eg_WoodError eg_NoKnot eg_NoGraft eg_NoWood eg_TooLarge eg_NoDeed ex_WoodError bg_WoodError br_WoodError bi_WoodError ex_NoKnot xk_NoKnot cr ex_NoGraft xk_NoGraft cC sa_NoWood pl_NoWood xk_NoWood cq cJ ex_TooLarge xk_TooLarge cx ex_NoDeed xk_NoDeed cF ci cm ck cg cn ob_NoWood;obtain⟨f69,d69,F69,a69⟩:=g69;obtain⟨_,_,kV69,dc69,pm69,an69,cd69,ct69,_,rfl,_,_⟩:=F69.ex;have e:=hfa.symm.trans (i7 X G a69);cases e;have O_NoWood:M5 K aq ag f0:=⟨ex_WoodError,⟨_,_,_,_,_,_,_,_,_,_,_,_,_,_,ob_NoWood⟩,a0,beq_iff_eq.mp i0,sa_NoWood,pl_NoWood⟩;have T0:∀base:im,Txt l.prog w base tz K mg aq ai am ag ao aj:=λ_=>⟨i7 X G eg_WoodError,i7 X G eg_NoKnot,i7 X G eg_NoGraft,i7 X G eg_NoWood,i7 X G eg_TooLarge,i7 X G eg_NoDeed,⟨i7 X G eg_WoodError,bg_WoodError,br_WoodError,bi_WoodError⟩,⟨i7 X G eg_NoKnot,ex_NoKnot⟩,xk_NoKnot,cr,⟨i7 X G eg_NoGraft,ex_NoGraft⟩,xk_NoGraft,cC,xk_NoWood,cq,cJ,⟨i7 X G eg_TooLarge,ex_TooLarge⟩,xk_TooLarge,cx,⟨i7 X G eg_NoDeed,ex_NoDeed⟩,xk_NoDeed,cF,ci,cm,ck,cg,cn,⟨_,i7 X G cu⟩,⟨_,i7 X G cE⟩,⟨_,i7 X G cA⟩,⟨_,i7 X G cw⟩,⟨_,i7 X G cy⟩,jx X G z_range,jx X G z_len,jx X G z_int,jx X G z_bool,jx X G z_str,jx X G z_isinstance,jx X G z_list,jx X G z_tuple,jx X G z_zip,jx X G z_enumerate,jx X G z_abs,jx X G z_max,jx X G z_min,jx X G z_sum,jx X G z_dict,jx X G z_ValueError,⟨_,O_NoWood⟩⟩;have Qc:Qc K ac:=⟨fd_Piece.cl,fd_Piece.no 0,fd_Piece.no 1,fd_Piece.no 2,fd_Piece.no 3⟩;have Qa:Qa K aa:=⟨fd_PiecedRow.cl,fd_PiecedRow.no 0,fd_PiecedRow.no 1,fd_PiecedRow.no 2,fd_PiecedRow.no 3,fd_PiecedRow.no 4,fd_PiecedRow.no 5⟩;have Qb:Qb K ae:=⟨fd_Shaped.cl,fd_Shaped.no 0,fd_Shaped.no 1⟩;have F0:=Wu (st:=Dh) l0 c0 k0;have b0:=F0.binds (ps:=["self","place"]) λ_ _ _ _ _ _=>us2 λ_ _=>rfl;have F22:=Vb (st:=A5) l22 c22 k22 lc22 hc22;have b22:=F22.binds (ps:=["self","place"]) λ_ _ _ _ _ _=>us2 λ_ _=>rfl;have F23:=Vb (st:=Ba) l23 c23 k23 lc23 hc23;have b23:=F23.binds (ps:=["self","place"]) λ_ _ _ _ _ _=>us2 λ_ _=>rfl;have F30:=Vb (st:=A8) l30 c30 k30 lc30 hc30;have b30:=F30.binds (ps:=["self","number"]) λ_ _ _ _ _ _=>us2 λ_ _=>rfl;refine⟨jr "law" "law" (Cn Rf) (B0 Rf) (Af Rf) .none kV69 dc69 pm69 an69 cd69 ct69,λs v=>.of_eq rfl,λbase hK _ hB=>?_⟩;have T:=T0 base;have V0:xG l.prog w K mg base "NoWood" aq ag 1 ["self","place"]:=⟨⟨f0,_,Wf T F0,b0,O_NoWood⟩,T.cV,T.cM⟩;have V1:=GD.cal X G g1 λF=>Yq T F;have V2:=GD.cal X G g2 λF=>Vz T V1 F;have V3:=GD.cal X G g3 λF=>Rx T V2 F;have V4:=GD.calE X G g4 λF=>S3 T V2 F;have V5:=GD.cal X G g5 λF=>Pw T V1 F;have V6:=GD.cal X G g6 λF=>S8 T F;have V7:=GD.cal X G g7 λF=>Pz T F;have V8:=GD.cal X G g8 λF=>Ta T F;have V9:=GD.cal X G g9 λF=>dQ T V8 F;have V10:=BD.calC X G bc_Heights g10 λF=>Q9 T Qa F;have V11:=MD.mth (sp:=(U8 ac aa)) Qa.cl g11 λF=>Wa T Qa F;have V12:=GD.cal X G g12 λF=>Wp T F;have V13:=GD.calE X G g13 λF=>Zx T V1 F V0;have V14:=GD.cal X G g14 λF=>U4 T F;have V15:=GD.calE X G g15 λF=>iT T F V14 V13;have V16:=GD.cal X G g16 λF=>Vt T F V12;have V17:=BD.calC X G bc_Openings g17 λF=>Q5 T Qb F;have V18:=MD.mth Qb.cl g18 λF=>Qk T Qb V11 F;have V19:=MD.mkr X G cd_Piece g19 λF=>Wh T V8 F Qc V9;have V20:=GD.cal X G g20 λF=>Up T F V19;have V21:=MD.mkr X G cd_PiecedRow g21 λF=>Q3 T Qa Qc F V7 V10;have V22:Mth l.prog w K mg base aa "stretch_at" 4 ["self","place"] (mZ ac aa tz):=⟨⟨f22,_,Qh T Qa hK (hB (780,776) (by simp)) V6 F22 (ik _ jo),b22,⟨a22,i22,k22⟩⟩,Qa.cl⟩;have V23:Mth l.prog w K mg base aa "pieces_to" 4 ["self","place"] (lV ac aa tz):=⟨⟨f23,_,Ql T Qa hK (hB (794,790) (by simp)) V6 F23 (ik _ (ik _ jo)),b23,⟨a23,i23,k23⟩⟩,Qa.cl⟩;have V24:=MD.mth Qa.cl g24 λF=>Qu T Qa Qc V22 V23 F;have V25:=MD.mth Qa.cl g25 λF=>Wb T Qa V24 F;have V26:=MD.mth Qa.cl g26 λF=>Qe T Qa V22 V24 F;have V27:=MD.mth Qa.cl g27 λF=>Q2 T Qa F V26;have V28:=MD.mth Qa.cl g28 λF=>Qg T Qa V24 F;have V29:=MD.mth (sp:=(Sn ac aa)) Qa.cl g29 λF=>Qq T Qa F;have V30:Mth l.prog w K mg base aa "opening" 4 ["self","number"] (Ms ac aa tz):=⟨⟨f30,_,Qt T Qa Qc hK (hB (773,771) (by simp)) V6 F30 jo,b30,⟨a30,i30,k30⟩⟩,Qa.cl⟩;have V31:=MD.mth Qa.cl g31 λF=>Q4 T Qa V22 V29 F;have V32:=MD.mth Qa.cl g32 λF=>Qv T Qa V22 F;have V33:=MD.mth Qa.cl g33 λF=>Qd T V8 Qa V24 V27 F;have V34:=MD.mth Qa.cl g34 λF=>Qj T Qa V33 F;have V35:=MD.mth Qa.cl g35 λF=>Qz T Qa V31 V32 F V3 V5 V34;have V36:=MD.mth Qa.cl g36 λF=>Q0 T Qa V27 F V28 V35;have V37:=MD.mth Qa.cl g37 λF=>Qm T Qa V22 V29 F;have V38:=MD.mth Qa.cl g38 λF=>Qf T Qa V22 V33 V32 F V37;have V39:=MD.mth Qa.cl g39 λF=>Qo T Qa V33 F;have V40:=MD.mth Qa.cl g40 λF=>Qn T Qa V27 V31 V38 F;have V41:=MD.mth Qa.cl g41 λF=>Qs T Qa V27 V31 V38 F V39;have V42:=MD.mth Qb.cl g42 λF=>Wc T Qb F V25;have V43:=MD.mth Qb.cl g43 λF=>Q1 T Qb F V16 V42;have V44:=MD.mthE Qb.cl g44 λF=>Qx T Qb V18 F V4 V30;have V45:=MD.mth Qb.cl g45 λF=>Qw T Qb V44 F V36;have V46:=MD.mthE Qb.cl g46 λF=>Q6 T Qb V44 V40 F V45;have V47:=MD.mthE Qb.cl g47 λF=>Wj T Qb V46 F;have V48:=MD.mth Qb.cl g48 λF=>Qp T Qb V11 V40 F;have V49:=MD.mth Qa.cl g49 λF=>Qr T Qa V22 V23 V24 V20 V21 F;have V50:=MD.mkrE X G cd_Shaped g50 λF=>Wg T Qb V20 V21 V15 F V17;have V51:=MD.mth Qb.cl g51 λF=>Q7 T Qb Qc F Qa;have V52:=MD.mth Qb.cl g52 λF=>Qi T Qb F Qa V49;have V53:=MD.mthE Qb.cl g53 λF=>Wi T Qb V44 F;have V54:=MD.mthE (sp:=(Vi ac aa ae aj)) Qb.cl g54 λF=>Qy T Qb F;have V55:=MD.mthE Qb.cl g55 λF=>Wd T V2 Qb V18 V44 V46 V15 F V48 V41 V52;have V56:=GD.cal X G g56 λF=>Sg T F;have V57:=GD.cal X G g57 λF=>U9 T F;have V58:=GD.cal X G g58 λF=>Wz T F;have V59:=GD.cal X G g59 λF=>Td T V56 V58 F;have V60:=GD.cal X G g60 λF=>Yv T F;have V61:=GD.cal X G g61 λF=>Wo T V57 F;have V62:=GD.cal X G g62 λF=>W4 T F;have V63:=GD.cal X G g63 λF=>Xs T Qb V62 F V53 V55 V54;have V64:=GD.cal X G g64 λF=>P8 T Qb V62 V50 F;have V65:=GD.cal X G g65 λF=>eC T V57 V61 F;have V66:=GD.cal X G g66 λF=>Vc T Qb V18 V56 V50 V63 V51 V64 F;have V67:=GD.cal X G g67 λF=>Rk T Qb V62 F V47;have V68:=GD.cal X G g68 λF=>S4 T Qb V63 F V67;exact wB T Qb V56 V58 V50 V61 V63 V51 V64 F69 V66 V60 V59 V65 V68 V43
end TK
theorem PySem.Challenge.cw_tightwood_k75_refused_holds : PySem.Challenge.rw_tightwood_k75_refused.Holds :=
 TK.HEAD @TK.all_mk
#print axioms PySem.Challenge.cw_tightwood_k75_refused_holds
