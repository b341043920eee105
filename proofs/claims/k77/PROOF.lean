import PyProof.Rows.All
import Wide.All
import OpenK.AllK
import Wide.FinOn
import Lean
import PyProof.EqAt
import PyProof.EqKinds
import PyProof.TupleCall
import KE.KDictOf
import KE.KLam
import KE.KNest
import KE.KNestM
import KE.KRevIter
import KE.KSortKey
import KE.KSortTup
import KE.KTryMore
import OpenK.KCls
import PyProof.AttrMissHeap
import PyProof.Draws
import PyProof.EnumMake
import PyProof.EnumStmt
import PyProof.InstStoreFacts
import PyProof.ListNew
import PyProof.ListRange
import PyProof.ObjNew
import PyProof.Rows.Range3
import PyProof.SliceList
import PyProof.StrBlockL
import PyProof.StrLawsChain
import PyProof.StrLawsIn
import PyProof.WalksEnum
import PyProof.ZipIter
import PySem.Challenge.RW_tightwood_k77_whole_deeds
set_option compiler.extract_closed false
set_option Elab.async false
set_option linter.all false
set_option maxRecDepth 100000
set_option maxHeartbeats 4000000
open List renaming getElem?_eq_getElem->c7,length_map->c8,length_append->c9,getElem?_map->dg,length_take->dh,getElem?_append_right->di,map_append->dj,replicate->dn,getElem?_append_left->dv,take_of_length_le->d5,getElem?_eq_some_iff->d6,getElem?_take_of_lt->d7,length_cons->d8,append_assoc->d9,range->ed,getElem?_eq_none->eg,getD->eh,size_toArray->ez,mem_append_right->fe,length_drop->fh,length_range->fj,mem_cons->fu,length_nil->f6,drop_of_length_le->gg,take_add_one->gj,replicate_succ->gk,eq_nil_of_length_eq_zero->gp,count_append->gu,mem_of_getElem?->gw,mem_cons_of_mem->gy,getElem?_range->ia,range_succ->ic,mem_singleton->ie,length_singleton->ig,length_replicate->ii,flatten_cons->il,take_append_drop->ir,append_nil->iz,map_congr_left->i5,flatten_append->i6,mem_range->ja,getElem?_drop->jb,forall_mem_cons->jc,map_cons->jd,not_mem_nil->je,length->jg,mem_cons_self->jj,map_map->jm,drop_eq_getElem_cons->jq,ext_getElem?->jt,mem_append->ju,range_succ_eq_map->jw,map_take->jx,count_cons->kb,getElem?_of_mem->kd,toList_toArray->ku,all_eq_true->kx,drop_append_of_le_length->la,mem_map->lh,getElem?_tail->li,take_length->lx,mem_map_of_mem->l6,filter_append->l8,lookup->mh,take_take->mz,pairwise_lt_range->m8,getElem?_toArray->ni,eq_nil_or_concat->nj,concat_eq_append->nq,lookup_cons->nv,take_add->oh,take_append_of_le_length->oj,mem_append_left->om,nodup_cons->ow,take_succ_cons->oz,filterMap_cons->o7,take_left->ph,getElem?_zip_eq_some->pk,getElem?_set_self->qf,mem_filter->ql,getElem?_set_ne->qv,drop_zero->qw,map_drop->rl,all_cons->rm,mem_filterMap->rq,flatten->si,length_tail->tx,eq_nil_iff_forall_not_mem->ua,countP_cons->ub,cons_append->uc,of_mem_zip->ul,forIn_cons->um,foldl_cons->uo,getD_eq_getElem?_getD->ve,drop_left->vf,drop_drop->vg,pairwise_iff_getElem->vx,getLast?_eq_none_iff->vy,getLast?_eq_getElem?->vz,take_nil->wj,mem_singleton_self->wo,getElem?_replicate->wq,getElem?_cons_succ->wt,map_nil->wy,length_pos_of_mem->w8,head?_eq_getElem?->w9,flatten_singleton->xa,length_filter_le->xm,replicate_succ'->xu,mem_of_mem_take->xw,mem_of_getLast?->xx,map_id->xy,dropLast_concat->xz,count_replicate->x0,replicate_zero->yj,length_reverse->yk,length_flatten->yl,sum_singleton->yv,map_singleton->yw,foldl->yx,reverse_cons->zg,take_append->zq,ext_getElem->zr,append_inj'->zt,any_eq_true->zu,sum_append->AE,nil_append->AF,length_set->AG,forIn_nil->AQ,drop_take->AR,any_cons->BF,take->EK,drop->EL
open PySem.W renaming Frag->da,nsIn->gz,findIn->i8,keepIn->jf,fnOf->jh,mg_none_of->jl,boot_heap->j7,codeIn->kg,mg_of->lg,methodCall_KW->mw,kia_one->n6,SharedT->n8,isFn->oq,plainGet->pr,tabObj->qi,plainGet_of->qo,codeHd_of_K->qp,of_hideAll->qx,km_tabs_of->qy,methodObj->rh,hasDictIn->rj,takerIn->sv,hideAll->sw,OpenLaw->sx,boot_drawn->ue,kla_fn->uh,exmOne->ui,TabsAt->uj,boot_toks->vi,cellsFrom_some->vk,kla_obj->wv,hideAll_get->ww,callWith_K0->wx,km_in_of->xi,plainOver->xp,kitx_list->xq,kitx_dict->xr,handedIn->yh,makesIn->yr,looks_findIn->y9,CodeHd->zj,WalkO->zm,Frag->AI,OpenLaw->FQ
open Nat renaming le_refl->db,lt_of_lt_of_le->dw,zero_le->e9,le_of_lt->fb,ne_of_lt->fk,add_sub_cancel_left->fq,sub_self->fv,le_trans->gl,min_eq_left->gn,lt_of_le_of_ne->im,add_zero->iw,ne_of_gt->iy,lt_irrefl->i4,zero_add->ji,le_add_right->j0,add_sub_cancel'->kv,mul_div_cancel_left->kz,le_of_eq->ll,sub_zero->l4,min_eq_right->l5,eq_zero_or_pos->mf,lt_succ_self->n9,le_succ->ot,div_le_div_right->ou,eq_or_lt_of_le->pj,lt_trichotomy->qa,add_assoc->qd,not_lt->qj,add_comm->qk,add_mul_div_right->qq,lt_of_le_of_lt->sd,add_sub_cancel->se,le_succ_of_le->sy,succ->vw,zero_div->xk,succ_mul->xl,le_of_ble_eq_true->xt,add_mul->yi,add_lt_add_left->yu,ble->zp,min_le_right->AC,le_of_not_lt->AD,not_lt_zero->AO,mul_zero->CH,mul_comm->CI,min_zero->CJ,min_self->CK,lt_or_ge->CL,div_zero->CM,one_mul->DZ
open Option.some renaming inj->de
open PySem renaming Addr->df,Value->d0,Shared->d4,wpAny_pure->em,Program->fc,Expr->gd,World->ge,Stmt->gm,Around->gt,Heap->gv,FuncData->io,wpAny_mono->ip,mem_of_lookup->iq,wpAny_pyIter_enum->jv,wpAny_updateSeq->kh,codeAny_builtin->ki,Arguments->kj,wpAny_truthy_bool->km,lookup_relabel_local->kq,Scope->kr,codeAny_mono->lq,Spec->lu,wpAny_comprehension_free->mm,plainId_quiet->mq,wpAny_execs_nil->mv,wpAny_seqItems->nz,NameKind->og,IsPair->oi,wpAny_call->oy,wpAny_standAt->o8,wpAny_of_eq->o9,codeAny_call_builtin->pb,wpAny_tryCatch->qb,call_meets->qc,wpAny_field->qe,Model->qr,Builtin->ra,CmpOp->rf,wpAny_newFunctionEnv->rz,wpAny_letGo->r9,wpAny_attempt->tq,Value->tw,Result->ug,wpAny_newObj_type->ut,ZipApart->uu,wpAny_pyIter_zip->vh,frameOf->vj,Params->vt,Paired->vv,IsRangeIter->wk,Within->wn,Keyword->xb,BindsTo->xg,wpAny_getItem_list_slice->yd,evalPart_none->ye,call->yg,wpAny_callSpecial?_slot->yo,wpAny_pyNext_range_end->yz,wpAny_pyIter_rangeiter->y0,wpAny_nextOf_list_item->y4,seqIndex_neg->y8,codeAny_compStart_list->zd,Str->ze,IsEnum->zh,exec_Assign_Name_used->zk,builtinLookup_eq_fast->zl,wpAny_pyIter_revIter->z5,wpAny_loadName_local->z6,sizeLine_eq->z7,seqIndex_of->z8,numAt_eq->z9,intItems_at->AA,Operator->AB,GenState->AH,wpAny_loadName_cell->AK,Program->AL,wpAny_pyIter_range->AX,wpAny_Name->AY,typeIs_int->AZ,rawInt->BB,wpAny_pyIter_list->BH,World->BL,Draws->BQ,wpAny_call_entry->BS,noFill_tuple_add->BU,wpAny_specialOf->CW,typeLookup_type->CY,wpAny_loadPart->EG,sliceRange_one->EH,DefRec->EN,seq_tuple_add->ET,nums_intItems->EU,intBits_le_64->EV,eval_ListComp->EW,call_list_seq->EX,concat_meets->FO
open PySem.Heap renaming get?_push_of_some->dq,lt_size->d3,get?_push_size->fi,get?_update_other->gq,get?_update_self->i7,size_push->ky,size_update->ny,SameBut->sj,FlyingW->sk,MadeExcOf->AU,HeldW->EB
open PySem.Str renaming ofString->du,ofString->ke,empty->uf
open PySem.F renaming plainAttrs_list->dy,type_list_append->en,slot_list_append->et,plain_extend_loop->jo,type_list_pop->jy,slot_list_pop->jz,plain_min_loop->lb,plainAttrs_str->md,slot_zip_next->my,entry_extend_loop->pc,type_list_index->pw,slot_list_index->pz,called_enumerate->tm,args_tuple_add_2->uw,entry_min_loop->ux,type_list_count->va,slot_list_count->vb,entry_tuple_add->vc,args_zip_next_1->vd,type_str_count->vm,slot_tuple_add->vn,slot_str_count->vo,entry_zip_next->vp,type_str_join->wf,slot_str_join->wg,excAttr_ValueError->zi,slot_int_rmul->BP
open Bool renaming false_ne_true->fg,false_eq_true->lj,and_eq_true->ly,eq_iff_iff->qm,eq_false_iff->sr,noConfusion->z4,false_and->AW,true_and->BG
open PySem.Challenge renaming pw_tightwood_k77_whole_deeds->f7,rw_tightwood_k77_whole_deeds->j5
open PySem.PassesOwn renaming never->f8
open Int renaming toNat_natCast->f9,eq_ofNat_of_zero_le->jk,emod_lt_of_pos->j6,emod_nonneg->lp,natCast_add->l9,le_refl->qz,zero_add->td,le_trans->tj,natCast_mul->AT,lt_irrefl->BN,add_assoc->BO,le_of_lt->CP,ediv_one->CQ
open PyProof.Rows renaming callWith_type1->gr,AllBare->qh,IntsAre->xc,Constant_none->ym,subscriptTail_builtinR->y6,count_cnt->DV,cnt_cons->DW,cnt->DX,callWith_builtin1->DY
open Option renaming isSome_iff_exists->ib,map_eq_some_iff->mj,getD_some->na,getD_none->yt,none->BE
open PySem.Value renaming type->ij,ref->ik,none->k7,int->l7,str->qu,bool->uv,float->xj,bytes->BK
open PySem.Builtin.SmallTypes renaming fitsIndex->iu,ownedTupleIsFree->jr,nextOf->m9,ownedTupleFields->zw,newRecord->zx,indexObject->zy
open Array renaming length_toList->i3,getElem?_eq_getElem->lz,getElem?_eq_none->mr,getElem?_toList->nh,append_empty->pe,toList_append->rb,append_assoc->rn,size_push->uk,mk->xo,getElem?_push->yc,forIn_toList->yn
open False renaming elim->i9
open PySem.Obj renaming mapSeq->jn,mapFields->BM
open List.cons renaming inj->j8,injEq->sf
open PySem.Around renaming under_plainId->j9,under->wl,frames_deeper->xh
open PySem.Calls renaming spliced_cons->lf,spliced_nil->pq,Name_function_global->uy,callWith_builtin->wu,evalArgs_plain->xn
open PySem.WalksT renaming enumerateD->lm,enumerate->yp,zip2->BA
open PySem.Builtin.List renaming listTooLong->lr,listExtendWith->ng,listSameRef->sq,listItems->ud,listUpdate->EC,listTouch->ED,listLengthHint->EE,listFitsIndex->EF
open PySem.Builtin.Range renaming rangeSize->lv,small->ur,rangeFitsLong->CV
open PySem.NameKind renaming free->lw,cell->zf
open Ne renaming symm->me
open List.Pairwise renaming filter->mi,nil->CO
open Classical renaming choose_spec->ml
open PySem.Builtin.Str renaming strSliceIndices->nr,occurrences->pd,tooLong->ES
open True renaming intro->pf
open Prod.mk renaming injEq->pi
open PySem.EntryCells renaming newEntry->qg
open PySem.Builtin.Builtins renaming bindParams->qt
open PySem.SeqAt.RcAt renaming lists->rc,tuples->wm,lists_lengths->EY
open PySem.SeqAt renaming EqAt->rg
open PySem.SeqAt.EqAt renaming same->rp,str_int->v7,of_refs->wa,int_str->wb,str_str->EZ,str_none->FA,str_bool->FB,none_str->FC,none_int->FE,none_bool->FF,int_none->FG,int_int->FH,int_bool->FI,bool_str->FJ,bool_none->FK,bool_int->FL,bool_bool->FM
open Or renaming inr->sg,inl->zn
open Sum renaming inr->ss,inl->su
open PySem.Heap.IsSliceOf renaming new->uq
open PySem.SeqAt.RcNeAt renaming lists->uz,tuples->DA,lists_lengths->DB
open PyProof renaming noPylong_small->vq
open PySem.W.Hook renaming val->wc,obs->we,says->DE,of->DF,keeps->DG
open PySem.Code renaming isFrame->xf,quiet_builtin->yy,frames->CU
open ForInStep renaming yield->ya
open PySem.Data renaming fields->yb,dict->EO,cell->EQ
open PySem.Txt renaming join->yf
open PySem.Value.ref renaming inj->yq
open Nat.succ renaming inj->zo
open PySem.Builtin.ObjectAttr renaming find->zz,dataDescriptor?->z0
open PySem.Draws renaming strAscii->AJ,strWide->AV,list->CT
open Prod renaming ext->AN
open PySem.IsRange renaming new->AS
open PySem.Walks renaming range->BI
open PySem.W.WShape renaming has->BJ
open PySem.CmpOp renaming NotIn->BR,In->ER
open PySem.W.Looks renaming ld->BV,here->BW,ld->EJ
open PySem.EqMixed renaming ne_str_int->BX,ne_str_bool->BY,ne_int_str->BZ,ne_bool_str->CA,eq_str_int->CB,eq_str_bool->CC,eq_int_str->CF,eq_bool_str->CG
open PySem.W.WData renaming int->CZ
open PySem.Sem renaming wp_mono->DC,wp->EI
open PySem.Within renaming cons->DD
open PySem.EqNone renaming ne_str_none->DH,ne_none_str->DI,ne_none_none->DJ,ne_none_int->DK,ne_none_bool->DL,ne_int_none->DM,ne_bool_none->DN,eq_str_none->DO,eq_none_str->DP,eq_none_none->DQ,eq_none_int->DR,eq_none_bool->DS,eq_int_none->DT,eq_bool_none->DU
open PySem.Heap.SameBut renaming refl->EA
open PySem.Expr renaming Call->EM
open PySem.W.KF renaming slot_gs->FN
open PySem.IsL renaming update->FP
open PySem.DictEntry renaming refKey->FR
open PySem.AutoListH renaming list___mul___list_int_3->FS
open PySem.W (instObj lookIn emptyDict kitOne kia_one callWith_K excIn CodeHd kla_obj km_in_of mg_none_of)
abbrev Za0:=tw->PySem.Shared->Prop
abbrev Za1:=List (PySem.Addr×PySem.Obj)
abbrev Za2:=ze->Option tw
abbrev Za3:=List tw
abbrev Za4:=List Nat
abbrev Za5:=List Bool
abbrev Za6:=List ze
abbrev Za7:=Option tw
set_option hygiene false in
local macro_rules | `(tactic| lia)=>`(tactic| first | with_reducible first | assumption | exact Nat.le_of_lt (by assumption) | exact Nat.not_le.mp (by assumption) | exact Nat.lt_of_le_of_lt (by assumption) (by assumption) | exact Nat.le_trans (by assumption) (by assumption) | exact Nat.lt_trans (by assumption) (by assumption) | exact Nat.lt_succ_of_lt (by assumption) | exact Nat.sub_le _ _ | exact Nat.lt_of_lt_of_le (by assumption) (by assumption) | exact Nat.le_of_lt_succ (by assumption) | exact Nat.pos_of_ne_zero (by assumption) | exact Nat.zero_le _ | exact Nat.sub_succ_lt_self _ _ (by assumption) | exact Nat.sub_lt (Nat.zero_lt_of_lt (by assumption)) Nat.one_pos | exact Nat.lt_of_lt_of_le (Nat.sub_lt (Nat.zero_lt_of_lt (by assumption)) Nat.one_pos) (by assumption) | lia (splits := 9) | omega)
theorem QC(h:True:=by rfl):True:=h
def QD:Lean.Syntax:=QC._auto_1
theorem QE(h:True:=by decide):True:=h
def QF:Lean.Syntax:=QE._auto_1
theorem QG(h:True:=by first|exact .inl rfl|exact .inr rfl|assumption):True:=h
def QH:Lean.Syntax:=QG._auto_1
theorem QI(h:True:=by intro _;rfl):True:=h
def QJ:Lean.Syntax:=QI._auto_1
theorem QK(h:True:=by (repeat intro _);rfl):True:=h
def QL:Lean.Syntax:=QK._auto_1
section
set_option hygiene false in
local macro_rules | `(tactic| k_in)=>`(tactic| intro pins s G H Q I h)
set_option hygiene false in
local macro_rules | `(tactic| k_end)=>`(tactic| intro pins s G H D I h)
local macro_rules | `(tactic| k_cls)=>`(tactic| (constructor<;>first | rfl | decide +kernel))
namespace L2
open PySem PySem.Spec PyProof.Rows
variable {C CS Pt dx i1 i2 it kl l1 l2 pa z:df} {params:kj} {A:gt} {CX:CXT} {op:rf} {X:Cx} {env:Env} {tg:gd} {fd:io} {base h h' h1:gv} {H H' H1 H2:Hp} {J:It} {pins:Za1} {as fp:List df} {outer:List Env} {elts:List gd} {ns:List Int} {ix:Za4} {N ps:Za6} {ts:List Tb} {xs ys:List V} {us vs:Za3} {M:qr} {off t':Nat} {oT:Obj} {od:Option df} {pos:Pos} {scope:kr} {pl:Sem Bool} {s s2:d4} {sp:Sp} {st:gm} {qual:Str} {tk:TA} {te:TE} {wi:TI} {y:V} {pm:d0} {w:ge}
abbrev Key:=Sum Int Str
def wC:Key->d0->Bool
 |.inl k,v=>Value.isInt k v
 |.inr x,v=>Value.isStrOf x v
def Ack (w:ge):Key->Int
 |.inl k=>hashInt k
 |.inr x=>hashStr w x
theorem C1:∀{k:Key} {v:d0},wC k v=true->(∃i t,k=su i/\v=l7 i t)\/(∃x t,k=ss x/\v=qu x t)
 |.inl i,v,h=>by
  obtain⟨t,e⟩:=Value.isInt_shape (k:=i) (v:=v) h;exact .inl ⟨i,t,rfl,e⟩
 |.inr x,v,h=>by
  obtain⟨t,e⟩:=Value.isStrOf_shape (x:=x) (v:=v) h;exact .inr ⟨x,t,rfl,e⟩
theorem xV (a b:Int):decide ((su a:Key)=su b)=(a==b):=by
 by_cases e:a=b
 ·subst e;simp
 ·have h:¬(su a:Key)=su b:=λq=>e (Sum.inl.inj q)
  rw[decide_eq_false h];exact(beq_eq_false_iff_ne.mpr e).symm
theorem yW (a b:Str):decide ((ss a:Key)=ss b)=decide (a=b):=by
 by_cases e:a=b
 ·subst e;simp
 ·have h:¬(ss a:Key)=ss b:=λq=>e (Sum.inr.inj q)
  rw[decide_eq_false h,decide_eq_false e]
theorem Aag (a:Int)(b:Str):decide ((su a:Key)=ss b)=false:=decide_eq_false (λq=>nomatch q)
theorem zM (a:Str)(b:Int):decide ((ss a:Key)=su b)=false:=decide_eq_false (λq=>nomatch q)
def lP (prog:fc)(w:ge):PySem.KeyKind prog w Key where
 is:=wC
 hash:=Ack w
 inj:=λv a b ha hb=>by
  rcases C1 ha with⟨i,t,rfl,rfl⟩|⟨x,t,rfl,rfl⟩
  ·rcases C1 hb with⟨j,u,rfl,e⟩|⟨y,u,rfl,e⟩
   ·injection e with e1 _;rw[e1]
   ·exact nomatch e
  ·rcases C1 hb with⟨j,u,rfl,e⟩|⟨y,u,rfl,e⟩
   ·exact nomatch e
   ·injection e with e1 _;rw[e1]
 byValue:=λk v h=>by
  rcases C1 h with⟨i,t,rfl,rfl⟩|⟨x,t,rfl,rfl⟩<;>rfl
 pyHash:=λhv h=>by
  rcases C1 hv with⟨i,t,rfl,rfl⟩|⟨x,t,rfl,rfl⟩
  ·exact wpAny_pyHash_int h
  ·exact wpAny_pyHash_str h
 eqBool:=λhu hv h=>by
  rcases C1 hu with⟨i,t,rfl,rfl⟩|⟨x,t,rfl,rfl⟩
  ·rcases C1 hv with⟨j,u,rfl,rfl⟩|⟨y,u,rfl,rfl⟩
   ·rw[xV] at h;exact wpAny_eqBool_int h
   ·rw[Aag] at h;exact wb i t y u _ _ _ _ h
  ·rcases C1 hv with⟨j,u,rfl,rfl⟩|⟨y,u,rfl,rfl⟩
   ·rw[zM] at h;exact v7 x t j u _ _ _ _ h
   ·rw[yW] at h;exact wpAny_eqBool_str h
 «strs»:=λk x t v h=>by
  rcases C1 h with⟨i,u,rfl,e⟩|⟨y,u,rfl,e⟩
  ·exact nomatch e
  ·injection e with e1 _
   subst e1;cases v<;>rfl
inductive V where
 |non|bl (b:Bool)|int (i:Int)|str (x:Str)|byt (b:Array UInt8)|flt (b:UInt64)|ref (a:df)|ty (n:String)
 deriving DecidableEq
def By:V->d0->Prop
 |.non,u=>u=k7
 |.bl b,u=>u=uv b
 |.int i,u=>∃t,u=l7 i t
 |.str x,u=>∃t,u=qu x t
 |.byt b,u=>∃t,u=BK b t
 |.flt b,u=>∃t,u=xj b t
 |.ref a,u=>u=ik a
 |.ty n,u=>u=ij n
abbrev Bj:List V->Za3->Prop:=vv By
theorem Bj.length (r:Bj xs us):xs.length=us.length:=Paired.length r
theorem Bj.get:∀{xs:List V} {us:Za3} {i:Nat} {x:V},Bj xs us->xs[i]?=some x->∃u,us[i]?=some u/\By x u
 |_,_,_,_,.nil,e=>by simp at e
 |_,_,0,_,.cons r _,e=>by simp at e;subst e;exact⟨_,rfl,r⟩
 |_,_,i+1,x,.cons _ t,e=>by
  obtain⟨u,h1,h2⟩:=Bj.get (i:=i) (x:=x) t (by simpa using e);exact⟨u,by simpa using h1,h2⟩
theorem Bj.set {x:V}{u:d0}(r:By x u):∀{xs:List V} {us:Za3} (i:Nat),Bj xs us->Bj (xs.set i x) (us.set i u)
 |_,_,_,.nil=>.nil
 |_,_,0,.cons _ t=>.cons r t
 |_,_,i+1,.cons q t=>.cons q (Bj.set r i t)
theorem Bj.append:∀{xs ys:List V} {us ws:Za3},Bj xs us->Bj ys ws->Bj (xs++ys) (us++ws)
 |_,_,_,_,.nil,s=>s
 |_,_,_,_,.cons r t,s=>.cons r (Bj.append t s)
theorem Bj.take:∀{xs:List V} {us:Za3} (n:Nat),Bj xs us->Bj (xs.take n) (us.take n)
 |_,_,0,_=>.nil
 |_,_,_+1,.nil=>.nil
 |_,_,n+1,.cons r t=>.cons r (Bj.take n t)
theorem Bj.drop:∀{xs:List V} {us:Za3} (n:Nat),Bj xs us->Bj (xs.drop n) (us.drop n)
 |_,_,0,r=>r
 |_,_,_+1,.nil=>.nil
 |_,_,n+1,.cons _ t=>Bj.drop n t
def Ur:Option V->Za7->Prop
 |some v,some u=>By v u
 |none,none=>True
 |_,_=>False
def KV {κ:Type}:List (κ×V)->List (κ×d0)->Prop:=vv λ(p:κ×V) (q:κ×d0)=>p.1=q.1/\By p.2 q.2
def kV:Key->V
 |.inl i=>.int i
 |.inr x=>.str x
inductive HO where
  |lst (xs:List V)
  |tup (xs:List V)
  |dK (kvs:List (Key×V))|dT (kvs:List (List Key×V))
  |set (S:Int->Bool) (n:Nat)
  |ins (C dx:df) (fs:List (Str×V))
  |own (x:df)
  |xd (fs:List (Str×V))
  |met (f x:df)
  |rng (lo hi:Int)
  |frz (o:Obj) (u:HO)
  |tbl (ps:Array d0)
  |ext (φ:gv->Prop)
abbrev Hp:=df->Option HO
def upd (H:Hp)(a:df)(o:HO):Hp:=λb=>if b=a then some o else H b
theorem Ac {H:Hp}{a:df}{o:HO}:upd H a o a=some o:=by unfold upd;rw[if_pos rfl]
theorem Ai {a b:df}{o:HO}(h:b≠a):upd H a o b=H b:=by unfold upd;rw[if_neg h]
theorem X5 {a:df}{o u:HO}:upd (upd H a o) a u=upd H a u:=by
 funext b;unfold upd;split<;>rfl
theorem Jy {a b:df}{o u:HO}(h:H a=some o)(h':H b=some u)(d:o≠u):a≠b:=by
 intro e;subst e;rw[h] at h';exact d (de h')
theorem Af {a b:df}{o:HO}(h:H a=some o)(h':H b=none):a≠b:=by
 intro e;subst e;rw[h] at h';cases h'
section
variable (P:fc) (w:ge)
def Ee (H:Hp)(h:gv)(a:df):HO->Prop
 |.lst xs=>xs.length<=sizeLine/\∃(its:Za3) (n:Nat),Bj xs its/\h.get? a=some { cls:=.type "list",data:=.seq its.toArray n }
 |.tup xs=>xs.length<=sizeLine/\∃its:Za3,Bj xs its/\IsTup h a its.toArray
 |.dK kvs=>kvs.length<=sizeLine/\(a==sysModules)=false/\∃vs,KV kvs vs/\h.DictOf (lP P w) a vs
 |.dT kvs=>kvs.length<=sizeLine/\(a==sysModules)=false/\∃xs:List (List Key×df×d0),
   vv (λ(p:List Key×V) (q:List Key×df×d0)=>p.1=q.1/\H q.2.1=some (.tup (p.1.map kV))/\By p.2 q.2.2) kvs xs /\
   ∃o es ep,h.get? a=some o/\o.ExactDict/\o.data=.dict es ep/\es.toList=xs.map (entryOfKey (tupleKind (lP P w)))/\(xs.map (·.1)).Nodup
 |.set S n=>h.SetOf (intKind P w) a S n
 |.ins C dx fs=>H dx=some (.own a)/\fs.length<=1000/\dx≠a/\h.get? a=some (instObj C dx) /\
   ∃mA,h.Ns1 dx mA/\(∀f,Ur (fs.lookup f) (mA f))/\wn mA (fs.map (·.1))
 |.own _=>∃o,h.get? a=some o
 |.xd fs=>∃mA,h.Ns1 a mA/\∀f,Ur (fs.lookup f) (mA f)
 |.rng lo hi=>∃t u v,h.get? a=some { cls:=.type "range",data:=.fields #[.int lo t,.int hi u,.int 1 v] }
 |.frz o u=>h.get? a=some o/\Ee H h a u
 |.tbl ps=>h.get? a=some { cls:=.none,data:=.fields ps }
 |.met f x=>h.get? a=some (rh (.ref f) (.ref x))
 |.ext φ=>φ h/\(∃o,h.get? a=some o)/\∀h1 h2:gv,φ h1->(∀o,h1.get? a=some o->h2.get? a=some o)->φ h2
def HOk (H:Hp)(h:gv):Prop:=∀a o,H a=some o->Ee P w H h a o
end
section
variable {P:fc} {w:ge} {H H':Hp} {h h':gv} {a:df} {o:HO}
theorem Ee.lt (x:Ee P w H h a o):a<h.objs.size:=by
 cases o with
 |lst xs=>obtain⟨_,_,_,_,e⟩:=x;exact d3 e
 |tup xs=>obtain⟨_,_,_,p⟩:=x;exact p.lt
 |dK kvs=>obtain⟨_,_,_,_,o,_,_,e,_⟩:=x;exact d3 e
 |dT kvs=>obtain⟨_,_,_,_,o,_,_,e,_⟩:=x;exact d3 e
 |set S n=>obtain⟨o,_,_,_,e,_⟩:=x;exact d3 e
 |ins C dx fs=>obtain⟨_,_,_,e,_⟩:=x;exact d3 e
 |own y=>obtain⟨_,e⟩:=x;exact d3 e
 |xd fs=>obtain⟨_,⟨_,_,_,e,_⟩,_⟩:=x;exact d3 e
 |rng lo hi=>obtain⟨_,_,_,e⟩:=x;exact d3 e
 |frz ob u=>obtain⟨e,_⟩:=x;exact d3 e
 |tbl ps=>exact d3 (show h.get? a=some _ from x)
 |met f y=>exact d3 (show h.get? a=some _ from x)
 |ext φ=>obtain⟨_,⟨_,e⟩,_⟩:=x;exact d3 e
theorem vv.mapP {α β:Type}{F G:α->β->Prop}:∀{HX:List α} {HY:List β},vv F HX HY->(∀a b,F a b->G a b)->vv G HX HY
 |_,_,.nil,_=>.nil
 |_,_,.cons r t,f=>.cons (f _ _ r) (vv.mapP t f)
theorem Ee.stay (x:Ee P w H h a o)(k:∀b u,(b=a\/H b=some (.own a))->h.get? b=some u->h'.get? b=some u)
  (ho:∀b,H b=some (.own a)->H' b=some (.own a))(ht:∀b xs,H b=some (.tup xs)->H' b=some (.tup xs)):Ee P w H' h' a o:=by
 induction o with
 |lst xs=>obtain⟨z,its,n,r,e⟩:=x;exact⟨z,its,n,r,k _ _ (.inl rfl) e⟩
 |tup xs=>obtain⟨z,its,r,ob,e,c⟩:=x;exact⟨z,its,r,ob,k _ _ (.inl rfl) e,c⟩
 |dK kvs=>obtain⟨z,y,vs,r,ob,es,ep,e,c⟩:=x;exact⟨z,y,vs,r,ob,es,ep,k _ _ (.inl rfl) e,c⟩
 |dT kvs=>
  obtain⟨z,y,xs,r,ob,es,ep,e,c⟩:=x;exact⟨z,y,xs,vv.mapP r λp q z=>⟨z.1,ht _ _ z.2.1,z.2.2⟩,ob,es,ep,k _ _ (.inl rfl) e,c⟩
 |set S n=>obtain⟨ob,es,ep,t,e,c⟩:=x;exact⟨ob,es,ep,t,k _ _ (.inl rfl) e,c⟩
 |ins C dx fs=>
  obtain⟨d,z,ne,e,mA,⟨od,es,ep,e2,c⟩,r⟩:=x;exact⟨ho _ d,z,ne,k _ _ (.inl rfl) e,mA,⟨od,es,ep,k _ _ (.inr d) e2,c⟩,r⟩
 |own y=>obtain⟨ob,e⟩:=x;exact⟨ob,k _ _ (.inl rfl) e⟩
 |xd fs=>obtain⟨mA,⟨od,es,ep,e,c⟩,r⟩:=x;exact⟨mA,⟨od,es,ep,k _ _ (.inl rfl) e,c⟩,r⟩
 |rng lo hi=>obtain⟨t,u,v,e⟩:=x;exact⟨t,u,v,k _ _ (.inl rfl) e⟩
 |frz ob u ih=>obtain⟨e,q⟩:=x;exact⟨k _ _ (.inl rfl) e,ih q⟩
 |tbl ps=>
  have e:h.get? a=some { cls:=.none,data:=.fields ps }:=x;show h'.get? a=some { cls:=.none,data:=.fields ps };exact k a _ (.inl rfl) e
 |met f y=>
  have e:h.get? a=some (rh (.ref f) (.ref y)):=x;show h'.get? a=some (rh (.ref f) (.ref y));exact k a _ (.inl rfl) e
 |ext φ=>obtain⟨p,⟨o,e⟩,st⟩:=x;exact⟨st _ _ p λo q=>k _ _ (.inl rfl) q,⟨o,k _ _ (.inl rfl) e⟩,st⟩
theorem HOk.lt (x:HOk P w H h)(e:H a=some o):a<h.objs.size:=(x a o e).lt
theorem HOk.fresh (x:HOk P w H h)(e:h.objs.size<=a):H a=none:=by
 cases q:H a with
 |none=>rfl
 |some u=>exact absurd (dw (x.lt q) e) (i4 _)
theorem HOk.kept (x:HOk P w H h)(k:∀b u,h.get? b=some u->h'.get? b=some u):HOk P w H h':=λa o e=>
 (x a o e).stay (λb u _ q=>k b u q) (λ_ q=>q) λ_ _ q=>q
theorem HOk.laid (x:HOk P w H h)(k:∀b u,h.get? b=some u->h'.get? b=some u)(hp:h.objs.size<=a)(new:Ee P w (upd H a o) h' a o):HOk P w (upd H a o) h':=λb u e=>by
 have hn:=x.fresh hp
 by_cases hb:b=a
 ·subst hb;rw[Ac] at e;cases e;exact new
 ·rw[Ai hb] at e
  exact(x b u e).stay (λc v _ q=>k c v q) (λc q=>by rw[Ai (Af q hn)];exact q) λc xs q=>by rw[Ai (Af q hn)];exact q
end
def Rd (H:Hp)(a:df)(u:HO):Prop:=H a=some u\/∃o,H a=some (.frz o u)
theorem Rd.ok {P:fc}{a:df}{u:HO}(r:Rd H a u)(x:HOk P w H h):Ee P w H h a u:=by
 rcases r with r|⟨o,r⟩
 ·exact x a u r
 ·obtain⟨_,q⟩:=x a _ r
  exact q
def Mut:Option HO->Prop
 |some (.lst _)=>True
 |some (.dK _)=>True
 |some (.dT _)=>True
 |some (.set _ _)=>True
 |some (.ins _ _ _)=>True
 |some (.ext _)=>True
 |_=>False
section
variable {P:fc} {w:ge} {H:Hp} {h h':gv} {x e:df} {o':HO}
theorem HOk.write (ok:HOk P w H h)(mu:Mut (H x))(he:e=x\/H e=some (.own x))(k:∀b u,b≠e->h.get? b=some u->h'.get? b=some u)(heo:∃u,h'.get? e=some u)
  (new:Ee P w (upd H x o') h' x o'):HOk P w (upd H x o') h':=λb u q=>by
 have nown:∀c y,H c=some (.own y)->c≠x:=λc y r z=>by subst z;rw[r] at mu;exact mu
 have ntup:∀c xs,H c=some (.tup xs)->c≠x:=λc xs r z=>by subst z;rw[r] at mu;exact mu
 by_cases hb:b=x
 ·subst hb;rw[Ac] at q;cases q;exact new
 ·rw[Ai hb] at q
  by_cases hbe:b=e
  ·have q':H b=some (.own x):=by
    rcases he with z|z
    ·exact absurd (hbe.trans z) hb
    ·rw[hbe];exact z
   rw[q] at q';cases q';obtain⟨v,hv⟩:=heo;exact⟨v,by rw[hbe];exact hv⟩
  ·refine(ok b u q).stay (λc v hc r=>k c v ?_ r) (λc r=>by rw[Ai (nown c b r)];exact r) λc xs r=>by rw[Ai (ntup c xs r)];exact r
   rcases hc with rfl|hc
   ·exact hbe
   ·rintro rfl
    rcases he with z|z
    ·exact nown c b hc z
    ·rw[hc] at z;cases z;exact hb rfl
end
structure Un (fs ex:List df) (H H':Hp) (h h':gv):Prop where
 keep:∀b o,h.get? b=some o->H b=none->b∉fs->b∉ex->h'.get? b=some o
 slot:∀b o,h.get? b=some o->H b=none->b∈fs->b∉ex->∃sl,h'.get? b=some { o with slots:=sl }
 free:∀b o,h.get? b=some o->H b=none->b∉ex->H' b=none
 there:∀b o,h.get? b=some o->b∉ex->∃o',h'.get? b=some o'
 tups:∀b xs,H b=some (.tup xs)->H' b=some (.tup xs)
 frzs:∀b o u,H b=some (.frz o u)->H' b=some (.frz o u)
 tbls:∀b ps,H b=some (.tbl ps)->∃more,H' b=some (.tbl (ps++more))
section
variable {fs fs' ex ex':List df} {H H1 H2:Hp} {h h1 h2 h':gv} {a x e:df} {o:HO}
theorem Un.any (u:Un fs ex H H1 h h1){b:df}{ob:Obj}(q:h.get? b=some ob)(n:H b=none)(hx:b∉ex):∃sl,h1.get? b=some { ob with slots:=sl }:=by
 by_cases hb:b∈fs
 ·exact u.slot b ob q n hb hx
 ·exact⟨ob.slots,u.keep b ob q n hb hx⟩
theorem Un.trans (a:Un fs ex H H1 h h1)(b:Un fs ex H1 H2 h1 h2):Un fs ex H H2 h h2 where
 keep:=λc ob q n hc hx=>b.keep c ob (a.keep c ob q n hc hx) (a.free c ob q n hx) hc hx
 slot:=λc ob q n hc hx=>by
  obtain⟨sl,e1⟩:=a.slot c ob q n hc hx;obtain⟨sl',e2⟩:=b.slot c _ e1 (a.free c ob q n hx) hc hx;exact⟨sl',e2⟩
 free:=λc ob q n hx=>by
  obtain⟨o',e1⟩:=a.there c ob q hx;exact b.free c o' e1 (a.free c ob q n hx) hx
 there:=λc ob q hx=>by
  obtain⟨o',e1⟩:=a.there c ob q hx;exact b.there c o' e1 hx
 tups:=λc xs q=>b.tups c xs (a.tups c xs q)
 frzs:=λc ob xs q=>b.frzs c ob xs (a.frzs c ob xs q)
 tbls:=λc ps q=>by
  obtain⟨m1,e1⟩:=a.tbls c ps q;obtain⟨m2,e2⟩:=b.tbls c _ e1;exact⟨m1++m2,by rw[e2,rn]⟩
theorem Un.kept (k:∀b u,h.get? b=some u->h'.get? b=some u):Un fs ex H H h h':=
 ⟨λb ob q _ _ _=>k b ob q,λb ob q _ _ _=>⟨ob.slots,k b ob q⟩,λ_ _ _ n _=>n,λb ob q _=>⟨ob,k b ob q⟩,λ_ _ q=>q,λ_ _ _ q=>q,λ_ ps q=>⟨#[],by rw[q];simp⟩⟩
theorem Un.refl:Un fs ex H H h h:=Un.kept λ_ _ q=>q
theorem Un.laid (k:∀b u,h.get? b=some u->h'.get? b=some u)(hp:h.objs.size<=a)(hn:H a=none):Un fs ex H (upd H a o) h h' where
 keep:=λb u q _ _ _=>k b u q
 slot:=λb u q _ _ _=>⟨u.slots,k b u q⟩
 free:=λb u q n _=>by rw[Ai (fk (dw (d3 q) hp))];exact n
 there:=λb u q _=>⟨u,k b u q⟩
 tups:=λb xs q=>by rw[Ai (Af q hn)];exact q
 frzs:=λb u xs q=>by rw[Ai (Af q hn)];exact q
 tbls:=λb ps q=>⟨#[],by rw[Ai (Af q hn),q];simp⟩
theorem Un.write (mu:Mut (H x))(he:e=x\/H e=some (.own x))(k:∀b u,b≠e->h.get? b=some u->h'.get? b=some u)(heo:∃u,h'.get? e=some u):Un fs ex H (upd H x o) h h':=by
 have hx:∀b,H b=none->b≠x:=λb n z=>by subst z;rw[n] at mu;exact mu
 have hb:∀b,H b=none->b≠e:=λb n z=>by
  subst z;rcases he with r|r
  ·exact hx b n r
  ·rw[n] at r;cases r
 have hm:∀b u,H b=some u->¬ Mut (some u)->b≠x:=λb u q nm z=>by subst z;rw[q] at mu;exact nm mu
 refine⟨λb u q n _ _=>k b u (hb b n) q,λb u q n _ _=>⟨u.slots,k b u (hb b n) q⟩,λb u q n _=>by rw[Ai (hx b n)];exact n,λb u q _=>?_,
  λb xs q=>by rw[Ai (hm b _ q λz=>z)];exact q,λb u xs q=>by rw[Ai (hm b _ q λz=>z)];exact q,λb ps q=>⟨#[],by rw[Ai (hm b _ q λz=>z),q];simp⟩⟩
 by_cases hbe:b=e
 ·subst hbe;exact heo
 ·exact⟨u,k b u hbe q⟩
end
def trk (h:gv)(H:Hp):List df:=(ed h.objs.size).filter λa=>(H a).isSome
def Xy (h:gv)(H:Hp):gv:=sw h (trk h H)
theorem nO (h:gv)(H:Hp):(Xy h H).objs.size=h.objs.size:=PySem.W.hideAll_size _ _
theorem Sa {b:df}{o:Obj}(e:h.get? b=some o)(n:H b=none):(Xy h H).get? b=some o:=
 ww _ e λhm=>by
  have q:(H b).isSome=true:=(ql.mp hm).2;rw[n] at q;simp at q
theorem uR {b:df}{o:Obj}(e:(Xy h H).get? b=some o):h.get? b=some o/\H b=none:=by
 have e':h.get? b=some o:=qx (trk h H) e;refine⟨e',?_⟩
 cases q:H b with
 |none=>rfl
 |some x=>
  have hm:b∈trk h H:=ql.mpr ⟨ja.mpr (d3 e'),by simp[q]⟩;have z:(Xy h H).get? b=none:=PySem.W.hideAll_none (trk h H) hm;rw[z] at e;cases e
structure Mod (K:da) (mg:Za2) (base:gv):Prop where
 kin:K.In base
 glob:base.Ns mainGlobals mg
 blt:∃mb,base.Ns builtinsNs mb/\∀x:Str,x≠"__name__"->mb x=bootBuiltins x
 nolimit:base.NoLimit
structure Cx where
 prog:fc
 w:ge
 K:da
 mg:Za2
 base:gv
 A:gt
 N:Za6
 HA:d4
 HC:Hp
 env:Env
 outer:List Env
 stack:List Env
 ex:List df
 fn:Str->Bool
 calm:Bool
 pn:Za1
 xe:Za0
def frs (l:List Env):List df:=l.filterMap (·.frame)
abbrev Cx.fs (X:Cx):List df:=frs X.outer
def Vis (sc:kr)(x:Str):Prop:=sc.names.lookup x=some .local\/sc.names.lookup x=some .cell\/sc.names.lookup x=some .free
def Loc (sc:kr)(x:Str):Prop:=sc.names.lookup x=some .local\/sc.names.lookup x=some .cell
def Acz (env:Env)(h:gv)(m:Za2)(x:Str)(u:d0):Prop:=
 (env.kindOf x=some .local/\m x=some u)\/((env.kindOf x=some .cell\/env.kindOf x=some .free)/\∃c,env.cells.lookup x=some c/\h.IsCell c (some u))
structure Cx.Ok (X:Cx):Prop where
 mod:Mod X.K X.mg X.base
 kind:X.env.scope.kind=.function
 glob:X.env.globals=mainGlobals
 blt:X.env.builtins=builtinsNs
 above:X.HA.heap.objs.size<=X.env.locals
 inj:∀x y c,X.env.cells.lookup x=some c->X.env.cells.lookup y=some c->x=y
 has:∀x,(X.env.kindOf x=some .cell\/X.env.kindOf x=some .free)->∃c,X.env.cells.lookup x=some c
 cab:∀x c,X.fn x=true->X.env.cells.lookup x=some c->X.HA.heap.objs.size<=c
 hd:X.calm=true->X.A.handled=none
 frames:X.A.frames=some X.stack
 stk:X.stack=X.outer\/(X.stack=X.env::X.outer/\X.env.frame=some X.env.locals)
 exf:∀b∈X.ex,b≠X.env.locals/\∀x c,X.env.cells.lookup x=some c->c≠b
 bs:∀b o,X.base.get? b=some o->X.HA.heap.get? b=some o/\X.HC b=none
 bsz:X.base.objs.size<=X.HA.heap.objs.size
 noex:∀b o,X.base.get? b=some o->b∉X.ex
 exfs:∀b∈X.ex,b∉X.fs
 funs:X.HA.heap.FunFrames X.base X.outer
 frf:∀b∈X.fs,X.HC b=none
structure Inv (X:Cx) (pins:Za1) (G:List (Option V)) (H:Hp) (s:d4):Prop where
 ok:X.Ok
 os:s.os=X.HA.os
 bare:qh s.gens
 base:Un X.fs X.ex X.HC H X.HA.heap s.heap
 loc:∃m,s.heap.Ns X.env.locals m/\∀(i:Nat) (x:Str) (v:V),X.N[i]?=some x->G[i]?=some (some v)->Vis X.env.scope x->∃u,By v u/\Acz X.env s.heap m x u
 cell:∀x c,X.env.cells.lookup x=some c->∃v,s.heap.IsCell c v
 free:H X.env.locals=none
 freeC:∀x c,X.env.cells.lookup x=some c->H c=none
 pin:∀p∈X.pn++pins,s.heap.get? p.1=some p.2/\H p.1=none/\p.1≠X.env.locals/\p.1∉X.fs/\∀v,p.2.data≠.cell v
 hok:HOk X.prog X.w H s.heap
 len:G.length=X.N.length
section
variable {X:Cx} {pins:Za1} {G:List (Option V)} {H H':Hp} {s:d4} {h':gv}
theorem Cx.Ok.nofr (ok:X.Ok){b:df}{o:Obj}(e:X.base.get? b=some o):b∉X.fs:=λhb=>by
 have:=(ok.funs.mem hb).1;rw[e] at this;cases this
theorem Inv.bs (I:Inv X pins G H s):∀b o,X.base.get? b=some o->s.heap.get? b=some o/\H b=none:=λb o e=>
 ⟨I.base.keep b o (I.ok.bs b o e).1 (I.ok.bs b o e).2 (I.ok.nofr e) (I.ok.noex b o e),I.base.free b o (I.ok.bs b o e).1 (I.ok.bs b o e).2 (I.ok.noex b o e)⟩
theorem Inv.bk (I:Inv X pins G H s):∀b o,X.base.get? b=some o->s.heap.get? b=some o:=λb o e=>(I.bs b o e).1
theorem Inv.mod (I:Inv X pins G H s):Mod X.K X.mg X.base:=I.ok.mod
theorem Inv.kIn (I:Inv X pins G H s):X.K.In s.heap:=I.ok.mod.kin.keeps I.bk
theorem Inv.fr (I:Inv X pins G H s):∃m,Fr X.base X.env.locals s.heap m:=
 let ⟨m,hn,_⟩:=I.loc
 ⟨m,hn,I.bk,gl I.ok.bsz I.ok.above⟩
theorem Inv.lt (I:Inv X pins G H s):X.env.locals<s.heap.objs.size:=let ⟨_,hn,_⟩:=I.loc;hn.lt
theorem Inv.sz (I:Inv X pins G H s):X.HA.heap.objs.size<=s.heap.objs.size:=gl I.ok.above (fb I.lt)
theorem Inv.nofs (I:Inv X pins G H s){a:df}(h:s.heap.objs.size<=a):a∉X.fs:=λhb=>by
 obtain⟨_,o,ho,_⟩:=I.ok.funs.mem hb;exact absurd (dw (d3 ho) (gl I.sz h)) (i4 _)
theorem Inv.cne (I:Inv X pins G H s):∀x c,X.env.cells.lookup x=some c->c≠X.env.locals:=λx c e z=>by
 obtain⟨v,o,ho,hd⟩:=I.cell x c e;obtain⟨m,⟨o',es,ep,ho',hd',_⟩,_⟩:=I.loc;rw[z,ho'] at ho;cases ho;rw[hd'] at hd;cases hd
theorem Inv.funs (I:Inv X pins G H s):s.heap.FunFrames X.base X.outer:=by
 have all:∀(l:List Env),(∀b∈frs l,b∈X.fs)->X.HA.heap.FunFrames X.base l->s.heap.FunFrames X.base l:=by
  intro l
  induction l with
  |nil=>intro _ _;trivial
  |cons env r ih=>
   intro hs hl;obtain⟨hk,⟨L,o,hf,hn,ho,hd⟩,hr⟩:=hl;have hL:L∈X.fs:=hs L (by unfold frs;rw[o7,hf];exact jj);obtain⟨sl,e⟩:=I.base.slot L o ho (I.ok.frf L hL) hL λz=>I.ok.exfs L z hL;exact⟨hk,⟨L,_,hf,hn,e,hd⟩,ih (λb hb=>hs b (by unfold frs;rw[o7,hf];exact gy _ hb)) hr⟩
 exact all X.outer (λ_ hb=>hb) I.ok.funs
theorem Inv.stack (I:Inv X pins G H s):s.heap.FunFrames X.base X.stack:=by
 rcases I.ok.stk with e|⟨e,hf⟩
 ·rw[e];exact I.funs
 ·rw[e]
  obtain⟨m,hn,_⟩:=I.loc;refine .cons (by rw[I.ok.kind];decide) hf hn ?_ I.funs;exact Heap.get?_none_of_le (gl I.ok.bsz I.ok.above)
theorem Inv.stkSub (I:Inv X pins G H s):∀b∈frs X.stack,b∈X.env.locals::X.fs:=λb hb=>by
 rcases I.ok.stk with e|⟨e,hf⟩
 ·rw[e] at hb;exact gy _ hb
 ·rw[e] at hb
  unfold frs at hb;rw[o7,hf] at hb;exact hb
theorem Inv.stkFree (I:Inv X pins G H s):∀b∈frs X.stack,H b=none:=λb hb=>by
 rcases fu.mp (I.stkSub b hb) with e|hb
 ·rw[e];exact I.free
 ·obtain⟨_,o,ho,_⟩:=I.ok.funs.mem hb
  exact I.base.free b o ho (I.ok.frf b hb) λz=>I.ok.exfs b z hb
theorem Inv.step {g':Array AH}{d':Drawn}{ch:List df}(I:Inv X pins G H s)
  (hch:∀b∈ch,(b∈X.ex\/X.HA.heap.objs.size<=b)/\b≠X.env.locals/\(∀x c,X.env.cells.lookup x=some c->c≠b)/\∀p∈X.pn++pins,p.1≠b)
  (keep:∀b o,b≠X.env.locals->b∉X.fs->b∉ch->s.heap.get? b=some o->H b=none->h'.get? b=some o)
  (slot:∀b o,b≠X.env.locals->b∈X.fs->b∉ch->s.heap.get? b=some o->H b=none->∃sl,h'.get? b=some { o with slots:=sl })(free:∀b o,b∉ch->s.heap.get? b=some o->H b=none->H' b=none)
  (there:∀b o,b∉ch->s.heap.get? b=some o->∃o',h'.get? b=some o')
  (tups:∀b xs,H b=some (.tup xs)->H' b=some (.tup xs))(frzs:∀b o u,H b=some (.frz o u)->H' b=some (.frz o u))(tbls:∀b ps,H b=some (.tbl ps)->∃more,H' b=some (.tbl (ps++more)))
  (ns:∀m,s.heap.Ns X.env.locals m->h'.Ns X.env.locals m)(hok:HOk X.prog X.w H' h')(hg:qh g') :
  Inv X pins G H' { s with heap:=h',gens:=g',drawn:=d',toks:=t' }:=by
 have neL:∀b o,X.HA.heap.get? b=some o->b≠X.env.locals:=λb o e=>fk (dw (d3 e) I.ok.above);have neC:∀b o,X.HA.heap.get? b=some o->b∉X.ex->b∉ch:=λb o e hx hb=>by
  rcases(hch b hb).1 with z|z
  ·exact hx z
  ·exact absurd (dw (d3 e) z) (i4 _)
 have cellK:∀x c,X.env.cells.lookup x=some c->∀v,s.heap.IsCell c v->h'.IsCell c v:=λx c e v ⟨o,ho,hd⟩=>by
  have nch:c∉ch:=λz=>(hch c z).2.2.1 x c e rfl
  by_cases hc:c∈X.fs
  ·obtain⟨sl,q⟩:=slot c o (I.cne x c e) hc nch ho (I.freeC x c e)
   exact⟨_,q,hd⟩
  ·exact⟨o,keep c o (I.cne x c e) hc nch ho (I.freeC x c e),hd⟩
 refine⟨I.ok,I.os,hg,⟨λb o e n hb hx=>?_,λb o e n hb hx=>?_,λb o e n hx=>?_,λb o e hx=>?_,λb xs e=>tups b xs (I.base.tups b xs e),λb o xs e=>frzs b o xs (I.base.frzs b o xs e),λb ps e=>?_⟩,?_,λx c e=>?_,?_,λx c e=>?_,λp hp=>?_,hok,I.len⟩
 ·exact keep b o (neL b o e) hb (neC b o e hx) (I.base.keep b o e n hb hx) (I.base.free b o e n hx)
 ·obtain⟨sl,e1⟩:=I.base.slot b o e n hb hx
  obtain⟨sl',e2⟩:=slot b _ (neL b o e) hb (neC b o e hx) e1 (I.base.free b o e n hx);exact⟨sl',e2⟩
 ·obtain⟨o',e1⟩:=I.base.there b o e hx
  exact free b o' (neC b o e hx) e1 (I.base.free b o e n hx)
 ·obtain⟨o',e1⟩:=I.base.there b o e hx
  exact there b o' (neC b o e hx) e1
 ·obtain⟨m1,e1⟩:=I.base.tbls b ps e
  obtain⟨m2,e2⟩:=tbls b _ e1;exact⟨m1++m2,by rw[e2,rn]⟩
 ·obtain⟨m,hn,hl⟩:=I.loc
  refine⟨m,ns m hn,λi x v e1 e2 e3=>?_⟩;obtain⟨u,r,l⟩:=hl i x v e1 e2 e3;refine⟨u,r,?_⟩;rcases l with l|⟨k,c,e,z⟩
  ·exact .inl l
  ·exact .inr ⟨k,c,e,cellK x c e _ z⟩
 ·obtain⟨v,z⟩:=I.cell x c e
  exact⟨v,cellK x c e v z⟩
 ·obtain⟨m,⟨o,_,_,ho,_⟩,_⟩:=I.loc
  exact free _ o (λz=>(hch _ z).2.1 rfl) ho I.free
 ·obtain⟨v,o,ho,hd⟩:=I.cell x c e
  exact free c o (λz=>(hch c z).2.2.1 x c e rfl) ho (I.freeC x c e)
 ·obtain⟨e,n,ne,nf,d⟩:=I.pin p hp
  have nch:p.1∉ch:=λz=>(hch p.1 z).2.2.2 p hp rfl;exact⟨keep p.1 p.2 ne nf nch e n,free p.1 p.2 nch e n,ne,nf,d⟩
theorem Inv.un (I:Inv X pins G H s)(u:Un X.fs [] H H' s.heap h')(hok:HOk X.prog X.w H' h'):Inv X pins G H' { s with heap:=h',toks:=t' }:=by
 obtain⟨m,⟨o,es,ep,ho,r⟩,_⟩:=id I.loc;obtain⟨sl,hL⟩:=u.any ho I.free (by simp);exact I.step (g':=s.gens) (d':=s.drawn) (ch:=[]) (λ_ z=>nomatch z) (λb o _ hb _ e n=>u.keep b o e n hb (by simp)) (λb o _ hb _ e n=>u.slot b o e n hb (by simp)) (λb o _ e n=>u.free b o e n (by simp)) (λb o _ e=>u.there b o e (by simp)) u.tups u.frzs u.tbls (λm' hm=>by
  obtain⟨o',es',ep',ho',r'⟩:=hm;rw[ho] at ho';cases ho';exact⟨_,es',ep',hL,r'⟩) hok I.bare
theorem Inv.call {g':Array AH}{d':Drawn}{ch:List df}(I:Inv X pins G H s)(u:Un (frs X.stack) ch H H' s.heap h')(hok:HOk X.prog X.w H' h')(hg:qh g')
  (hch:∀b∈ch,(b∈X.ex\/X.HA.heap.objs.size<=b)/\b≠X.env.locals/\(∀x c,X.env.cells.lookup x=some c->c≠b)/\∀p∈X.pn++pins,p.1≠b) :
  Inv X pins G H' { s with heap:=h',gens:=g',drawn:=d',toks:=t' }:=by
 obtain⟨m,⟨o,es,ep,ho,r⟩,_⟩:=id I.loc;obtain⟨sl,hL⟩:=u.any ho I.free λz=>(hch _ z).2.1 rfl;exact I.step (ch:=ch) hch (λb o hL hb hc e n=>u.keep b o e n (λz=>(fu.mp (I.stkSub b z)).elim hL hb) hc) (λb o _ _ hc e n=>u.any e n hc) (λb o hc e n=>u.free b o e n hc) (λb o hc e=>u.there b o e hc) u.tups u.frzs u.tbls (λm' hm=>by
  obtain⟨o',es',ep',ho',r'⟩:=hm;rw[ho] at ho';cases ho';exact⟨_,es',ep',hL,r'⟩) hok hg
theorem Inv.turned (I:Inv X pins G H s)(k:∀b o,b≠it->s.heap.get? b=some o->h'.get? b=some o)(hn:H it=none)(hL:it≠X.env.locals)
  (h1:it∈X.ex\/X.HA.heap.objs.size<=it)(h2:∀x c,X.env.cells.lookup x=some c->c≠it)(h3:∀p∈X.pn++pins,p.1≠it):Inv X pins G H { s with heap:=h',toks:=t' }:=by
 have nit:∀b u,H b=some u->b≠it:=λb u e z=>by rw[z,hn] at e;cases e
 refine I.step (g':=s.gens) (d':=s.drawn) (ch:=[it]) (λb hb=>?_) (λb o _ _ hc e _=>k b o (λz=>hc (by simp[z])) e) (λb o _ _ hc e _=>⟨o.slots,k b o (λz=>hc (by simp[z])) e⟩) (λ_ _ _ _ n=>n)
  (λb o hc e=>⟨o,k b o (λz=>hc (by simp[z])) e⟩) (λ_ _ e=>e) (λ_ _ _ e=>e) (λb ps e=>⟨#[],by rw[e];simp⟩) (λm hm=>?_) (λb u e=>?_) I.bare
 ·have e:b=it:=by simpa using hb
  subst e;exact⟨h1,hL,h2,h3⟩
 ·obtain⟨o,es,ep,ho,r⟩:=hm
  exact⟨o,es,ep,k _ o (me hL) ho,r⟩
 ·refine(I.hok b u e).stay (λc v hc q=>k c v ?_ q) (λ_ q=>q) λ_ _ q=>q
  rcases hc with z|z
  ·rw[z];exact nit b u e
  ·exact nit c _ z
theorem Inv.tok (I:Inv X pins G H s)(t:Nat):Inv X pins G H { s with toks:=t }:=I.un (h':=s.heap) (t':=t) Un.refl I.hok
theorem Inv.kept (I:Inv X pins G H s)(k:∀b u,s.heap.get? b=some u->h'.get? b=some u):Inv X pins G H { s with heap:=h',toks:=t' }:=I.un (Un.kept k) (I.hok.kept k)
theorem Inv.laid {a:df}{o:HO}(I:Inv X pins G H s)(k:∀b u,s.heap.get? b=some u->h'.get? b=some u)(hp:s.heap.objs.size<=a)(new:Ee X.prog X.w (upd H a o) h' a o) :
  Inv X pins G (upd H a o) { s with heap:=h',toks:=t' }:=I.un (Un.laid k hp (I.hok.fresh hp)) (I.hok.laid k hp new)
theorem Inv.write {x e:df}{o:HO}(I:Inv X pins G H s)(mu:Mut (H x))(he:e=x\/H e=some (.own x))(k:∀b u,b≠e->s.heap.get? b=some u->h'.get? b=some u)(heo:∃u,h'.get? e=some u)
  (new:Ee X.prog X.w (upd H x o) h' x o):Inv X pins G (upd H x o) { s with heap:=h',toks:=t' }:=I.un (Un.write mu he k heo) (I.hok.write mu he k heo new)
theorem Inv.weak {mt:List (Option V)}(I:Inv X pins G H s)(hl:mt.length=G.length)(w:∀(i:Nat) v,mt[i]?=some (some v)->G[i]?=some (some v)):Inv X pins mt H s:=
 ⟨I.ok,I.os,I.bare,I.base,let ⟨m,hn,hl'⟩:=I.loc;⟨m,hn,λi x v e1 e2 e3=>hl' i x v e1 (w i v e2) e3⟩,I.cell,I.free,I.freeC,I.pin,I.hok,hl.trans I.len⟩
theorem Inv.pins_of {pins':Za1}(I:Inv X pins G H s)(h:∀p∈pins',s.heap.get? p.1=some p.2/\H p.1=none/\p.1≠X.env.locals/\p.1∉X.fs/\∀v,p.2.data≠.cell v):Inv X pins' G H s:=
 ⟨I.ok,I.os,I.bare,I.base,I.loc,I.cell,I.free,I.freeC,λp hp=>(ju.mp hp).elim (λz=>I.pin p (om _ z)) (h p),I.hok,I.len⟩
theorem Sc (hN:N.Nodup){i j:Nat}{x:Str}(a:N[i]?=some x)(b:N[j]?=some x):i=j:=by
 obtain⟨h1,e1⟩:=d6.mp a;obtain⟨h2,e2⟩:=d6.mp b;exact(List.getElem_inj hN).mp (e1.trans e2.symm)
theorem nD {E:Za0}{i:Nat}{x:Str}{v:V}{u:d0}{Q:Unit->d4->Prop}(I:Inv X pins G H s)(hN:X.N.Nodup)(hi:X.N[i]?=some x)(hx:Loc X.env.scope x)(r:By v u)
  (h:∀s',Inv X pins (G.set i (some v)) H s'->(∃a,sj a s.heap s'.heap/\(a=X.env.locals\/X.env.cells.lookup x=some a))->Q () s')(hf:autoParam (X.fn x=true\/X.env.scope.names.lookup x=some .local) QH):wpAny M A (storeName X.env x u) Q E s:=by
 obtain⟨m,hn,hl⟩:=id I.loc;have hcls:(X.env.scope.kind==.class||(X.env.scope.kind==.module&&X.env.locals != X.env.globals))=false:=by rw[I.ok.kind];rfl
 have HQ:i<G.length:=by rw[I.len];exact(d6.mp hi).1
 have cne:=I.cne;have tracked:∀{a:df} {h':gv},(∃o,s.heap.get? a=some o/\H a=none)->sj a s.heap h'->HOk X.prog X.w H h':=λ{a h'} ha hs b ob e=>by
  obtain⟨_,_,hfree⟩:=ha;refine(I.hok b ob e).stay (λc w' hc q=>(hs.2 c ?_).trans q) (λ_ q=>q) λ_ _ q=>q;rintro rfl;rcases hc with rfl|hc
  ·rw[hfree] at e;cases e
  ·rw[hfree] at hc;cases hc
 rcases hx with hk|hk
 ·refine wpAny_storeName_local hk hn (λh' hn' hs=>?_) hcls
  obtain⟨oL,_,_,hoL,_⟩:=id hn;refine h _ ⟨I.ok,I.os,I.bare,⟨λb o e n hb hx=>?_,λb o e n hb hx=>?_,I.base.free,λb o e hx=>?_,I.base.tups,I.base.frzs,I.base.tbls⟩,⟨_,hn',λj y v' e1 e2 e3=>?_⟩,λy c e=>?_,I.free,I.freeC,λp hp=>?_,tracked ⟨oL,hoL,I.free⟩ hs,by simpa using I.len⟩ ⟨_,hs,.inl rfl⟩
  ·exact(hs.2 b (fk (dw (d3 e) I.ok.above))).trans (I.base.keep b o e n hb hx)
  ·obtain⟨sl,e1⟩:=I.base.slot b o e n hb hx
   exact⟨sl,(hs.2 b (fk (dw (d3 e) I.ok.above))).trans e1⟩
  ·obtain⟨o',e1⟩:=I.base.there b o e hx
   exact⟨o',(hs.2 b (fk (dw (d3 e) I.ok.above))).trans e1⟩
  ·by_cases hj:j=i
   ·subst hj
    rw[hi] at e1;cases e1;rw[qf HQ] at e2;cases e2;exact⟨u,r,.inl ⟨hk,by simp⟩⟩
   ·rw[qv (me hj)] at e2
    obtain⟨u',r',q⟩:=hl j y v' e1 e2 e3;refine⟨u',r',?_⟩;rcases q with⟨k,e⟩|⟨k,c,e,z⟩
    ·refine .inl ⟨k,?_⟩
     have:y≠x:=λe=>hj (Sc hN e1 (e▸hi));simp[this,e]
    ·exact .inr ⟨k,c,e,z.sameBut hs (cne y c e)⟩
  ·obtain⟨w',z⟩:=I.cell y c e
   exact⟨w',z.sameBut hs (cne y c e)⟩
  ·obtain⟨e,n,ne,nf,d⟩:=I.pin p hp
   exact⟨(hs.2 p.1 ne).trans e,n,ne,nf,d⟩
 ·have hfn:X.fn x=true:=by
   rcases hf with z|z
   ·exact z
   ·rw[z] at hk;cases hk
  obtain⟨c,hc⟩:=I.ok.has x (.inl hk);obtain⟨w',z⟩:=I.cell x c hc;refine wpAny_storeName_cell I.ok.kind hk hc z (λh' hc' hs=>?_);obtain⟨oc,hoc,hocd⟩:=id z;refine h { s with heap:=h' } ⟨I.ok,I.os,I.bare,⟨λb o e n hb hx=>?_,λb o e n hb hx=>?_,I.base.free,λb o e hx=>?_,I.base.tups,I.base.frzs,I.base.tbls⟩,⟨m,hn.sameBut hs (me (cne x c hc)),λj y v' e1 e2 e3=>?_⟩,λy c' e=>?_,I.free,I.freeC,λp hp=>?_,tracked ⟨oc,hoc,I.freeC x c hc⟩ hs,by simpa using I.len⟩ ⟨c,hs,.inr hc⟩
  ·exact(hs.2 b (fk (dw (d3 e) (I.ok.cab x c hfn hc)))).trans (I.base.keep b o e n hb hx)
  ·obtain⟨sl,e1⟩:=I.base.slot b o e n hb hx
   exact⟨sl,(hs.2 b (fk (dw (d3 e) (I.ok.cab x c hfn hc)))).trans e1⟩
  ·obtain⟨o',e1⟩:=I.base.there b o e hx
   exact⟨o',(hs.2 b (fk (dw (d3 e) (I.ok.cab x c hfn hc)))).trans e1⟩
  ·by_cases hj:j=i
   ·subst hj
    rw[hi] at e1;cases e1;rw[qf HQ] at e2;cases e2;exact⟨u,r,.inr ⟨.inl hk,c,hc,hc'⟩⟩
   ·rw[qv (me hj)] at e2
    obtain⟨u',r',q⟩:=hl j y v' e1 e2 e3;refine⟨u',r',?_⟩;rcases q with q|⟨k,c',e,z'⟩
    ·exact .inl q
    ·refine .inr ⟨k,c',e,z'.sameBut hs ?_⟩
     rintro rfl;exact hj (Sc hN e1 (I.ok.inj _ _ _ e hc▸hi))
  ·by_cases hcc:c'=c
   ·subst hcc;exact⟨_,hc'⟩
   ·obtain⟨w2,z2⟩:=I.cell y c' e
    exact⟨w2,z2.sameBut hs hcc⟩
  ·obtain⟨e,n,ne,nf,d⟩:=I.pin p hp
   refine⟨(hs.2 p.1 ?_).trans e,n,ne,nf,d⟩;intro q;rw[q,hoc] at e;have q':oc=p.2:=de e;exact d w' (by rw[<-q'];exact hocd)
theorem Nz {E:Za0}{i:Nat}{x:Str}{v:V}{u:d0}{Q:Unit->d4->Prop}(I:Inv X pins G H s)(hN:X.N.Nodup)(hi:X.N[i]?=some x)(hx:Loc X.env.scope x)(r:By v u)
  (h:∀s',Inv X pins (G.set i (some v)) H s'->Q () s')(hf:autoParam (X.fn x=true\/X.env.scope.names.lookup x=some .local) QH):wpAny M A (storeName X.env x u) Q E s:=
 nD I hN hi hx r (λs' I' _=>h s' I') hf
theorem Inv.call' {s':d4}{ch:List df}(I:Inv X pins G H s)(ho:s'.os=s.os)(u:Un (frs X.stack) ch H H' s.heap s'.heap)(hok:HOk X.prog X.w H' s'.heap)(hg:qh s'.gens)
  (hch:∀b∈ch,(b∈X.ex\/X.HA.heap.objs.size<=b)/\b≠X.env.locals/\(∀x c,X.env.cells.lookup x=some c->c≠b)/\∀p∈X.pn++pins,p.1≠b):Inv X pins G H' s':=by
 obtain⟨h',g',d',t',o'⟩:=s';have e:o'=s.os:=ho;subst e;exact I.call (g':=g') (t':=t') (d':=d') u hok hg hch
end
abbrev XK:=d0->Option df->Hp->Prop
abbrev St:=List (Option V)
abbrev VK:=V->Hp->Prop
abbrev TE:=St->Hp->VK->Prop
abbrev TT:=St->Hp->(Bool->Hp->Prop)->Prop
abbrev TA:=St->Hp->(List V->Hp->Prop)->Prop
structure Jg where
 nx:St->Hp->Prop
 rt:VK
 bk:St->Hp->Prop:=λ_ _=>False
 ct:St->Hp->Prop:=λ_ _=>False
abbrev TS:=Jg->St->Hp->Prop
def EP (X:Cx)(pins:Za1)(G:St)(Q:VK)(u:d0)(s':d4):Prop:=∃v H',Inv X pins G H' s'/\By v u/\Q v H'
def TP (X:Cx)(pins:Za1)(G:St)(Q:Bool->Hp->Prop)(b:Bool)(s':d4):Prop:=∃H',Inv X pins G H' s'/\Q b H'
def AP (X:Cx)(pins:Za1)(G:St)(Q:List V->Hp->Prop)(us:Za3)(s':d4):Prop:=∃vs H',Inv X pins G H' s'/\Bj vs us/\Q vs H'
def SP (X:Cx)(pins:Za1)(D:Jg)(f:Flow)(s':d4):Prop:=
 match f with
 |.next=>∃mt H',Inv X pins mt H' s'/\D.nx mt H'
 |.brk=>∃mt H',Inv X pins mt H' s'/\D.bk mt H'
 |.cont=>∃mt H',Inv X pins mt H' s'/\D.ct mt H'
 |.ret u=>∃v mt H',Inv X pins mt H' s'/\By v u/\D.rt v H'
def PE (X:Cx)(e:gd)(t:TE):Prop:=
 ∀(pins:Za1) (s:d4) (G:St) (H:Hp) (Q:VK),Inv X pins G H s->t G H Q->wpAny (model X.prog X.w) X.A (eval e X.env) (EP X pins G Q) X.xe s
def PT (X:Cx)(e:gd)(t:TT):Prop:=
 ∀(pins:Za1) (s:d4) (G:St) (H:Hp) (Q:Bool->Hp->Prop),Inv X pins G H s->t G H Q->wpAny (model X.prog X.w) X.A (isTrue e X.env (eval e X.env)) (TP X pins G Q) X.xe s
def PW (X:Cx)(e:gd)(t:TT):Prop:=
 ∀(whole:Sem d0) (pins:Za1) (s:d4) (G:St) (H:Hp) (Q:Bool->Hp->Prop),Inv X pins G H s->t G H Q->wpAny (model X.prog X.w) X.A (isTrue e X.env whole) (TP X pins G Q) X.xe s
theorem PW.pt {e:gd}{t:TT}(h:PW X e t):PT X e t:=h _
def PA (X:Cx)(es:List gd)(t:TA):Prop:=
 ∀(pos:Pos) (pins:Za1) (s:d4) (G:St) (H:Hp) (Q:List V->Hp->Prop),Inv X pins G H s->t G H Q->wpAny (model X.prog X.w) X.A (spliced (backTo pos (starEach es X.env))) (AP X pins G Q) X.xe s
def PS (X:Cx)(st:gm)(t:TS):Prop:=
 ∀(pins:Za1) (s:d4) (G:St) (H:Hp) (D:Jg),Inv X pins G H s->t D G H->wpAny (model X.prog X.w) X.A (exec st X.env) (SP X pins D) X.xe s
def PSs (X:Cx)(st:List gm)(t:TS):Prop:=
 ∀(pins:Za1) (s:d4) (G:St) (H:Hp) (D:Jg),Inv X pins G H s->t D G H->wpAny (model X.prog X.w) X.A (execs st X.env) (SP X pins D) X.xe s
theorem thn {α:Type}{t:Sem α}{Q Q':α->d4->Prop}{E:Za0}(h:wpAny M A t Q E s)(hQ:∀a s,Q a s->Q' a s):wpAny M A t Q' E s:=ip h hQ λ_ _ x=>x
theorem thE {G:St}{e:gd}{t:TE}{Q:VK}{Q':Za0}(he:PE X e t)(I:Inv X pins G H s)(h:t G H Q)(k:∀u s1 x H1,Inv X pins G H1 s1->By x u->Q x H1->Q' u s1):wpAny (model X.prog X.w) X.A (eval e X.env) Q' X.xe s:=thn (he pins s G H Q I h) λu s1 ⟨x,H1,a,b,c⟩=>k u s1 x H1 a b c
theorem thA {G:St}{e:List gd}{t:TA}{Q:List V->Hp->Prop}{Q':Za3->d4->Prop}(he:PA X e t)(I:Inv X pins G H s)(h:t G H Q)(k:∀u s1 x H1,Inv X pins G H1 s1->Bj x u->Q x H1->Q' u s1):wpAny (model X.prog X.w) X.A (spliced (backTo pos (starEach e X.env))) Q' X.xe s:=thn (he pos pins s G H Q I h) λu s1 ⟨x,H1,a,b,c⟩=>k u s1 x H1 a b c
section
variable {X:Cx}
theorem bin {a b:gd}{ta tb:TE}(ha:PE X a ta)(hb:PE X b tb){G:St}{R:V->V->Hp->Prop}(I:Inv X pins G H s)(h:ta G H λx H1=>tb G H1 λy H2=>R x y H2)
  {α:Type}{Q:α->d4->Prop}{f:d0->d0->Sem α}
  (hf:∀v u s2 x y H2,Inv X pins G H2 s2->By x v->By y u->R x y H2->wpAny (model X.prog X.w) X.A (f v u) Q X.xe s2) :
  wpAny (model X.prog X.w) X.A (eval a X.env) (λv HB=>wpAny (model X.prog X.w) X.A (eval b X.env) (λu HI=>wpAny (model X.prog X.w) X.A (f v u) Q X.xe HI) X.xe HB) X.xe s:=by
 refine thE ha I h λv s1 x H1 I1 r1 q1=>?_;refine thE hb I1 q1 λu s2 y H2 I2 r2 q2=>?_;exact hf v u s2 x y H2 I2 r1 r2 q2
def tW (i:Nat):TE:=λG H Q=>∃v,G[i]?=some (some v)/\Q v H
def tC (v:V):TE:=λ_ H Q=>Q v H
theorem sQ {i:Nat}{x:Str}(hN:X.N[i]?=some x)(hv:Vis X.env.scope x)(hd:autoParam ((x==("__debug__":Str))=false) QF)(hcd:autoParam ((x==("__classdict__":Str))=false) QF):PE X (.Name x pos) (tW i):=by
 k_in;obtain⟨v,e,h⟩:=h;obtain⟨m,hn,hl⟩:=I.loc;obtain⟨u,r,l⟩:=hl i x v hN e hv;have fin:EP X pins G Q u s:=⟨v,H,I,r,h⟩;rcases l with⟨hk,hm⟩|⟨hk,c,hc,hcell⟩
 ·exact AY (z6 I.ok.kind hk hn hm fin) hd
 ·rcases hk with hk|hk
  ·exact AY (AK I.ok.kind hk hc hcell fin) hd
  ·exact AY (wpAny_loadName_free I.ok.kind hk hc hcell fin hcd) hd
theorem Ag {i j pos}:PE X (.Constant (.int i) j pos) (tC (.int i)):=λ_ _ _ H _ I h=>wpAny_Constant_int ⟨.int i,H,I.tok _,⟨_,rfl⟩,h⟩
theorem Tw {b j pos}:PE X (.Constant (.bool b) j pos) (tC (.bl b)):=λ_ _ _ H _ I h=>Constant_bool ⟨.bl b,H,I,rfl,h⟩
theorem C9 {j pos}:PE X (.Constant .none j pos) (tC .non):=λ_ _ _ H _ I h=>ym ⟨.non,H,I,rfl,h⟩
theorem Dp {x j pos}:PE X (.Constant (.str x) j pos) (tC (.str x)):=λ_ _ _ H _ I h=>Calls.Constant_str ⟨.str x,H,I.tok _,⟨_,rfl⟩,h⟩
def Gl (X:Cx)(x:Str):Prop:=X.env.kindOf x=some .globalImplicit
theorem La {E:Za0}{G:St}{x:Str}{u:d0}{Q:Za0}(I:Inv X pins G H s)(hg:Gl X x)(hm:X.mg x=some u)(h:Q u s)
  (hd:autoParam ((x==("__debug__":Str))=false) QF):wpAny (model X.prog X.w) X.A (eval (.Name x pos) X.env) Q E s:=
 uy I.ok.kind hg (Calls.loadGlobal_global (by rw[I.ok.glob];exact I.mod.glob.keeps I.bk) hm h) hd
theorem Fg {E:Za0}{G:St}{x:Str}{u:d0}{Q:Za0}(I:Inv X pins G H s)(hg:Gl X x)(hm:X.mg x=none)(hv:bootBuiltins x=some u)(h:Q u s)
  (hn:autoParam (x≠"__name__") QF)(hd:autoParam ((x==("__debug__":Str))=false) QF):wpAny (model X.prog X.w) X.A (eval (.Name x pos) X.env) Q E s:=by
 obtain⟨mb,h1,h2⟩:=I.mod.blt;exact uy I.ok.kind hg (Calls.loadGlobal_builtin (by rw[I.ok.glob];exact I.mod.glob.keeps I.bk) hm (by rw[I.ok.blt];exact h1.keeps I.bk) ((h2 x hn).trans hv) h) hd
theorem uN {x:Str}{v:V}{u:d0}(hg:Gl X x)(hm:X.mg x=some u)(r:By v u)(hd:autoParam ((x==("__debug__":Str))=false) QF):PE X (.Name x pos) (tC v):=
 λ_ _ _ H _ I h=>La I hg hm ⟨v,H,I,r,h⟩ hd
theorem Ol {x:Str}{v:V}{u:d0}(hg:Gl X x)(hm:X.mg x=none)(hv:bootBuiltins x=some u)(r:By v u)(hn:autoParam (x≠"__name__") QF)(hd:autoParam ((x==("__debug__":Str))=false) QF):PE X (.Name x pos) (tC v):=
 λ_ _ _ H _ I h=>Fg I hg hm hv ⟨v,H,I,r,h⟩ hn hd
variable {a b:gd} {ta tb:TE} {pos:Pos}
def PC (X:Cx)(op:rf)(a b:gd)(t:TE):Prop:=
 ∀(pins:Za1) (s:d4) (G:St) (H:Hp) (Q:VK),Inv X pins G H s->t G H Q ->
  wpAny (model X.prog X.w) X.A (eval a X.env) (λv HB=>wpAny (model X.prog X.w) X.A (eval b X.env) (λu HI=>wpAny (model X.prog X.w) X.A (compareOp op v u) (EP X pins G Q) X.xe HI) X.xe HB) X.xe s
theorem Zi (b:gd)(h:op≠.In)(h2:op≠.NotIn):behindInMarks op b=false:=by
 have e1:(op==ER)=false:=by cases op<;>first|rfl|exact absurd rfl h
 have e2:(op==BR)=false:=by cases op<;>first|rfl|exact absurd rfl h2
 cases b<;>simp[behindInMarks,e1,e2]
def Aav (ta:TE):TE:=λG H Q=>ta G H λx H1=>Q (.bl (decide (x=.non))) H1
def wA (ta:TE):TE:=λG H Q=>ta G H λx H1=>Q (.bl (!decide (x=.non))) H1
theorem By.none_iff {x:V}{v:d0}(r:By x v):(v==k7)=decide (x=.non):=by
 cases x with
 |non=>cases r;rfl
 |bl _=>cases r;rfl
 |int _=>obtain⟨t,rfl⟩:=r;rfl
 |str _=>obtain⟨t,rfl⟩:=r;rfl
 |byt _=>obtain⟨t,rfl⟩:=r;rfl
 |flt _=>obtain⟨t,rfl⟩:=r;rfl
 |ref _=>cases r;rfl
 |ty _=>cases r;rfl
theorem Sz {j pos'}(ha:PE X a ta):PC X .Is a (.Constant .none j pos') (Aav ta):=by
 k_in;refine thE ha I h λv s1 x H1 I1 r1 q1=>?_;exact ym (is_none_gen ⟨.bl _,H1,I1,by rw[r1.none_iff];rfl,q1⟩)
theorem Yb {j pos'}(ha:PE X a ta):PC X .IsNot a (.Constant .none j pos') (wA ta):=by
 k_in;refine thE ha I h λv s1 x H1 I1 r1 q1=>?_;exact ym (isnot_none_gen ⟨.bl _,H1,I1,by rw[r1.none_iff];rfl,q1⟩)
def tB (t:TE):TT:=λG H Q=>t G H λx H1=>∃c,x=.bl c/\Q c H1
theorem fE {t:TE}(h:PC X op a b t)(h1:behindInMarks op b=false:=by first|exact Zi _ (by decide) (by decide)|rfl):PE X (.Compare a [op] [b] pos) t:=λpins s G H Q I hw=>wpAny_Compare1 (h pins s G H Q I hw) h1
theorem Sn {t:TE}(h:PC X op a b t)(h1:behindInMarks op b=false:=by first|exact Zi _ (by decide) (by decide)|rfl):PT X (.Compare a [op] [b] pos) (tB t):=by
 intro pins s G H Q I hw;refine wpAny_isTrue_Compare1 (thn (h pins s G H _ I hw) λv s1 h1=>thn h1 λu s2 h2=>thn h2 λc s3 ⟨x,H1,I1,r1,q1⟩=>?_) h1;obtain⟨d,rfl,q⟩:=q1;cases r1;exact km ⟨H1,I1,q⟩
theorem C4 {e:gd}{t:TE}(h:PE X e t)(he:autoParam (∀whole,isTrue e X.env whole=(do let v <-whole;standAt e.pos;holding [v] (truthy v))) QJ):PT X e (tB t):=by
 intro pins s G H Q I hw;refine isTrue_plain (thE h I hw λv s1 x H1 I1 r1 q1=>?_) (he _);obtain⟨d,rfl,q⟩:=q1;cases r1;exact km ⟨H1,I1,q⟩
variable {tA tB':TT} {rest:List gd}
def Abh (t u:TT):TT:=λG H Q=>t G H λc H1=>if c=true then u G H1 Q else Q false H1
def tOr (t u:TT):TT:=λG H Q=>t G H λc H1=>if c=true then Q true H1 else u G H1 Q
def Aak (t:TT):TT:=λG H Q=>t G H λc H1=>Q (!c) H1
theorem Iu (ha:PT X a tA):PW X (.BoolOp .And [a] pos) tA:=by
 intro wh pins s G H Q I h;refine isTrue_and (thn (ha pins s G H Q I h) λc s1 e=>?_)
 cases c with
 |true=>exact isTrue_and_nil e
 |false=>exact e
theorem Px (ha:PT X a tA):PW X (.BoolOp .Or [a] pos) tA:=by
 intro wh pins s G H Q I h;refine isTrue_or (thn (ha pins s G H Q I h) λc s1 e=>?_)
 cases c with
 |false=>exact isTrue_or_nil e
 |true=>exact e
theorem Ls (ha:PT X a tA)(hb:PW X (.BoolOp .And (b::rest) pos) tB'):PW X (.BoolOp .And (a::b::rest) pos) (Abh tA tB'):=by
 intro wh pins s G H Q I h;refine isTrue_and (thn (ha pins s G H _ I h) λc s1 ⟨H1,I1,q1⟩=>?_)
 cases c with
 |true=>exact hb wh pins s1 G H1 Q I1 q1
 |false=>exact⟨H1,I1,q1⟩
theorem Om (ha:PT X a tA)(hb:PW X (.BoolOp .Or (b::rest) pos) tB'):PW X (.BoolOp .Or (a::b::rest) pos) (tOr tA tB'):=by
 intro wh pins s G H Q I h;refine isTrue_or (thn (ha pins s G H _ I h) λc s1 ⟨H1,I1,q1⟩=>?_)
 cases c with
 |true=>exact⟨H1,I1,q1⟩
 |false=>exact hb wh pins s1 G H1 Q I1 q1
theorem Hw (ha:PT X a tA):PT X (.UnaryOp .Not a pos) (Aak tA):=by
 k_in;exact isTrue_not (ha pins s G H (λc H1=>Q (!c) H1) I h)
def wI (ta tb:TE):TE:=λG H Q=>ta G H λx H1=>∃c,x=.bl c/\if c=true then tb G H1 Q else Q (.bl false) H1
def xH (ta:TE):TE:=λG H Q=>ta G H λx H1=>∃c,x=.bl c/\Q (.bl (!c)) H1
theorem T6 {op}{t:TE}(h:PE X a t):PE X (.BoolOp op [a] pos) t:=λpins s G H Q I hw=>BoolOp_one (h pins s G H Q I hw)
theorem Uj (ha:PE X a ta)(hb:PE X (.BoolOp .And (b::rest) pos) tb):PE X (.BoolOp .And (a::b::rest) pos) (wI ta tb):=by
 k_in;refine BoolOp_and (thE ha I h λv s1 x H1 I1 r1 q1=>?_);obtain⟨c,rfl,q1⟩:=q1;cases r1;refine km ?_
 cases c with
 |true=>exact hb pins s1 G H1 Q I1 q1
 |false=>exact⟨.bl false,H1,I1,rfl,q1⟩
theorem Aaf (ha:PE X a ta):PE X (.UnaryOp .Not a pos) (xH ta):=by
 k_in;refine UnaryOp_ (thE ha I h λv s1 x H1 I1 r1 q1=>?_);obtain⟨c,rfl,q1⟩:=q1;cases r1;exact not_of (km ⟨.bl (!c),H1,I1,rfl,q1⟩)
def tIf (t:TT)(ta tb:TE):TE:=λG H Q=>t G H λc H1=>if c=true then ta G H1 Q else tb G H1 Q
theorem Cb {c:gd}(hc:PT X c tA)(ha:PE X a ta)(hb:PE X b tb):PE X (.IfExp c a b pos) (tIf tA ta tb):=by
 k_in;refine wpAny_IfExp (thn (hc pins s G H _ I h) λd s1 ⟨H1,I1,q1⟩=>?_)
 cases d with
 |true=>exact ha pins s1 G H1 Q I1 q1
 |false=>exact hb pins s1 G H1 Q I1 q1
end
def SqL (K:da)(H:Hp)(a:df)(xs:List V):Prop:=
 Rd H a (.lst xs) \/
  ∃(o:Obj) (its:Array d0) (n:Nat),K.lookup a=some o/\o.cls=.type "list"/\o.dict=none/\o.data=.seq its n/\its.size<=sizeLine/\Bj xs its.toList
def SqT (K:da)(H:Hp)(a:df)(xs:List V):Prop:=
 Rd H a (.tup xs) \/
  ∃(o:Obj) (its:Array d0) (n:Nat),K.lookup a=some o/\o.cls=.type "tuple"/\o.data=.seq its n/\its.size<=sizeLine/\Bj xs its.toList
def Acr:d0->Option V
 |.none=>some .non
 |.bool b=>some (.bl b)
 |.int i _=>some (.int i)
 |.str x _=>some (.str x)
 |.bytes b _=>some (.byt b)
 |.float b _=>some (.flt b)
 |.ref a=>some (.ref a)
 |.type n=>some (.ty n)
 |_=>none
theorem By.abs {x:V}{u:d0}(r:By x u):Acr u=some x:=by
 cases x with
 |non=>cases r;rfl
 |bl _=>cases r;rfl
 |int _=>obtain⟨t,rfl⟩:=r;rfl
 |str _=>obtain⟨t,rfl⟩:=r;rfl
 |byt _=>obtain⟨t,rfl⟩:=r;rfl
 |flt _=>obtain⟨t,rfl⟩:=r;rfl
 |ref _=>cases r;rfl
 |ty _=>cases r;rfl
theorem By.inj {x:V}{u:d0}(r:By x u)(q:By y u):x=y:=de (r.abs.symm.trans q.abs)
theorem Bj.inj:∀{xs ys:List V} {us:Za3},Bj xs us->Bj ys us->xs=ys
 |_,_,_,.nil,.nil=>rfl
 |_,_,_,.cons r t,.cons r' t'=>by rw[r.inj r',Bj.inj t t']
section
variable {X:Cx} {pins:Za1} {G:St} {H:Hp} {s:d4} {a:df} {xs ys:List V}
theorem SqL.of {K:da}(h:H a=some (.lst xs)):SqL K H a xs:=.inl (.inl h)
theorem SqT.of {K:da}(h:H a=some (.tup xs)):SqT K H a xs:=.inl (.inl h)
theorem Inv.list (I:Inv X pins G H s)(h:SqL X.K H a xs):∃its:Za3,Bj xs its/\PlainL s.heap a its.toArray/\xs.length<=sizeLine:=by
 rcases h with h|⟨o,its,n,hk,hc,hd,hs,hz,r⟩
 ·obtain⟨z,its,n,r,e⟩:=h.ok I.hok
  exact⟨its,r,⟨_,n,e,rfl,rfl,rfl⟩,z⟩
 ·refine⟨its.toList,r,⟨o,n,I.kIn a o hk,hc,hd,by simpa using hs⟩,?_⟩
  have e:=r.length;simp only[i3] at e;lia
theorem Inv.tuple (I:Inv X pins G H s)(h:SqT X.K H a xs):∃its:Za3,Bj xs its/\IsTup s.heap a its.toArray/\xs.length<=sizeLine:=by
 rcases h with h|⟨o,its,n,hk,hc,hs,hz,r⟩
 ·obtain⟨z,its,r,p⟩:=h.ok I.hok
  exact⟨its,r,p,z⟩
 ·refine⟨its.toList,r,⟨o,I.kIn a o hk,hc,n,by simpa using hs⟩,?_⟩
  have e:=r.length;simp only[i3] at e;lia
theorem Inv.list_inj (I:Inv X pins G H s)(h:SqL X.K H a xs)(h':SqL X.K H a ys):xs=ys:=by
 obtain⟨its,r,⟨o,n,e,_,_,d⟩,_⟩:=I.list h;obtain⟨its',r',⟨o',n',e',_,_,d'⟩,_⟩:=I.list h';rw[e] at e';cases e';rw[d] at d'
 injection d' with d1 _
 have:its=its':=by simpa using congrArg Array.toList d1
 subst this;exact r.inj r'
end
abbrev Cx.wish (X:Cx)(E:Za0):Cx:={ X with xe:=E }
abbrev Cx.nox (X:Cx):Cx:=X.wish λ_ _=>False
theorem Cx.Ok.wish (ok:X.Ok)(E:Za0):(X.wish E).Ok:=
 ⟨ok.mod,ok.kind,ok.glob,ok.blt,ok.above,ok.inj,ok.has,ok.cab,ok.hd,ok.frames,ok.stk,ok.exf,ok.bs,ok.bsz,ok.noex,ok.exfs,ok.funs,ok.frf⟩
theorem Cx.Ok.unwish {E:Za0}(ok:(X.wish E).Ok):X.Ok:=
 ⟨ok.mod,ok.kind,ok.glob,ok.blt,ok.above,ok.inj,ok.has,ok.cab,ok.hd,ok.frames,ok.stk,ok.exf,ok.bs,ok.bsz,ok.noex,ok.exfs,ok.funs,ok.frf⟩
section
variable {X:Cx} {pins:Za1} {G:St} {H:Hp} {s:d4} {E:Za0}
theorem Inv.wish (I:Inv X pins G H s)(E:Za0):Inv (X.wish E) pins G H s:=⟨I.ok.wish E,I.os,I.bare,I.base,I.loc,I.cell,I.free,I.freeC,I.pin,I.hok,I.len⟩
theorem Inv.unwish (I:Inv (X.wish E) pins G H s):Inv X pins G H s:=⟨I.ok.unwish,I.os,I.bare,I.base,I.loc,I.cell,I.free,I.freeC,I.pin,I.hok,I.len⟩
theorem SP.unwish {D:Jg}{f:Flow}{s':d4}(h:SP (X.wish E) pins D f s'):SP X pins D f s':=by
 cases f with
 |next=>obtain⟨mt,H',I,q⟩:=h;exact⟨mt,H',I.unwish,q⟩
 |brk=>obtain⟨mt,H',I,q⟩:=h;exact⟨mt,H',I.unwish,q⟩
 |cont=>obtain⟨mt,H',I,q⟩:=h;exact⟨mt,H',I.unwish,q⟩
 |ret u=>obtain⟨v,mt,H',I,r,q⟩:=h;exact⟨v,mt,H',I.unwish,r,q⟩
theorem PSs.nox {st:List gm}{t:TS}(h:PSs X.nox st t):PSs X st t:=λpins s G H D I hw=>
 ip (h pins s G H D (I.wish _) hw) (λ_ _ q=>q.unwish) λ_ _ z=>i9 z
end
section
variable {X:Cx} {st:gm} {rest:List gm} {t u:TS} {e:gd} {te:TE} {pos:Pos}
def wZ:TS:=λD G H=>D.nx G H
def Aba (t u:TS):TS:=λD G H=>t { D with nx:=u D } G H
theorem Bf:PSs X [] wZ:=λ_ _ G H _ I h=>mv ⟨G,H,I,h⟩
theorem Ab (h1:PS X st t)(h2:PSs X rest u):PSs X (st::rest) (Aba t u):=by
 k_end;refine wpAny_execs_cons (thn (h1 pins s G H { D with nx:=u D } I h) λf s1 q=>?_)
 cases f with
 |next=>
  obtain⟨mt,H',I',q⟩:=q;exact h2 pins s1 mt H' D I' q
 |ret v=>exact q
 |brk=>exact q
 |cont=>exact q
theorem Ad (h1:PS X st t):PSs X [st] t:=by
 k_end;refine wpAny_execs_cons (thn (h1 pins s G H D I h) λf s1 q=>?_)
 cases f with
 |next=>exact mv q
 |ret v=>exact q
 |brk=>exact q
 |cont=>exact q
theorem Inv.quiet {G:St}(I:Inv X pins G H s):interactive X.env=false:=by simp[interactive,I.ok.kind]
def sO (te:TE):TS:=λD G H=>te G H λ_ H1=>D.nx G H1
theorem Bi (he:PE X e te)(hs:autoParam (swapsWith e none pos.line X.env=pure false) QD):PS X (.Expr e pos) (sO te):=by
 k_end;exact wpAny_Expr_any (thE he I h λv s1 x H1 I1 r1 q1=>⟨G,H1,I1,q1⟩) I.quiet hs
def Ab6 (te:TE):TS:=λD G H=>te G H D.rt
theorem Am (he:PE X e te):PS X (.Return (some e) pos) (Ab6 te):=by
 k_end;exact wpAny_Return_some (thE he I h λv s1 x H1 I1 r1 q1=>⟨x,G,H1,I1,r1,q1⟩)
def Acg (c:TT)(t u:TS):TS:=λD G H=>c G H λb H1=>if b=true then t D G H1 else u D G H1
theorem B2 {c:gd}{a b:List gm}{tc:TT}(hc:PT X c tc)(ha:PSs X a t)(hb:PSs X b u):PS X (.If c a b pos) (Acg tc t u):=by
 k_end;refine wpAny_If (thn (hc pins s G H _ I h) λd s1 ⟨H1,I1,q1⟩=>?_)
 cases d with
 |true=>exact ha pins s1 G H1 D I1 q1
 |false=>exact hb pins s1 G H1 D I1 q1
def yQ:TS:=λ_ _ _=>False
theorem C8:PS X st yQ:=λ_ _ _ _ _ _ h=>h.elim
end
abbrev TG:=V->St->Hp->(St->Hp->Prop)->Prop
abbrev TGs:=List V->St->Hp->(St->Hp->Prop)->Prop
def PG (X:Cx)(target:gd)(t:TG):Prop:=
 ∀(pins:Za1) (s:d4) (G:St) (H:Hp) (v:V) (u:d0) (Q:St->Hp->Prop),Inv X pins G H s->By v u->t v G H Q ->
  wpAny (model X.prog X.w) X.A (assign target X.env u) (λ_ s'=>∃mt H',Inv X pins mt H' s'/\Q mt H') X.xe s
def PGs (X:Cx)(ts:List gd)(t:TGs):Prop:=
 ∀(pins:Za1) (s:d4) (G:St) (H:Hp) (vs:List V) (us:Za3) (Q:St->Hp->Prop),Inv X pins G H s->Bj vs us->t vs G H Q ->
  wpAny (model X.prog X.w) X.A (assignInOrder ((assignEach ts X.env).map (·.2)) us) (λ_ s'=>∃mt H',Inv X pins mt H' s'/\Q mt H') X.xe s
abbrev yG:=V->V->V->Hp->(Hp->Prop)->Prop
def Abw (X:Cx)(t:yG):Prop:=
 ∀(pins:Za1) (s:d4) (G:St) (H:Hp) (o i v:V) (ov iv u:d0) (Q:Hp->Prop),Inv X pins G H s->By o ov->By i iv->By v u->t o i v H Q ->
  wpAny (model X.prog X.w) X.A (setItem ov iv u) (λ_ s'=>∃H',Inv X pins G H' s'/\Q H') X.xe s
abbrev TIp:=V->V->Hp->VK->Prop
def PIp (X:Cx)(op:AB)(t:TIp):Prop:=
 ∀(pins:Za1) (s:d4) (G:St) (H:Hp) (x y:V) (v u:d0) (Q:VK),Inv X pins G H s->By x v->By y u->t x y H Q ->
  wpAny (model X.prog X.w) X.A (inplaceOp op v u) (EP X pins G Q) X.xe s
section
variable {X:Cx} {pos:Pos}
def Es (i:Nat):TG:=λv G H Q=>Q (G.set i (some v)) H
theorem Mu {i:Nat}{x:Str}(hN:X.N.Nodup)(hi:X.N[i]?=some x)(hx:Loc X.env.scope x)(hf:autoParam (X.fn x=true\/X.env.scope.names.lookup x=some .local) QH):PG X (.Name x pos) (Es i):=by
 intro pins s G H v u Q I r h;exact wpAny_assign_Name (Nz I hN hi hx r (λs' I'=>⟨_,H,I',h⟩) hf)
def gY:TGs:=λvs G H Q=>vs=[]/\Q G H
def Kb (t:TG)(u:TGs):TGs:=λvs G H Q=>∃v r,vs=v::r/\t v G H λmt H'=>u r mt H' Q
theorem Mr:PGs X [] gY:=by
 intro pins s G H vs us Q I r h;obtain⟨e,h⟩:=h;subst e;cases r;exact assignInOrder_nil ⟨G,H,I,h⟩
theorem Dw {e:gd}{es:List gd}{t:TG}{u:TGs}(h1:PG X e t)(h2:PGs X es u)
  (hs:autoParam ((assignEach (e::es) X.env).map (·.2)=assign e X.env::(assignEach es X.env).map (·.2)) QD):PGs X (e::es) (Kb t u):=by
 intro pins s G H vs us Q I r h;obtain⟨v,vr,e1,h⟩:=h;subst e1
 cases r with
 |cons r rr=>
  rw[hs];refine assignInOrder_cons (thn (h1 pins s G H _ _ _ I r h) λ_ s1 ⟨HN,H1,I1,q1⟩=>?_);exact h2 pins s1 HN H1 _ _ Q I1 rr q1
def fP (K:da)(n:Nat)(t:TGs):TG:=λv G H Q=>∃a xs,v=.ref a/\SqT K H a xs/\xs.length=n/\t xs G H Q
theorem O7 {es:List gd}{k:Nat}{t:TGs}{n:Nat}(hc:X.calm=true)(h:PGs X es t)
  (hn:autoParam ((assignEach es X.env).length=n) QD)(hst:autoParam ((assignEach es X.env).findIdx? (·.1)=none) QD):PG X (.Tuple es k pos) (fP X.K n t):=by
 intro pins s G H v u Q I r hw;obtain⟨a,xs,e1,hq,hl,hw⟩:=hw;subst e1;cases r;obtain⟨its,rv,ht,hz⟩:=I.tuple hq;refine assign_Tuple_tuple (I.ok.hd hc) ht (by simp[hn,<-hl,rv.length]) hst λh' hx=>?_;have I1:Inv X pins G H { s with heap:=h' }:=I.kept (t':=s.toks) λb o e=>hx b o (fk (d3 e)) e;exact h pins _ G H xs _ Q I1 (by simpa using rv) hw
def Acw (to ti:TE)(t:yG):TG:=λv G H Q=>to G H λo H1=>ti G H1 λi H2=>t o i v H2 λH3=>Q G H3
theorem zB {o i:gd}{to ti:TE}{t:yG}(ho:PE X o to)(hi:PE X i ti)(hs:Abw X t)
  (ha:autoParam (∀v,assign (.Subscript o i pos) X.env v=(do
   let ov <-holding [v] (eval o X.env)
   let iv <-holding [v,ov] (eval i X.env)
   standAt pos
   holding [v,ov,iv] (setItem ov iv v)
   release [v,ov,iv] [])) QJ):PG X (.Subscript o i pos) (Acw to ti t):=by
 intro pins s G H v u Q I r h;rw[ha];refine wpAny_bind (wpAny_holding (thE ho I h λov s1 x H1 I1 r1 q1=>?_));refine wpAny_bind (wpAny_holding (thE hi I1 q1 λiv s2 y H2 I2 r2 q2=>?_));refine wpAny_bind (o8 (wpAny_bind (wpAny_holding (thn (hs pins s2 G H2 x y v ov iv u _ I2 r1 r2 r q2) λ_ s3 ⟨H3,I3,q3⟩=>?_))));exact wpAny_release ⟨G,H3,I3,q3⟩
def oE (te:TE)(g:TG):TS:=λD G H=>te G H λx H1=>g x G H1 D.nx
theorem zL {e:gd}{g:TG}(he:PE X e te)(hg:PG X tg g)(hs:autoParam (swapsWithSole [tg] e pos.line X.env=pure false) QD)(hw:autoParam (swappedStores [tg] e X.env=pure none) QD)
  (h1:autoParam ((assignEach [tg] X.env).map (·.2)=[assign tg X.env]) QD):PS X (.Assign [tg] e pos) (oE te g):=by
 k_end;refine wpAny_Assign_stores (thE he I h λv s1 x H1 I1 r1 q1=>?_) hs hw;rw[h1];exact thn (hg pins s1 G H1 x v _ I1 r1 q1) λ_ s2 q=>q
theorem Nf {i:Nat}{x:Str}{e:gd}{pos':Pos}(hN:X.N.Nodup)(hi:X.N[i]?=some x)(hx:Loc X.env.scope x)(he:PE X e te)(hs:autoParam (swapsWith e (some (.Name x pos')) pos.line X.env=pure false) QD)(hf:autoParam (X.fn x=true\/X.env.scope.names.lookup x=some .local) QH) :
  PS X (.Assign [.Name x pos'] e pos) (oE te (Es i)):=by
 k_end;refine wpAny_Assign_Name (thE he I h λv s1 y H1 I1 r1 q1=>?_) hs;exact Nz I1 hN hi hx r1 (λs2 I2=>⟨_,H1,I2,q1⟩) hf
def yP (i:Nat)(te:TE)(ti:TIp):TS:=λD G H=>∃x,G[i]?=some (some x)/\te G H λy H1=>ti x y H1 λz H2=>D.nx (G.set i (some z)) H2
theorem zE {i:Nat}{x:Str}{e:gd}{op:AB}{ti:TIp}{pos':Pos}(hN:X.N.Nodup)(hi:X.N[i]?=some x)(hx:Loc X.env.scope x)(he:PE X e te)(ho:PIp X op ti)(hf:autoParam (X.fn x=true\/X.env.scope.names.lookup x=some .local) QH) :
  PS X (.AugAssign (.Name x pos') op e pos) (yP i te ti):=by
 k_end;obtain⟨v,e1,h⟩:=h;obtain⟨m,hn,hl⟩:=I.loc;have vis:Vis X.env.scope x:=by rcases hx with k|k;exact .inl k;exact .inr (.inl k)
 obtain⟨u,r,l⟩:=hl i x v hi e1 vis;refine wpAny_AugAssign_Name ?_;have go:wpAny (model X.prog X.w) X.A (eval e X.env) (λw HI=>wpAny (model X.prog X.w) X.A (inplaceOp op u w) (λr QN=>wpAny (model X.prog X.w) X.A (storeName X.env x r) (λ_=>SP X pins D .next) X.xe QN) X.xe HI) X.xe s:=by
  refine thE he I h λw s1 y H1 I1 r1 q1=>?_;refine thn (ho pins s1 G H1 v y u w _ I1 r r1 q1) λz s2 ⟨zv,H2,I2,r2,q2⟩=>?_;exact Nz I2 hN hi hx r2 (λs3 I3=>⟨_,H2,I3,q2⟩) hf
 rcases l with⟨hk,hm⟩|⟨hk,c,hc,hcell⟩
 ·exact z6 I.ok.kind hk hn hm go
 ·rcases hk with hk|hk
  ·exact AK I.ok.kind hk hc hcell go
  ·rcases hx with k|k
   ·have:X.env.scope.names.lookup x=some .free:=hk
    rw[k] at this;cases this
   ·have:X.env.scope.names.lookup x=some .free:=hk
    rw[k] at this;cases this
def ipI (f:Int->Int->Int):TIp:=λx y H Q=>∃i j,x=.int i/\y=.int j/\Q (.int (f i j)) H
theorem oQ:PIp X .Add (ipI λi j=>i+j):=by
 intro pins s G H x y v u Q I r1 r2 h;obtain⟨i,j,e1,e2,q⟩:=h;subst e1;subst e2;obtain⟨t,rfl⟩:=r1;obtain⟨t',rfl⟩:=r2;exact iadd_int ⟨.int _,H,I.tok _,⟨_,rfl⟩,q⟩
theorem Aad:PIp X .Sub (ipI λi j=>i-j):=by
 intro pins s G H x y v u Q I r1 r2 h;obtain⟨i,j,e1,e2,q⟩:=h;subst e1;subst e2;obtain⟨t,rfl⟩:=r1;obtain⟨t',rfl⟩:=r2;exact isub_int ⟨.int _,H,I.tok _,⟨_,rfl⟩,q⟩
end
section
variable {X:Cx} {pos:Pos}
def pW (c:TT)(tb:TS):TS:=λD G H=>∃W:Nat->St->Hp->Prop,(∃m,W m G H)/\∀m G H,W m G H ->
 c G H λb H1=>if b=true then ∃N:St->Hp->Prop,(∀mt H',N mt H'->∃m',m'<m/\W m' mt H')/\tb { D with nx:=N,ct:=N,bk:=D.nx } G H1 else D.nx G H1
theorem Mm {c:gd}{body:List gm}{tc:TT}{tb:TS}(hp:PassesOwn (model X.prog X.w) X.A X.env X.xe)(hc:PT X c tc)(hb:PSs X body tb):PS X (.While c body [] pos) (pW tc tb):=by
 k_end;obtain⟨W,⟨m0,w0⟩,turn⟩:=h;refine wpAny_While (codeAny_whileLoop (λn s'=>∃mt H',Inv X pins mt H' s'/\W n mt H') ?_ m0 ⟨G,H,I,w0⟩);rintro n s1 ⟨HN,H1,I1,w1⟩;refine wpAny_passesOwn hp (thn (hc pins s1 HN H1 _ I1 (turn n HN H1 w1)) λb s2 ⟨H2,I2,q2⟩=>?_)
 cases b with
 |true=>
  obtain⟨N,hN,q2⟩:=q2;rw[if_pos rfl];refine wpAny_passesOwn hp (thn (hb pins s2 HN H2 _ I2 q2) λf s3 q3=>?_)
  cases f with
  |next=>
   obtain⟨HG,H3,I3,n3⟩:=q3;obtain⟨m',hm,w3⟩:=hN HG H3 n3;exact⟨m',hm,HG,H3,I3,w3⟩
  |cont=>
   obtain⟨HG,H3,I3,n3⟩:=q3;obtain⟨m',hm,w3⟩:=hN HG H3 n3;exact⟨m',hm,HG,H3,I3,w3⟩
  |brk=>exact q3
  |ret v=>exact q3
 |false=>
  rw[if_neg fg];exact mv ⟨HN,H2,I2,q2⟩
end
structure It where
 go:Nat->Hp->Prop
 yld:Nat->Hp->V->Hp->Prop
 stop:Nat->Hp->Prop
def Od (X:Cx)(pins:Za1)(H:Hp)(b:df):Prop:=
 H b=none/\b≠X.env.locals/\b∉X.fs/\(b∈X.ex\/X.HA.heap.objs.size<=b)/\(∀x c,X.env.cells.lookup x=some c->c≠b)/\∀p∈X.pn++pins,p.1≠b
theorem Inv.fpOk {G:St}{b:df}(I:Inv X pins G H s)(hb:s.heap.objs.size<=b)(hn:H' b=none):Od X pins H' b:=by
 refine⟨hn,iy (dw I.lt hb),I.nofs hb,.inr (gl I.sz hb),λx c e z=>?_,λp hp z=>?_⟩
 ·obtain⟨v,q⟩:=I.cell x c e
  exact absurd (dw q.lt (by rw[z];exact hb)) (i4 _)
 ·exact absurd (dw (d3 (I.pin p hp).1) (by rw[z];exact hb)) (i4 _)
structure No (P:fc) (w:ge) (K:da) (tg:gd) (J:It) (fp:List df) (it:df) (tn:Nat->gv->Prop):Prop where
 mem:it∈fp
 obj:∀i h,tn i h->∀b∈fp,∃o,h.get? b=some o/\∀v,o.data≠.cell v
 keep:∀i h h',tn i h->(∀b∈fp,∀o,h.get? b=some o->h'.get? b=some o)->tn i h'
 item:∀(X:Cx),X.prog=P->X.w=w->X.K=K->X.calm=true->∀(i:Nat) (pins:Za1) (s:d4) (G:St) (H:Hp) (E:Za0),Inv X pins G H s->(∀b∈fp,Od X pins H b)->tn i s.heap->J.go i H ->
  wpAny (model P w) X.A (pyNext (.ref it)) (λr s1=>∃u,r=some u /\
   wpAny (model P w) X.A (letOwnedTupleGo tg (.ref it) u) (λ_ s2=>∃x H',Inv X pins G H' s2/\By x u/\J.yld i H x H'/\tn (i+1) s2.heap/\∀b∈fp,H' b=none) E s1) E s
 done:∀(X:Cx),X.prog=P->X.w=w->X.K=K->X.calm=true->∀(i:Nat) (pins:Za1) (s:d4) (G:St) (H:Hp) (E:Za0),Inv X pins G H s->(∀b∈fp,Od X pins H b)->tn i s.heap->J.stop i H ->
  wpAny (model P w) X.A (pyNext (.ref it)) (λr s1=>r=none/\Inv X pins G H s1) E s
 self:∀(A:gt) (i:Nat) (s:d4) (Q:Za0) (E:Za0),tn i s.heap->Q (.ref it) s->wpAny (model P w) A (pyIter (.ref it)) Q E s
abbrev TI:=St->Hp->(It->Hp->Prop)->Prop
def PIE (X:Cx)(pins:Za1)(G:St)(tg:gd)(R:It->Hp->Prop)(itv:d0)(s2:d4):Prop:=
 ∃(it:df) (fp:List df) (tn:Nat->gv->Prop) (J:It) (H':Hp),itv=.ref it/\Inv X pins G H' s2/\No X.prog X.w X.K tg J fp it tn/\tn 0 s2.heap/\(∀b∈fp,Od X pins H' b)/\R J H'
def PI (X:Cx)(tg iter:gd)(wi:TI):Prop:=
 ∀(pins:Za1) (s:d4) (G:St) (H:Hp) (R:It->Hp->Prop),Inv X pins G H s->wi G H R ->
  wpAny (model X.prog X.w) X.A (eval iter X.env) (λv s1=>wpAny (model X.prog X.w) X.A (pyIter v) (PIE X pins G tg R) X.xe s1) X.xe s
theorem dW {E:Za0}{u:d0}{o:Obj}{n:String}{vs:Array d0}{Q:Unit->d4->Prop}(ho:s.heap.get? it=some o)(hc:o.cls=.type n)(hd:o.data=.fields vs)
    (hn : ["enumerate", "zip", "dict_itemiterator", "dict_reverseitemiterator", "odict_iterator", "itertools.zip_longest", "itertools.pairwise"].contains n = false)(hQ : Q () s) : wpAny M A (letOwnedTupleGo tg (.ref it) u) Q E s := by
  unfold letOwnedTupleGo;cases tg <;> first
    | exact em hQ
    | (cases u <;> first
        | exact em hQ
        | (refine wpAny_bind (wpAny_load ho ?_)
           rw [hc, hd];show wpAny M A (if (["enumerate", "zip", "dict_itemiterator", "dict_reverseitemiterator", "odict_iterator", "itertools.zip_longest", "itertools.pairwise"].contains n && vs[0]? == some (rawInt _)) = true then _ else _) Q E s;rw [if_neg (by intro h; rw [hn, AW] at h; cases h)];exact em hQ))
def Itl (K:da)(a:df):It:=
 ⟨λi H=>∃xs x,SqL K H a xs/\xs[i]?=some x,λi H x H'=>H'=H/\∀xs,SqL K H a xs->xs[i]?=some x,λi H=>∃xs,SqL K H a xs/\xs.length<=i⟩
def Itr (lo:Int)(n:Nat):It:=⟨λi _=>i<n,λi H x H'=>H'=H/\x=.int (lo+i),λi _=>n<=i⟩
theorem mT {P:fc}{K:da}(a it:df):No P w K tg (Itl K a) [it] it (λi h=>h.IsListIter it a i) where
 mem:=by simp
 obj:=λi h st b hb=>by
  have e:b=it:=by simpa using hb
  subst e;obtain⟨o,e,c,d⟩:=st;exact⟨o,e,λv z=>by rw[d] at z;cases z⟩
 keep:=λi h h' st k=>st.at λo e=>k it (by simp) o e
 item:=by
  intro X hP hw hK hc i pins s G H E I hf st hg;subst hP hw hK;obtain⟨xs,x,hq,hx⟩:=hg;obtain⟨its,rv,p,hz⟩:=I.list hq;obtain⟨u,hu,ru⟩:=rv.get hx;obtain⟨f0,f1,f2,f3,f4,f5⟩:=hf it (by simp);refine wpAny_pyNext_list_item st p.isList (x:=u) (by simpa using hu) λh' st' sb=>?_;have I1:Inv X pins G H { s with heap:=h' }:=I.turned (t':=s.toks) (λb o hb e=>(sb.2 b hb).trans e) f0 f1 f3 f4 f5;obtain⟨o,e,c,d⟩:=id st';exact⟨u,rfl,dW (s:={ s with heap:=h' }) e c d (by decide) ⟨x,H,I1,ru,⟨rfl,λys hy=>by rw[I.list_inj hy hq];exact hx⟩,st',λb hb=>(hf b hb).1⟩⟩
 done:=by
  intro X hP hw hK hc i pins s G H E I hf st hg;subst hP hw hK;obtain⟨xs,hq,hx⟩:=hg;obtain⟨its,rv,p,hz⟩:=I.list hq;obtain⟨f0,f1,f2,f3,f4,f5⟩:=hf it (by simp);have hl:=rv.length;exact wpAny_pyNext_list_end (I.ok.hd hc) st p.isList (by simp;lia) λh' eb=>⟨rfl,I.turned (t':=s.toks) (λb o hb e=>eb b o hb e) f0 f1 f3 f4 f5⟩
 self:=λ_ _ _ _ _ st h=>wpAny_pyIter_listiter st h
theorem fO {P:fc}{K:da}(it:df)(lo:Int)(n:Nat):No P w K tg (Itr lo n) [it] it (λi h=>wk h it (lo+(i:Nat)*1) ((n:Int)-(i:Nat)) 1) where
 mem:=by simp
 obj:=λi h st b hb=>by
  have e:b=it:=by simpa using hb
  subst e;exact⟨_,st,λv z=>by
   have z':yb _=EQ v:=z;cases z'⟩
 keep:=λi h h' st k=>k it (by simp) _ st
 item:=by
  intro X hP hw hK hc i pins s G H E I hf st hg;subst hP hw hK;obtain⟨f0,f1,f2,f3,f4,f5⟩:=hf it (by simp);have W:=BI (prog:=X.prog) (w:=X.w) (I.ok.hd hc) it lo 1 n;refine W.item i s _ _ hg st λv h' tk hv st' kk=>?_;obtain⟨t,rfl⟩:=hv;have I1:Inv X pins G H { s with heap:=h',toks:=tk }:=I.turned (λb o hb e=>kk b o (by simpa using hb) e) f0 f1 f3 f4 f5;refine⟨_,rfl,dW (s:={ s with heap:=h',toks:=tk }) (n:="range_iterator") st' rfl rfl (by decide) ⟨.int (lo+i),H,I1,⟨t,?_⟩,⟨rfl,rfl⟩,st',λb hb=>(hf b hb).1⟩⟩;rw[Int.mul_one]
 done:=by
  intro X hP hw hK hc i pins s G H E I hf st hg;subst hP hw hK;obtain⟨f0,f1,f2,f3,f4,f5⟩:=hf it (by simp);exact yz (I.ok.hd hc) st (by have:n<=i:=hg;lia) λh' eb=>⟨rfl,I.turned (t':=s.toks) (λb o hb e=>eb b o hb e) f0 f1 f3 f4 f5⟩
 self:=λ_ _ _ _ _ st h=>y0 st h
section
variable {X:Cx} {tg:gd}
def wF (K:da)(tl:TE):TI:=λG H R=>tl G H λx H1=>∃a,x=.ref a/\(∃xs,SqL K H1 a xs)/\R (Itl K a) H1
theorem Do {l:gd}{tl:TE}(hl:PE X l tl):PI X tg l (wF X.K tl):=by
 intro pins s G H R I h;refine thE hl I h λv s1 x H1 I1 r1 q1=>?_;obtain⟨a,e,⟨xs,hq⟩,q⟩:=q1;subst e;cases r1;obtain⟨its,rv,p,hz⟩:=I1.list hq;refine BH p.isList ?_;refine⟨s1.heap.objs.size,[s1.heap.objs.size],_,_,H1,rfl,I1.kept (t':=s1.toks) λb o e=>dq _ e,mT a _,⟨_,fi _ rfl,rfl,rfl⟩,λb hb=>?_,q⟩;have e:b=s1.heap.objs.size:=by simpa using hb
 subst e;exact I1.fpOk (db _) (I1.hok.fresh (db _))
theorem Zl {G:St}{R:It->Hp->Prop}{E:Za0}{lo hi:Int}{t u v:Tok}{tk:Nat}(I:Inv X pins G H s)(h1:-(2 ^ 62)<=lo)(h2:lo<2 ^ 62)(h3:-(2 ^ 62)<=hi)(h4:hi<2 ^ 62)
  (q:R (Itr lo (hi-lo).toNat) H):wpAny (model X.prog X.w) X.A (pyIter (.ref s.heap.objs.size)) (PIE X pins G tg R) E { s with heap:=s.heap.push { cls:=.type "range",data:=.fields #[.int lo t,.int hi u,.int 1 v] },toks:=tk }:=by
 refine AX (AS ..) (small_one h1 h2 h3 h4) ?_;have I1:Inv X pins G H { s with heap:=s.heap.push { cls:=.type "range",data:=.fields #[.int lo t,.int hi u,.int 1 v] },toks:=tk }:=I.kept λb o e=>dq _ e;refine⟨(s.heap.push { cls:=.type "range",data:=.fields #[.int lo t,.int hi u,.int 1 v] }).objs.size,[(s.heap.push { cls:=.type "range",data:=.fields #[.int lo t,.int hi u,.int 1 v] }).objs.size],_,_,H,rfl,
  I1.kept (t':=tk) λb o e=>dq _ e,fO _ lo (hi-lo).toNat,?_,λb hb=>?_,q⟩
 ·have e1:lo+((0:Nat):Int)*1=lo:=by simp
  have e2:(((hi-lo).toNat:Nat):Int)-((0:Nat):Int)=lv lo hi 1:=by rw[rangeSize_one];split<;>lia
  show wk _ _ (lo+((0:Nat):Int)*1) ((((hi-lo).toNat:Nat):Int)-((0:Nat):Int)) 1;rw[e1,e2];exact fi _ rfl
 ·have e:b=(s.heap.push { cls:=.type "range",data:=.fields #[.int lo t,.int hi u,.int 1 v] }).objs.size:=by simpa using hb
  subst e;exact I1.fpOk (db _) (I1.hok.fresh (db _))
def wK (ta:TA):TI:=λG H R=>ta G H λvs H1=>∃j:Int,vs=[.int j]/\-(2 ^ 62)<=j/\j<2 ^ 62/\R (Itr 0 j.toNat) H1
def vY (ta:TA):TI:=λG H R=>ta G H λvs H1=>∃i j:Int,vs=[.int i,.int j]/\(-(2 ^ 62)<=i/\i<2 ^ 62/\-(2 ^ 62)<=j/\j<2 ^ 62)/\R (Itr i (j-i).toNat) H1
theorem Eo {a:gd}{ta:TA}{p:Pos}(hg:Gl X "range")(hm:X.mg "range"=none)(ha:PA X [a] ta)(hs:autoParam (starEach [a] X.env=[(false,eval a X.env)]) QD):PI X tg (.Call (.Name "range" p) [a] [] pos) (wK ta):=by
 intro pins s G H R I h;refine Call_ (Fg I hg hm boot_range (gr (thA ha I h λus s1 vs H1 I1 r1 q1=>?_) hs rfl));obtain⟨j,e,q1,q2,q⟩:=q1;subst e
 cases r1 with
 |cons r rr=>
  cases rr;obtain⟨t,rfl⟩:=r;exact call_range_1 (Zl I1 (by lia) (by lia) q1 q2 (by simpa using q))
theorem P1 {a b:gd}{ta:TA}{p:Pos}(hg:Gl X "range")(hm:X.mg "range"=none)(ha:PA X [a,b] ta)(hs:autoParam (starEach [a,b] X.env=[(false,eval a X.env),(false,eval b X.env)]) QD)(hs2:autoParam (starEach [b] X.env=[(false,eval b X.env)]) QD) :
  PI X tg (.Call (.Name "range" p) [a,b] [] pos) (vY ta):=by
 intro pins s G H R I h;refine Call_ (Fg I hg hm boot_range (gr (thA ha I h λus s1 vs H1 I1 r1 q1=>?_) (by rw[hs,hs2]) (by rw[hs2];rfl)));obtain⟨i,j,e,⟨q1,q2,q3,q4⟩,q⟩:=q1;subst e
 cases r1 with
 |cons r rr=>
  cases rr with
  |cons r' rr=>
   cases rr;obtain⟨t,rfl⟩:=r;obtain⟨t',rfl⟩:=r';exact call_range_2 (Zl I1 q1 q2 q3 q4 q)
def Ab1 (wi:TI)(g:TG)(tb:TS):TS:=λD G H=>wi G H λJ H1=>∃W:Nat->Nat->St->Hp->Prop,(∃m,W 0 m G H1)/\∀i m G H,W i m G H ->
 (J.stop i H/\D.nx G H)\/(J.go i H/\∃N:St->Hp->Prop,(∀mt H',N mt H'->∃m',m'<m/\W (i+1) m' mt H')/\∀x H',J.yld i H x H'->g x G H' λHE H2=>tb { D with nx:=N,ct:=N,bk:=D.nx } HE H2)
def P3 (fp:List df)(h:gv):Za1:=fp.filterMap λb=>(h.get? b).map λo=>(b,o)
theorem Go {b:df}{o:Obj}(hb:b∈fp)(e:h.get? b=some o):(b,o)∈P3 fp h:=rq.mpr ⟨b,hb,by rw[e];rfl⟩
theorem mZ {p:df×Obj}(hp:p∈P3 fp h):p.1∈fp/\h.get? p.1=some p.2:=by
 obtain⟨b,hb,e⟩:=rq.mp hp
 cases q:h.get? b with
 |none=>rw[q] at e;cases e
 |some o=>
  rw[q] at e;have e':(b,o)=p:=de e;subst e';exact⟨hb,q⟩
theorem Inv.pinned {G:St}(I:Inv X pins G H s)(hf:∀b∈fp,Od X pins H b)(ho:∀b∈fp,∃o,s.heap.get? b=some o/\∀v,o.data≠.cell v):Inv X (pins++P3 fp s.heap) G H s:=
 I.pins_of λp hp=>(ju.mp hp).elim (λz=>I.pin p (fe _ z)) λz=>by
  obtain⟨hb,e⟩:=mZ z;obtain⟨f0,f1,f2,_⟩:=hf p.1 hb;obtain⟨o,e',d⟩:=ho p.1 hb;rw[e] at e';cases e';exact⟨e,f0,f1,f2,d⟩
theorem Inv.unpinned {pl:Za1}{G:St}(I:Inv X (pins++pl) G H s):Inv X pins G H s:=I.pins_of λp hp=>I.pin p (fe _ (om _ hp))
theorem Dm {iter:gd}{body:List gm}{g:TG}{tb:TS}(hp:PassesOwn (model X.prog X.w) X.A X.env X.xe)(hc:X.calm=true)(hi:PI X tg iter wi)(hg:PG X tg g)(hb:PSs X body tb)
  (hs:autoParam (∀x,foldedSetIterable iter X.env x=pure x) QJ):PS X (.For tg iter body [] pos) (Ab1 wi g tb):=by
 k_end;refine wpAny_For (thn (hi pins s G H _ I h) λv s1 h1=>thn h1 λitv s2 h2=>?_) hs;obtain⟨it,fp,tn,J,H2,e,I2,T,st2,f2,W,⟨m0,w0⟩,turn⟩:=h2;subst e
 -- what stays true of the iterator's objects through the loop
 have stat:∀{H':Hp},(∀b∈fp,H' b=none)->∀b∈fp,Od X pins H' b:=λhn b hb=>⟨hn b hb,(f2 b hb).2⟩;refine codeAny_forLoop_any (λn s'=>∃i mt H',Inv X pins mt H' s'/\tn i s'.heap/\(∀b∈fp,H' b=none)/\W i n mt H') ?_ m0 ⟨0,G,H2,I2,st2,λb hb=>(f2 b hb).1,w0⟩;rintro n s3 ⟨i,HG,H3,I3,st3,fr3,w3⟩;rcases turn i n HG H3 w3 with⟨stop,qn⟩|⟨go,N,hN,step⟩
 ·refine wpAny_passesOwn hp (thn (T.done X rfl rfl rfl hc i pins s3 HG H3 X.xe I3 (stat fr3) st3 stop) λr s4 ⟨hr,I4⟩=>?_)
  subst hr;exact mv ⟨HG,H3,I4,qn⟩
 ·refine wpAny_passesOwn hp (thn (T.item X rfl rfl rfl hc i pins s3 HG H3 X.xe I3 (stat fr3) st3 go) λr s4 ⟨u,hr,h4⟩=>?_)
  subst hr;refine wpAny_passesOwn hp (thn h4 λ_ s5 ⟨x,H5,I5,r5,y5,st5,fr5⟩=>?_);have I5':=I5.pinned (stat fr5) (T.obj _ _ st5);refine wpAny_passesOwn hp (thn (hg _ s5 HG H5 x u _ I5' r5 (step x H5 y5)) λ_ s6 ⟨σ6,H6,I6,q6⟩=>?_);refine wpAny_passesOwn hp (thn (hb _ s6 σ6 H6 _ I6 q6) λf s7 q7=>?_);have again:∀{HH:St} {H7:Hp},Inv X (pins++P3 fp s5.heap) HH H7 s7->N HH H7->∃m,m<n/\∃i mt H',Inv X pins mt H' s7/\tn i s7.heap/\(∀b∈fp,H' b=none)/\W i m mt H':=λ{HH H7} I7 n7=>by
   obtain⟨m',hm,w7⟩:=hN HH H7 n7;refine⟨m',hm,i+1,HH,H7,I7.unpinned,T.keep _ _ _ st5 λb hb o e=>(I7.pin (b,o) (fe _ (fe _ (Go hb e)))).1,λb hb=>?_,w7⟩;obtain⟨o,e,d⟩:=T.obj _ _ st5 b hb;exact(I7.pin (b,o) (fe _ (fe _ (Go hb e)))).2.1
  cases f with
  |next=>obtain⟨HH,H7,I7,n7⟩:=q7;exact again I7 n7
  |cont=>obtain⟨HH,H7,I7,n7⟩:=q7;exact again I7 n7
  |brk=>obtain⟨HH,H7,I7,q7⟩:=q7;exact⟨HH,H7,I7.unpinned,q7⟩
  |ret v=>obtain⟨x7,HH,H7,I7,r7,q7⟩:=q7;exact⟨x7,HH,H7,I7.unpinned,r7,q7⟩
end
theorem So {K:da}{a:df}{g:TG}{tb:TS}{D:Jg}{G:St}(Pv:Nat->St->Hp->Prop)(h0:Pv 0 G H)(hl:∀i G H,i<=xs.length->Pv i G H->SqL K H a xs)
  (hs:∀i x G H,xs[i]?=some x->Pv i G H->g x G H λHE H2=>tb { D with nx:=Pv (i+1),ct:=Pv (i+1),bk:=D.nx } HE H2)(hd:∀G H,Pv xs.length G H->D.nx G H) :
  ∃W:Nat->Nat->St->Hp->Prop,(∃m,W 0 m G H)/\∀i m G H,W i m G H ->
   ((Itl K a).stop i H/\D.nx G H)\/((Itl K a).go i H/\∃N:St->Hp->Prop,(∀mt H',N mt H'->∃m',m'<m/\W (i+1) m' mt H')/\∀x H',(Itl K a).yld i H x H'->g x G H' λHE H2=>tb { D with nx:=N,ct:=N,bk:=D.nx } HE H2):=by
 refine⟨λi m G H=>m=xs.length-i/\i<=xs.length/\Pv i G H,⟨xs.length,by simp,e9 _,h0⟩,?_⟩;rintro i m G H ⟨rfl,hi,p⟩;have q:=hl i G H hi p
 by_cases hlt:i<xs.length
 ·refine .inr ⟨⟨xs,xs[i],q,by simp[hlt]⟩,Pv (i+1),λmt H' p'=>⟨xs.length-(i+1),by lia,rfl,hlt,p'⟩,λx H' y=>?_⟩
  obtain⟨e,y⟩:=y;subst e;exact hs i x G _ (y xs q) p
 ·have e:i=xs.length:=by lia
  subst e;exact .inl ⟨⟨xs,q,db _⟩,hd G H p⟩
theorem Fm {lo:Int}{n:Nat}{g:TG}{tb:TS}{D:Jg}{G:St}(Pv:Nat->St->Hp->Prop)(h0:Pv 0 G H)
  (hs:∀i G H,i<n->Pv i G H->g (.int (lo+i)) G H λHE H2=>tb { D with nx:=Pv (i+1),ct:=Pv (i+1),bk:=D.nx } HE H2)(hd:∀G H,Pv n G H->D.nx G H) :
  ∃W:Nat->Nat->St->Hp->Prop,(∃m,W 0 m G H)/\∀i m G H,W i m G H ->
   ((Itr lo n).stop i H/\D.nx G H)\/((Itr lo n).go i H/\∃N:St->Hp->Prop,(∀mt H',N mt H'->∃m',m'<m/\W (i+1) m' mt H')/\∀x H',(Itr lo n).yld i H x H'->g x G H' λHE H2=>tb { D with nx:=N,ct:=N,bk:=D.nx } HE H2):=by
 refine⟨λi m G H=>m=n-i/\i<=n/\Pv i G H,⟨n,by simp,e9 _,h0⟩,?_⟩;rintro i m G H ⟨rfl,hi,p⟩
 by_cases hlt:i<n
 ·refine .inr ⟨hlt,Pv (i+1),λmt H' p'=>⟨n-(i+1),by lia,rfl,hlt,p'⟩,λx H' y=>?_⟩
  obtain⟨e,y⟩:=y;subst e y;exact hs i G _ hlt p
 ·have e:i=n:=by lia
  subst e;exact .inl ⟨db _,hd G H p⟩
abbrev R2:=V->V->Hp->VK->Prop
def OpR (X:Cx)(f:d0->d0->Sem d0)(r:R2):Prop:=
 ∀(pins:Za1) (s:d4) (G:St) (H:Hp) (x y:V) (v u:d0) (Q:VK),Inv X pins G H s->By x v->By y u->r x y H Q ->
  wpAny (model X.prog X.w) X.A (f v u) (EP X pins G Q) X.xe s
def UnR (X:Cx)(f:d0->Sem d0)(r:V->Hp->VK->Prop):Prop:=
 ∀(pins:Za1) (s:d4) (G:St) (H:Hp) (x:V) (v:d0) (Q:VK),Inv X pins G H s->By x v->r x H Q ->
  wpAny (model X.prog X.w) X.A (f v) (EP X pins G Q) X.xe s
def Hh (X:Cx)(f:d0)(r:List V->Hp->VK->Prop):Prop:=
 ∀(pins:Za1) (s:d4) (G:St) (H:Hp) (xs:List V) (us:Za3) (Q:VK),Inv X pins G H s->Bj xs us->r xs H Q ->
  wpAny (model X.prog X.w) X.A (call f us) (EP X pins G Q) X.xe s
def tOp (r:R2)(ta tb:TE):TE:=λG H Q=>ta G H λx H1=>tb G H1 λy H2=>r x y H2 Q
def tUn (r:V->Hp->VK->Prop)(ta:TE):TE:=λG H Q=>ta G H λx H1=>r x H1 Q
def rI (C:Int->Int->Prop)(g:Int->Int->V):R2:=λx y H Q=>∃i j,x=.int i/\y=.int j/\C i j/\Q (g i j) H
def rI0 (g:Int->Int->V):R2:=λx y H Q=>∃i j,x=.int i/\y=.int j/\Q (g i j) H
def rU (g:Int->V):V->Hp->VK->Prop:=λx H Q=>∃i,x=.int i/\Q (g i) H
section
variable {X:Cx} {a b c:gd} {ta tb tc:TE} {pos:Pos}
theorem zV (ha:PE X a ta)(hb:PE X b tb){G:St}{R:V->V->Hp->Prop}(I:Inv X pins G H s)
  (h:ta G H λx H1=>tb G H1 λy H2=>R x y H2){Q:Za0}{f:d0->d0->Sem d0}
  (hf:∀v u s2 x y H2,Inv X pins G H2 s2->By x v->By y u->R x y H2->wpAny (model X.prog X.w) X.A (f v u) Q X.xe s2) :
  wpAny (model X.prog X.w) X.A (eval a X.env) (λv HB=>wpAny (model X.prog X.w) X.A (eval b X.env) (λu HI=>wpAny (model X.prog X.w) X.A (f v u) Q X.xe HI) X.xe HB) X.xe s:=by
 refine thE ha I h λv s1 x H1 I1 r1 q1=>?_;refine thE hb I1 q1 λu s2 y H2 I2 r2 q2=>?_;exact hf v u s2 x y H2 I2 r1 r2 q2
theorem Ak {op:AB}{r:R2}(ho:OpR X (binaryOp op) r)(ha:PE X a ta)(hb:PE X b tb):PE X (.BinOp a op b pos) (tOp r ta tb):=by
 k_in;exact wpAny_BinOp (zV ha hb I h λv u s2 x y H2 I2 rx ry q=>ho pins s2 G H2 x y v u Q I2 rx ry q)
theorem Dg {op:UnaryOp}{r:V->Hp->VK->Prop}(ho:UnR X (unaryOp op) r)(ha:PE X a ta):PE X (.UnaryOp op a pos) (tUn r ta):=by
 k_in;exact UnaryOp_ (thE ha I h λv s1 x H1 I1 r1 q1=>ho pins s1 G H1 x v Q I1 r1 q1)
theorem opI {f:d0->d0->Sem d0}{C:Int->Int->Prop}{g:Int->Int->Int}
  (rule:∀(i j:Int) (t u:Tok) (s:d4) (Q:Za0) (E:Za0),C i j->Q (.int (g i j) s.toks) { s with toks:=s.toks+1 }->wpAny (model X.prog X.w) X.A (f (.int i t) (.int j u)) Q E s) :
  OpR X f (rI C λi j=>.int (g i j)):=by
 intro pins s G H x y v u Q I rx ry h;obtain⟨i,j,rfl,rfl,hc,q⟩:=h;obtain⟨t,rfl⟩:=rx;obtain⟨t',rfl⟩:=ry;exact rule i j t t' s _ _ hc ⟨.int (g i j),H,I.tok _,⟨_,rfl⟩,q⟩
theorem Abb {f:d0->d0->Sem d0}{g:Int->Int->Int}
  (rule:∀(i j:Int) (t u:Tok) (s:d4) (Q:Za0) (E:Za0),Q (.int (g i j) s.toks) { s with toks:=s.toks+1 }->wpAny (model X.prog X.w) X.A (f (.int i t) (.int j u)) Q E s) :
  OpR X f (rI0 λi j=>.int (g i j)):=by
 intro pins s G H x y v u Q I rx ry h;obtain⟨i,j,rfl,rfl,q⟩:=h;obtain⟨t,rfl⟩:=rx;obtain⟨t',rfl⟩:=ry;exact rule i j t t' s _ _ ⟨.int (g i j),H,I.tok _,⟨_,rfl⟩,q⟩
theorem vN {f:d0->d0->Sem d0}{g:Int->Int->Bool}
  (rule:∀(i j:Int) (t u:Tok) (s:d4) (Q:Za0) (E:Za0),Q (.bool (g i j)) s->wpAny (model X.prog X.w) X.A (f (.int i t) (.int j u)) Q E s) :
  OpR X f (rI0 λi j=>.bl (g i j)):=by
 intro pins s G H x y v u Q I rx ry h;obtain⟨i,j,rfl,rfl,q⟩:=h;obtain⟨t,rfl⟩:=rx;obtain⟨t',rfl⟩:=ry;exact rule i j t t' s _ _ ⟨.bl (g i j),H,I,rfl,q⟩
def Aao (i j:Int):Prop:=0<j/\j<1073741824
def Acx (i j:Int):Prop:=0<=j/\j<=1000000/\i.natAbs<2 ^ 64
def sX (i j:Int):Prop:=(-(2 ^ 64)<i/\i<2 ^ 64)\/(-(2 ^ 64)<j/\j<2 ^ 64)
theorem sX.ok {i j:Int}(h:sX i j):IntMulOk i j:=by
 rcases h with⟨h1,h2⟩|⟨h1,h2⟩
 ·exact .of_left (EV h1 h2)
 ·exact .of_right (EV h1 h2)
theorem Ay:OpR X (binaryOp .Add) (rI0 λi j=>.int (i+j)):=Abb λ_ _ _ _ _ _ _ q=>add_int q
theorem B7:OpR X (binaryOp .Sub) (rI0 λi j=>.int (i-j)):=Abb λ_ _ _ _ _ _ _ q=>sub_int q
theorem Hd:OpR X (binaryOp .Mult) (rI sX λi j=>.int (i*j)):=opI λ_ _ _ _ _ _ _ hc q=>mul_int q hc.ok
theorem F3:OpR X (binaryOp .FloorDiv) (rI Aao λi j=>.int (i/j)):=opI λi j _ _ _ _ _ hc q=>by
 have h1:(0:Int)<j:=hc.1;have h2:j<1073741824:=hc.2;exact floordiv_int (by lia) (by rw[Int.fdiv_eq_ediv_of_nonneg i (by lia)];exact q) (.inl (vq (by lia)))
theorem Ey:OpR X (binaryOp .Mod) (rI (λ_ j=>0<j) λi j=>.int (i%j)):=opI λi j _ _ _ _ _ hc q=>by
 have h1:(0:Int)<j:=hc;exact mod_int' (by lia) (by rw[Int.fmod_eq_emod_of_nonneg i (by lia)];exact q)
theorem sV:OpR X (binaryOp .Pow) (rI Acx λi j=>.int (i ^ j.toNat)):=opI λ_ _ _ _ _ _ _ hc q=>pow_int_small hc.1 hc.2.1 hc.2.2 q
theorem unI {f:d0->Sem d0}{g:Int->Int}
  (rule:∀(i:Int) (t:Tok) (s:d4) (Q:Za0) (E:Za0),Q (.int (g i) s.toks) { s with toks:=s.toks+1 }->wpAny (model X.prog X.w) X.A (f (.int i t)) Q E s) :
  UnR X f (rU λi=>.int (g i)):=by
 intro pins s G H x v Q I rx h;obtain⟨i,rfl,q⟩:=h;obtain⟨t,rfl⟩:=rx;exact rule i t s _ _ ⟨.int (g i),H,I.tok _,⟨_,rfl⟩,q⟩
theorem Cf:UnR X (unaryOp .USub) (rU λi=>.int (-i)):=unI λ_ _ _ _ _ q=>neg_int q
end
def uV:V->V->Bool
 |.non,.non=>true|.non,.int _=>true|.int _,.non=>true|.non,.bl _=>true|.bl _,.non=>true|.non,.str _=>true|.str _,.non=>true
 |.int _,.int _=>true|.bl _,.bl _=>true|.str _,.str _=>true|.byt _,.byt _=>true
 |.int _,.str _=>true|.str _,.int _=>true|.bl _,.str _=>true|.str _,.bl _=>true
 |_,_=>false
def rEq:R2:=λx y H Q=>uV x y=true/\Q (.bl (decide (x=y))) H
def rNe:R2:=λx y H Q=>uV x y=true/\Q (.bl (!decide (x=y))) H
theorem jX {i j:Int}:decide (V.int i=V.int j)=(i==j):=by
 rw[qm];simp
theorem qF {i j:Bool}:decide (V.bl i=V.bl j)=(i==j):=by
 rw[qm];simp
theorem lL {i j:Str}:decide (V.str i=V.str j)=(i==j):=by
 rw[qm];simp
theorem iW {i j:Array UInt8}:decide (V.byt i=V.byt j)=(i.toList==j.toList):=by
 rw[qm];cases i;cases j;simp
section
variable {X:Cx} {a b c:gd} {ta tb tc:TE} {pos:Pos}
theorem B5 {G:St}{Q:VK}{k k':Bool}(I:Inv X pins G H s)(q:Q (.bl k) H)(e:k=k'):EP X pins G Q (.bool k') s:=by
 subst e;exact⟨.bl k,H,I,rfl,q⟩
theorem Et:OpR X (compareOp .Eq) rEq:=by
 intro pins s G H x y v u Q I rx ry h;obtain⟨hs,q⟩:=h
 cases x with
 |non=>
  cases rx
  cases y with
  |non=>cases ry;exact DQ (B5 I q (by simp))
  |bl j=>cases ry;exact DS (B5 I q (by simp))
  |int j=>obtain⟨t',rfl⟩:=ry;exact DR (B5 I q (by simp))
  |str j=>obtain⟨t',rfl⟩:=ry;exact DP (B5 I q (by simp))
  |_=>exact absurd (show false=true from hs) fg
 |bl i=>
  cases rx
  cases y with
  |non=>cases ry;exact DU (B5 I q (by simp))
  |bl j=>cases ry;exact eq_bool (B5 I q qF)
  |str j=>obtain⟨t',rfl⟩:=ry;exact CG (B5 I q (by simp))
  |_=>exact absurd (show false=true from hs) fg
 |int i=>
  obtain⟨t,rfl⟩:=rx
  cases y with
  |non=>cases ry;exact DT (B5 I q (by simp))
  |int j=>obtain⟨t',rfl⟩:=ry;exact eq_int (B5 I q jX)
  |str j=>obtain⟨t',rfl⟩:=ry;exact CF (B5 I q (by simp))
  |_=>exact absurd (show false=true from hs) fg
 |str i=>
  obtain⟨t,rfl⟩:=rx
  cases y with
  |non=>cases ry;exact DO (B5 I q (by simp))
  |bl j=>cases ry;exact CC (B5 I q (by simp))
  |int j=>obtain⟨t',rfl⟩:=ry;exact CB (B5 I q (by simp))
  |str j=>obtain⟨t',rfl⟩:=ry;exact eq_str (B5 I q lL)
  |_=>exact absurd (show false=true from hs) fg
 |byt i=>
  obtain⟨t,rfl⟩:=rx
  cases y with
  |byt j=>obtain⟨t',rfl⟩:=ry;exact PySem.W.eq_bytes (B5 I q iW)
  |_=>exact absurd (show false=true from hs) fg
 |_=>cases y<;>exact absurd (show false=true from hs) fg
theorem dB:OpR X (compareOp .NotEq) rNe:=by
 intro pins s G H x y v u Q I rx ry h;obtain⟨hs,q⟩:=h
 cases x with
 |non=>
  cases rx
  cases y with
  |non=>cases ry;exact DJ (B5 I q (by simp))
  |bl j=>cases ry;exact DL (B5 I q (by simp))
  |int j=>obtain⟨t',rfl⟩:=ry;exact DK (B5 I q (by simp))
  |str j=>obtain⟨t',rfl⟩:=ry;exact DI (B5 I q (by simp))
  |_=>exact absurd (show false=true from hs) fg
 |bl i=>
  cases rx
  cases y with
  |non=>cases ry;exact DN (B5 I q (by simp))
  |bl j=>cases ry;exact ne_bool (B5 I q (congrArg not qF))
  |str j=>obtain⟨t',rfl⟩:=ry;exact CA (B5 I q (by simp))
  |_=>exact absurd (show false=true from hs) fg
 |int i=>
  obtain⟨t,rfl⟩:=rx
  cases y with
  |non=>cases ry;exact DM (B5 I q (by simp))
  |int j=>obtain⟨t',rfl⟩:=ry;exact ne_int (B5 I q (congrArg not jX))
  |str j=>obtain⟨t',rfl⟩:=ry;exact BZ (B5 I q (by simp))
  |_=>exact absurd (show false=true from hs) fg
 |str i=>
  obtain⟨t,rfl⟩:=rx
  cases y with
  |non=>cases ry;exact DH (B5 I q (by simp))
  |bl j=>cases ry;exact BY (B5 I q (by simp))
  |int j=>obtain⟨t',rfl⟩:=ry;exact BX (B5 I q (by simp))
  |str j=>obtain⟨t',rfl⟩:=ry;exact ne_str (B5 I q (congrArg not lL))
  |_=>exact absurd (show false=true from hs) fg
 |byt i=>
  obtain⟨t,rfl⟩:=rx
  cases y with
  |byt j=>obtain⟨t',rfl⟩:=ry;exact PySem.W.ne_bytes (B5 I q (congrArg not iW))
  |_=>exact absurd (show false=true from hs) fg
 |_=>cases y<;>exact absurd (show false=true from hs) fg
theorem Gc:OpR X (compareOp .Lt) (rI0 λi j=>.bl (decide (i<j))):=vN λ_ _ _ _ _ _ _ q=>lt_int q
theorem Y1:OpR X (compareOp .LtE) (rI0 λi j=>.bl (decide (i<=j))):=vN λ_ _ _ _ _ _ _ q=>le_int q
theorem Jr:OpR X (compareOp .Gt) (rI0 λi j=>.bl (decide (j<i))):=vN λ_ _ _ _ _ _ _ q=>gt_int q
theorem Oi:OpR X (compareOp .GtE) (rI0 λi j=>.bl (decide (j<=i))):=vN λ_ _ _ _ _ _ _ q=>ge_int q
theorem qT (b:gd)(h:autoParam (op≠.In) QF)(h2:autoParam (op≠.NotIn) QF):behindInMarks op b=false:=by
 have e1:(op==ER)=false:=by cases op<;>first|rfl|exact absurd rfl h
 have e2:(op==BR)=false:=by cases op<;>first|rfl|exact absurd rfl h2
 cases b<;>simp[behindInMarks,e1,e2]
theorem vR {r:R2}(ho:OpR X (compareOp op) r)(ha:PE X a ta)(hb:PE X b tb)(hm:behindInMarks op b=false):PE X (.Compare a [op] [b] pos) (tOp r ta tb):=by
 k_in;exact wpAny_Compare1 (zV ha hb I h λv u s2 x y H2 I2 rx ry q=>ho pins s2 G H2 x y v u Q I2 rx ry q) hm
def rP (t:TE):TT:=λG H Q=>t G H λx H'=>∃k,x=.bl k/\Q k H'
theorem R6 {r:R2}(ho:OpR X (compareOp op) r)(ha:PE X a ta)(hb:PE X b tb)(hm:behindInMarks op b=false):PT X (.Compare a [op] [b] pos) (rP (tOp r ta tb)):=by
 k_in;refine wpAny_isTrue_Compare1 (thE ha I h λv s1 x H1 I1 r1 q1=>thE hb I1 q1 λu s2 y H2 I2 r2 q2=>
  thn (ho pins s2 G H2 x y v u _ I2 r1 r2 q2) λc s3 ⟨z,H3,I3,r3,k,e,q3⟩=>?_) hm
 subst e;cases r3;exact km ⟨H3,I3,q3⟩
def tF (r r':R2)(ta tb tc:TE):TE:=λG H Q=>ta G H λx H1=>tb G H1 λy H2=>r x y H2 λz H3=>∃k,z=.bl k /\
 (if k=true then tc G H3 λw' H4=>r' y w' H4 Q else Q (.bl false) H3)
theorem Z5 {op':rf}{r r':R2}(ho:OpR X (compareOp op) r)(ho':OpR X (compareOp op') r')(ha:PE X a ta)(hb:PE X b tb)(hc:PE X c tc)
  (hm:lastMarks [op,op'] [b,c]=false:=by with_unfolding_all rfl):PE X (.Compare a [op,op'] [b,c] pos) (tF r r' ta tb tc):=by
 k_in;refine Compare_chain (thE ha I h λv s1 x H1 I1 r1 q1=>chain_link (thE hb I1 q1 λu s2 y H2 I2 r2 q2=>
  thn (ho pins s2 G H2 x y v u _ I2 r1 r2 q2) λd s3 ⟨z,H3,I3,r3,k,e,q3⟩=>?_)) hm
 subst e;cases r3;refine km ?_
 cases k with
 |false=>exact ite_ff ⟨.bl false,H3,I3,rfl,q3⟩
 |true=>exact ite_tt (chain_last (thn (hc pins s3 G H3 _ I3 q3) λw' s4 ⟨z',H4,I4,r4,q4⟩=>ho' pins s4 G H4 y z' u w' Q I4 r2 r4 q4))
theorem Ng:(sizeLine:Nat)<2 ^ 63:=by rw[z7];decide
theorem Gq:OpR X (binaryOp .Add) (λx y H Q=>∃i j,x=.str i/\y=.str j/\i.length+j.length<=sizeLine/\Q (.str (i++j)) H):=by
 intro pins s G H x y v u Q I rx ry h;obtain⟨i,j,rfl,rfl,hz,q⟩:=h;obtain⟨t,rfl⟩:=rx;obtain⟨t',rfl⟩:=ry;exact add_str (λt' tk=>⟨.str (i++j),H,I.tok _,⟨_,rfl⟩,q⟩) hz
theorem Fj {x:V}(r:Bj [x] us):∃u,us=[u]/\By x u:=by
 cases r with
 |cons r1 r2=>cases r2;exact⟨_,rfl,r1⟩
theorem Vf {x:V}(r:Bj [x,y] us):∃u w',us=[u,w']/\By x u/\By y w':=by
 cases r with
 |cons r1 r2=>
  cases r2 with
  |cons r3 r4=>cases r4;exact⟨_,_,rfl,r1,r3⟩
theorem Sh:Hh X (.builtin "abs") (λxs H Q=>∃i,xs=[.int i]/\Q (.int (if i<0 then -i else i)) H):=by
 intro pins s G H xs us Q I r h;obtain⟨i,rfl,q⟩:=h;obtain⟨u,rfl,t,rfl⟩:=Fj r;exact call_abs_int λu tk=>⟨.int (if i<0 then -i else i),H,I.tok _,⟨_,rfl⟩,q⟩
theorem Vp (hc:X.calm=true):Hh X (.builtin "max") (λxs H Q=>∃i j,xs=[.int i,.int j]/\Q (.int (if j>i then j else i)) H):=by
 intro pins s G H xs us Q I r h;obtain⟨i,j,rfl,q⟩:=h;obtain⟨u,w',rfl,⟨t,rfl⟩,⟨t',rfl⟩⟩:=Vf r;refine max_two_ints (I.ok.hd hc) λh' tk k=>⟨_,H,I.kept k,?_,q⟩
 by_cases hj:j>i
 ·rw[if_pos hj,if_pos hj];exact⟨_,rfl⟩
 ·rw[if_neg hj,if_neg hj];exact⟨_,rfl⟩
theorem Vx (hc:X.calm=true):Hh X (.builtin "min") (λxs H Q=>∃i j,xs=[.int i,.int j]/\Q (.int (if j<i then j else i)) H):=by
 intro pins s G H xs us Q I r h;obtain⟨i,j,rfl,q⟩:=h;obtain⟨u,w',rfl,⟨t,rfl⟩,⟨t',rfl⟩⟩:=Vf r;refine min_two_ints (I.ok.hd hc) λh' tk k=>⟨_,H,I.kept k,?_,q⟩
 by_cases hj:j<i
 ·rw[if_pos hj,if_pos hj];exact⟨_,rfl⟩
 ·rw[if_neg hj,if_neg hj];exact⟨_,rfl⟩
theorem Hr:Hh X (.type "int") (λxs H Q=>(∃i,xs=[.int i]/\Q (.int i) H)\/∃k,xs=[.bl k]/\Q (.int (if k then 1 else 0)) H):=by
 intro pins s G H xs us Q I r h;rcases h with⟨i,rfl,q⟩|⟨k,rfl,q⟩
 ·obtain⟨u,rfl,t,rfl⟩:=Fj r
  exact call_int_int ⟨.int i,H,I,⟨_,rfl⟩,q⟩
 ·obtain⟨u,rfl,r1⟩:=Fj r
  cases r1;exact call_int_bool ⟨.int (if k then 1 else 0),H,I.tok _,⟨_,rfl⟩,q⟩
end
structure fX (h:gv) (x dx C:df) (mA:Za2):Prop where
 obj:h.get? x=some (instObj C dx)
 ns:h.Ns1 dx mA
 ne:dx≠x
theorem nN {mA:Za2}(n:h.Ns1 dx mA):∃od,h.get? dx=some od/\∀name,lookIn name od=some (mA name):=by
 obtain⟨o,es,ep,ho,hd,hk,_,hm⟩:=n;refine⟨o,ho,λname=>?_⟩;have e:=hm name;unfold nsFind findBy at e;rw[<-Array.find?_toList] at e;unfold lookIn;rw[hd];dsimp only;split
 ·rename_i y q
  rw[q] at e;exact congrArg some e
 ·rename_i q
  rw[q] at e;have a:es.toList.any (·.refKey)=false:=by
   rw[List.any_eq_false];intro y hy;obtain⟨z,t,hkey⟩:=hk y (Array.mem_toList_iff.mp hy);simp[FR,hkey]
  have a':¬ es.toList.any (·.refKey)=true:=by rw[a];exact fg
  rw[if_neg a'];exact congrArg some e
theorem fX.look {x:df}{mA:Za2}(I:fX h x dx C mA):∃od,PySem.W.InstAt h x (instObj C dx) C (some od)/\∀name,lookIn name od=some (mA name):=
 let ⟨od,ho,hl⟩:=nN I.ns
 ⟨od,⟨I.obj,rfl,rfl,ho⟩,hl⟩
section
variable {prog:fc} {w:ge} {A:gt} {E:Za0} {s:d4} {K:da} {x dx C f:df} {mA:Za2} {name:Str} {v:d0}
theorem uI {expr:Bool}{Q:Za0}(X:K.In s.heap)(I:fX s.heap x dx C mA)(hg:pr K C name=true)(hh:rj K C=true)
  (ha:i8 K (.ref C) name=some none)(hv:mA name=some v)(hv':yh v=true)(h:Q v { s with toks:=s.toks+1 }) :
  wpAny (model prog w) A (getAttr (.ref x) name expr) Q E s:=by
 obtain⟨od,J,hl⟩:=I.look;exact PySem.W.get_value X J (qo hg).1 (PySem.W.findObj_own hh ha rfl (by rw[hl,hv])) hv' h
theorem sZ {Q:d0×Za3->d4->Prop}(X:K.In s.heap)(I:fX s.heap x dx C mA)(hg:pr K C name=true)
  (hf:i8 K (.ref C) name=some (some (.ref f)))(ht:oq K (.ref f)=true)(hv:mA name=none)(h:Q (.ref f,[.ref x]) s) :
  wpAny (model prog w) A (getMethod (.ref x) name pl) Q E s:=by
 obtain⟨od,J,hl⟩:=I.look;exact PySem.W.method_fn X J (qo hg).1 (qo hg).2 hf (beq_iff_eq.mp ht) (by show(lookIn name od).map (·.isSome)=some false;rw[hl,hv];rfl) h
theorem tV {ns:Za6}{Q:Unit->d4->Prop}(X:K.In s.heap)(I:fX s.heap x dx C mA)
  (hs:i8 K (.ref C) "__setattr__"=some (some (.builtin "object.__setattr__")))(hp:xp K C=true)(ht:sv K C name=some none)(hh:rj K C=true)
  (hw:wn mA ns)(hsz:ns.length<=sizeLine)
  (h:∀h',fX h' x dx C (λy=>if y=name then some v else mA y)->sj dx s.heap h'->Q () { s with heap:=h',toks:=s.toks+2 }) :
  wpAny (model prog w) A (setAttr (.ref x) name v) Q E s:=by
 obtain⟨od,J,hl⟩:=I.look;refine PySem.W.set_plain X J hs (PySem.W.osa_open (s:={ s with toks:=s.toks+1 }) (r:=none) X J hp ht λb=>?_);obtain⟨cd,hc,hd'⟩:=PySem.W.any_some hh;have hx:s.heap.get? x=some ⟨.ref C,some dx,.plain,#[]⟩:=I.obj;refine wpAny_bind (em (wpAny_bind (wpAny_bind (EG hx (wpAny_bind (BW (s:={ s with toks:=s.toks+1 }) (PySem.W.looks_clsIn X hc) ?_))))));rw[hd'];refine em (a:=some dx) (wpAny_bind (em (wpAny_bind ?_)));refine wpAny_nsSet1 (s:={ s with toks:=s.toks+1 }) I.ns λh' hn2 hs2=>?_;obtain⟨oD,esD,epD,hoD,hdD,hcD⟩:=hn2.count (DD name v hw);refine wpAny_bind (wpAny_lookBehind hoD (by rw[hdD];exact pastItsLine_dict (gl hcD (by rw[d8];lia))) ?_);exact em (h _ ⟨(hs2.2 _ (me I.ne)).trans I.obj,hn2,I.ne⟩ hs2)
theorem oX {R:ug->d4->Prop}{kw:List (Str×d0)}(X:K.In s.heap)(hm:yr K C=true)
  (hi:i8 K (.ref C) "__init__"=some (some (.ref f)))(hf:PySem.W.typeIn K (.ref f)=some (.type "function"))
  (h:codeAny (model prog w) (A.under (.builtin "type.__call__" ⟨.ref C::vs,kw⟩)) (.call (.ref f) ⟨.ref (s.heap.objs.size+1)::vs,kw⟩) (PySem.W.InitBack (s.heap.objs.size+1) R)
   { s with heap:=(s.heap.push emptyDict).push (instObj C s.heap.objs.size) }) :
  codeAny (model prog w) A (.call (.ref C) ⟨vs,kw⟩) R s:=by
 obtain⟨hh,g,d,t,os⟩:=s;exact PySem.W.make_core (PySem.W.makes_of X hm) (PySem.W.looks_findIn X hi) (λself=>PySem.W.bind_fn X self hf) (.inl rfl) h
end
def De (f : Str)(v : V) : List (Str × V)->List (Str × V)
  | [] => [(f, v)]
  | (g, x) :: r => if g = f then (g, v) :: r else (g, x) :: De f v r
theorem P5 (f g:Str)(v:V):∀ fs:List (Str×V),(De f v fs).lookup g=if g=f then some v else fs.lookup g
  | [] => by
    show mh g [(f, v)] = _
    by_cases h : g = f
    · have hb : (g == f) = true := beq_iff_eq.mpr h
      simp only [mh, hb, if_pos h]
    · have hb : (g == f) = false := beq_eq_false_iff_ne.mpr h
      simp only [mh, hb, if_neg h]
  | (k, x) :: r => by
    have ih := P5 f g v r;rw [show De f v ((k, x) :: r) = (if k = f then (k, v) :: r else (k, x) :: De f v r) from rfl]
    by_cases hk : k = f
    · rw [if_pos hk]
      by_cases h : g = k
      · have hb : (g == k) = true := beq_iff_eq.mpr h
        simp only [mh, hb, if_pos (h.trans hk)]
      · have hb : (g == k) = false := beq_eq_false_iff_ne.mpr h
        simp only [mh, hb, if_neg (λe : g = f => h (e.trans hk.symm))]
    · rw [if_neg hk]
      by_cases h : g = k
      · have hb : (g == k) = true := beq_iff_eq.mpr h
        simp only [mh, hb, if_neg (λe : g = f => hk (h.symm.trans e))]
      · have hb : (g == k) = false := beq_eq_false_iff_ne.mpr h
        simp only [mh, hb];exact ih
theorem O0 (f:Str)(v:V):∀ fs:List (Str×V),f∈(De f v fs).map (·.1)/\∀ g,g∈fs.map (·.1)->g∈(De f v fs).map (·.1)
  | [] => ⟨by simp [De], λg h => by simp at h⟩
  | (k, x) :: r => by
    obtain ⟨i1, i2⟩ := O0 f v r;rw [show De f v ((k, x) :: r) = (if k = f then (k, v) :: r else (k, x) :: De f v r) from rfl]
    by_cases hk : k = f
    · rw [if_pos hk]
      subst hk;exact ⟨by simp, λg h => by simpa using h⟩
    · rw [if_neg hk]
      refine ⟨?_, λg h => ?_⟩
      · rw [jd]
        exact gy _ i1
      · rw [jd] at h ⊢
        rcases fu.mp h with e | e
        · exact fu.mpr (.inl e)
        · exact gy _ (i2 g e)
theorem Rb (f:Str)(v:V):∀ fs:List (Str×V),(De f v fs).length<=fs.length+1
  | [] => by simp [De]
  | (k, x) :: r => by
    have ih := Rb f v r;rw [show De f v ((k, x) :: r) = (if k = f then (k, v) :: r else (k, x) :: De f v r) from rfl]
    by_cases hk : k = f
    · rw [if_pos hk, d8, d8]; lia
    · rw [if_neg hk, d8, d8]; lia
theorem Ur.some_of {v:V}{o:Za7}(r:Ur (some v) o):∃u,o=some u/\By v u:=by
 cases o with
 |none=>exact(show False from r).elim
 |some u=>exact⟨u,rfl,r⟩
theorem Ur.none_of {o:Za7}(r:Ur none o):o=none:=by
 cases o with
 |none=>rfl
 |some u=>exact(show False from r).elim
theorem nB {v:V}{u:d0}(r:By v u):yh u=true:=by
 cases v with
 |non=>cases(show u=k7 from r);rfl
 |bl b=>cases(show u=uv b from r);rfl
 |int i=>obtain⟨t,e⟩:=(show ∃t,u=l7 i t from r);cases e;rfl
 |str x=>obtain⟨t,e⟩:=(show ∃t,u=qu x t from r);cases e;rfl
 |byt b=>obtain⟨t,e⟩:=(show ∃t,u=BK b t from r);cases e;rfl
 |flt b=>obtain⟨t,e⟩:=(show ∃t,u=xj b t from r);cases e;rfl
 |ref a=>cases(show u=ik a from r);rfl
 |ty n=>cases(show u=ij n from r);rfl
section
variable {P:fc} {w:ge} {H H':Hp} {h h':gv} {a C dx:df} {fs fs':List (Str×V)}
theorem Rv (hok:HOk P w H h)(e:H a=some (.ins C dx fs)):∃mA,fX h a dx C mA/\(∀f,Ur (fs.lookup f) (mA f))/\wn mA (fs.map (·.1))/\fs.length<=1000/\H dx=some (.own a):=by
 obtain⟨d,z,ne,ob,mA,n,r,q⟩:=(show Ee P w H h a (.ins C dx fs) from hok a _ e);exact⟨mA,⟨ob,n,ne⟩,r,q,z,d⟩
end
structure Cls (K:da) (C:df):Prop where
 pg:pr K C uf=true
 hd:rj K C=true
 po:xp K C=true
 sa:i8 K (.ref C) "__setattr__"=some (some (.builtin "object.__setattr__"))
theorem Cls.get {K:da}(c:Cls K C)(f:Str):pr K C f=true:=c.pg
def Cn (K:da)(C:df)(f:Str):Prop:=i8 K (.ref C) f=some none
theorem Cn.taker {K:da}{f:Str}(n:Cn K C f):sv K C f=some none:=by
 unfold sv;rw[show i8 K (.ref C) f=some none from n];rfl
structure nG (K:da) (C:df) (m:Str) (f:df):Prop where
 at_:i8 K (.ref C) m=some (some (.ref f))
 fn:oq K (.ref f)=true
 kp:jf K (.ref f)=true
section
variable {X:Cx} {pins:Za1} {G:St} {H:Hp} {s:d4} {a C dx:df} {fs:List (Str×V)} {f:Str} {v:V} {A:gt} {E:Za0}
theorem gQ {b:Bool}{Q:Za0}(I:Inv X pins G H s)(e:H a=some (.ins C dx fs))(c:Cls X.K C)(n:Cn X.K C f)(l:fs.lookup f=some v)
  (h:∀u s',Inv X pins G H s'->By v u->Q u s'):wpAny (model X.prog X.w) A (getAttr (.ref a) f b) Q E s:=by
 obtain⟨mA,O,r,_,_,_⟩:=Rv I.hok e;obtain⟨u,hu,ru⟩:=Ur.some_of (v:=v) (o:=mA f) (by rw[<-l];exact r f);exact uI I.kIn O (c.get f) c.hd n hu (nB ru) (h u _ (I.tok _) ru)
theorem Ke {m:Str}{g:df}{Q:d0×Za3->d4->Prop}(I:Inv X pins G H s)(e:H a=some (.ins C dx fs))(c:Cls X.K C)(k:nG X.K C m g)(l:fs.lookup m=none)
  (h:Q (.ref g,[.ref a]) s):wpAny (model X.prog X.w) A (getMethod (.ref a) m pl) Q E s:=by
 obtain⟨mA,O,r,_,_,_⟩:=Rv I.hok e;have hn:mA m=none:=Ur.none_of (by rw[<-l];exact r m);exact sZ I.kIn O (c.get m) k.at_ k.fn hn h
theorem fV {u:d0}{Q:Unit->d4->Prop}(I:Inv X pins G H s)(e:H a=some (.ins C dx fs))(c:Cls X.K C)(n:Cn X.K C f)(hl:fs.length<1000)(ry:By y u)
  (h:∀s',Inv X pins G (upd H a (.ins C dx (De f y fs))) s'->Q () s'):wpAny (model X.prog X.w) A (setAttr (.ref a) f u) Q E s:=by
 obtain⟨mA,O,r,wi,_,ho⟩:=Rv I.hok e;have hz:(fs.map (·.1)).length<=sizeLine:=by rw[c8,z7];lia
 refine tV I.kIn O c.sa c.po n.taker c.hd wi hz λh' O' sb=>h _ ?_;have hd:∃o,h'.get? dx=some o:=let ⟨o,_,_,e',_⟩:=O'.ns;⟨o,e'⟩;refine I.write (x:=a) (e:=dx) (by rw[e];exact pf) (.inr ho) (λb q hb z=>(sb.2 b hb).trans z) hd ?_;refine⟨by rw[Ai O.ne];exact ho,?_,O.ne,O'.obj,_,O'.ns,λg=>?_,λg hg=>?_⟩
 ·have:=Rb f y fs;lia
 ·show Ur ((De f y fs).lookup g) (if g=f then some u else mA g)
  rw[P5]
  by_cases q:g=f
  ·rw[if_pos q,if_pos q];exact ry
  ·rw[if_neg q,if_neg q];exact r g
 ·by_cases q:g=f
  ·rw[q];exact(O0 f y fs).1
  ·refine(O0 f y fs).2 g (wi g λz=>hg ?_)
   show(if g=f then some u else mA g)=none;rw[if_neg q];exact z
theorem Inv.made (I:Inv X pins G H s):Inv X pins G (upd (upd H s.heap.objs.size (.own (s.heap.objs.size+1))) (s.heap.objs.size+1) (.ins C s.heap.objs.size []))
  { s with heap:=(s.heap.push emptyDict).push (instObj C s.heap.objs.size) }:=by
 have e1:(s.heap.push emptyDict).get? s.heap.objs.size=some emptyDict:=fi s.heap rfl;have e2:((s.heap.push emptyDict).push (instObj C s.heap.objs.size)).get? (s.heap.objs.size+1)=some (instObj C s.heap.objs.size):=by
  have:=fi (s.heap.push emptyDict) (o:=instObj C s.heap.objs.size) rfl
  rwa [ky] at this
 have e3:(s.heap.push emptyDict).Ns s.heap.objs.size (λ_=>none):=⟨emptyDict,#[],_,e1,rfl,(λe he=>absurd he (by simp)),λ_=>rfl⟩;have I1:=I.laid (a:=s.heap.objs.size) (o:=.own (s.heap.objs.size+1)) (h':=s.heap.push emptyDict) (t':=s.toks) (λb u q=>dq _ q) (db _) ⟨_,e1⟩;refine I1.laid (a:=s.heap.objs.size+1) (o:=.ins C s.heap.objs.size []) (t':=s.toks) (λb u q=>dq _ q) (ll (ky _ _)) ?_;have ne:s.heap.objs.size≠s.heap.objs.size+1:=fk (n9 _);refine⟨by rw[Ai ne,Ac],e9 _,ne,e2,λ_=>none,(Heap.Ns1.of_empty e3).at λo q=>dq _ q,λ_=>pf,λy hy=>absurd rfl hy⟩
theorem uA {prog:fc}{e:gd}{f:Str}{Q:Za0}(hb:attributeBase e f env (eval e env)=eval e env)
  (h:wpAny (model prog w) A (eval e env) (λo HB=>wpAny (model prog w) A (getAttr o f true) Q E HB) E s):wpAny (model prog w) A (eval (.Attribute e f pos) env) Q E s:=
 Attribute_any_ h (by rw[arm_eval_Attribute,hb])
end
def vV (K:da)(ta:TE)(f:Str):TE:=λG H Q=>ta G H λx H1=>∃a C dx fs v,x=.ref a/\H1 a=some (.ins C dx fs)/\Cls K C/\Cn K C f/\fs.lookup f=some v/\Q v H1
def xK (K:da)(ta tv:TE)(f:Str):TS:=λD G H=>tv G H λy H1=>ta G H1 λx H2=>∃a C dx fs,x=.ref a/\H2 a=some (.ins C dx fs)/\Cls K C/\Cn K C f/\fs.length<1000 /\
 D.nx G (upd H2 a (.ins C dx (De f y fs)))
section
variable {X:Cx} {o e value:gd} {f:Str} {pos pos' tpos:Pos} {ta tv:TE}
theorem rZ (he:PE X e ta)(hb:attributeBase e f X.env (eval e X.env)=eval e X.env):PE X (.Attribute e f pos) (vV X.K ta f):=by
 k_in;refine uA hb (thE he I h λu s1 x H1 I1 rx ⟨a,C,dx,fs,v,ex,ea,c,n,l,q⟩=>?_);subst ex;obtain rfl:u=ik a:=rx;exact gQ I1 ea c n l λu' s2 I2 ru=>⟨v,H1,I2,ru,q⟩
theorem xM (ha:PE X o ta)(hv:PE X value tv)(hs:swapsWith value (some (.Attribute o f pos')) pos.line X.env=pure false):PS X (.Assign [.Attribute o f pos'] value pos) (xK X.K ta tv f):=by
 k_end;refine plainObj_wpAny_Assign_Attribute (thE hv I h λu s1 y H1 I1 ry q=>thE ha I1 q λov s2 x H2 I2 rx ⟨a,C,dx,fs,ex,ea,c,n,l,q2⟩=>?_) hs;subst ex;obtain rfl:ov=ik a:=rx;exact fV I2 ea c n l ry λs3 I3=>⟨G,_,I3,q2⟩
theorem wO {m:Str}{apos:Pos}{args:List gd}{G:St}{Q:Za0}(he:PE X e te)(I:Inv X pins G H s)
  (h:te G H λx H1=>∃a C dx fs g,x=.ref a/\H1 a=some (.ins C dx fs)/\Cls X.K C/\nG X.K C m g/\fs.lookup m=none /\
   ∀s1,Inv X pins G H1 s1->wpAny (model X.prog X.w) X.A (callWith pos (.ref g) [.ref a] (backTo pos (starEach args X.env)) (backToKw pos (keywordEach [] X.env))) Q X.xe s1)
  (ht:eval (.Call (.Attribute e m apos) args [] pos) X.env=(do
   let ov <-eval e X.env
   standAt apos.atName
   let (f,first) <-holding [ov] (getMethod ov m pl)
   callWith pos f first (backTo pos (starEach args X.env)) (backToKw pos (keywordEach [] X.env)))) :
  wpAny (model X.prog X.w) X.A (eval (.Call (.Attribute e m apos) args [] pos) X.env) Q X.xe s:=by
 refine mw (pl:=pl) (thE he I h λu s1 x H1 I1 rx ⟨a,C,dx,fs,g,ex,ea,c,k,l,q⟩=>?_) ht;subst ex;obtain rfl:u=ik a:=rx;exact Ke I1 ea c k l (q s1 I1)
end
section
variable {X:Cx} {pins:Za1} {G:St} {H:Hp} {s:d4} {A:gt} {E:Za0} {Q:Za0} {c:d0} {b:Bool}
inductive O8 (K:da) (H:Hp):V->d0->Prop where
 |non:O8 K H .non (.type "NoneType")
 |bl (x:Bool):O8 K H (.bl x) (.type "bool")
 |int (i:Int):O8 K H (.int i) (.type "int")
 |str (x:Str):O8 K H (.str x) (.type "str")
 |flt (x:UInt64):O8 K H (.flt x) (.type "float")
 |lst {a:df} {xs:List V} (e:H a=some (.lst xs)):O8 K H (.ref a) (.type "list")
 |frz {a:df} {o:Obj} {xs:List V} (e:H a=some (.frz o (.lst xs))):O8 K H (.ref a) (.type "list")
 |tup {a:df} {xs:List V} (e:H a=some (.tup xs)):O8 K H (.ref a) (.type "tuple")
 |dK {a:df} {kvs:List (Key×V)} (e:H a=some (.dK kvs)):O8 K H (.ref a) (.type "dict")
 |dT {a:df} {kvs:List (List Key×V)} (e:H a=some (.dT kvs)):O8 K H (.ref a) (.type "dict")
 |ins {a C dx:df} {fs:List (Str×V)} (e:H a=some (.ins C dx fs)) (cl:Cls K C) (ha:i8 K (.ref C) "__class__"=some (some (.builtin "object.__class__")))
   (hn:PySem.W.specialIn K (.builtin "object.__class__") "__get__"=some (some (.builtin "getset_descriptor.__get__"))) (htk:PySem.W.takesIn K (.builtin "object.__class__")=some true)
   (hm:PySem.W.mroIn K C (.type "object")=some true):O8 K H (.ref a) (.ref C)
theorem mK {x:V}{u t:d0}(I:Inv X pins G H s)(rx:By x u)(ty:O8 X.K H x t)(e:kitOne X.K t c=some b)(h:∀tk,Q (.bool b) { s with toks:=tk }) :
  wpAny (model X.prog X.w) A (call (.builtin "isinstance") [u,c]) Q E s:=by
 cases ty with
 |non=>cases(show u=k7 from rx);exact n6 PySem.W.kitx_none I.kIn pf e (λz=>nomatch z) h
 |bl y=>cases(show u=uv y from rx);exact n6 PySem.W.kitx_bool I.kIn pf e (λz=>nomatch z) h
 |int i=>obtain⟨t,q⟩:=(show ∃t,u=l7 i t from rx);cases q;exact n6 PySem.W.kitx_int I.kIn pf e (λz=>nomatch z) h
 |str y=>obtain⟨t,q⟩:=(show ∃t,u=qu y t from rx);cases q;exact n6 PySem.W.kitx_str I.kIn pf e (λz=>nomatch z) h
 |flt y=>obtain⟨t,q⟩:=(show ∃t,u=xj y t from rx);cases q;exact n6 PySem.W.kitx_float I.kIn pf e (λz=>nomatch z) h
 | @lst a xs ea=>
  cases(show u=ik a from rx);obtain⟨_,_,n,_,h1⟩:=(show Ee X.prog X.w H s.heap a (.lst xs) from I.hok a _ ea);exact n6 xq I.kIn ⟨_,h1,rfl⟩ e (λz=>nomatch z) h
 | @frz a ob xs ea=>
  cases(show u=ik a from rx);obtain⟨_,_,_,n,_,h1⟩:=(show Ee X.prog X.w H s.heap a (.frz ob (.lst xs)) from I.hok a _ ea);exact n6 xq I.kIn ⟨_,h1,rfl⟩ e (λz=>nomatch z) h
 | @tup a xs ea=>
  cases(show u=ik a from rx);obtain⟨_,_,_,p⟩:=(show Ee X.prog X.w H s.heap a (.tup xs) from I.hok a _ ea);obtain⟨o,h1,h2,_⟩:=p;exact n6 PySem.W.kitx_tuple I.kIn ⟨o,h1,h2⟩ e (λz=>nomatch z) h
 | @dK a kvs ea=>
  cases(show u=ik a from rx);obtain⟨_,_,vs,_,p⟩:=(show Ee X.prog X.w H s.heap a (.dK kvs) from I.hok a _ ea);obtain⟨o,es,ep,h1,h2,_⟩:=p;exact n6 xr I.kIn ⟨o,h1,h2.1⟩ e (λz=>nomatch z) h
 | @dT a kvs ea=>
  cases(show u=ik a from rx);obtain⟨_,_,xs,_,o,es,ep,h1,h2,_⟩:=(show Ee X.prog X.w H s.heap a (.dT kvs) from I.hok a _ ea);exact n6 xr I.kIn ⟨o,h1,h2.1⟩ e (λz=>nomatch z) h
 | @ins a C dx fs ea cl ha hn htk hm=>
  cases(show u=ik a from rx);obtain⟨mA,O,_⟩:=Rv I.hok ea;obtain⟨od,J,_⟩:=O.look;exact n6 (PySem.W.kitx_own (cl.get _) cl.hd ha hn htk hm) I.kIn J e (λz=>nomatch z) h
end
structure Ck (k:Nat) (A:gt):Prop where
 hd:A.handled=none
 dp:A.depth+3*k+5<recursionLimit
 un:A.units+16*k+200<cLine
theorem Ck.mono {j k:Nat}(r:Ck k A)(h:j<=k):Ck j A:=⟨r.hd,by have:=r.dp;lia,by have:=r.un;lia⟩
theorem Ck.m {j k:Nat}(r:Ck k A)(h:autoParam (j<=k) QF):Ck j A:=r.mono h
theorem Ck.deeper {k:Nat}(r:Ck (k+1) A)(env:Env):Ck k (A.deeper env):=
 ⟨r.hd,by have:=r.dp;show A.depth+1+3*k+5<_;lia,by have:=r.un;show A.units+3+16*k+200<_;lia⟩
theorem fF {kw:List (Str×d0)}:(A.under (.builtin "type.__call__" ⟨.ref C::us,kw⟩)).depth=A.depth+1:=by
 first|rfl|simp[wl,Code.weight,Code.isCreation,Code.isGuard,Code.isCaller,CU,xf,guardIds]
theorem gF {kw:List (Str×d0)}:(A.under (.builtin "type.__call__" ⟨.ref C::us,kw⟩)).units=A.units+1:=by
 first|rfl|simp[wl,Code.cUnits,CU,xf]
theorem Ck.make {k:Nat}(r:Ck (k+1) A)(C:df)(us:Za3)(kw:List (Str×d0)):Ck k (A.under (.builtin "type.__call__" ⟨.ref C::us,kw⟩)):=
 ⟨r.hd,by have:=r.dp;rw[fF];lia,by have:=r.un;rw[gF];lia⟩
theorem Ck.depth {k:Nat}(r:Ck k A):A.depth<recursionLimit:=by have:=r.dp;lia
theorem Ck.units {k:Nat}(r:Ck k A):A.units+64<cLine:=by have:=r.un;lia
def T7:TA:=λ_ H Q=>Q [] H
def Vq (ta:TE)(tr:TA):TA:=λG H Q=>ta G H λx H1=>tr G H1 λxs H2=>Q (x::xs) H2
section
variable {X:Cx} {e:gd} {es:List gd} {te:TE} {t:TA} {pos:Pos}
theorem Aa:PA X [] T7:=λ_ _ _ _ H Q I h=>pq ⟨[],H,I,.nil,h⟩
theorem kG (ha:PE X e te)(hr:PA X es t)(hs:autoParam (starEach (e::es) X.env=(false,eval e X.env)::starEach es X.env) QD):PA X (e::es) (Vq te t):=by
 intro pos pins s G H Q I h;rw[hs];show wpAny _ _ (spliced ((false,eval e X.env)::backTo pos (starEach es X.env))) _ _ s;refine lf (thE ha I h λu s1 x H1 I1 r1 q1=>?_);exact thA hr I1 q1 λus s2 xs H2 I2 r2 q2=>⟨x::xs,H2,I2,.cons r1 r2,q2⟩
def Aay (t:TA):TE:=λG H Q=>t G H λxs H1=>xs.length<=sizeLine/\∀p,H1 p=none->Q (.ref p) (upd H1 p (.tup xs))
def xX (t:TA):TE:=λG H Q=>t G H λxs H1=>xs.length<=sizeLine/\∀p,H1 p=none->Q (.ref p) (upd H1 p (.lst xs))
theorem Mn {x1}(h:PA X es t):PE X (.Tuple es x1 pos) (Aay t):=by
 intro pins s G H Q I hq;refine wpAny_Tuple_spliced (thA h I hq λus s1 xs H1 I1 r ⟨z,q⟩=>⟨by rw[<-r.length];exact z,?_⟩);have hf:H1 s1.heap.objs.size=none:=I1.hok.fresh (db _);refine⟨.ref s1.heap.objs.size,upd H1 s1.heap.objs.size (.tup xs),I1.laid (t':=s1.toks) (λb u e=>dq _ e) (db _) ?_,rfl,q _ hf⟩;exact⟨z,us,r,⟨_,fi _ rfl,rfl,_,rfl⟩⟩
theorem Bo (h:PA X es t):PE X (.List es pos) (xX t):=by
 intro pins s G H Q I hq;refine wpAny_List_spliced (thA h I hq λus s1 xs H1 I1 r ⟨z,q⟩=>⟨by rw[<-r.length];exact z,?_⟩);have hf:H1 s1.heap.objs.size=none:=I1.hok.fresh (db _);refine⟨.ref s1.heap.objs.size,upd H1 s1.heap.objs.size (.lst xs),I1.laid (t':=s1.toks) (λb u e=>dq _ e) (db _) ?_,rfl,q _ hf⟩;exact⟨z,us,0,r,fi _ rfl⟩
end
abbrev Sp:=List V->Hp->VK->XK->Prop
abbrev CXT:=List Env->Hp->d4->XK->Za0
structure Uo (P:fc) (w:ge) (K:da) (mg:Za2) (base:gv) (A:gt) (outer:List Env) (s:d4) (H:Hp):Prop where
 frames:A.frames=some outer
 mod:Mod K mg base
 bs:∀b o,base.get? b=some o->s.heap.get? b=some o/\H b=none
 bsz:base.objs.size<=s.heap.objs.size
 funs:s.heap.FunFrames base outer
 frf:∀b∈frs outer,H b=none
 hok:HOk P w H s.heap
 bare:qh s.gens
def CE (outer:List Env)(P:fc)(w:ge)(H:Hp)(s:d4)(Q:VK)(u:d0)(s':d4):Prop:=
 ∃v H',s'.os=s.os/\qh s'.gens/\Un (frs outer) [] H H' s.heap s'.heap/\HOk P w H' s'.heap/\By v u/\Q v H'
def CR (CX:CXT)(outer:List Env)(P:fc)(w:ge)(H:Hp)(s:d4)(Q:VK)(E:XK)(r:ug)(s':d4):Prop:=
 match r with
 |.ok (.ret u)=>CE outer P w H s Q u s'
 |.ok _=>False
 |.error e=>CX outer H s E e s'
structure Ba (P:fc) (w:ge) (K:da) (mg:Za2) (base:gv) (CX:CXT) (k:Nat) (f:df) (fd:io) (ps:Za6) (sp:Sp):Prop where
 len:∀vs H Q E,sp vs H Q E->vs.length=ps.length
 run:∀(A:gt) (outer:List Env) (s:d4) (H:Hp) (args:Args) (us:Za3) (vs:List V) (Q:VK) (E:XK),Ck k A->Uo P w K mg base A outer s H->xg s fd args (ps.zip us)->Bj vs us->sp vs H Q E ->
  codeAny (model P w) A (.call (.ref f) args) (CR CX outer P w H s Q E) s
theorem Uo.make {P:fc}{K:da}{mg:Za2}(e:Uo P w K mg base A outer s H)(C:df)(us:Za3)(kw:List (Str×d0)) :
  Uo P w K mg base (A.under (.builtin "type.__call__" ⟨.ref C::us,kw⟩)) outer s H:=⟨by first|exact e.frames|(simpa [wl,Code.envs,xf,pushEnvs] using e.frames),e.mod,e.bs,e.bsz,e.funs,e.frf,e.hok,e.bare⟩
section
variable {X:Cx} {pins:Za1} {G:St} {H:Hp} {s s':d4}
theorem Inv.env0 (I:Inv X pins G H s):Uo X.prog X.w X.K X.mg X.base X.A X.stack s H:=
 ⟨I.ok.frames,I.ok.mod,I.bs,gl I.ok.bsz I.sz,I.stack,I.stkFree,I.hok,I.bare⟩
theorem Inv.after {Q:VK}{u:d0}(I:Inv X pins G H s)(h:CE X.stack X.prog X.w H s Q u s'):EP X pins G Q u s':=by
 obtain⟨v,H',os,bare,un,hok,r,q⟩:=h;obtain⟨hh,g,d,t,os'⟩:=s';obtain rfl:os'=s.os:=os;exact⟨v,H',I.call (h':=hh) (g':=g) (d':=d) (t':=t) (ch:=[]) un hok bare (λb z=>absurd z (by simp)),r,q⟩
end
def jP (sp:Sp)(dvs:List V)(E:XK)(t:TA):TE:=λG H Q=>t G H λvs H1=>sp (vs++dvs) H1 Q E
def P8 (C:df)(m:Str)(sp:Sp)(dvs:List V)(E:XK)(ta:TE)(t:TA):TE:=λG H Q=>ta G H λx H1=>∃a dx fs,x=.ref a/\H1 a=some (.ins C dx fs)/\fs.lookup m=none /\
 t G H1 λvs H2=>sp (x::(vs++dvs)) H2 Q E
def rX (C:df)(sp:Sp)(dvs:List V)(E:XK)(t:TA):TE:=λG H Q=>t G H λvs H1=>∀x dx,H1 x=none->H1 dx=none->dx≠x ->
 sp (.ref x::(vs++dvs)) (upd (upd H1 dx (.own x)) x (.ins C dx [])) (λv H2=>v=.non/\Q (.ref x) H2) E
def Ge (K:da)(fd:io)(ps:Za6)(ds:Za3):Prop:=
 ∀(s:d4) (us:Za3),K.In s.heap->(us++ds).length=ps.length->xg s fd ⟨us,[]⟩ (ps.zip (us++ds))
theorem Ge.all {K:da}(h:∀us:Za3,us.length=ps.length->bindArgs fd ⟨us,[]⟩=pure (ps.zip us)):Ge K fd ps []:=λs us _ hl=>by
 rw[iz] at hl ⊢;exact .of_eq (h us hl)
def Ja (CX:CXT)(X:Cx)(E:XK):Prop:=∀(pins:Za1) (G:St) (H:Hp) (s:d4) (e:d0) (s':d4),Inv X pins G H s->CX X.stack H s E e s'->X.xe e s'
section
variable {X:Cx} {CX:CXT} {k:Nat} {f C:df} {fd:io} {ps:Za6} {sp:Sp} {dvs:List V} {ds:Za3} {E:XK} {x m:Str} {p pos apos:Pos} {e o:gd} {es:List gd} {ta:TE} {t:TA}
theorem Yj {G:St}{Q:VK}{vs:List V}(F:Ba X.prog X.w X.K X.mg X.base CX k f fd ps sp)(hr:Ck k X.A)(hb:Ge X.K fd ps ds)(hd:Bj dvs ds)(hx:Ja CX X E)
  (I:Inv X pins G H s)(r:Bj vs us)(h:sp (vs++dvs) H Q E):wpAny (model X.prog X.w) X.A (call (.ref f) us) (EP X pins G Q) X.xe s:=by
 have r2:Bj (vs++dvs) (us++ds):=r.append hd;have hl:(us++ds).length=ps.length:=by rw[<-r2.length];exact F.len _ _ _ _ h
 refine oy (lq (F.run X.A X.stack s H ⟨us,[]⟩ (us++ds) (vs++dvs) Q E hr I.env0 (hb s us I.kIn hl) r2 h) λr s' hq=>?_)
 cases r with
 |error e=>exact hx pins G H s e s' I hq
 |ok fl=>
  cases fl with
  |ret u=>exact I.after hq
  |next=>exact i9 hq
  |brk=>exact i9 hq
  |cont=>exact i9 hq
theorem uE (F:Ba X.prog X.w X.K X.mg X.base CX k f fd ps sp)(hr:Ck k X.A)(hg:Gl X x)(hm:X.mg x=some (.ref f))(hk:jf X.K (.ref f)=true)(hb:Ge X.K fd ps ds)(hd:Bj dvs ds)(hx:Ja CX X E)
  (ha:PA X (e::es) t)(hdb:autoParam ((x==("__debug__":Str))=false) QF)(he:autoParam (starEach (e::es) X.env=(false,eval e X.env)::starEach es X.env) QD)(hpl:autoParam ((backTo pos (starEach es X.env)).any (·.1)=false) QD) :
  PE X (.Call (.Name x p) (e::es) [] pos) (jP sp dvs E t):=by
 k_in;refine wpAny_Call_Name_kw (La I hg hm ?_ hdb);refine callWith_K (h₀:=X.base) I.ok.mod.kin hk (thA ha I h λus s1 vs H1 I1 r q=>⟨I1.kIn,?_⟩) he hpl;exact Yj F hr hb hd hx I1 r q
theorem jC (he:PE X o ta)(c:Cls X.K C)(hm:nG X.K C m f)(F:Ba X.prog X.w X.K X.mg X.base CX k f fd ps sp)(hr:Ck k X.A)(hb:Ge X.K fd ps ds)(hd:Bj dvs ds)(hx:Ja CX X E)(ha:PA X (e::es) t)
  (hst:autoParam (starEach (e::es) X.env=(false,eval e X.env)::starEach es X.env) QD)(hpl:autoParam ((backTo pos (starEach es X.env)).any (·.1)=false) QD)
  (ht:autoParam (eval (.Call (.Attribute o m apos) (e::es) [] pos) X.env=(do
   let ov <-eval o X.env
   standAt apos.atName
   let (f,first) <-holding [ov] (getMethod ov m pl)
   callWith pos f first (backTo pos (starEach (e::es) X.env)) (backToKw pos (keywordEach [] X.env)))) QD) :
  PE X (.Call (.Attribute o m apos) (e::es) [] pos) (P8 C m sp dvs E ta t):=by
 k_in;refine mw (pl:=pl) (thE he I h λu s1 x H1 I1 rx ⟨a,dx,fs,ex,ea,l,q⟩=>?_) ht;subst ex;obtain rfl:u=ik a:=rx;refine Ke I1 ea c hm l ?_;refine callWith_K (first:=[.ref a]) (h₀:=X.base) I.ok.mod.kin hm.kp (thA ha I1 q λus s2 vs H2 I2 r q2=>⟨I2.kIn,?_⟩) hst hpl;exact Yj (us:=.ref a::us) (vs:=.ref a::vs) F hr hb hd hx I2 (.cons rfl r) q2
theorem Z6 (he:PE X o ta)(c:Cls X.K C)(hm:nG X.K C m f)(F:Ba X.prog X.w X.K X.mg X.base CX k f fd ps sp)(hr:Ck k X.A)(hb:Ge X.K fd ps ds)(hd:Bj dvs ds)(hx:Ja CX X E)
  (ht:autoParam (eval (.Call (.Attribute o m apos) [] [] pos) X.env=(do
   let ov <-eval o X.env
   standAt apos.atName
   let (f,first) <-holding [ov] (getMethod ov m pl)
   callWith pos f first (backTo pos (starEach [] X.env)) (backToKw pos (keywordEach [] X.env)))) QD) :
  PE X (.Call (.Attribute o m apos) [] [] pos) (P8 C m sp dvs E ta T7):=by
 k_in;refine mw (pl:=pl) (thE he I h λu s1 x H1 I1 rx ⟨a,dx,fs,ex,ea,l,q⟩=>?_) ht;subst ex;obtain rfl:u=ik a:=rx;refine Ke I1 ea c hm l ?_;exact wx (first:=[.ref a]) I1.kIn hm.kp (Yj (us:=[.ref a]) (vs:=[.ref a]) F hr hb hd hx I1 (.cons rfl .nil) q)
structure Mk (K:da) (C f:df):Prop where
 makes:yr K C=true
 init:i8 K (.ref C) "__init__"=some (some (.ref f))
 fn:oq K (.ref f)=true
 kp:jf K (.ref C)=true
theorem qY {G:St}{Q:VK}{vs:List V}(M:Mk X.K C f)(F:Ba X.prog X.w X.K X.mg X.base CX k f fd ps sp)(hr:Ck (k+1) X.A)(hb:Ge X.K fd ps ds)(hd:Bj dvs ds)
  (hx:Ja CX X E)(I:Inv X pins G H s)(r:Bj vs us)
  (h:∀x dx,H x=none->H dx=none->dx≠x->sp (.ref x::(vs++dvs)) (upd (upd H dx (.own x)) x (.ins C dx [])) (λv H2=>v=.non/\Q (.ref x) H2) E) :
  wpAny (model X.prog X.w) X.A (call (.ref C) us) (EP X pins G Q) X.xe s:=by
 have hq:=h (s.heap.objs.size+1) s.heap.objs.size (I.hok.fresh (ot _)) (I.hok.fresh (db _)) (fk (n9 _));have I2:=Inv.made (C:=C) I;have r2:Bj (V.ref (s.heap.objs.size+1)::(vs++dvs)) (ik (s.heap.objs.size+1)::(us++ds)):=.cons rfl (r.append hd);have hl:(ik (s.heap.objs.size+1)::us++ds).length=ps.length:=by
  have e:=r2.length;rw[F.len _ _ _ _ hq] at e;exact e.symm
 refine oy (oX (f:=f) I.kIn M.makes M.init (beq_iff_eq.mp M.fn) (lq (F.run _ X.stack _ _ ⟨ik (s.heap.objs.size+1)::us,[]⟩ (ik (s.heap.objs.size+1)::(us++ds)) _ _ E (hr.make C us [])
  (I2.env0.make C us []) (hb _ (ik (s.heap.objs.size+1)::us) I2.kIn hl) r2 hq) λr s' hq'=>?_))
 cases r with
 |error e=>exact hx pins G _ _ e s' I2 hq'
 |ok fl=>
  cases fl with
  |ret u=>
   obtain⟨v,H',I3,rv,ev,q3⟩:=I2.after hq';subst ev;exact⟨rv,⟨V.ref (s.heap.objs.size+1),H',I3,rfl,q3⟩⟩
  |next=>exact i9 hq'
  |brk=>exact i9 hq'
  |cont=>exact i9 hq'
theorem vK (M:Mk X.K C f)(F:Ba X.prog X.w X.K X.mg X.base CX k f fd ps sp)(hr:Ck (k+1) X.A)(hg:Gl X x)(hm:X.mg x=some (.ref C))(hb:Ge X.K fd ps ds)(hd:Bj dvs ds)(hx:Ja CX X E)
  (ha:PA X (e::es) t)(hdb:autoParam ((x==("__debug__":Str))=false) QF)(he:autoParam (starEach (e::es) X.env=(false,eval e X.env)::starEach es X.env) QD)(hpl:autoParam ((backTo pos (starEach es X.env)).any (·.1)=false) QD) :
  PE X (.Call (.Name x p) (e::es) [] pos) (rX C sp dvs E t):=by
 k_in;refine wpAny_Call_Name_kw (La I hg hm ?_ hdb);refine callWith_K (h₀:=X.base) I.ok.mod.kin M.kp (thA ha I h λus s1 vs H1 I1 r q=>⟨I1.kIn,?_⟩) he hpl;exact qY M F hr hb hd hx I1 r q
end
def PK (X:Cx)(kws:List xb)(t:TA):Prop:=
 ∀(pos:Pos) (pins:Za1) (s:d4) (G:St) (H:Hp) (Q:List V->Hp->Prop),Inv X pins G H s->t G H Q->wpAny (model X.prog X.w) X.A (evalAll ((backToKw pos (keywordEach kws X.env)).map (·.2))) (AP X pins G Q) X.xe s
section
variable {X:Cx} {CX:CXT} {k:Nat} {f C:df} {fd:io} {ps ks:Za6} {sp:Sp} {E:XK} {x m:Str} {p pos apos kpos:Pos} {e o:gd} {es:List gd} {kws:List xb} {te ta:TE} {t tk:TA} {nm:Option Str}
theorem gH:PK X [] T7:=λ_ _ _ _ H Q I h=>wpAny_evalAll_nil ⟨[],H,I,.nil,h⟩
theorem Yk (ha:PE X e te)(hr:PK X kws t):PK X (⟨nm,e,kpos⟩::kws) (Vq te t):=by
 intro pos pins s G H Q I h;show wpAny _ _ (evalAll ((do let v <-eval e X.env;standAt pos;pure v)::(backToKw pos (keywordEach kws X.env)).map (·.2))) _ _ s;refine wpAny_evalAll_cons (wpAny_bind (thE ha I h λu s1 x H1 I1 r1 q1=>wpAny_bind (o8 (em ?_))));exact thn (hr pos pins s1 G H1 _ I1 q1) λus s2 ⟨xs,H2,I2,r2,q2⟩=>⟨x::xs,H2,I2,.cons r1 r2,q2⟩
variable {g:Za3->Za3->Za3} {gV:List V->List V->List V}
end
structure Al (N P:Za6) (sc:kr):Prop where
 kind:sc.kind=.function
 co:sc.isCoroutine=false
 gen:sc.isGenerator=false
 nd:N.Nodup
 pre:N.take P.length=P
 par:∀x∈P,sc.names.lookup x=some .local\/sc.names.lookup x=some .cell
 nofree:∀y∈sc.names,y.2≠.free
theorem Wv {kindOf:Str->Option og}{x:Str}:∀ {binds:List (Str×d0)} {m:Za2},(∀ v,(x,v)∉binds)->bindL kindOf binds m x=m x
  | [], _, _ => rfl
  | (n, v) :: r, m, h => by
    unfold bindL;rw [Wv λw hw => h w (gy _ hw)];split
    · have : x ≠ n := by rintro rfl; exact h v jj
      simp [this]
    · rfl
theorem Vh {kindOf:Str->Option og}{x:Str}:∀ {binds:List (Str×d0)} {m:Za2},(∀ v,(x,v)∉binds)->bindC kindOf binds m x=m x
  | [], _, _ => rfl
  | (n, v) :: r, m, h => by
    unfold bindC;rw [Vh λw hw => h w (gy _ hw)];split
    · rfl
    · have : x ≠ n := by rintro rfl; exact h v jj
      simp [this]
theorem W4 {kindOf:Str->Option og}{x:Str}{v:d0}:∀{P:Za6} {vs:Za3} {i:Nat} {m:Za2},P.Nodup->P[i]?=some x->vs[i]?=some v->kindOf x=some .local ->
  bindL kindOf (P.zip vs) m x=some v
 |[],_,_,_,_,h,_,_=>by simp at h
 |_::_,[],_,_,_,_,h,_=>by simp at h
 |p::P,w::vs,0,m,nd,h1,h2,hk=>by
  simp at h1 h2;subst h1;subst h2;show bindL kindOf ((p,w)::P.zip vs) m p=_;unfold bindL;rw[Wv λv hv=>(ow.mp nd).1 (ul hv).1,if_pos hk];simp
 |p::P,w::vs,i+1,m,nd,h1,h2,hk=>by
  show bindL kindOf ((p,w)::P.zip vs) m x=_;unfold bindL;exact W4 (i:=i) (ow.mp nd).2 (by simpa using h1) (by simpa using h2) hk
theorem W3 {kindOf:Str->Option og}{x:Str}{v:d0}:∀{P:Za6} {vs:Za3} {i:Nat} {m:Za2},P.Nodup->P[i]?=some x->vs[i]?=some v->kindOf x≠some .local ->
  bindC kindOf (P.zip vs) m x=some v
 |[],_,_,_,_,h,_,_=>by simp at h
 |_::_,[],_,_,_,_,h,_=>by simp at h
 |p::P,w::vs,0,m,nd,h1,h2,hk=>by
  simp at h1 h2;subst h1;subst h2;show bindC kindOf ((p,w)::P.zip vs) m p=_;unfold bindC;rw[Vh λv hv=>(ow.mp nd).1 (ul hv).1,if_neg hk];simp
 |p::P,w::vs,i+1,m,nd,h1,h2,hk=>by
  show bindC kindOf ((p,w)::P.zip vs) m x=_;unfold bindC;exact W3 (i:=i) (ow.mp nd).2 (by simpa using h1) (by simpa using h2) hk
def Nc (N:Za6)(vs:List V):St:=vs.map some++dn (N.length-vs.length) none
def E1 (CX:CXT)(P:fc)(w:ge)(K:da)(mg:Za2)(base:gv)(N:Za6)(qual:Str)(scope:kr)(f:df)(cd:d0)(A:gt)(outer:List Env)(s:d4)(H:Hp)(E:XK):Cx where
 prog:=P
 w:=w
 K:=K
 mg:=mg
 base:=base
 A:=A.deeper (envOfC qual scope s.heap.objs.size f cd)
 N:=N
 HA:=s
 HC:=H
 env:=envOfC qual scope s.heap.objs.size f cd
 outer:=outer
 stack:=envOfC qual scope s.heap.objs.size f cd::outer
 ex:=[]
 calm:=true
 fn:=λ_=>true
 pn:=[]
 xe:=λe s'=>wpAny (model P w) (A.deeper (envOfC qual scope s.heap.objs.size f cd)) (leaving (envOfC qual scope s.heap.objs.size f cd) e) (λ_ s''=>CX outer H s E e s'') (λe' s''=>CX outer H s E e' s'') s'
theorem Yv {sc:kr}{n:Nat}{x:Str}(h:sc.names.lookup x=some .cell):∃c,(cellsFrom n sc.names []).lookup x=some c:=by
 have q:=vk sc.names n [] (.inl h);exact ib.mp q
theorem mW {P:fc}{K:da}{mg:Za2}{f:df}{cd:d0}{s1:d4}{E:XK}{vs:List V}
  (S:Al N ps scope)(hd:A.handled=none)(e0:Uo P w K mg base A outer s H)(hl:vs.length=ps.length)(r:Bj vs us)
  (x:InCallC s s.heap.objs.size (bindL (envOfC qual scope s.heap.objs.size f cd).kindOf (ps.zip us) λ_=>none) (cellsFrom (s.heap.objs.size+1) scope.names []) (bindC (envOfC qual scope s.heap.objs.size f cd).kindOf (ps.zip us) λ_=>none) s1) :
  Inv (E1 CX P w K mg base N qual scope f cd A outer s H E) [] (Nc N vs) H s1:=by
 have hpl:ps.length<=N.length:=by have:=congrArg jg S.pre;rw[dh] at this;lia
 obtain⟨h1,tk,rfl,hk⟩:=x.done;have noA:∀b:df,b∉(E1 CX P w K mg base N qual scope f cd A outer s H E).ex:=λb z=>absurd (show b∈([]:List df) from z) (by simp);refine⟨⟨e0.mod,S.kind,rfl,rfl,db _,λy z c h1 h2=>?_,λy hy=>?_,λy c _ h=>?_,λ_=>hd,xh e0.frames,.inr ⟨rfl,rfl⟩,λb z=>absurd z (noA b),e0.bs,e0.bsz,λb _ _=>noA b,λb z=>absurd z (noA b),e0.funs,e0.frf⟩,
  rfl,e0.bare,Un.kept hk,⟨_,x.toInCall.ns,λi y v h1 h2 h3=>?_⟩,λy c h=>⟨_,x.cell y c h⟩,e0.hok.fresh (db _),λy c h=>?_,λp hp=>absurd (show p∈([]:Za1) from hp) (by simp),e0.hok.kept hk,?_⟩
 ·exact name_of_addr x.apart (iq h1) (iq h2)
 ·have hy:scope.names.lookup y=some .cell\/scope.names.lookup y=some .free:=hy
  rcases hy with hy|hy
  ·exact Yv hy
  ·exact absurd rfl (S.nofree _ (iq hy))
 ·exact fb (x.above y c (iq h))
 ·have hi:i<vs.length:=by
   unfold Nc at h2
   by_cases hi:i<vs.length
   ·exact hi
   ·rw[di (by simpa using hi)] at h2
    rw[wq] at h2;split at h2<;>cases h2
  have ha:vs[i]?=some v:=by
   unfold Nc at h2;rw[dv (by simpa using hi),dg] at h2
   cases e:vs[i]? with
   |none=>rw[e] at h2;cases h2
   |some a=>rw[e] at h2;cases h2;rfl
  obtain⟨u,hu,rv⟩:=r.get ha;have hp:ps[i]?=some y:=by
   rw[<-S.pre,d7 (by lia)];exact h1
  have ndP:ps.Nodup:=by rw[<-S.pre];exact S.nd.sublist (List.take_sublist _ _)
  refine⟨u,rv,?_⟩;rcases S.par y (gw hp) with k|k
  ·exact .inl ⟨k,W4 ndP hp hu k⟩
  ·obtain⟨c,e⟩:=Yv (n:=s.heap.objs.size+1) k
   refine .inr ⟨.inl k,c,e,?_⟩;have q:=x.cell y c e;rw[W3 ndP hp hu (by show scope.names.lookup y≠_;rw[k];decide)] at q;exact q
 ·exact e0.hok.fresh (fb (x.above y c (iq h)))
 ·unfold Nc
  show _=N.length;rw[c9,c8,ii];lia
theorem qC {P:fc}{K:da}{mg:Za2}{k:Nat}{f:df}{name:Str}{body:List gm}{dV kV doc cdv ct oc:d0}{an:Option df}
  {osl:Array (Za7)}(lk:K.lookup f=some ⟨oc,od,.func (jh name qual params body scope dV kV doc pm an cdv ct),osl⟩)(hcd:kg K cdv qual=true)(S:Al N ps scope)
  (len:∀vs H Q E,sp vs H Q E->vs.length=ps.length)
  (hbody:∀(A:gt) (outer:List Env) (s:d4) (H:Hp) (vs:List V) (Q:VK) (E:XK),Ck k (A.deeper (envOfC qual scope s.heap.objs.size f cdv))->sp vs H Q E ->
   ∃t,PSs (E1 CX P w K mg base N qual scope f cdv A outer s H E) body t/\t { nx:=λ_ H'=>Q .non H',rt:=Q } (Nc N vs) H) :
  Ba P w K mg base CX (k+1) f (jh name qual params body scope dV kV doc pm an cdv ct) ps sp:=by
 refine⟨len,λA outer s H args us vs Q E hr e0 hb r hsp=>?_⟩;have hl:=len _ _ _ _ hsp;have KX:K.In s.heap:=e0.mod.kin.keeps λb o e=>(e0.bs b o e).1;have lim:s.heap.NoLimit:=e0.mod.nolimit.keeps λb o e=>(e0.bs b o e).1;have hkind:∀y∈ps.zip us,scope.names.lookup y.1=some .local\/(scope.names.lookup y.1=some .cell/\((cellsFrom (s.heap.objs.size+1) scope.names []).lookup y.1).isSome=true):=λ⟨n,v⟩ hy=>by
  rcases S.par n (ul hy).1 with q|q
  ·exact .inl q
  ·exact .inr ⟨q,vk _ _ _ (.inl q)⟩
 refine codeAny_call_function hr.depth (KX _ _ lk) rfl S.co S.gen rfl (PySem.W.codeRec_of KX hcd) (hb _ _ _ _ ?_);refine wpAny_newFunctionEnv_cells S.kind hkind λenv he s1 x=>?_;subst he;refine⟨lim.keeps x.toInCall.keep,codeAny_func ?_⟩;obtain⟨t,ht,hq⟩:=hbody A outer s H vs Q E (hr.deeper _) hsp;have I:Inv (E1 CX P w K mg base N qual scope f cdv A outer s H E) [] (Nc N vs) H s1:=mW S hr.hd e0 hl r x;refine ip (ht [] s1 (Nc N vs) H _ I hq) (λfl s' hs=>?_) λe s' hs=>hs;have fin:∀{mt:St} {H':Hp} {v:V} {u:d0},Inv (E1 CX P w K mg base N qual scope f cdv A outer s H E) [] mt H' s'->By v u->Q v H'->CE outer P w H s Q u s':=
  λ{mt H' v u} J rv q=>⟨v,H',J.os,J.bare,J.base,J.hok,rv,q⟩
 cases fl with
 |ret u=>
  obtain⟨v,mt,H',J,rv,q⟩:=hs;exact fin J rv q
 |next=>
  obtain⟨mt,H',J,q⟩:=hs;exact fin (v:=V.non) (u:=k7) J rfl q
 |brk=>
  obtain⟨_,_,_,q⟩:=hs;exact i9 q
 |cont=>
  obtain⟨_,_,_,q⟩:=hs;exact i9 q
section
variable {X:Cx} {x:Str} {p pos:Pos} {e:gd} {es:List gd} {t:TA} {id T:String} {r:List V->Hp->VK->Prop}
def tCB (r:List V->Hp->VK->Prop)(t:TA):TE:=λG H Q=>t G H λvs H1=>r vs H1 Q
theorem Ar (hc:Hh X (.builtin id) r)(hg:Gl X x)(hm:X.mg x=none)(hv:bootBuiltins x=some (.builtin id))(ha:PA X (e::es) t)(hn:autoParam (x≠"__name__") QF)(hdb:autoParam ((x==("__debug__":Str))=false) QF)
  (he:autoParam (starEach (e::es) X.env=(false,eval e X.env)::starEach es X.env) QD)(hpl:autoParam ((backTo pos (starEach es X.env)).any (·.1)=false) QD):PE X (.Call (.Name x p) (e::es) [] pos) (tCB r t):=by
 k_in;refine wpAny_Call_Name_kw (Fg I hg hm hv ?_ hn hdb);exact DY (thA ha I h λus s1 vs H1 I1 r1 q1=>hc pins s1 G H1 vs us Q I1 r1 q1) he hpl
theorem Em (hc:Hh X (.type T) r)(hg:Gl X x)(hm:X.mg x=none)(hv:bootBuiltins x=some (.type T))(ha:PA X (e::es) t)(hn:autoParam (x≠"__name__") QF)(hdb:autoParam ((x==("__debug__":Str))=false) QF)
  (he:autoParam (starEach (e::es) X.env=(false,eval e X.env)::starEach es X.env) QD)(hpl:autoParam ((backTo pos (starEach es X.env)).any (·.1)=false) QD):PE X (.Call (.Name x p) (e::es) [] pos) (tCB r t):=by
 k_in;refine wpAny_Call_Name_kw (Fg I hg hm hv ?_ hn hdb);exact gr (thA ha I h λus s1 vs H1 I1 r1 q1=>hc pins s1 G H1 vs us Q I1 r1 q1) he hpl
end
end L2
namespace HT
open PySem PyProof.Rows
section
open PySem.SeqAt
open PySem.AutoSeq1 (wpAny_loadPart')
open PySem.MeetsSeq PySem.MeetsSeq2 PySem.MeetsSeq3
end
section
variable {prog:fc} {w:ge} {A:gt} {E:Za0} {s:d4}
theorem cat_tup {t b:df}{vs ws:Za3}{Q:Za0}(ht:IsTup s.heap t vs.toArray)(hb:IsTup s.heap b ws.toArray)(hv:vs≠[])
  (h1:ws=[]->Q (.ref t) s)(h2:ws≠[]->Q (.ref s.heap.objs.size) { s with heap:=s.heap.push { cls:=.type "tuple",data:=.seq (vs++ws).toArray } })
  (hsz:vs.length+ws.length<=sizeLine):wpAny (model prog w) A (binaryOp .Add (.ref t) (.ref b)) Q E s:=by
 obtain⟨⟨cls,dd,data,sl⟩,ho,hc,n,hd⟩:=id ht;obtain⟨⟨cls2,dd2,data2,sl2⟩,ho2,hc2,n2,hd2⟩:=id hb;simp only at hc hd hc2 hd2;subst hc hd hc2 hd2;have e:vs.toArray++ws.toArray=(vs++ws).toArray:=by simp
 by_cases hw:ws=[]
 ·exact FO ⟨_,ho,rfl⟩ ⟨_,ho2,rfl⟩ BU ET vn vc (uw _ _)
   (tuple_addW1 t b vs.toArray ws.toArray n n2 dd dd2 sl sl2 (by simpa using hv) (by simp[hw])) ⟨ho,ho2,h1 hw⟩
 ·refine FO ⟨_,ho,rfl⟩ ⟨_,ho2,rfl⟩ BU ET vn vc (uw _ _)
   (tuple_addW2 t b vs.toArray ws.toArray n n2 dd dd2 sl sl2 (by simpa using hv) (by simpa using hw) (by rw[ez,ez];exact hsz)) ⟨ho,ho2,?_⟩
  rw[e];exact h2 hw
def sIx (n d:Nat):Option Int->Nat
 |none=>d
 |some v=>if v<0 then(v+(n:Int)).toNat else min v.toNat n
theorem sIx_nat (n d k:Nat):sIx n d (some (k:Int))=min k n:=by
 show(if(k:Int)<0 then((k:Int)+(n:Int)).toNat else min (k:Int).toNat n)=min k n;rw[if_neg (by lia),f9]
theorem sIx_le (n d:Nat)(hd:d<=n)(o:Option Int):sIx n d o<=n:=by
 cases o with
 |none=>exact hd
 |some v=>
  show(if v<0 then(v+(n:Int)).toNat else min v.toNat n)<=n
  by_cases hv:v<0
  ·rw[if_pos hv];lia
  ·rw[if_neg hv];exact AC _ _
end
end HT
namespace L2
open PySem PySem.Spec PyProof.Rows
variable {C CS Pt dx i1 i2 it kl l1 l2 pa z:df} {params:kj} {A:gt} {CX:CXT} {op:rf} {X:Cx} {env:Env} {tg:gd} {fd:io} {base h h' h1:gv} {H H' H1 H2:Hp} {J:It} {pins:Za1} {as fp:List df} {outer:List Env} {elts:List gd} {ns:List Int} {ix:Za4} {N ps:Za6} {ts:List Tb} {xs ys:List V} {us vs:Za3} {M:qr} {off t':Nat} {oT:Obj} {od:Option df} {pos:Pos} {scope:kr} {pl:Sem Bool} {s s2:d4} {sp:Sp} {st:gm} {qual:Str} {tk:TA} {te:TE} {wi:TI} {y:V} {pm:d0} {w:ge}
abbrev TO:=St->Hp->(Option Int->Hp->Prop)->Prop
def PO (X:Cx)(e:Option gd)(t:TO):Prop:=
 ∀(pins:Za1) (s:d4) (G:St) (H:Hp) (Q:Option Int->Hp->Prop),Inv X pins G H s->t G H Q ->
  wpAny (model X.prog X.w) X.A (evalPart e X.env) (λu s'=>∃o H',Inv X pins G H' s'/\IsPart u o/\Q o H') X.xe s
def jF:TO:=λ_ H Q=>Q none H
def wU (t:TE):TO:=λG H Q=>t G H λx H1=>∃i,x=.int i/\Q (some i) H1
theorem T3:∀{us:Za3},Bj (ns.map V.int) us->xc us ns:=by
 induction ns with
 |nil=>intro us r;rw[wy] at r;cases r;exact .nil
 |cons n ns ih=>
  intro us r;rw[jd] at r
  cases r with
  |cons r1 r2=>
   obtain⟨t,e⟩:=r1;subst e;exact .cons n t (ih r2)
section
variable {X:Cx} {e:gd} {te:TE} {lo hi:Option gd} {tl th:TO} {pos p2:Pos}
theorem Kt:PO X none jF:=by
 k_in;rw[ye];exact em ⟨none,H,I,.none,h⟩
theorem Dl (h:PE X e te):PO X (some e) (wU te):=by
 intro pins s G H Q I hw;rw[evalPart_some];refine thE h I hw λu s1 x H1 I1 r1 q1=>?_;obtain⟨i,rfl,q⟩:=q1;obtain⟨t,rfl⟩:=r1;exact⟨some i,H1,I1,.int i t,q⟩
def SlR (X:Cx)(r:V->Option Int->Option Int->Hp->VK->Prop):Prop:=
 ∀(pins:Za1) (s:d4) (G:St) (H:Hp) (x:V) (v vl vu:d0) (lo hi:Option Int) (sl:df) (Q:VK),Inv X pins G H s->By x v->s.heap.IsSliceOf sl vl vu .none->IsPart vl lo->IsPart vu hi->r x lo hi H Q ->
  ∃T id,typeLookup (.type T) "__getitem__"=pure (some (.builtin id))/\s.TypeIs v T/\wpAny (model X.prog X.w) X.A (getItem v (.ref sl)) (EP X pins G Q) X.xe s
def tSl (r:V->Option Int->Option Int->Hp->VK->Prop)(te:TE)(tl th:TO):TE:=λG H Q=>te G H λx H1=>tl G H1 λl H2=>th G H2 λu H3=>r x l u H3 Q
theorem El {r:V->Option Int->Option Int->Hp->VK->Prop}(hr:SlR X r)(he:PE X e te)(hl:PO X lo tl)(hu:PO X hi th):PE X (.Subscript e (.Slice lo hi none p2) pos) (tSl r te tl th):=by
 k_in;refine Subscript_ (thE he I h λv s1 x H1 I1 r1 q1=>?_);refine wpAny_Slice (thn (hl pins s1 G H1 _ I1 q1) λvl s2 ⟨l,H2,I2,pl,q2⟩=>thn (hu pins s2 G H2 _ I2 q2) λvu s3 ⟨u,H3,I3,pu,q3⟩=>?_);rw[ye];refine em ?_;have I4:Inv X pins G H3 { s3 with heap:=s3.heap.push { cls:=.type "slice",data:=.fields #[vl,vu,.none] } }:=I3.kept (t':=s3.toks) λb ob q=>dq _ q;obtain⟨T,id,hT,ht,hg⟩:=hr pins { s3 with heap:=s3.heap.push { cls:=.type "slice",data:=.fields #[vl,vu,.none] } } G H3 x v vl vu l u s3.heap.objs.size Q I4 r1 (uq ..) pl pu q3;show wpAny (model X.prog X.w) X.A (subscriptTail e (.Slice lo hi none p2) v (.ref s3.heap.objs.size)) (EP X pins G Q) X.xe { s3 with heap:=s3.heap.push { cls:=.type "slice",data:=.fields #[vl,vu,.none] } };exact tail_any (ops:=[.ref s3.heap.objs.size,v]) ht hT hg (by with_unfolding_all rfl)
def Ro (xs:List V)(lo hi:Option Int):List V:=(xs.drop (HT.sIx xs.length 0 lo)).take (HT.sIx xs.length xs.length hi-HT.sIx xs.length 0 lo)
theorem Zm (xs:List V)(lo hi:Option Int):(Ro xs lo hi).length<=xs.length:=by
 unfold Ro;rw[dh,fh];exact gl (AC _ _) (Nat.sub_le _ _)
def Abm (K:da):R2:=λx y H Q=>∃a b xs ys,x=.ref a/\y=.ref b/\SqT K H a xs/\SqT K H b ys/\xs≠[]/\xs.length+ys.length<=sizeLine /\
 (ys=[]->Q (.ref a) H)/\(ys≠[]->∀p,H p=none->Q (.ref p) (upd H p (.tup (xs++ys))))
theorem Bj.nil_iff (r:Bj xs us):us=[]↔xs=[]:=by
 cases r with
 |nil=>simp
 |cons _ _=>simp
theorem Ry:OpR X (binaryOp .Add) (Abm X.K):=by
 intro pins s G H x y v u Q I rx ry h;obtain⟨a,b,xs,ys,rfl,rfl,ha,hb,hx,hz,q1,q2⟩:=h;cases rx;cases ry;obtain⟨its,r1,p1,_⟩:=I.tuple ha;obtain⟨its2,r2,p2,_⟩:=I.tuple hb;refine HT.cat_tup p1 p2 (λz=>hx (r1.nil_iff.mp z)) (λz=>⟨.ref a,H,I,rfl,q1 (r2.nil_iff.mp z)⟩) (λz=>?_) (by rw[<-r1.length,<-r2.length];exact hz);refine⟨.ref s.heap.objs.size,_,I.laid (t':=s.toks) (o:=.tup (xs++ys)) (λb ob q=>dq _ q) (db _) ?_,rfl,q2 (λw=>z (r2.nil_iff.mpr w)) _ (I.hok.fresh (db _))⟩;exact⟨by rw[c9];exact hz,_,r1.append r2,IsTup.new _ _⟩
end
def ixN (n:Nat)(i:Int):Option Nat:=if 0<=i then(if i<n then some i.toNat else none) else if -(n:Int)<=i then some (i+n).toNat else none
def atI {α:Type}(xs:List α)(i:Int):Option α:=(ixN xs.length i).bind λj=>xs[j]?
theorem jV {n:Nat}{i:Int}{j:Nat}(h:ixN n i=some j):seqIndex? i n=some j/\j<n/\-(n:Int)<=i/\i<n:=by
 unfold ixN at h
 by_cases h0:0<=i
 ·rw[if_pos h0] at h
  by_cases h1:i<n
  ·rw[if_pos h1] at h
   have e:i.toNat=j:=de h;exact⟨by rw[z8 h0 h1,e],by lia,by lia,h1⟩
  ·rw[if_neg h1] at h;cases h
 ·rw[if_neg h0] at h
  by_cases h1:-(n:Int)<=i
  ·rw[if_pos h1] at h
   have e:(i+n).toNat=j:=de h;exact⟨by rw[y8 (by lia) h1,e],by lia,h1,by lia⟩
  ·rw[if_neg h1] at h;cases h
theorem kN {α:Type}{xs:List α}{i:Int}{v:α}(h:atI xs i=some v):∃j,seqIndex? i xs.length=some j/\xs[j]?=some v/\j<xs.length/\-(xs.length:Int)<=i/\i<xs.length:=by
 unfold atI at h
 cases e:ixN xs.length i with
 |none=>rw[e] at h;cases h
 |some j=>
  rw[e] at h;obtain⟨h1,h2,h3,h4⟩:=jV e;exact⟨j,h1,h,h2,h3,h4⟩
theorem Bd {α:Type}{xs:List α}{j:Nat}{v:α}(h:xs[j]?=some v):atI xs (j:Int)=some v:=by
 have hj:j<xs.length:=(d6.mp h).1;have e:ixN xs.length (j:Int)=some j:=by
  unfold ixN;rw[if_pos (by lia),if_pos (by lia)];simp
 unfold atI;rw[e];exact h
theorem F1 {α:Type}(xs:List α)(v:α):atI (xs++[v]) (-1)=some v:=by
 have hl:(xs++[v]).length=xs.length+1:=by simp
 have e:ixN (xs++[v]).length (-1)=some xs.length:=by
  unfold ixN;rw[hl,if_neg (by decide),if_pos (by lia)];congr 1;lia
 unfold atI;rw[e];show(xs++[v])[xs.length]?=some v;simp
def jQ (b:gd):Prop:=∀o i,subscripted b false o i=operate [o,i] (getItem o i)
def IxR (X:Cx)(r:R2):Prop:=
 ∀(value slice:gd) (pins:Za1) (s:d4) (G:St) (H:Hp) (x y:V) (v u:d0) (Q:VK),Inv X pins G H s->By x v->By y u->r x y H Q ->
  subscripted slice false v u=operate [v,u] (getItem v u)->wpAny (model X.prog X.w) X.A (subscriptTail value slice v u) (EP X pins G Q) X.xe s
def MtR (X:Cx)(id:String)(r:V->List V->Hp->VK->Prop):Prop:=
 ∀(pins:Za1) (s:d4) (G:St) (H:Hp) (x:V) (xs:List V) (v:d0) (us:Za3) (Q:VK),Inv X pins G H s->By x v->Bj xs us->r x xs H Q ->
  wpAny (model X.prog X.w) X.A (call (.builtin id) (v::us)) (EP X pins G Q) X.xe s
section
variable {X:Cx} {a b:gd} {ta tb:TE} {pos:Pos}
theorem Abg {r:R2}(hr:IxR X r)(ha:PE X a ta)(hb:PE X b tb)(hs:jQ b):PE X (.Subscript a b pos) (tOp r ta tb):=by
 k_in;exact Subscript_ (zV ha hb I h λv u s2 x y H2 I2 rx ry q=>hr a b pins s2 G H2 x y v u Q I2 rx ry q (hs _ _))
def xQ (K:da):R2:=λx y H Q=>∃p xs i v,x=.ref p/\y=.int i/\SqL K H p xs/\atI xs i=some v/\Q v H
def zY (K:da):R2:=λx y H Q=>∃p xs i v,x=.ref p/\y=.int i/\SqT K H p xs/\atI xs i=some v/\Q v H
theorem Ap:IxR X (xQ X.K):=by
 intro value slice pins s G H x y v u Q I rx ry h hs;obtain⟨p,xs,i,z,rfl,rfl,hq,he,q⟩:=h;cases rx;obtain⟨t,rfl⟩:=ry;obtain⟨its,r,pl,hz⟩:=I.list hq;obtain⟨j,h1,h2,h3,h4,h5⟩:=kN he;obtain⟨w,ew,rw'⟩:=r.get h2;have hl:=r.length;have hn:=Ng;have fin:EP X pins G Q w s:=⟨z,H,I,rw',q⟩
 by_cases h0:0<=i
 ·have hj:i.toNat=j:=by
   rw[z8 h0 h5] at h1;exact de h1
  exact item_listR pl.isList h0 (by lia) (by rw[hj];simpa using ew) fin hs
 ·have hj:(i+(its.toArray.size:Int)).toNat=j:=by
   rw[y8 (by lia) h4] at h1;rw[ez,<-hl];exact de h1
  exact y6 (x:=w) pl.isList.typeIs slot_list_getitem.lookup
   (wpAny_getItem_list_neg (Q:=λr s'=>r=w/\EP X pins G Q r s') pl.isList (by lia) (by rw[ez]<;>lia) (by lia) (by rw[hj];simpa using ew) ⟨rfl,fin⟩) hs
theorem Mp:IxR X (zY X.K):=by
 intro value slice pins s G H x y v u Q I rx ry h hs;obtain⟨p,xs,i,z,rfl,rfl,hq,he,q⟩:=h;cases rx;obtain⟨t,rfl⟩:=ry;obtain⟨its,r,pl,hz⟩:=I.tuple hq;obtain⟨j,h1,h2,h3,h4,h5⟩:=kN he;obtain⟨w,ew,rw'⟩:=r.get h2;have hl:=r.length;have hn:=Ng;have fin:EP X pins G Q w s:=⟨z,H,I,rw',q⟩;exact y6 (x:=w) pl.typeIs slot_tuple_getitem.lookup
  (getItem_tuple (j:=j) (Q:=λr s'=>r=w/\EP X pins G Q r s') pl (by lia) (by lia) (by rw[ez,<-hl];exact h1) (by simpa using ew) ⟨rfl,fin⟩) hs
theorem eZ (its:Za3)(n j:Nat)(u:d0):jn (·.setIfInBounds j u) { cls:=.type "list",data:=.seq its.toArray n }={ cls:=.type "list",data:=.seq (its.set j u).toArray n }:=by
 simp[jn]
theorem Inv.lst {G:St}{p:df}(I:Inv X pins G H s)(h:H p=some (.lst xs)) :
  ∃(its:Za3) (n:Nat),Bj xs its/\s.heap.get? p=some { cls:=.type "list",data:=.seq its.toArray n }/\xs.length<=sizeLine:=by
 obtain⟨z,its,n,r,e⟩:=I.hok p _ h;exact⟨its,n,r,e,z⟩
theorem Inv.lstUpd {G:St}{p:df}{its its':Za3}{n n':Nat}{f:Obj->Obj}(I:Inv X pins G H s)(h:H p=some (.lst xs))
  (ho:s.heap.get? p=some { cls:=.type "list",data:=.seq its.toArray n })(hf:f { cls:=.type "list",data:=.seq its.toArray n }={ cls:=.type "list",data:=.seq its'.toArray n' })(r:Bj ys its')(hz:ys.length<=sizeLine)(t:Nat) :
  Inv X pins G (upd H p (.lst ys)) { s with heap:=s.heap.update p f,toks:=t }:=by
 have e:(s.heap.update p f).get? p=some { cls:=.type "list",data:=.seq its'.toArray n' }:=by
  rw[i7 f ho (by rw[hf]<;>rfl),hf]
 refine I.write (x:=p) (e:=p) (by rw[h];trivial) (.inl rfl) (λb u hb q=>(gq _ _ (me hb)).trans q) ⟨_,e⟩ ?_;exact⟨hz,its',n',r,e⟩
def wL:V->V->V->Hp->(Hp->Prop)->Prop:=λo i v H Q=>∃p xs k j,o=.ref p/\i=.int k/\H p=some (.lst xs)/\ixN xs.length k=some j/\Q (upd H p (.lst (xs.set j v)))
theorem qH:Abw X wL:=by
 intro pins s G H o i v ov iv u Q I ro ri rv h;obtain⟨p,xs,k,j,rfl,rfl,hp,hj,q⟩:=h;cases ro;obtain⟨t,rfl⟩:=ri;obtain⟨its,n,r,ho,hz⟩:=I.lst hp;obtain⟨h1,h2,h3,h4⟩:=jV hj;have hl:=r.length;have hn:=Ng;have I':Inv X pins G (upd H p (.lst (xs.set j v))) { s with heap:=s.heap.update p (jn (·.setIfInBounds j u)) }:=
  I.lstUpd hp ho (eZ its n j u) (r.set rv j) (by rw[AG];exact hz) s.toks
 by_cases h0:0<=k
 ·have hk:k.toNat=j:=by
   rw[z8 h0 h4] at h1;exact de h1
  exact PySem.W.ki_setAt ho h0 (by lia) (by rw[ez,<-hl];exact h4) (by rw[hk];exact⟨_,I',q⟩)
 ·have hk:(k+(its.toArray.size:Int)).toNat=j:=by
   rw[y8 (by lia) h3] at h1;rw[ez,<-hl];exact de h1
  exact PySem.W.ki_setBack ho (by lia) (by rw[ez,<-hl];exact h3) (by lia) (by rw[hk];exact⟨_,I',q⟩)
theorem X9 (lo hi:Option Int)(n:Nat):(sliceBounds lo hi none n).1=((HT.sIx n 0 lo:Nat):Int)/\(sliceBounds lo hi none n).2.1=((HT.sIx n n hi:Nat):Int)/\(sliceBounds lo hi none n).2.2=1:=by
 refine⟨?_,?_,rfl⟩
 ·cases lo with
  |none=>simp[sliceBounds,HT.sIx]
  |some i=>
   simp only[sliceBounds,HT.sIx,yt,show(1:Int)>0 by decide,if_true]
   by_cases h:i<0
   ·simp only[h,if_true]<;>lia
   ·simp only[h,if_false]
    obtain⟨m,rfl⟩:=jk (Int.not_lt.mp h);rw[f9];lia
 ·cases hi with
  |none=>simp[sliceBounds,HT.sIx]
  |some i=>
   simp only[sliceBounds,HT.sIx,yt,show(1:Int)>0 by decide,if_true]
   by_cases h:i<0
   ·simp only[h,if_true]<;>lia
   ·simp only[h,if_false]<;>lia
theorem Uw (its:Za3)(lo hi:Option Int):slicePick its.toArray lo hi none=((its.drop (HT.sIx its.length 0 lo)).take (HT.sIx its.length its.length hi-HT.sIx its.length 0 lo)).toArray:=by
 obtain⟨h1,h2,h3⟩:=X9 lo hi its.toArray.size;unfold slicePick;rw[h1,h2,h3];simp only[EH,pick_run,ez]<;>rfl
def Acp (K:da):V->Option Int->Option Int->Hp->VK->Prop:=λx lo hi H Q=>∃a xs,x=.ref a/\SqL K H a xs/\∀p,H p=none->Q (.ref p) (upd H p (.lst (Ro xs lo hi)))
theorem Hq:SlR X (Acp X.K):=by
 intro pins s G H x v vl vu lo hi sl Q I rx hs pl pu h;obtain⟨a,xs,rfl,hx,q⟩:=h;cases rx;obtain⟨its,r,ht,hz⟩:=I.list hx;have hlen:=r.length;refine⟨"list",_,slot_list_getitem.lookup,ht.isList.typeIs,?_⟩;refine yd ht.isList hs pl pu .none (by simp) ?_ (by rw[ez]<;>lia)
 rw[Uw,<-hlen];refine⟨.ref s.heap.objs.size,_,I.laid (t':=s.toks) (o:=.lst (Ro xs lo hi)) (λb ob q=>dq _ q) (db _) ?_,rfl,q _ (I.hok.fresh (db _))⟩;exact⟨gl (Zm xs lo hi) hz,_,0,(r.drop (HT.sIx xs.length 0 lo)).take (HT.sIx xs.length xs.length hi-HT.sIx xs.length 0 lo),fi _ rfl⟩
def Ec:V->Bool
 |.non=>true
 |.bl _=>true
 |.int _=>true
 |.str _=>true
 |_=>false
def eqV:V->V->Bool
 |.non,.non=>true
 |.bl a,.bl b=>a==b
 |.bl a,.int b=>(if a then 1 else 0)==b
 |.int a,.bl b=>a==(if b then 1 else 0)
 |.int a,.int b=>a==b
 |.str a,.str b=>a==b
 |_,_=>false
theorem fT {x:V}{u v:d0}(ry:By y u)(rx:By x v)(fy:Ec y=true)(fx:Ec x=true):rg A s u v (eqV y x):=by
 cases y with
 |non=>
  cases ry
  cases x with
  |non=>cases rx;exact rp _
  |bl b=>cases rx;exact FF b
  |int b=>obtain⟨t,rfl⟩:=rx;exact FE b t
  |str b=>obtain⟨t,rfl⟩:=rx;exact FC b t
  |_=>exact absurd (show false=true from fx) fg
 |bl a=>
  cases ry
  cases x with
  |non=>cases rx;exact FK a
  |bl b=>cases rx;exact FM a b
  |int b=>obtain⟨t,rfl⟩:=rx;exact FL a b t
  |str b=>obtain⟨t,rfl⟩:=rx;exact FJ a b t
  |_=>exact absurd (show false=true from fx) fg
 |int a=>
  obtain⟨t',rfl⟩:=ry
  cases x with
  |non=>cases rx;exact FG a t'
  |bl b=>cases rx;exact FI a t' b
  |int b=>obtain⟨t,rfl⟩:=rx;exact FH a t' b t
  |str b=>obtain⟨t,rfl⟩:=rx;exact wb a t' b t
  |_=>exact absurd (show false=true from fx) fg
 |str a=>
  obtain⟨t',rfl⟩:=ry
  cases x with
  |non=>cases rx;exact FA a t'
  |bl b=>cases rx;exact FB a t' b
  |int b=>obtain⟨t,rfl⟩:=rx;exact v7 a t' b t
  |str b=>obtain⟨t,rfl⟩:=rx;exact EZ a t' b t
  |_=>exact absurd (show false=true from fx) fg
 |_=>exact absurd (show false=true from fy) fg
def eqU (x:V)(u:d0):Bool:=match u with
 |.none=>eqV .non x
 |.bool b=>eqV (.bl b) x
 |.int i _=>eqV (.int i) x
 |.str z _=>eqV (.str z) x
 |_=>false
theorem Xw {x:V}{u:d0}(r:By y u)(f:Ec y=true):eqU x u=eqV y x:=by
 cases y with
 |non=>cases r;rfl
 |bl b=>cases r;rfl
 |int i=>obtain⟨t,rfl⟩:=r;rfl
 |str z=>obtain⟨t,rfl⟩:=r;rfl
 |_=>exact absurd (show false=true from f) fg
theorem Xd {x:V}:∀{xs:List V} {us:Za3},Bj xs us->xs.all Ec=true->us.any (eqU x)=xs.any λy=>eqV y x
 |_,_,.nil,_=>rfl
 |y::xs,u::us,.cons r t,f=>by
  rw[rm,ly] at f;rw[BF,BF,Xw r f.1,Xd t f.2]
theorem L9 {A:gt}{s:d4}{x:V}{v:d0}(rx:By x v)(fx:Ec x=true):∀{xs:List V} {us:Za3},Bj xs us->xs.all Ec=true->∀u∈us,rg A s u v (eqU x u)
 |_,_,.nil,_=>λu hu=>by cases hu
 |y::xs,u::us,.cons r t,f=>λu' hu=>by
  rw[rm,ly] at f;rcases fu.mp hu with rfl|hu
  ·rw[Xw r f.1];exact fT r rx f.1 fx
  ·exact L9 rx fx t f.2 u' hu
def inV (x:V)(xs:List V):Bool:=xs.any λy=>eqV y x
def rIn (K:da)(neg:Bool):R2:=λx y H Q=>∃p xs,y=.ref p/\(SqL K H p xs\/SqT K H p xs)/\Ec x=true/\xs.all Ec=true/\Q (.bl (if neg then !inV x xs else inV x xs)) H
theorem Xa:OpR X (compareOp .In) (rIn X.K false):=by
 intro pins s G H x y v u Q I rx ry h;obtain⟨p,xs,rfl,hq,fx,fs,q⟩:=h;cases ry;rcases hq with hq|hq
 ·obtain⟨its,r,pl,hz⟩:=I.list hq
  refine SeqAt.in_listAt (eqU x) pl.isList (λw hw=>L9 rx fx r fs w (by simpa using hw)) ⟨.bl _,H,I,rfl,?_⟩;rw[show its.toArray.any (eqU x)=its.any (eqU x) by simp,Xd r fs];exact q
 ·obtain⟨its,r,pl,hz⟩:=I.tuple hq
  refine SeqAt.in_tupleAt (eqU x) pl (λw hw=>L9 rx fx r fs w (by simpa using hw)) ⟨.bl _,H,I,rfl,?_⟩;rw[show its.toArray.any (eqU x)=its.any (eqU x) by simp,Xd r fs];exact q
theorem Yo:OpR X (compareOp .NotIn) (λx y H Q=>∃i j,x=.str i/\y=.str j/\Q (.bl (!(!(pd j i 0 j.length 1).isEmpty))) H):=by
 intro pins s G H x y v u Q I rx ry h;obtain⟨i,j,rfl,rfl,q⟩:=h;obtain⟨t,rfl⟩:=rx;obtain⟨t',rfl⟩:=ry;exact notIn_str ⟨.bl _,H,I,rfl,q⟩
theorem Aq:Hh X (.builtin "len") (λxs H Q=>∃p ys,xs=[.ref p]/\(SqL X.K H p ys\/SqT X.K H p ys)/\Q (.int ys.length) H):=by
 intro pins s G H xs us Q I r h;obtain⟨p,ys,rfl,hq,q⟩:=h;obtain⟨u,rfl,rx⟩:=Fj r;cases rx;have hn:=Ng;rcases hq with hq|hq
 ·obtain⟨its,r',pl,hz⟩:=I.list hq
  have hlen:=r'.length;exact Calls.call_len_list pl.isList (by simp only[ez]<;>lia) ⟨.int ys.length,H,I.tok _,⟨s.toks+1,by rw[ez,hlen]⟩,q⟩
 ·obtain⟨its,r',pl,hz⟩:=I.tuple hq
  have hlen:=r'.length;exact len_tuple pl (by simp only[ez]<;>lia) ⟨.int ys.length,H,I.tok _,⟨s.toks+1,by rw[ez,hlen]⟩,q⟩
theorem Er:Hh X (.builtin "len") (λxs H Q=>∃z,xs=[.str z]/\z.length<=sizeLine/\Q (.int z.length) H):=by
 intro pins s G H xs us Q I r h;obtain⟨z,rfl,hz,q⟩:=h;obtain⟨u,rfl,t,rfl⟩:=Fj r;have hn:=Ng;exact len_str (by lia) ⟨.int z.length,H,I.tok _,⟨_,rfl⟩,q⟩
theorem Ky:Hh X (.type "list") (λxs H Q=>∃p ys,xs=[.ref p]/\(SqL X.K H p ys\/SqT X.K H p ys)/\∀l,H l=none->Q (.ref l) (upd H l (.lst ys))):=by
 intro pins s G H xs us Q I r h;obtain⟨p,ys,rfl,hq,q⟩:=h;obtain⟨u,rfl,rx⟩:=Fj r;cases rx;have fin:∀(its:Za3),Bj ys its->ys.length<=sizeLine->∀(h':gv) (c':Nat),(∀b o',s.heap.get? b=some o'->h'.get? b=some o') ->
   h'.get? s.heap.objs.size=some { cls:=.type "list",dict:=none,data:=.seq its.toArray c',slots:=#[] }->EP X pins G Q (.ref s.heap.objs.size) { s with heap:=h' }:=λits r' hz h' c' kp e=>
  ⟨.ref s.heap.objs.size,_,I.laid (t':=s.toks) kp (db _) (show Ee X.prog X.w _ h' _ (.lst ys) from⟨hz,its,c',r',e⟩),rfl,q _ (I.hok.fresh (db _))⟩
 rcases hq with hq|hq
 ·obtain⟨its,r',pl,hz⟩:=I.list hq
  have hlen:=r'.length;obtain⟨o,ho,hc,n,hd⟩:=pl.isList;exact EX p (.inl rfl) ho hc hd (λh' c' kp e=>fin its r' hz h' c' kp e) (by simp only[ez]<;>lia)
 ·obtain⟨its,r',pl,hz⟩:=I.tuple hq
  have hlen:=r'.length;obtain⟨o,ho,hc,n,hd⟩:=pl;exact EX p (.inr rfl) ho hc hd (λh' c' kp e=>fin its r' hz h' c' kp e) (by simp only[ez]<;>lia)
def tyV (K:da)(T:String)(x:V)(H:Hp):Prop:=match x with
 |.str _=>T="str"
 |.int _=>T="int"
 |.ref p=>(T="list"/\∃xs,SqL K H p xs)\/(T="tuple"/\∃o,K.lookup p=some o/\o.cls=.type "tuple"/\o.dict=none) \/
   (T="dict"/\((∃kvs,H p=some (.dK kvs))\/∃kvs,H p=some (.dT kvs)))\/(T="set"/\∃S n,H p=some (.set S n))
 |_=>False
theorem pB {G:St}{T:String}{x:V}{v:d0}(I:Inv X pins G H s)(r:By x v)(ty:tyV X.K T x H) :
  s.TypeIs v T/\∀a,v=.ref a->∃ob,s.heap.get? a=some ob/\ob.dict=none:=by
 cases x with
 |str z=>
  obtain⟨t,rfl⟩:=r;cases(show T="str" from ty);exact⟨typeIs_str s z t,λ_ e=>nomatch e⟩
 |int i=>
  obtain⟨t,rfl⟩:=r;cases(show T="int" from ty);exact⟨AZ s i t,λ_ e=>nomatch e⟩
 |ref p=>
  cases r;rcases ty with⟨rfl,xs,hq⟩|⟨rfl,o,hk,hc,hd⟩|⟨rfl,hk⟩|⟨rfl,S,n,hk⟩
  ·obtain⟨its,_,pl,_⟩:=I.list hq
   refine⟨pl.isList.typeIs,λa e=>?_⟩;cases e;obtain⟨o,n,e,c,hd,_⟩:=pl;exact⟨o,e,hd⟩
  ·refine⟨⟨o,I.kIn p o hk,hc⟩,λa e=>?_⟩
   cases e;exact⟨o,I.kIn _ o hk,hd⟩
  ·have z:∃o,s.heap.get? p=some o/\o.ExactDict:=by
    rcases hk with⟨kvs,hk⟩|⟨kvs,hk⟩
    ·obtain⟨_,_,_,_,o,_,_,e,ex,_⟩:=I.hok p _ hk
     exact⟨o,e,ex⟩
    ·obtain⟨_,_,_,_,o,_,_,e,ex,_⟩:=I.hok p _ hk
     exact⟨o,e,ex⟩
   obtain⟨o,e,ex⟩:=z;refine⟨⟨o,e,ex.1⟩,λa e2=>?_⟩;cases e2;exact⟨o,e,ex.2.1⟩
  ·obtain⟨o,_,_,_,e,ex,_⟩:=I.hok p _ hk
   refine⟨⟨o,e,ex.1⟩,λa e2=>?_⟩;cases e2;exact⟨o,e,ex.2.1⟩
 |_=>exact i9 ty
def Aaq (K:da)(T:String)(r:V->List V->Hp->VK->Prop)(to:TE):TE:=λG H Q=>to G H λx H1=>tyV K T x H1/\r x [] H1 Q
def tBM (K:da)(T:String)(r:V->List V->Hp->VK->Prop)(to:TE)(t:TA):TE:=λG H Q=>to G H λx H1=>tyV K T x H1/\t G H1 λxs H2=>r x xs H2 Q
variable {o e:gd} {es:List gd} {to:TE} {t:TA} {name:Str} {apos cpos:Pos} {T id:String} {r:V->List V->Hp->VK->Prop}
theorem Pk (pa:PlainAttrs T)(slot:Slot T name id)(hty:typeOf (.builtin id)=pure (.type "method_descriptor"))(hm:MtR X id r)(ho:PE X o to)
  (hbase:autoParam (attributeBase o name X.env (eval o X.env)=eval o X.env) QD)(hline:autoParam ((apos.endLine==cpos.line)=true) QD):PE X (.Call (.Attribute o name apos) [] [] cpos) (Aaq X.K T r to):=by
 k_in;refine wpAny_Call_method0_late hbase hline (thE ho I h λv s1 x H1 I1 r1 ⟨ty,q1⟩=>?_);obtain⟨h1,h2⟩:=pB I1 r1 ty;exact⟨T,id,pa,slot,hty,h1,h2,wu rfl (PySem.evalArgs_none (hm pins s1 G H1 x [] v [] Q I1 r1 .nil q1))⟩
theorem Cl (pa:PlainAttrs T)(slot:Slot T name id)(hty:typeOf (.builtin id)=pure (.type "method_descriptor"))(hm:MtR X id r)(ho:PE X o to)(ha:PA X (e::es) t)
  (hbase:autoParam (attributeBase o name X.env (eval o X.env)=eval o X.env) QD)
  (hfew:autoParam (((backTo cpos (starEach (e::es) X.env)).all (λx=>!x.1)&&(backToKw cpos (keywordEach [] X.env)).all (λx=>x.1.isSome)
   && decide ((e::es).length+([]:List xb).length+(if([]:List xb).isEmpty then 0 else 1)<30))=true) QD)
  (hline:autoParam ((apos.endLine==cpos.line)=true) QD)(hs:autoParam (starEach (e::es) X.env=(false,eval e X.env)::starEach es X.env) QD)(hplain:autoParam ((backTo cpos (starEach es X.env)).any (·.1)=false) QD) :
  PE X (.Call (.Attribute o name apos) (e::es) [] cpos) (tBM X.K T r to t):=by
 k_in;refine wpAny_Call_method_late hbase hfew hline rfl (thE ho I h λv s1 x H1 I1 r1 ⟨ty,q1⟩=>?_);obtain⟨h1,h2⟩:=pB I1 r1 ty;refine⟨T,id,pa,slot,hty,h1,h2,?_⟩;have hA:=ha cpos pins s1 G H1 _ I1 q1;rw[hs] at hA ⊢;refine wu (by show(false||(backTo cpos (starEach es X.env)).any (·.1))=false;rw[hplain]<;>rfl) (xn ?_)
 exact thn hA λus s2 ⟨vs,H2,I2,r2,q2⟩=>hm pins s2 G H2 x vs v us Q I2 r1 r2 q2
/- xs.append(e),list.index on a module's tuple .. are MtR facts of 06m -/
end
def MtM (X:Cx)(id:String)(r:V->List V->Hp->VK->Prop):Prop:=
 ∀(pins:Za1) (s:d4) (G:St) (H:Hp) (x:V) (xs:List V) (v:d0) (us:Za3) (Q:VK),Inv X pins G H s->By x v->Bj xs us->r x xs H Q ->
  wpAny (model X.prog X.w) X.A (call (.builtin id) (v::us)) (EP X pins G Q) X.xe s
theorem Bj.one:∀{x:V} {us:Za3},Bj [x] us->∃u,us=[u]/\By x u
 |_,_,.cons r .nil=>⟨_,rfl,r⟩
theorem Bj.zero:∀{us:Za3},Bj [] us->us=[]
 |_,.nil=>rfl
theorem Bj.dropLast (h:Bj xs us):Bj xs.dropLast us.dropLast:=by
 induction h with
 |nil=>exact .nil
 |cons r t ih=>
  cases t with
  |nil=>exact .nil
  |cons q t'=>exact .cons r ih
theorem Bj.rep {xs:List V}{us:Za3}(h:Bj xs us):∀k:Nat,Bj (dn k xs).flatten (dn k us).flatten
 |0=>.nil
 |k+1=>by
  rw[gk,gk,il,il];exact Bj.append h (Bj.rep h k)
theorem gX {α:Type}(l:List α):l.eraseIdx (l.length-1)=l.dropLast:=by
 induction l with
 |nil=>rfl
 |cons a r ih=>
  cases r with
  |nil=>rfl
  |cons b r=>
   have e:(a::b::r).length-1=((b::r).length-1)+1:=by
    have h1:(a::b::r).length=r.length+2:=rfl;have h2:(b::r).length=r.length+1:=rfl;lia
   rw[e,List.eraseIdx_cons_succ,ih]
   all_goals rfl
theorem Wz (its:Za3):∀(k:Nat) (acc:Za3),
  yx (λx1 x2=>x1++x2) acc.toArray (dn k its.toArray)=(acc++(dn k its).flatten).toArray
 |0,acc=>by simp
 |k+1,acc=>by
  have e:acc.toArray++its.toArray=(acc++its).toArray:=by simp
  have e2:(acc++its)++(dn k its).flatten=acc++(dn (k+1) its).flatten:=by
   rw[gk,il,d9]
  rw[<-e2,<-Wz its k (acc++its),<-e,gk,uo]
section
variable {X:Cx} {pins:Za1} {G:St} {H:Hp} {s:d4} {l b:df} {xs ys zs:List V}
theorem Inv.lset {its its':Za3}{n:Nat}{f:Array d0->Array d0}(I:Inv X pins G H s)(hH:H l=some (.lst xs))
  (e:s.heap.get? l=some { cls:=.type "list",data:=.seq its.toArray n })(hf:f its.toArray=its'.toArray)(hv:Bj ys its')(hz:ys.length<=sizeLine) :
  Inv X pins G (upd H l (.lst ys)) { s with heap:=s.heap.update l (jn f),toks:=t' }:=by
 have q:=FP e f;rw[hf] at q;refine I.write (x:=l) (e:=l) (by rw[hH];exact trivial) (.inl rfl) (λb' u hb hu=>(gq s.heap (jn f) (me hb)).trans hu) ⟨_,q⟩ ?_;exact⟨hz,its',_,hv,q⟩
theorem Inv.lnew {its:Za3}(I:Inv X pins G H s)(hv:Bj ys its)(hz:ys.length<=sizeLine) :
  Inv X pins G (upd H s.heap.objs.size (.lst ys)) { s with heap:=s.heap.push { cls:=.type "list",data:=.seq its.toArray },toks:=t' }:=
 I.laid (λ_ _ q=>dq _ q) (db _) ⟨hz,its,0,hv,fi _ rfl⟩
theorem Inv.fresh (I:Inv X pins G H s):H s.heap.objs.size=none:=I.hok.fresh (db _)
theorem Inv.lstM (I:Inv X pins G H s)(hH:H l=some (.lst xs)):xs.length<=sizeLine/\∃(its:Za3) (n:Nat),Bj xs its/\xs.length=its.length/\s.heap.get? l=some { cls:=.type "list",data:=.seq its.toArray n }:=by
 obtain⟨z,its,n,r,e⟩:=I.hok l _ hH;exact⟨z,its,n,r,r.length,e⟩
theorem eB {n:Nat}(h:n<=sizeLine):lr n=false:=by
 unfold lr;exact decide_eq_false (by lia)
end
section
variable {X:Cx}
def jS:V->List V->Hp->VK->Prop:=λx vs H Q=>∃l xs y,x=.ref l/\vs=[y]/\H l=some (.lst xs)/\xs.length<sizeLine/\Q .non (upd H l (.lst (xs++[y])))
theorem Bm:MtM X "list.append" jS:=by
 intro pins s G H x vs v us Q I rx rv h;obtain⟨l,xs,y,rfl,rfl,hH,hz,q⟩:=h;cases rx;obtain⟨u,rfl,ru⟩:=rv.one;obtain⟨z,its,n,r,hl,e⟩:=I.lstM hH;refine qc F.slot_list_append ⟨_,e,rfl⟩ F.entry_list_append (F.args_list_append_2 _ _) (PySem.list_append l its.toArray n u (by rw[ez];lia)) ⟨e,?_⟩;refine⟨.non,_,I.lset (its':=its++[u]) hH e (by simp) (r.append (.cons ru .nil)) ?_,rfl,q⟩;rw[c9,ig];lia
def uB:V->List V->Hp->VK->Prop:=λx vs H Q=>∃l b xs zs,x=.ref l/\vs=[.ref b]/\H l=some (.lst xs)/\H b=some (.lst zs)/\xs.length+zs.length<=sizeLine/\Q .non (upd H l (.lst (xs++zs)))
theorem Aai:MtM X "list.extend" uB:=by
 intro pins s G H x vs v us Q I rx rv h;obtain⟨l,b,xs,zs,rfl,rfl,hH,hB,hz,q⟩:=h;cases rx;obtain⟨u,rfl,ru⟩:=rv.one;cases ru;obtain⟨z,its,n,r,hl,e⟩:=I.lstM hH;obtain⟨z2,its2,n2,r2,hl2,e2⟩:=I.lstM hB;have hsz:its.toArray.size+its2.toArray.size<=sizeLine:=by rw[ez,ez];lia
 have hlong:¬(!its.toArray.isEmpty&&lr (its.toArray.size+its2.toArray.size))=true:=by
  rw[eB hsz,Bool.and_false];exact fg
 refine qc F.slot_list_extend ⟨_,e,rfl⟩ F.entry_list_extend (F.args_list_extend_2 _ _)
  (AutoSeq1.list_extend_list_list_0 l its.toArray n b its2.toArray n2 hlong (by rw[ez];lia) (by lia)) ⟨e,e2,?_⟩
 refine⟨.non,_,I.lset (its':=its++its2) hH e (by simp) (r.append r2) ?_,rfl,q⟩;rw[c9];lia
def Acu:V->List V->Hp->VK->Prop:=λx vs H Q=>∃l xs y,x=.ref l/\vs=[]/\H l=some (.lst xs)/\xs[xs.length-1]?=some y/\Q y (upd H l (.lst xs.dropLast))
theorem Pp:MtM X "list.pop" Acu:=by
 intro pins s G H x vs v us Q I rx rv h;obtain⟨l,xs,y,rfl,rfl,hH,hy,q⟩:=h;cases rx;have hus:=rv.zero;subst hus;obtain⟨z,its,n,r,hl,e⟩:=I.lstM hH;obtain⟨u,hu,ru⟩:=r.get hy;have hy':its.toArray[its.toArray.size-1]?=some u:=by
  show its.toArray[its.length-1]?=some u;rw[<-nh,<-hl];exact hu
 refine qc F.slot_list_pop ⟨_,e,rfl⟩ F.entry_list_pop (F.args_list_pop_1 _) (MeetsSeq.list_pop_last l its.toArray n u hy' (by rw[ez];lia)) ⟨e,?_⟩;refine⟨y,_,I.lset (its':=its.dropLast) hH e ?_ r.dropLast ?_,ru,q⟩
 ·show its.toArray.eraseIdxIfInBounds (its.toArray.size-1)=its.dropLast.toArray
  rw[ez,List.eraseIdxIfInBounds_toArray,gX]
 ·rw[List.length_dropLast]
  lia
def Acl:R2:=λx y H Q=>∃l b xs zs,x=.ref l/\y=.ref b/\H l=some (.lst xs)/\H b=some (.lst zs)/\xs.length+zs.length<=sizeLine/\∀p,H p=none->Q (.ref p) (upd H p (.lst (xs++zs)))
theorem Ev:OpR X (binaryOp .Add) Acl:=by
 intro pins s G H x y v u Q I rx ry h;obtain⟨l,b,xs,zs,rfl,rfl,hH,hB,hz,q⟩:=h;cases rx;cases ry;obtain⟨z,its,n,r,hl,e⟩:=I.lstM hH;obtain⟨z2,its2,n2,r2,hl2,e2⟩:=I.lstM hB;refine PySem.P.add_list e e2 ?_ (by rw[ez,ez];lia);have ea:its.toArray++its2.toArray=(its++its2).toArray:=by simp
 rw[ea];exact⟨.ref _,_,I.lnew (t':=s.toks) (r.append r2) (by rw[c9];lia),rfl,q _ I.fresh⟩
def Aci:R2:=λx y H Q=>∃l k xs,x=.ref l/\y=.int k/\H l=some (.lst xs)/\-(2 ^ 63)<=k/\k<2 ^ 63/\xs.length*k.toNat<=sizeLine /\
 ∀p,H p=none->Q (.ref p) (upd H p (.lst (dn k.toNat xs).flatten))
theorem kY {α:Type}(xs:List α)(k:Nat):(dn k xs).flatten.length=k*xs.length:=by
 induction k with
 |zero=>simp
 |succ k ih=>rw[gk,il,c9,ih,xl,qk]
theorem Aah:OpR X (binaryOp .Mult) Aci:=by
 intro pins s G H x y v u Q I rx ry h;obtain⟨l,k,xs,rfl,rfl,hH,h1,h2,hz,q⟩:=h;cases rx;obtain⟨t,rfl⟩:=ry;obtain⟨z,its,n,r,hl,e⟩:=I.lstM hH;have hlen:its.toArray.size*k.toNat<=sizeLine:=by rw[ez,<-hl];exact hz
 have hcap:¬ its.toArray.size*k.toNat>(2 ^ 63-1)/8:=by
  have:(sizeLine:Nat)<=(2 ^ 63-1)/8:=by decide
  lia
 have hfit:¬(!EF k)=true:=by
  rw[fitsIndex_both h1 h2];exact fg
 have hlong:¬ lr (its.toArray.size*k.toNat)=true:=by
  rw[eB hlen];exact fg
 have hnew:yx (λx1 x2=>x1++x2) #[] (dn (if its.toArray.isEmpty=true then 0 else k.toNat) its.toArray)=(dn k.toNat its).flatten.toArray:=by
  have f0:∀m:Nat,yx (λx1 x2=>x1++x2) #[] (dn m its.toArray)=(dn m its).flatten.toArray:=λm=>by
   have:=Wz its m [];rw[AF] at this;exact this
  rw[f0]
  cases its with
  |nil=>simp
  |cons a r'=>rw[if_neg (by simp)]
 refine wpAny_binaryOp_repeat_ref (T:="list") (U:="int") (by decide) ⟨_,e,rfl⟩ (λs'=>AZ s' k t) noFill_list_mul F.fills_int_mul BP repeat_list F.slot_int_index.lookup
  (qc BP (AZ s k t) F.entry_int_rmul (F.args_int_rmul_2 _ _) (int___rmul___int_list k t l its.toArray n)
   ⟨e,rfl,⟨_,e,rfl⟩,qc F.slot_list_mul ⟨_,e,rfl⟩ F.entry_list_mul (F.args_list_mul_2 _ _) (FS l its.toArray n k t hfit hcap hlong) ⟨e,?_⟩⟩)
 rw[hnew];exact⟨.ref _,_,I.lnew (t':=s.toks) (r.rep k.toNat) (by rw[kY,CI];exact hz),rfl,q _ I.fresh⟩
end
end L2
namespace Att
open PySem PySem.W PySem.Calls PyProof.Rows
theorem Rq {P:vt}{h:gv}:∀(ns:List Int) (vs:Za3),WellAll P h vs (ns.map CZ)->xc vs ns:=by
 intro ns
 induction ns with
 |nil=>
  intro vs w;rw[wy] at w;cases w;exact .nil
 |cons n ns ih=>
  intro vs w;rw[jd] at w
  cases w with
  |cons a b=>
   cases a;exact .cons _ _ (ih _ b)
theorem mY {l:FQ}{n:Nat}(hn:l.most=some n){P:vt}{h:gv}{args:List WData}{vals:Za3}
    (hpre : l.row.toRowW.claim.pre args = true)(hwl : WellAll P h vals args) :
    ∃ a vs ns, vals = [ik a]/\args = [WData.list (ns.map CZ)]/\h.get? a = some { cls := .type "list", data := .seq vs.toArray }/\xc vs ns/\ns.length <= n := by
  have hsh : WShape.hasAll [] args [.list .int] = true := (pre_splitW hpre).1;have hc : l.pre.holds [] { args := args } = true := (pre_splitW hpre).2;obtain ⟨d, r, rfl, h1, h2⟩ := hasAllW_cons hsh;obtain rfl := hasAllW_nil h2;obtain ⟨xs, rfl, h3⟩ := hasW_list h1;obtain ⟨ns, rfl⟩ := items_int h3;have hlen : ns.length <= n := by
    unfold OpenLaw.pre at hc;have h4 : (WTm.not (.lt (.lit (.int (n : Int))) (.len (.arg 0)))).holds [] { args := [.list (ns.map .int)] } = true := by
      have h4 := (holds_andW hc).1;rw [hn] at h4;exact h4
    have h5 := condW_of h4 (w_not (w_lt w_lit (w_len_list (w_arg rfl))));rw [c8] at h5;refine AD λq => ?_;have q' : (n : Int) < ((ns.length : Nat) : Int) := by lia
    first
      | (rw [decide_eq_true q'] at h5; exact absurd h5 (by decide))
      | (simp at h5; lia)
  cases hwl with
  | cons w1 w2 =>
    cases w2
    cases w1 with
    | list ho hall => exact ⟨_, _, ns, rfl, rfl, ho, Rq ns _ hall, hlen⟩
theorem mO (l:FQ)(args:List WData):l.row.toRowW.claim.post args (.bool true) args=true:=
 postW_of (r:=l.row.toRowW) (X:=(true==true))
  (show BJ [] (.bool true) .bool=true by first|rfl|decide|simp[BJ,WShape.arms,WShape.armsAll])
  (show(WTm.eq .res (.lit (.bool true))).value [] { args:=args,res:=some (.bool true),after:=args }=some (.bool (true==true)) from w_eq_bool (w_res rfl) w_lit) rfl
theorem attach_call {l:FQ}{n:Nat}{q:fc}{loose:Za6}{XP:(Za2)->gv->Prop}{YP:ge->gv->Prop}{d:EN}
  (hn:l.most=some n)(hdf:d.params.defaults=[])
  (call:∀(w:ge) (HA HB:d4) (mg mb:Za2) (fa:df) (o:Obj) (pm cd doc:d0) (a:df) (vs:Za3) (ns:List Int),
   Ground q loose [] XP w HA mg mb HB.heap->YP w HB.heap ->
   HB.heap.get? fa=some o->o.data=.func (docDef d.name d.params d.body d.scope pm cd doc)->HB.heap.CodeRec cd d.name->mg d.name=some (.ref fa) ->
   HB.heap.get? a=some { cls:=.type "list",data:=.seq vs.toArray }->xc vs ns->ns.length<=n->HB.gens=#[] ->
   codeAny (model l.prog w) callerA (.call (.ref fa) ⟨[.ref a],[]⟩) (λr s'=>r=.ok (.ret (.bool true))/\OldK HB.heap s'.heap/\s'.os=HB.os/\qh s'.gens) HB) :
  WalkO q loose XP YP l.row.toRowW d [] (λf vs=>yg f vs):=by
 intro w HA HB mg mb G Y fa o pm cd doc dV kV ho hd hcd hD hmg hg args vals as hpre hlay hrd hwl hlo;obtain rfl:dV=.none:=Dflts.none hD hdf;obtain rfl:kV=.none:=Dflts.noKw hD;obtain⟨a,vs,ns,rfl,rfl,hobj,hints,hlen⟩:=mY hn hpre hwl;refine enter_call (lq (call w HA HB mg mb fa o pm cd doc a vs ns G Y ho (fd_plain hd) hcd hmg hobj hints hlen hg) λr s' hq=>?_);obtain⟨rfl,h2,h3,h4⟩:=hq;exact⟨.inl ⟨.bool true,.bool true,[],rfl,λ_=>rfl,.bool true,mO l _,λ_=>⟨CO,λ_ hm=>(nomatch hm)⟩⟩,h2,h3,h4⟩
section
variable {prog:fc} {w:ge} {A:gt} {E:Za0} {s:d4} {K:AI}
end
end Att
namespace L2
open PySem PySem.Spec PyProof.Rows
variable {C CS Pt dx i1 i2 it kl l1 l2 pa z:df} {params:kj} {A:gt} {CX:CXT} {op:rf} {X:Cx} {env:Env} {tg:gd} {fd:io} {base h h' h1:gv} {H H' H1 H2:Hp} {J:It} {pins:Za1} {as fp:List df} {outer:List Env} {elts:List gd} {ns:List Int} {ix:Za4} {N ps:Za6} {ts:List Tb} {xs ys:List V} {us vs:Za3} {M:qr} {off t':Nat} {oT:Obj} {od:Option df} {pos:Pos} {scope:kr} {pl:Sem Bool} {s s2:d4} {sp:Sp} {st:gm} {qual:Str} {tk:TA} {te:TE} {wi:TI} {y:V} {pm:d0} {w:ge}
theorem U6:∀{vs:Za3} {ns:List Int},xc vs ns->Bj (ns.map V.int) vs
 |_,_,.nil=>.nil
 |_,_,.cons n t h=>.cons ⟨t,rfl⟩ (U6 h)
def Aw (s:gm)(j:Nat):gm:=match s with
 |.ClassDef _ _ _ body _ _ _ _ _ _ _=>body.getD j (.Pass ⟨0,0,0,0⟩)
 |_=>.Pass ⟨0,0,0,0⟩
def C7 (s:gm):kj:=match s with
 |.FunctionDef _ a _ _ _ _ _ _ _ _=>a
 |_=>{ posonlyargs:=[],args:=[],vararg:=none,kwonlyargs:=[],kw_defaults:=[],kwarg:=none,defaults:=[] }
def Ch (s:gm):List gm:=match s with
 |.FunctionDef _ _ b _ _ _ _ _ _ _=>b
 |_=>[]
def Ae (s:gm):kr:=match s with
 |.FunctionDef _ _ _ _ _ _ sc _ _ _=>sc
 |_=>{ kind:=.function,names:=[],isGenerator:=false,isCoroutine:=false }
abbrev CX0:CXT:=λ_ _ _ _ _ _=>False
abbrev E0:XK:=λ_ _ _=>False
theorem eD:Ja CX0 X E0:=λ_ _ _ _ _ _ _ h=>h.elim
structure Fun (K:da) (x qual:Str) (st:gm) (f:df) (fd:io):Prop where
 ex:∃(oc:d0) (od:Option df) (kV doc pm:d0) (an:Option df) (cdv ct:d0) (osl:Array (Za7)),
  fd=jh x qual (C7 st) (Ch st) (Ae st) .none kV doc pm an cdv ct/\K.lookup f=some ⟨oc,od,.func fd,osl⟩/\kg K cdv qual=true
 kp:jf K (.ref f)=true
section
variable {P:fc} {w:ge} {K:da} {mg:Za2} {base:gv}
theorem Fun.ok {x:Str}{f:df}{k:Nat}(F:Fun K x qual st f fd)(S:Al N ps (Ae st))(len:∀vs H Q E,sp vs H Q E->vs.length=ps.length)
  (hbody:∀(cdv:d0) (A:gt) (outer:List Env) (s:d4) (H:Hp) (vs:List V) (Q:VK) (E:XK),Ck k (A.deeper (envOfC qual (Ae st) s.heap.objs.size f cdv))->sp vs H Q E ->
   ∃t,PSs (E1 CX0 P w K mg base N qual (Ae st) f cdv A outer s H E).nox (Ch st) t/\t { nx:=λ_ H'=>Q .non H',rt:=Q } (Nc N vs) H):Ba P w K mg base CX0 (k+1) f fd ps sp:=by
 obtain⟨oc,od,kV,doc,pm,an,cdv,ct,osl,rfl,lk,hcd⟩:=F.ex;refine qC lk hcd S len λA outer s H vs Q E hr hsp=>?_;obtain⟨t,h,q⟩:=hbody cdv A outer s H vs Q E hr hsp;exact⟨t,h.nox,q⟩
theorem Fun.binds {x:Str}{f:df}(F:Fun K x qual st f fd)
  (h:∀(kV doc pm:d0) (an:Option df) (cdv ct:d0) (us:Za3),us.length=ps.length->bindArgs (jh x qual (C7 st) (Ch st) (Ae st) .none kV doc pm an cdv ct) ⟨us,[]⟩=pure (ps.zip us)):Ge K fd ps []:=by
 obtain⟨oc,od,kV,doc,pm,an,cdv,ct,osl,rfl,lk,hcd⟩:=F.ex;exact .all (h kV doc pm an cdv ct)
theorem gL {x:Str}{f:df}{oc:d0}{an:Option df}{osl:Array (Za7)}{kV doc cdv ct:d0}(l:K.lookup f=some ⟨oc,od,.func (jh x qual (C7 st) (Ch st) (Ae st) .none kV doc pm an cdv ct),osl⟩)
  (c:kg K cdv qual=true)(k:jf K (.ref f)=true):Fun K x qual st f (jh x qual (C7 st) (Ch st) (Ae st) .none kV doc pm an cdv ct):=⟨⟨oc,od,kV,doc,pm,an,cdv,ct,osl,rfl,l,c⟩,k⟩
end
theorem Pc {n:Nat}(h:n<=1000):n<sizeLine:=sd h (by decide)
section
variable {X:Cx}
theorem pv (i:Nat){x:Str}(hN:autoParam (X.N[i]?=some x) QD)(hv:Vis X.env.scope x:=by first|exact zn rfl|exact sg (zn rfl)|exact sg (sg rfl))(hd:autoParam ((x==("__debug__":Str))=false) QF)
  (hcd:autoParam ((x==("__classdict__":Str))=false) QF):PE X (.Name x pos) (tW i):=sQ hN hv hd hcd
end
theorem Acm {A B:Prop}(h:B):if false=true then A else B:=by
 rw[if_neg fg];exact h
theorem Aco {A B:Prop}(h:A):if true=true then A else B:=by
 rw[if_pos rfl];exact h
def Aj (H H':Hp):Prop:=∀b o,H b=some o->H' b=some o
theorem Aj.refl (H:Hp):Aj H H:=λ_ _ h=>h
theorem Aj.trans (a:Aj H H1)(b:Aj H1 H2):Aj H H2:=λc o h=>b c o (a c o h)
theorem Aj.free (e:Aj H H'){l:df}(h:H' l=BE):H l=BE:=by
 cases q:H l with
 |none=>rfl
 |some o=>
  rw[e l o q] at h;cases h
theorem Aj.seq {K:da}{a:df}(e:Aj H H')(h:SqL K H a xs):SqL K H' a xs:=by
 rcases h with(h|⟨o,h⟩)|h
 ·exact .inl (.inl (e _ _ h))
 ·exact .inl (.inr ⟨o,e _ _ h⟩)
 ·exact .inr h
end L2
section
namespace L2
open PySem PySem.Spec PyProof.Rows
variable {C CS Pt dx i1 i2 it kl l1 l2 pa z:df} {params:kj} {A:gt} {CX:CXT} {op:rf} {X:Cx} {env:Env} {tg:gd} {fd:io} {base h h' h1:gv} {H H' H1 H2:Hp} {J:It} {pins:Za1} {as fp:List df} {outer:List Env} {elts:List gd} {ns:List Int} {ix:Za4} {N ps:Za6} {ts:List Tb} {xs ys:List V} {us vs:Za3} {M:qr} {off t':Nat} {oT:Obj} {od:Option df} {pos:Pos} {scope:kr} {pl:Sem Bool} {s s2:d4} {sp:Sp} {st:gm} {qual:Str} {tk:TA} {te:TE} {wi:TI} {y:V} {pm:d0} {w:ge}
section
variable {prog:fc} {w:ge} {A:gt} {R:ug->d4->Prop} {s:d4}
def kB (ifs:List gd)(env:Env):Sem Bool:=
 forIn ifs true λc r=>if r=true then do let ok <-isTrue c env (eval c env);pure (ya ok) else pure (ya r)
theorem kL {elt tg iter:gd}{ifs:List gd}{scope:kr}{pos:Pos}{it acc:d0}{env:Env}(J:Nat->d4->Prop)
  (turn:∀n s,J n s->wpAny (model prog w) A (pyNext it) (λr s1=>match r with
   |none=>R (.ok .next) s1
   |some v=>wpAny (model prog w) A (letOwnedTupleGo tg it v) (λ_ s2=>wpAny (model prog w) A (assign tg env v) (λ_ s3=>wpAny (model prog w) A (kB ifs env) (λok s4=>
     if ok=true then wpAny (model prog w) A (eval elt env) (λx s5=>wpAny (model prog w) A (call (.builtin "list.append") [acc,x]) (λ_ s6=>∃m,m<n/\J m s6) (λ_ _=>False) s5) (λ_ _=>False) s4
     else ∃m,m<n/\J m s4) (λ_ _=>False) s3) (λ_ _=>False) s2) (λ_ _=>False) s1) (λ_ _=>False) s)
  (n:Nat)(h:J n s):codeAny (model prog w) A (.compLoop (.ListComp elt [⟨tg,iter,ifs,0⟩] scope pos) 0 it acc env) R s:=by
 refine codeAny_loop rfl J (λn s hJ=>?_) n h;show wpAny _ A (Sem.onRaise (compTurn (.ListComp elt [⟨tg,iter,ifs,0⟩] scope pos) 0 it acc env) _) _ _ s;refine wpAny_noted ?_;rw[compTurn_list];refine wpAny_bind (o8 (wpAny_bind (ip (turn n s hJ) (λr s1 h1=>?_) (λ_ _ z=>z.elim))))
 cases r with
 |none=>exact em h1
 |some v=>
  refine wpAny_bind (ip h1 (λ_ s2 h2=>wpAny_bind (ip h2 (λ_ s3 h3=>wpAny_bind (ip h3 (λok s4 h4=>?_) (λ_ _ z=>z.elim))) (λ_ _ z=>z.elim))) (λ_ _ z=>z.elim))
  cases ok with
  |false=>exact em ⟨rfl,h4⟩
  |true=>exact wpAny_bind (wpAny_bind (ip h4 (λx s5 h5=>wpAny_bind (ip h5 (λ_ s6 h6=>em (em ⟨rfl,h6⟩)) (λ_ _ z=>z.elim))) (λ_ _ z=>z.elim)))
end
def Eh (env:Env):List (Str×og)->List (Str×df)->List (Str×df)
 |[],cs=>cs
 |y::r,cs=>if y.2=.free then Eh env r ((y.1,(env.cells.lookup y.1).getD 0)::cs) else Eh env r cs
theorem Xe {env:Env}(f:Str×og->List (Str×df)->Sem (ForInStep (List (Str×df))))
  (h1:∀y cs c,y.2=.free->env.cells.lookup y.1=some c->f y cs=pure (.yield ((y.1,c)::cs)))(h2:∀y cs,y.2≠.free->f y cs=pure (.yield cs)) :
  ∀(ns:List (Str×og)) (cs:List (Str×df)),(∀y∈ns,y.2=.free->∃c,env.cells.lookup y.1=some c)->forIn ns cs f=(pure (Eh env ns cs):Sem (List (Str×df)))
 |[],cs,_=>by simp[Eh]
 |y::r,cs,h=>by
  have hr:∀z∈r,z.2=.free->∃c,env.cells.lookup z.1=some c:=λz hz=>h z (gy _ hz);rw[um]
  by_cases hy:y.2=.free
  ·obtain⟨c,hc⟩:=h y jj hy
   rw[h1 y cs c hy hc];simp only[Eh,if_pos hy,hc,na];exact Xe f h1 h2 r _ hr
  ·rw[h2 y cs hy]
   simp only[Eh,if_neg hy];exact Xe f h1 h2 r _ hr
theorem Hy (h:∀y∈scope.names,y.2=.free->∃c,env.cells.lookup y.1=some c):closureFor scope env=pure (Eh env scope.names []):=by
 unfold closureFor;dsimp only;rw[Xe (env:=env) _ (λy cs c hy hc=>?_) (λy cs hy=>?_) scope.names [] h]
 ·rfl
 ·obtain⟨n,k⟩:=y
  dsimp only at hy hc ⊢;subst hy;simp only[cellOf,hc,beq_self_eq_true,if_true];rfl
 ·obtain⟨n,k⟩:=y
  have e:(k==lw)=false:=by simpa using hy
  simp only[e,lj,if_false]
theorem Jv {env:Env}:∀(ns:List (Str×og)) (cs:List (Str×df)) (x:Str) (c:df),(∀y∈ns,y.2=.free->∃c,env.cells.lookup y.1=some c) ->
  (∀z d,cs.lookup z=some d->env.cells.lookup z=some d)->(Eh env ns cs).lookup x=some c->env.cells.lookup x=some c
 |[],cs,x,c,_,hc,h=>hc x c h
 |y::r,cs,x,c,hy,hc,h=>by
  have hr:∀z∈r,z.2=.free->∃c,env.cells.lookup z.1=some c:=λz hz=>hy z (gy _ hz);unfold Eh at h;split at h
  ·rename_i hk
   obtain⟨d,hd⟩:=hy y jj hk;rw[hd] at h;refine Jv r _ x c hr (λz e hz=>?_) h;rw[nv] at hz;split at hz
   ·rename_i hzy
    cases hz;rw[eq_of_beq hzy];exact hd
   ·exact hc z e hz
  ·exact Jv r _ x c hr hc h
theorem Nv {env:Env}:∀(ns:List (Str×og)) (cs:List (Str×df)) (x:Str),(cs.lookup x).isSome=true->((Eh env ns cs).lookup x).isSome=true
 |[],_,_,h=>h
 |y::r,cs,x,h=>by
  unfold Eh;split
  ·refine Nv r _ x ?_
   rw[nv];split
   ·rfl
   ·exact h
  ·exact Nv r _ x h
theorem Fo {env:Env}:∀(ns:List (Str×og)) (cs:List (Str×df)) (x:Str),(x,lw)∈ns->((Eh env ns cs).lookup x).isSome=true
 |[],_,_,h=>by simp at h
 |y::r,cs,x,h=>by
  rcases fu.mp h with e|e
  ·subst e
   unfold Eh;rw[if_pos rfl];exact Nv r _ x (by simp)
  ·unfold Eh
   split
   ·exact Fo r _ x e
   ·exact Fo r _ x e
theorem Ku {x:Str}{k:og}(h:(relabel scope env).names.lookup x=some k):(x,k)∈scope.names\/((x,lw)∈scope.names/\k=zf):=by
 have m:=iq h;obtain⟨⟨n,k'⟩,hm,e⟩:=lh.mp m;dsimp only at e;split at e
 ·rename_i hk
  cases e;simp only[ly,beq_iff_eq] at hk;rw[hk.1.1] at hm;exact .inr ⟨hm,rfl⟩
 ·cases e
  exact .inl hm
theorem Oj (hk:env.scope.kind=.function){x:Str}(hx:env.kindOf x=some .cell)(h:scope.names.lookup x=some .free):(relabel scope env).names.lookup x=some .cell:=by
 unfold relabel;show(scope.names.map _).lookup x=some zf;generalize scope.names=ns at h
 induction ns with
 |nil=>simp at h
 |cons y r ih=>
  obtain⟨n,k⟩:=y;rw[nv] at h;rw[jd];split at h
  ·rename_i hn
   cases h;rw[<-eq_of_beq hn];simp[hk,hx]
  ·rename_i hn
   dsimp only;split
   ·rw[nv,hn];exact ih h
   ·rw[nv,hn];exact ih h
def Fs (X:Cx)(scope:kr)(N:Za6)(C:df)(s:d4)(H:Hp)(fp:List df):Cx:=
 { X with N:=N,HA:=s,HC:=H,env:=compEnvC scope (Eh X.env scope.names []) C X.env,outer:=X.stack,ex:=fp,fn:=λ_=>false,pn:=[],xe:=λ_ _=>False }
structure B4 (HK:Za6) (HL sc:kr) (x:Str) (N:Za6) (ix:Za4):Prop where
 kind:sc.kind=.function
 nocell:∀y∈sc.names,y.2≠.cell
 names:∀y∈sc.names,y.2=.local->sc.names.lookup y.1=some .local
 free:∀y∈sc.names,y.2=.free->HL.names.lookup y.1=some .cell
 nd:N.Nodup
 hd:N.head?=some x
 loc:sc.names.lookup x=some .local
 len:N.length=ix.length+1
 at_:∀p∈N.tail.zip ix,HK[p.2]?=some p.1/\sc.names.lookup p.1=some .free
def frV (G:St)(ix:Za4):St:=ix.map λj=>(G[j]?).getD none
def PIf (X:Cx)(ifs:List gd)(t:TT):Prop:=
 ∀(pins:Za1) (s:d4) (G:St) (H:Hp) (Q:Bool->Hp->Prop),Inv X pins G H s->t G H Q->wpAny (model X.prog X.w) X.A (kB ifs X.env) (TP X pins G Q) X.xe s
def yC:TT:=λ_ H Q=>Q true H
theorem Ed:PIf X [] yC:=λpins s G H Q I h=>wpAny_tests_nil ⟨H,I,h⟩
theorem N8 {c:gd}{t:TT}(h:PT X c t):PIf X [c] t:=λpins s G H Q I hw=>wpAny_tests_one (h pins s G H Q I hw)
def Xz (J:It)(H1:Hp)(fr:St)(tc:TT)(te:TE)(Q:VK):Prop:=∀D,H1 D=none->∃W:Nat->Nat->Hp->Prop,(∃m,W 0 m (upd H1 D (.lst [])))/\∀i m H,W i m H ->
 (J.stop i H/\Q (.ref D) H)\/(J.go i H/\∀x H',J.yld i H x H'->tc (some x::fr) H' λb H3=>
  if b=true then te (some x::fr) H3 λy H4=>∃ys,H4 D=some (.lst ys)/\ys.length<sizeLine/\∃m',m'<m/\W (i+1) m' (upd H4 D (.lst (ys++[y]))) else ∃m',m'<m/\W (i+1) m' H3)
def tLc (wi:TI)(ix:Za4)(tc:TT)(te:TE):TE:=λG H Q=>wi G H λJ H1=>Xz J H1 (frV G ix) tc te Q
section
variable {X:Cx} {scope:kr} {N:Za6} {ix:Za4} {x:Str} {px:Pos} {elt iter:gd} {ifs:List gd} {tc:TT} {te:TE} {pos:Pos}
theorem Abl {G:St}{tn:Nat->gv->Prop}(L:B4 X.N X.env.scope scope x N ix)(I2:Inv X pins G H2 s2)
  (T:No X.prog X.w X.K tg J fp it tn)(st2:tn 0 s2.heap)(f2:∀b∈fp,Od X pins H2 b){s3 s4:d4}{H3:Hp}(I3:Inv X pins G H3 s3)(I4:Inv X pins G H3 s4)(hle:s2.heap.objs.size<=s3.heap.objs.size)
  (hC:C=s3.heap.objs.size)(ho:s4.os=s3.os)(kp:∀b u,s3.heap.get? b=some u->s4.heap.get? b=some u){m:Za2}(hns:s4.heap.Ns C m):Inv (Fs X scope N C s3 H3 fp) [] (none::frV G ix) H3 s4:=by
 have hfree:∀y∈scope.names,y.2=.free->∃c,X.env.cells.lookup y.1=some c:=λy hy hf=>I2.ok.has y.1 (.inl (L.free y hy hf));have sub:∀y c,(Eh X.env scope.names []).lookup y=some c->X.env.cells.lookup y=some c:=λy c h=>Jv _ _ y c hfree (λ_ _ z=>by simp at z) h;have lt2:∀b∈fp,b<s2.heap.objs.size:=λb hb=>by obtain⟨o,e,_⟩:=T.obj _ _ st2 b hb;exact d3 e
 have okY:(Fs X scope N C s3 H3 fp).Ok:=by
  refine⟨I2.ok.mod,L.kind,I2.ok.glob,I2.ok.blt,ll hC.symm,λy z c h1 h2=>I2.ok.inj y z c (sub y c h1) (sub z c h2),λy hy=>?_,λy c z _=>?_,I2.ok.hd,I2.ok.frames,.inl rfl,λb hb=>⟨?_,λy c h=>(f2 b hb).2.2.2.2.1 y c (sub y c h)⟩,
   I3.bs,gl I3.ok.bsz I3.sz,λb o e hb=>?_,λb hb z=>?_,I3.stack,I3.stkFree⟩
  ·have hk:(y,lw)∈scope.names:=by
    rcases hy with hy|hy
    ·rcases Ku hy with q|q
     ·exact absurd rfl (L.nocell _ q)
     ·exact q.1
    ·rcases Ku hy with q|q
     ·exact q
     ·exact absurd q.2 (by decide)
   exact ib.mp (Fo _ _ y hk)
  ·cases(show false=true from z)
  ·have l:=lt2 b hb
   show b≠C;rw[hC];exact fk (dw l hle)
  ·rcases(f2 b hb).2.2.2.1 with q|q
   ·exact I2.ok.noex b o e q
   ·exact absurd (dw (d3 e) (gl I2.ok.bsz q)) (i4 _)
  ·rcases fu.mp (I2.stkSub b z) with q|q
   ·exact(f2 b hb).2.1 q
   ·exact(f2 b hb).2.2.1 q
 refine⟨okY,ho,I4.bare,Un.kept kp,⟨m,hns,λi y v h1 h2 h3=>?_⟩,λy c e=>I4.cell y c (sub y c e),?_,λy c e=>I4.freeC y c (sub y c e),λp hp=>absurd (show p∈([]:Za1) from hp) (by simp),I4.hok,?_⟩
 ·cases i with
  |zero=>cases(show some none=some (some v) from h2)
  |succ k=>
   have h2:(frV G ix)[k]?=some (some v):=h2;have h1:N[k+1]?=some y:=h1;unfold frV at h2;rw[dg] at h2
   cases hj:ix[k]? with
   |none=>rw[hj] at h2;cases h2
   |some j=>
    rw[hj] at h2;have h2:(G[j]?).getD none=some v:=de h2;have h2':G[j]?=some (some v):=by
     cases e:G[j]? with
     |none=>rw[e] at h2;cases h2
     |some z=>rw[e] at h2;exact congrArg some h2
    have ht:N.tail[k]?=some y:=by rw[li];exact h1
    have hz:(y,j)∈N.tail.zip ix:=gw (i:=k) (by rw[pk];exact⟨ht,hj⟩);obtain⟨q1,q2⟩:=L.at_ _ hz;have hm:=iq q2;have hcell:=L.free _ hm rfl;obtain⟨m',hn',hl'⟩:=I4.loc;obtain⟨u,r,lk⟩:=hl' j y v q1 h2' (.inr (.inl hcell));refine⟨u,r,.inr ⟨.inl (Oj I2.ok.kind hcell q2),?_⟩⟩;rcases lk with lk|⟨_,c,e,z⟩
    ·rw[show X.env.kindOf y=some .cell from hcell] at lk
     cases lk.1
    ·obtain⟨c',e'⟩:=ib.mp (Fo (env:=X.env) scope.names [] y hm)
     have e2:=sub y c' e';rw[e] at e2;cases e2;exact⟨c,e',z⟩
 ·show H3 C=none
  exact I3.hok.fresh (ll hC.symm)
 ·show(none::frV G ix).length=N.length
  rw[L.len];simp[frV]
theorem pA {tgt:gd}(htg:tgt=.Name x px){G:St}{tn:Nat->gv->Prop}(hc:X.calm=true)(L:B4 X.N X.env.scope scope x N ix)(I2:Inv X pins G H2 s2)
  (T:No X.prog X.w X.K tgt J fp it tn)(st2:tn 0 s2.heap)(f2:∀b∈fp,Od X pins H2 b)
  (hif:∀C s H,PIf (Fs X scope N C s H fp) ifs tc)(he:∀C s H,PE (Fs X scope N C s H fp) elt te){Q:VK}(rd:Xz J H2 (frV G ix) tc te Q){RR:d0->df->ug->d4->Prop}{E:Za0}
  (fin:∀D C H' s' m,Inv X pins G H' s'->s2.heap.objs.size<=C->H' C=none->s'.heap.Ns C m->Q (.ref D) H'->RR (.ref D) C (.ok .next) s') :
  wpAny (model X.prog X.w) X.A (newList []) (λacc s3=>wpAny (model X.prog X.w) X.A (newFunctionEnv scope X.env.globals (Eh X.env scope.names []) [] X.env.qual none .none (some X.env)) (λcenv s4=>
   codeAny (model X.prog X.w) X.A (.compStart (.ListComp elt [⟨tgt,iter,ifs,0⟩] scope pos) 0 (.ref it) acc { cenv with scope:=relabel scope X.env }) (RR acc cenv.locals) s4) E s3) E s2:=by
 refine ut (rz L.nocell (by intro y hy;simp at hy) (λh1 hns hsb=>?_) L.kind);dsimp only at hns hsb ⊢;have I3:Inv X pins G (upd H2 s2.heap.objs.size (.lst [])) { s2 with heap:=s2.heap.push { cls:=.type "list",dict:=none,data:=.seq ([]:Za3).toArray } }:=I2.lnew (its:=[]) (t':=s2.toks) .nil (e9 _);generalize hH3:s2.heap.push { cls:=.type "list",dict:=none,data:=.seq ([]:Za3).toArray }=h3 at hns hsb I3 ⊢;have hsz:h3.objs.size=s2.heap.objs.size+1:=by rw[<-hH3,ky]
 have kp34:∀b u,h3.get? b=some u->h1.get? b=some u:=λb u e=>hsb.extBut b u (fk (d3 e)) (dq _ e);have I4:Inv X pins G (upd H2 s2.heap.objs.size (.lst [])) { s2 with heap:=h1,toks:=s2.toks+([]:List (Str×d0)).length }:=I3.kept (t':=s2.toks+([]:List (Str×d0)).length) kp34;have kp24:∀b u,s2.heap.get? b=some u->h1.get? b=some u:=λb u e=>kp34 b u (by rw[<-hH3];exact dq _ e);have IY:=Abl (C:=h3.objs.size) (s3:={ s2 with heap:=h3 }) L I2 T st2 f2 I3 I4 (by show s2.heap.objs.size<=h3.objs.size;lia) rfl rfl kp34 hns;have fD:H2 s2.heap.objs.size=none:=I2.hok.fresh (db _);have lt2:∀b∈fp,b<s2.heap.objs.size:=λb hb=>by obtain⟨o,e,_⟩:=T.obj _ _ st2 b hb;exact d3 e
 have st4:tn 0 h1:=T.keep _ _ _ st2 λb _ o e=>kp24 b o e;have stat:∀{pn:Za1} {H':Hp},pn=[]->(∀b∈fp,H' b=none)->∀b∈fp,Od (Fs X scope N h3.objs.size { s2 with heap:=h3 } (upd H2 s2.heap.objs.size (.lst [])) fp) pn H' b:=λhp hn b hb=>by
  subst hp;exact⟨hn b hb,(IY.ok.exf b hb).1,IY.ok.exfs b hb,.inl hb,(IY.ok.exf b hb).2,λp hp=>absurd (show p∈([]:Za1) from hp) (by simp)⟩
 obtain⟨W,⟨m0,w0⟩,turn⟩:=rd _ fD;have loop:codeAny (model X.prog X.w) X.A (.compLoop (.ListComp elt [⟨tgt,iter,ifs,0⟩] scope pos) 0 (.ref it) (.ref s2.heap.objs.size) (compEnvC scope (Eh X.env scope.names []) h3.objs.size X.env)) (RR (.ref s2.heap.objs.size) h3.objs.size)
   { s2 with heap:=h1,toks:=s2.toks+([]:List (Str×d0)).length }:=by
  refine kL (λn s'=>∃i H',Inv (Fs X scope N h3.objs.size { s2 with heap:=h3 } (upd H2 s2.heap.objs.size (.lst [])) fp) [] (none::frV G ix) H' s'/\tn i s'.heap/\(∀b∈fp,H' b=none)/\W i n H') ?_ m0
   ⟨0,_,IY,st4,λb hb=>by rw[Ai (fk (lt2 b hb))];exact(f2 b hb).1,w0⟩
  rintro n s5 ⟨i,H5,I5,st5,fr5,w5⟩;rcases turn i n H5 w5 with⟨stop,q⟩|⟨go,step⟩
  ·refine thn (T.done (Fs X scope N h3.objs.size { s2 with heap:=h3 } (upd H2 s2.heap.objs.size (.lst [])) fp) rfl rfl rfl hc i [] s5 _ H5 (λ_ _=>False) I5 (stat rfl fr5) st5 stop) λr s6 ⟨hr,I6⟩=>?_
   subst hr;obtain⟨m6,hn6,_⟩:=I6.loc;have u1:Un (frs X.stack) fp H2 (upd H2 s2.heap.objs.size (.lst [])) s2.heap h3:=Un.laid (λb u e=>by rw[<-hH3];exact dq _ e) (db _) fD;have back:Inv X pins G H5 s6:=I2.call' (ch:=fp) (I6.os.trans rfl) (u1.trans I6.base) I6.hok I6.bare λb hb=>⟨(f2 b hb).2.2.2.1,(f2 b hb).2.1,(f2 b hb).2.2.2.2.1,(f2 b hb).2.2.2.2.2⟩;exact fin _ _ H5 s6 m6 back (by lia) I6.free hn6 q
  ·refine thn (T.item (Fs X scope N h3.objs.size { s2 with heap:=h3 } (upd H2 s2.heap.objs.size (.lst [])) fp) rfl rfl rfl hc i [] s5 _ H5 (λ_ _=>False) I5 (stat rfl fr5) st5 go) λr s6 ⟨u,hr,h6⟩=>?_
   subst hr;refine thn h6 λ_ s7 ⟨y,H7,I7,r7,y7,st7,fr7⟩=>?_;have I7':=I7.pinned (stat rfl fr7) (T.obj _ _ st7);have hg:PG (Fs X scope N h3.objs.size { s2 with heap:=h3 } (upd H2 s2.heap.objs.size (.lst [])) fp) tgt (Es 0):=by
    rw[htg];have hi:N[0]?=some x:=by have:=L.hd;rwa [w9] at this
    exact Mu L.nd hi (.inl (kq L.loc)) (.inr (kq L.loc))
   refine thn (hg _ s7 _ H7 y u (λmt H'=>mt=some y::frV G ix/\H'=H7) I7' r7 ⟨rfl,rfl⟩) λ_ s8 ⟨HP,H8,I8,e8,e8'⟩=>?_;subst e8 e8';refine thn (hif _ _ _ _ s8 _ _ _ I8 (step y _ y7)) λok s9 ⟨H9,I9,q9⟩=>?_;have again:∀{sz:d4} {Hz:Hp} {m':Nat},Inv (Fs X scope N h3.objs.size { s2 with heap:=h3 } (upd H2 s2.heap.objs.size (.lst [])) fp) ([]++P3 fp s7.heap) (some y::frV G ix) Hz sz->m'<n->W (i+1) m' Hz ->
     ∃m,m<n/\∃i H',Inv (Fs X scope N h3.objs.size { s2 with heap:=h3 } (upd H2 s2.heap.objs.size (.lst [])) fp) [] (none::frV G ix) H' sz/\tn i sz.heap/\(∀b∈fp,H' b=none)/\W i m H':=λ{sz Hz m'} Iz hm wz=>by
    refine⟨m',hm,i+1,Hz,Iz.unpinned.weak (by simp) (λj v e=>?_),T.keep _ _ _ st7 λb hb o e=>(Iz.pin (b,o) (fe _ (fe _ (Go hb e)))).1,λb hb=>?_,wz⟩
    ·cases j with
     |zero=>cases e
     |succ j=>exact e
    ·obtain⟨o,e,d⟩:=T.obj _ _ st7 b hb
     exact(Iz.pin (b,o) (fe _ (fe _ (Go hb e)))).2.1
   cases ok with
   |false=>
    obtain⟨m',hm,wz⟩:=q9;exact again I9 hm wz
   |true=>
    refine thn (he _ _ _ _ s9 _ _ _ I9 q9) λxv s10 ⟨z,H10,I10,r10,ys,hD,hl,m',hm,wz⟩=>?_;refine thn (Bm _ s10 _ H10 (.ref s2.heap.objs.size) [z] (.ref s2.heap.objs.size) [xv] (λ_ Hz=>Hz=upd H10 s2.heap.objs.size (.lst (ys++[z]))) I10 rfl (.cons r10 .nil) ⟨_,ys,z,rfl,rfl,hD,hl,rfl⟩) λ_ s11 ⟨_,H11,I11,_,q11⟩=>?_;subst q11;exact again I11 hm wz
 exact zd loop (T.self X.A 0 _ _ _ st4 loop)
theorem P4 (hc:X.calm=true)(L:B4 X.N X.env.scope scope x N ix)(hi:PI X (.Name x px) iter wi)(hif:∀C s H fp,PIf (Fs X scope N C s H fp) ifs tc)(he:∀C s H fp,PE (Fs X scope N C s H fp) elt te)
  (hs:autoParam (∀z,foldedSetIterable iter X.env z=pure z) QJ):PE X (.ListComp elt [⟨.Name x px,iter,ifs,0⟩] scope pos) (tLc wi ix tc te):=by
 k_in;have hfree:∀y∈scope.names,y.2=.free->∃c,X.env.cells.lookup y.1=some c:=λy hy hf=>I.ok.has y.1 (.inl (L.free y hy hf));rw[EW];refine mm (use:=none) rfl hs (Hy hfree) L.kind L.names (thn (hi pins s G H _ I h) λv s1 h1=>thn h1 λitv s2 h2=>?_);obtain⟨it,fp,tn,J,H2,e,I2,T,st2,f2,rd⟩:=h2;subst e;refine pA (RR:=λacc C=>compPost (model X.prog X.w) X.A X.xe none _ acc C) rfl hc L I2 T st2 f2 (λC s H=>hif C s H fp) (λC s H=>he C s H fp) rd λD C H' s' m I' hC hf hn q=>?_;refine⟨m,hn,λh' hsb=>⟨.ref D,H',?_,rfl,q⟩⟩;have l2:=I2.lt;refine I'.turned (t':=s'.toks) (it:=C) (λb o hb e=>hsb.extBut b o hb e) hf (iy (dw l2 hC)) (.inr (gl I2.sz hC)) (λy c e=>?_) λp hp=>?_
 ·obtain⟨v,hv⟩:=I2.cell y c e
  exact fk (dw hv.lt hC)
 ·exact fk (dw (d3 (I2.pin p hp).1) hC)
theorem Me {i:Nat}{y:Str}{py spos:Pos}(hc:X.calm=true)(L:B4 X.N X.env.scope scope x N ix)(hN:X.N.Nodup)(hy:X.N[i]?=some y)(hl:X.env.scope.names.lookup y=some .local)
  (hi:PI X (.Name x px) iter wi)(hif:∀C s H fp,PIf (Fs X scope N C s H fp) ifs tc)(he:∀C s H fp,PE (Fs X scope N C s H fp) elt te)
  (hsw:autoParam (swapsWith (.ListComp elt [⟨.Name x px,iter,ifs,0⟩] scope pos) (some (.Name y py)) spos.line X.env=pure true) QD)
  (hs:autoParam (∀z,foldedSetIterable iter X.env z=pure z) QJ):PS X (.Assign [.Name y py] (.ListComp elt [⟨.Name x px,iter,ifs,0⟩] scope pos) spos) (oE (tLc wi ix tc te) (Es i)):=by
 k_end;have hfree:∀y∈scope.names,y.2=.free->∃c,X.env.cells.lookup y.1=some c:=λy hy hf=>I.ok.has y.1 (.inl (L.free y hy hf));rw[zk _ _ _ _ hsw];refine wpAny_bind (o8 (wpAny_bind ?_));show wpAny _ X.A (do let _ <-comprehension (.ListComp elt [⟨.Name x px,iter,ifs,0⟩] scope pos) scope X.env _ (newList []) false (eval iter X.env) (some (assign (.Name y py) X.env))) _ _ s;refine wpAny_bind (thn (Q:=λ_ s'=>SP X pins D .next s') (mm (use:=some (assign (.Name y py) X.env)) rfl hs (Hy hfree) L.kind L.names (thn (hi pins s G H _ I h) λv s1 h1=>thn h1 λitv s2 h2=>?_)) λ_ s' hq=>em (em hq));obtain⟨it,fp,tn,J,H2,e,I2,T,st2,f2,rd⟩:=h2;subst e;refine pA (RR:=λacc C=>compPost (model X.prog X.w) X.A X.xe (some (assign (.Name y py) X.env)) _ acc C) rfl hc L I2 T st2 f2 (λC s H=>hif C s H fp) (λC s H=>he C s H fp) rd λDa C H' s' m I' hC hf hn q=>?_;have l2:=I2.lt;have nC:C≠X.env.locals:=iy (dw l2 hC);have nF:C∉X.fs:=I2.nofs hC;obtain⟨oC,es,ep,hget,hdat,hrest⟩:=id hn;have Ip:Inv X (pins++[(C,oC)]) G H' s':=I'.pins_of λp hp=>(ju.mp hp).elim (λz=>I'.pin p (fe _ z)) λz=>by
  have e:p=(C,oC):=by simpa using z
  subst e;exact⟨hget,hf,nC,nF,λv z=>by rw[hdat] at z;cases z⟩
 have hg:PG X (.Name y py) (Es i):=Mu hN hy (.inl hl) (.inr hl);show wpAny _ X.A (assign (.Name y py) X.env (.ref Da)) _ _ s';refine thn (hg _ s' G H' (.ref Da) (.ref Da) D.nx Ip rfl q) λ_ s'' ⟨HW,H'',I'',q''⟩=>?_;obtain⟨g1,g2,_⟩:=I''.pin (C,oC) (fe _ (fe _ (by simp)));refine⟨m,⟨oC,es,ep,g1,hdat,hrest⟩,λh' hsb=>⟨HW,H'',?_,q''⟩⟩;refine I''.unpinned.turned (t':=s''.toks) (it:=C) (λb o hb e=>hsb.extBut b o hb e) g2 nC (.inr (gl I2.sz hC)) (λy c e=>?_) λp hp=>?_
 ·obtain⟨v,hv⟩:=I2.cell y c e
  exact fk (dw hv.lt hC)
 ·exact fk (dw (d3 (I2.pin p hp).1) hC)
end
theorem An {D:df}{o:HO}(h:H D=none):Aj H (upd H D o):=λb u e=>by rw[Ai (Af e h)];exact e
theorem Be {D:df}{o:HO}(h:H D=none):Aj H (upd H D o)/\upd H D o D=some o:=⟨An h,Ac⟩
theorem iU {fr:St}{tc:TT}{Q:VK}(n:Nat)(item:Nat->V)(acc:Nat->List V)(h0:acc 0=[])(hz:∀i,i<n->(acc i).length<sizeLine)
  (hgo:∀i H,i<n->Aj H1 H->J.go i H)(hy:∀i H x H',i<n->Aj H1 H->J.yld i H x H'->x=item i/\H'=H)(hst:∀H,Aj H1 H->J.stop n H)
  (turn:∀i H (R:Hp->Prop) (A:VK),i<n->Aj H1 H->(acc (i+1)=acc i->∀H',Aj H H'->R H')->(∀y H',acc (i+1)=acc i++[y]->Aj H H'->A y H') ->
   tc (some (item i)::fr) H λb H3=>if b=true then te (some (item i)::fr) H3 A else R H3)
  (fin:∀D H,H1 D=none->Aj H1 H->H D=some (.lst (acc n))->Q (.ref D) H):Xz J H1 fr tc te Q:=by
 intro D hD;refine⟨λi m H=>i<=n/\m=n-i/\Aj H1 H/\H D=some (.lst (acc i)),⟨n,e9 _,rfl,An hD,by rw[Ac,h0]⟩,?_⟩;rintro i m H ⟨hi,rfl,sm,hl⟩
 by_cases h:i=n
 ·subst h
  exact .inl ⟨hst H sm,fin D H hD sm hl⟩
 ·have hlt:i<n:=im hi h
  refine .inr ⟨hgo i H hlt sm,λx H' hyl=>?_⟩;obtain⟨rfl,rfl⟩:=hy i H x H' hlt sm hyl;refine turn i H' _ _ hlt sm (λea H3 s3=>?_) (λy H4 ea s4=>?_)
  ·exact⟨n-(i+1),by lia,by lia,rfl,sm.trans s3,by rw[ea];exact s3 _ _ hl⟩
  ·refine⟨acc i,s4 _ _ hl,hz i hlt,n-(i+1),by lia,by lia,rfl,λb u e=>?_,by rw[Ac,ea]⟩
   rw[Ai (Af e hD)];exact s4 _ _ (sm _ _ e)
theorem Sq {lo:Int}{n:Nat}{fr:St}{tc:TT}{Q:VK}(acc:Nat->List V)(h0:acc 0=[])(hz:∀i,i<n->(acc i).length<sizeLine)
  (turn:∀(i:Nat) H (R:Hp->Prop) (A:VK),i<n->Aj H1 H->(acc (i+1)=acc i->∀H',Aj H H'->R H')->(∀y H',acc (i+1)=acc i++[y]->Aj H H'->A y H') ->
   tc (some (.int (lo+i))::fr) H λb H3=>if b=true then te (some (.int (lo+i))::fr) H3 A else R H3)
  (fin:∀D H,H1 D=none->Aj H1 H->H D=some (.lst (acc n))->Q (.ref D) H):Xz (Itr lo n) H1 fr tc te Q:=
 iU n (λi=>.int (lo+i)) acc h0 hz (λi H hi _=>hi) (λi H x H' _ _ h=>⟨h.2,h.1⟩) (λH _=>db n) turn fin
theorem Iy {K:da}{a:df}{fr:St}{tc:TT}{Q:VK}(hl:SqL K H1 a xs)(acc:Nat->List V)(h0:acc 0=[])(hz:∀i,i<xs.length->(acc i).length<sizeLine)
  (turn:∀(i:Nat) x H (R:Hp->Prop) (A:VK),xs[i]?=some x->Aj H1 H->(acc (i+1)=acc i->∀H',Aj H H'->R H')->(∀y H',acc (i+1)=acc i++[y]->Aj H H'->A y H') ->
   tc (some x::fr) H λb H3=>if b=true then te (some x::fr) H3 A else R H3)
  (fin:∀D H,H1 D=none->Aj H1 H->H D=some (.lst (acc xs.length))->Q (.ref D) H):Xz (Itl K a) H1 fr tc te Q:=by
 refine iU xs.length (λi=>xs.getD i .non) acc h0 hz (λi H hi sm=>⟨xs,xs[i],sm.seq hl,by simp[hi]⟩) (λi H x H' hi sm h=>⟨?_,h.1⟩) (λH sm=>⟨xs,sm.seq hl,db _⟩) (λi H R A hi sm=>turn i _ H R A (by simp[hi]) sm) fin;have:=h.2 xs (sm.seq hl);simp[eh,this]
theorem Ts:bootBuiltins "int"=some (.type "int"):=by decide +kernel
theorem Aa5:bootBuiltins "str"=some (.type "str"):=by decide +kernel
theorem xT:bootBuiltins "bool"=some (.type "bool"):=by decide +kernel
theorem Si:bootBuiltins "list"=some (.type "list"):=by decide +kernel
theorem B9:bootBuiltins "len"=some (.builtin "len"):=by decide +kernel
theorem F5:bootBuiltins "isinstance"=some (.builtin "isinstance"):=by decide +kernel
theorem Aa9:bootBuiltins "sum"=some (.builtin "sum"):=by decide +kernel
theorem lQ:bootBuiltins "min"=some (.builtin "min"):=by decide +kernel
theorem pV:bootBuiltins "max"=some (.builtin "max"):=by decide +kernel
structure Cal (P:fc) (w:ge) (K:da) (mg:Za2) (base:gv) (name:Str) (k:Nat) (ps:Za6) (sp:Sp):Prop where
 ex:∃(f:df) (fd:io),Ba P w K mg base CX0 k f fd ps sp/\Ge K fd ps []/\mg name=some (.ref f)/\jf K (.ref f)=true
section
variable {X:Cx} {k:Nat} {ps:Za6} {sp:Sp} {name m:Str} {p pos apos:Pos} {e o:gd} {es:List gd} {ta:TE} {t:TA}
theorem Bn (C:Cal X.prog X.w X.K X.mg X.base name k ps sp)(hr:Ck k X.A)(ha:PA X (e::es) t)(hg:autoParam (Gl X name) QD)(hdb:autoParam ((name==("__debug__":Str))=false) QF)
  (he:autoParam (starEach (e::es) X.env=(false,eval e X.env)::starEach es X.env) QD)(hpl:autoParam ((backTo pos (starEach es X.env)).any (·.1)=false) QD):PE X (.Call (.Name name p) (e::es) [] pos) (jP sp [] E0 t):=by
 obtain⟨f,fd,F,b,hm,hk⟩:=C.ex;exact uE F hr hg hm hk b .nil eD ha hdb he hpl
end
section
variable {X:Cx}
def Ac4 (K:da):List V->Hp->VK->Prop:=λxs H Q=>∃x n t b,xs=[x,.ty n]/\O8 K H x t/\kitOne K t (.type n)=some b/\Q (.bl b) H
theorem Iw:Hh X (.builtin "isinstance") (Ac4 X.K):=by
 intro pins s G H xs us Q I r h;obtain⟨x,n,t,b,rfl,ty,e,q⟩:=h;obtain⟨u,w',rfl,ru,rw'⟩:=Vf r;cases(show w'=ij n from rw');exact mK I ru ty e λtk=>⟨.bl b,H,I.tok tk,rfl,q⟩
theorem Xp {K:da}:kitOne K (.type "int") (.type "bool")=some false:=by rfl
theorem Yx {K:da}:kitOne K (.type "int") (.type "int")=some true:=by rfl
theorem Zr {K:da}:kitOne K (.type "str") (.type "str")=some true:=by rfl
end
theorem Kg {x y:Str}(h:x.cps.toList=y.cps.toList):x=y:=by
 obtain⟨a⟩:=x;obtain⟨b⟩:=y;have:a=b:=Array.toList_inj.mp h;rw[this]
def sgn (c:Nat):Str:=⟨#[c]⟩
def Ti (x:Str)(k:Nat):Str:=⟨(dn k x.cps.toList).flatten.toArray⟩
theorem Z0 (x:Str)(k:Nat):(Ti x k).length=k*x.length:=by
 show(dn k x.cps.toList).flatten.toArray.size=k*x.cps.size;rw[ez,kY];simp
theorem Ww (a:Array Nat):∀(k:Nat) (acc:Array Nat),((dn k a).foldl (·++·) acc).toList=acc.toList++(dn k a.toList).flatten
 |0,acc=>by simp
 |k+1,acc=>by
  rw[gk,uo,Ww a k,gk];simp[d9]
section
variable {X:Cx}
def Aa6:R2:=λx y H Q=>∃z k,x=.str z/\y=.int k/\-(2 ^ 40)<k/\k<2 ^ 40/\z.length*k.toNat<=sizeLine/\z.length<=sizeLine/\Q (.str (Ti z k.toNat)) H
theorem Xl:OpR X (binaryOp .Mult) Aa6:=by
 intro pins s G H x y v u Q I rx ry h;obtain⟨z,k,rfl,rfl,k1,k2,hz,hz2,q⟩:=h;obtain⟨t,rfl⟩:=rx;obtain⟨t',rfl⟩:=ry;have hs:=Ng;have hs':=z7;refine PySem.P.mul_str ?_ ?_ ?_ ?_
 ·rw[decide_eq_false (by lia),decide_eq_false (by lia)];rfl
 ·intro h1 _ hgt
  have hk:k<=2 ^ 40:=by lia
  have:(z.length:Int)<=(2 ^ 63-1)/k:=by
   rw[Int.le_ediv_iff_mul_le (by lia)];have e:(z.length:Int)*k=((z.length*k.toNat:Nat):Int):=by
    rw[AT,Int.toNat_of_nonneg (by lia)]
   rw[e];lia
  lia
 ·intro _ _
  unfold ES
  simpa using hz
 ·split
  ·rename_i h1
   have e:Ti z k.toNat=uf:=by
    rw[show k.toNat=0 by lia];rfl
   rw[e] at q;exact⟨by decide,.str uf,H,I.tok _,⟨_,rfl⟩,q⟩
  ·rename_i h1
   split
   ·rename_i h2
    have e:Ti z k.toNat=z:=by
     refine Kg ?_;show(dn k.toNat z.cps.toList).flatten.toArray.toList=_;rcases Bool.or_eq_true_iff.mp h2 with h2|h2
     ·have:k=1:=by simpa using h2
      subst this;simp
     ·have:z.length=0:=by simpa using h2
      have e0:z.cps.toList=[]:=by
       have:z.cps.size=0:=this
       simpa using this
      rw[e0];simp
    rw[e] at q;exact⟨.str z,H,I,⟨_,rfl⟩,q⟩
   ·have e:(⟨(dn k.toNat z.cps).foldl (·++·) #[]⟩:Str)=Ti z k.toNat:=by
     refine Kg ?_;show((dn k.toNat z.cps).foldl (·++·) #[]).toList=_;rw[Ww];simp[Ti]
    refine⟨?_,.str (Ti z k.toNat),H,I.tok _,⟨s.toks,by rw[e]⟩,q⟩;rw[e,Z0,CI];exact hz
theorem gU {ys:Za6}:∀{us:Za3},Bj (ys.map V.str) us->StrsAre us ys:=by
 induction ys with
 |nil=>intro us r;rw[wy] at r;cases r;exact .nil
 |cons y ys ih=>
  intro us r;rw[jd] at r
  cases r with
  |cons r1 r2=>
   obtain⟨t,e⟩:=r1;subst e;exact .cons y t (ih r2)
def wB (K:da):V->List V->Hp->VK->Prop:=λx vs H Q=>∃sep p ys,x=.str sep/\vs=[.ref p]/\SqL K H p (ys.map V.str)/\(ys.map (·.length)).sum+ys.length*sep.length<=16777216/\Q (.str (yf sep ys)) H
theorem jT:MtM X "str.join" (wB X.K):=by
 intro pins s G H x vs v us Q I rx rv h;obtain⟨sep,p,ys,rfl,rfl,hp,hz,q⟩:=h;obtain⟨t,rfl⟩:=rx;obtain⟨u,rfl,ru⟩:=rv.one;cases ru;obtain⟨its,r,pl,_⟩:=I.list hp;exact join_list pl.isList (by simpa using gU r) hz λt' k=>⟨.str (yf sep ys),H,I.tok k,⟨t',rfl⟩,q⟩
theorem W0:∀(ys:Za6) (a:Array Nat),(ys.foldl (λacc p=>acc++("":Str).cps++p.cps) a).toList=a.toList++(ys.map λy=>y.cps.toList).flatten
 |[],a=>by simp
 |y::r,a=>by
  rw[uo,W0 r];have e:("":Str).cps=#[]:=rfl;rw[e];simp[d9]
theorem fK (ys:Za6):(yf ("":Str) ys).cps.toList=(ys.map λy=>y.cps.toList).flatten:=by
 show((ys.drop 1).foldl (λacc p=>acc++("":Str).cps++p.cps) (ys.headD uf).cps).toList=_;rw[W0]
 cases ys with
 |nil=>rfl
 |cons y r=>simp
end
def iN:gd->Bool
 |.Starred ..=>false
 |_=>true
theorem Za {e:gd}{es:List gd}(h:iN e=true):starEach (e::es) env=(false,eval e env)::starEach es env:=by
 cases e<;>first|rfl|cases h
section
variable {X:Cx} {e:gd} {es:List gd} {te:TE} {t:TA}
theorem Acj (ha:PE X e te)(hr:PA X es t)(hs:iN e=true):PA X (e::es) (Vq te t):=kG ha hr (Za hs)
end
theorem us2 {P:Za3->Prop}(h:∀a b,P [a,b]):∀us:Za3,us.length=2->P us
 |[_,_],_=>h _ _
section
variable {G:St} {H:Hp} {D:Jg} {Q:VK} {t u:TS} {te ta tb:TE} {QB:Bool->Hp->Prop}
theorem Abz (h:t { D with nx:=u D } G H):Aba t u D G H:=h
theorem yU (h:D.nx G H):wZ D G H:=h
theorem Abi {g:TG}(h:te G H λx H1=>g x G H1 D.nx):oE te g D G H:=h
theorem tP {i:Nat}{v:V}{R:St->Hp->Prop}(h:R (G.set i (some v)) H):Es i v G H R:=h
theorem Aax (h:te G H D.rt):Ab6 te D G H:=h
theorem yA (h:te G H λ_ H1=>D.nx G H1):sO te D G H:=h
theorem Abf {c:TT}(h:c G H λb H1=>if b=true then t D G H1 else u D G H1):Acg c t u D G H:=h
theorem Ab4 {i:Nat}{ti:TIp}{x:V}(e:G[i]?=some (some x))(h:te G H λy H1=>ti x y H1 λz H2=>D.nx (G.set i (some z)) H2):yP i te ti D G H:=⟨x,e,h⟩
theorem Aa8 {i:Nat}{v:V}(e:G[i]?=some (some v))(h:Q v H):tW i G H Q:=⟨v,e,h⟩
theorem r_c {v:V}(h:Q v H):tC v G H Q:=h
theorem Acq {r:R2}(h:ta G H λx H1=>tb G H1 λy H2=>r x y H2 Q):tOp r ta tb G H Q:=h
theorem Ac8 {r:V->Hp->VK->Prop}(h:ta G H λx H1=>r x H1 Q):tUn r ta G H Q:=h
theorem Ach {g:Int->V}{i:Int}(h:Q (g i) H):rU g (.int i) H Q:=⟨i,rfl,h⟩
theorem Abv {g:Int->Int->V}{i j:Int}(h:Q (g i j) H):rI0 g (.int i) (.int j) H Q:=⟨i,j,rfl,rfl,h⟩
theorem Abs {f:Int->Int->Int}{i j:Int}(h:Q (.int (f i j)) H):ipI f (.int i) (.int j) H Q:=⟨i,j,rfl,rfl,h⟩
theorem Aby {x:V}(e:uV x y=true)(h:Q (.bl (decide (x=y))) H):rEq x y H Q:=⟨e,h⟩
theorem Aaw {x:V}(e:uV x y=true)(h:Q (.bl (!decide (x=y))) H):rNe x y H Q:=⟨e,h⟩
theorem yI (h:te G H λx H'=>∃k,x=.bl k/\QB k H'):rP te G H QB:=h
theorem Adb (h:te G H λx H'=>∃k,x=.bl k/\QB k H'):tB te G H QB:=h
theorem Ac6 {k:Bool}{P:Bool->Prop}(h:P k):∃k',V.bl k=.bl k'/\P k':=⟨k,rfl,h⟩
theorem Ab3 {c:TT}(h:c G H λb H1=>QB (!b) H1):Aak c G H QB:=h
theorem Aa1 {c d:TT}(h:c G H λb H1=>if b=true then d G H1 QB else QB false H1):Abh c d G H QB:=h
theorem Acs {c d:TT}(h:c G H λb H1=>if b=true then QB true H1 else d G H1 QB):tOr c d G H QB:=h
theorem yX (h:ta G H λx H1=>∃c,x=.bl c/\if c=true then tb G H1 Q else Q (.bl false) H1):wI ta tb G H Q:=h
theorem zU (h:ta G H λx H1=>∃c,x=.bl c/\Q (.bl (!c)) H1):xH ta G H Q:=h
theorem Aau {c:TT}(h:c G H λb H1=>if b=true then ta G H1 Q else tb G H1 Q):tIf c ta tb G H Q:=h
theorem Acf (h:ta G H λx H1=>Q (.bl (decide (x=.non))) H1):Aav ta G H Q:=h
theorem yE (h:ta G H λx H1=>Q (.bl (!decide (x=.non))) H1):wA ta G H Q:=h
theorem uY {r r':R2}{tc:TE}(h:ta G H λx H1=>tb G H1 λy H2=>r x y H2 λz H3=>∃k,z=.bl k/\(if k=true then tc G H3 λw' H4=>r' y w' H4 Q else Q (.bl false) H3)):tF r r' ta tb tc G H Q:=h
theorem Acb (h:QB true H):yC G H QB:=h
variable {tA tR:TA} {QA:List V->Hp->Prop}
theorem Aa3 (h:QA [] H):T7 G H QA:=h
theorem Aaa (h:te G H λx H1=>tR G H1 λxs H2=>QA (x::xs) H2):Vq te tR G H QA:=h
theorem xS {E:XK}(h:tA G H λvs H1=>sp (vs++[]) H1 Q E):jP sp [] E tA G H Q:=h
theorem Ac1 {r:List V->Hp->VK->Prop}(h:tA G H λvs H1=>r vs H1 Q):tCB r tA G H Q:=h
theorem Aar (h:tA G H λxs H1=>xs.length<=sizeLine/\∀p,H1 p=none->Q (.ref p) (upd H1 p (.lst xs))):xX tA G H Q:=h
theorem Ab8 (h:tA G H λxs H1=>xs.length<=sizeLine/\∀p,H1 p=none->Q (.ref p) (upd H1 p (.tup xs))):Aay tA G H Q:=h
theorem Ac5 {K:da}{T:String}{r:V->List V->Hp->VK->Prop}(h:te G H λx H1=>tyV K T x H1/\tA G H1 λxs H2=>r x xs H2 Q):tBM K T r te tA G H Q:=h
theorem Act {r:V->Option Int->Option Int->Hp->VK->Prop}{tl th:TO}(h:te G H λx H1=>tl G H1 λl H2=>th G H2 λu H3=>r x l u H3 Q):tSl r te tl th G H Q:=h
theorem pK {QO:Option Int->Hp->Prop}(h:QO none H):jF G H QO:=h
theorem zX {QO:Option Int->Hp->Prop}(h:te G H λx H1=>∃i,x=.int i/\QO (some i) H1):wU te G H QO:=h
theorem Aas {P:Int->Prop}{i:Int}(h:P i):∃j,V.int i=.int j/\P j:=⟨i,rfl,h⟩
def iC (J:It)(g:TG)(tb:TS)(D:Jg)(G:St)(H1:Hp):Prop:=∃W:Nat->Nat->St->Hp->Prop,(∃m,W 0 m G H1)/\∀i m G H,W i m G H ->
 (J.stop i H/\D.nx G H)\/(J.go i H/\∃N:St->Hp->Prop,(∀mt H',N mt H'->∃m',m'<m/\W (i+1) m' mt H')/\∀x H',J.yld i H x H'->g x G H' λHE H2=>tb { D with nx:=N,ct:=N,bk:=D.nx } HE H2)
theorem Abj {g:TG}(h:wi G H λJ H1=>iC J g t D G H1):Ab1 wi g t D G H:=h
theorem zG {R:It->Hp->Prop}(h:tA G H λvs H1=>∃j:Int,vs=[.int j]/\-(2 ^ 62)<=j/\j<2 ^ 62/\R (Itr 0 j.toNat) H1):wK tA G H R:=h
theorem zH {R:It->Hp->Prop}(h:tA G H λvs H1=>∃i j:Int,vs=[.int i,.int j]/\(-(2 ^ 62)<=i/\i<2 ^ 62/\-(2 ^ 62)<=j/\j<2 ^ 62)/\R (Itr i (j-i).toNat) H1):vY tA G H R:=h
theorem tU {K:da}{R:It->Hp->Prop}(h:te G H λx H1=>∃a,x=.ref a/\(∃xs,SqL K H1 a xs)/\R (Itl K a) H1):wF K te G H R:=h
theorem Ac2 {tc:TT}(h:wi G H λJ H1=>Xz J H1 (frV G ix) tc te Q):tLc wi ix tc te G H Q:=h
theorem Bb {K:da}{p:df}{i:Int}{v:V}(hs:SqL K H p xs)(e:atI xs i=some v)(h:Q v H):xQ K (.ref p) (.int i) H Q:=⟨p,xs,i,v,rfl,rfl,hs,e,h⟩
theorem Of {K:da}{p:df}{i:Int}{v:V}(hs:SqT K H p xs)(e:atI xs i=some v)(h:Q v H):zY K (.ref p) (.int i) H Q:=⟨p,xs,i,v,rfl,rfl,hs,e,h⟩
theorem Bs {l:df}(hl:H l=some (.lst xs))(hz:xs.length<sizeLine)(h:Q .non (upd H l (.lst (xs++[y])))):jS (.ref l) [y] H Q:=⟨l,xs,y,rfl,rfl,hl,hz,h⟩
end
theorem L8 {c:TT}{tb:TS}{D:Jg}{G:St}(Pv:St->Hp->Prop)(μ:St->Hp->Nat)(h0:Pv G H)
  (hs:∀m G H,Pv G H->μ G H=m->c G H λb H1=>if b=true then ∃N:St->Hp->Prop,(∀mt H',N mt H'->∃m',m'<m/\(Pv mt H'/\μ mt H'=m'))/\tb { D with nx:=N,ct:=N,bk:=D.nx } G H1 else D.nx G H1):pW c tb D G H:=
 ⟨λm G H=>Pv G H/\μ G H=m,⟨_,h0,rfl⟩,λm G H h=>hs m G H h.1 h.2⟩
theorem Se {tb:TS}{rt:VK}{bk:St->Hp->Prop}{G:St}{Pv:St->Hp->Prop}{μ:St->Hp->Nat}{m:Nat}
  (h:tb { nx:=λmt H'=>Pv mt H'/\μ mt H'<m,rt:=rt,bk:=bk,ct:=λmt H'=>Pv mt H'/\μ mt H'<m } G H1) :
  ∃N:St->Hp->Prop,(∀mt H',N mt H'->∃m',m'<m/\(Pv mt H'/\μ mt H'=m'))/\tb { nx:=N,rt:=rt,bk:=bk,ct:=N } G H1:=⟨_,λmt H' z=>⟨_,z.2,z.1,rfl⟩,h⟩
section
variable {H:Hp} {Q:VK} {g:Int->Int->V} {i j:Int}
theorem xG (c:0<j)(h:Q (g i j) H):rI (λ_ j=>0<j) g (.int i) (.int j) H Q:=⟨i,j,rfl,rfl,c,h⟩
theorem wS (c1:0<j)(c2:j<1073741824)(h:Q (g i j) H):rI Aao g (.int i) (.int j) H Q:=⟨i,j,rfl,rfl,⟨c1,c2⟩,h⟩
theorem Ue (c1:-(2 ^ 64)<j)(c2:j<2 ^ 64)(h:Q (g i j) H):rI sX g (.int i) (.int j) H Q:=⟨i,j,rfl,rfl,.inr ⟨c1,c2⟩,h⟩
theorem fR (c1:-(2 ^ 64)<i)(c2:i<2 ^ 64)(h:Q (g i j) H):rI sX g (.int i) (.int j) H Q:=⟨i,j,rfl,rfl,.inl ⟨c1,c2⟩,h⟩
end
theorem B0 {c A B:Prop}[Decidable c](h1:c->A)(h2:¬ c->B):if decide c=true then A else B:=by
 by_cases h:c
 ·rw[decide_eq_true h,if_pos rfl]
  exact h1 h
 ·rw[decide_eq_false h,if_neg fg]
  exact h2 h
theorem nY {c A B:Prop}[Decidable c](h1:¬ c->A)(h2:c->B):if(!decide c)=true then A else B:=by
 by_cases h:c
 ·rw[decide_eq_true h,if_neg (by decide)]
  exact h2 h
 ·rw[decide_eq_false h,if_pos (by decide)]
  exact h1 h
def Aaz (c:TT)(t u:TS):TS:=λD G H=>∃J:St->Hp->Prop,(∀G H,J G H->D.nx G H)/\c G H λb H1=>if b=true then t { D with nx:=J } G H1 else u { D with nx:=J } G H1
theorem Tu {c:gd}{a b:List gm}{tc:TT}{t u:TS}(hc:PT X c tc)(ha:PSs X a t)(hb:PSs X b u):PS X (.If c a b pos) (Aaz tc t u):=by
 k_end;obtain⟨J,hJ,h⟩:=h;refine thn (B2 hc ha hb pins s G H { D with nx:=J } I h) λf s' q=>?_
 cases f with
 |next=>
  obtain⟨mt,H',I',q'⟩:=q;exact⟨mt,H',I',hJ _ _ q'⟩
 |brk=>exact q
 |cont=>exact q
 |ret u=>exact q
theorem Zs {c:TT}{t u:TS}{D:Jg}{G:St}(J:St->Hp->Prop)(h:c G H λb H1=>if b=true then t { D with nx:=J } G H1 else u { D with nx:=J } G H1)(hJ:∀G H,J G H->D.nx G H):Aaz c t u D G H:=⟨J,hJ,h⟩
def uW (lo st:Int)(n:Nat):It:=⟨λi _=>i<n,λi H x H'=>H'=H/\x=.int (lo+i*st),λi _=>n<=i⟩
theorem dZ {P:fc}{K:da}(it:df)(lo dt:Int)(n:Nat):No P w K tg (uW lo dt n) [it] it (λi h=>wk h it (lo+(i:Nat)*dt) ((n:Int)-(i:Nat)) dt) where
 mem:=by simp
 obj:=λi h st b hb=>by
  have e:b=it:=by simpa using hb
  subst e;exact⟨_,st,λv z=>by
   have z':yb _=EQ v:=z;cases z'⟩
 keep:=λi h h' st k=>k it (by simp) _ st
 item:=by
  intro X hP hw hK hc i pins s G H E I hf st hg;subst hP hw hK;obtain⟨f0,f1,f2,f3,f4,f5⟩:=hf it (by simp);have W:=BI (prog:=X.prog) (w:=X.w) (I.ok.hd hc) it lo dt n;refine W.item i s _ _ hg st λv h' tk hv st' kk=>?_;obtain⟨t,rfl⟩:=hv;have I1:Inv X pins G H { s with heap:=h',toks:=tk }:=I.turned (λb o hb e=>kk b o (by simpa using hb) e) f0 f1 f3 f4 f5;exact⟨_,rfl,dW (s:={ s with heap:=h',toks:=tk }) (n:="range_iterator") st' rfl rfl (by decide) ⟨.int _,H,I1,⟨t,rfl⟩,⟨rfl,rfl⟩,st',λb hb=>(hf b hb).1⟩⟩
 done:=by
  intro X hP hw hK hc i pins s G H E I hf st hg;subst hP hw hK;obtain⟨f0,f1,f2,f3,f4,f5⟩:=hf it (by simp);exact yz (I.ok.hd hc) st (by have:n<=i:=hg;lia) λh' eb=>⟨rfl,I.turned (t':=s.toks) (λb o hb e=>eb b o hb e) f0 f1 f3 f4 f5⟩
 self:=λ_ _ _ _ _ st h=>y0 st h
theorem mR {lo st:Int}{n:Nat}{g:TG}{tb:TS}{D:Jg}{G:St}(Pv:Nat->St->Hp->Prop)(h0:Pv 0 G H)
  (hs:∀(i:Nat) G H,i<n->Pv i G H->g (.int (lo+i*st)) G H λHE H2=>tb { D with nx:=Pv (i+1),ct:=Pv (i+1),bk:=D.nx } HE H2)(hd:∀G H,Pv n G H->D.nx G H):iC (uW lo st n) g tb D G H:=by
 refine⟨λi m G H=>i<=n/\m=n-i/\Pv i G H,⟨n,e9 _,rfl,h0⟩,?_⟩;rintro i m G H ⟨hi,rfl,hP⟩
 by_cases h:i=n
 ·subst h
  exact .inl ⟨db _,hd G H hP⟩
 ·have hlt:i<n:=im hi h
  refine .inr ⟨hlt,Pv (i+1),λmt H' hN=>⟨n-(i+1),by lia,hlt,rfl,hN⟩,λx H' hy=>?_⟩;obtain⟨rfl,rfl⟩:=hy;exact hs i G _ hlt hP
def Its (z:Str):It:=⟨λi _=>i<z.cps.size,λi H x H'=>H'=H/\∃c,z.cps[i]?=some c/\x=.str (sgn c),λi _=>z.cps.size<=i⟩
section
variable {X:Cx} {tg:gd}
def Aca (tl:TE):TI:=λG H R=>tl G H λx H1=>∃z,x=.str z/\R (Its z) H1
theorem qO {P:fc}{K:da}{z:Str}{ty:String}{t:Tok}(hty:ty="str_ascii_iterator"\/ty="str_iterator")
  (W:∀A':gt,A'.handled=none->Walks P w A' it [it] [it] z.cps.size (SignAt z) (λi h=>h.IsStrIter it ty z t i))
  (hself:∀(A:gt) (i:Nat) (s:d4) (Q:Za0) (E:Za0),s.heap.IsStrIter it ty z t i->Q (.ref it) s->wpAny (model P w) A (pyIter (.ref it)) Q E s):No P w K tg (Its z) [it] it (λi h=>h.IsStrIter it ty z t i) where
 mem:=by simp
 obj:=λi h st b hb=>by
  have e:b=it:=by simpa using hb
  subst e;obtain⟨o,e,c,d⟩:=st;exact⟨o,e,λv z=>by rw[d] at z;cases z⟩
 keep:=λi h h' st k=>let ⟨o,ho,r⟩:=st;⟨o,k it (by simp) o ho,r⟩
 item:=by
  intro X hP hw hK hc i pins s G H E I hf st hg;subst hP hw hK;obtain⟨f0,f1,f2,f3,f4,f5⟩:=hf it (by simp);refine(W X.A (I.ok.hd hc)).item i s _ _ hg st λv h' tk hv st' kk=>?_;obtain⟨c,u,hc',rfl⟩:=hv;have I1:Inv X pins G H { s with heap:=h',toks:=tk }:=I.turned (λb o hb e=>kk b o (by simpa using hb) e) f0 f1 f3 f4 f5;obtain⟨o,e,cc,d⟩:=id st';exact⟨_,rfl,dW (s:={ s with heap:=h',toks:=tk }) e cc d (by rcases hty with rfl|rfl<;>decide) ⟨.str (sgn c),H,I1,⟨u,rfl⟩,⟨rfl,c,hc',rfl⟩,st',λb hb=>(hf b hb).1⟩⟩
 done:=by
  intro X hP hw hK hc i pins s G H E I hf st hg;subst hP hw hK;obtain⟨f0,f1,f2,f3,f4,f5⟩:=hf it (by simp);rcases hty with rfl|rfl
  ·exact wpAny_pyNext_ascii_end (I.ok.hd hc) st (mr hg) λh' eb=>⟨rfl,I.turned (t':=s.toks) (λb o hb e=>eb b o hb e) f0 f1 f3 f4 f5⟩
  ·exact wpAny_pyNext_wide_end (I.ok.hd hc) st (mr hg) λh' eb=>⟨rfl,I.turned (t':=s.toks) (λb o hb e=>eb b o hb e) f0 f1 f3 f4 f5⟩
 self:=λA i s Q E st h=>hself A i s Q E st h
theorem rS {l:gd}{tl:TE}(hl:PE X l tl):PI X tg l (Aca tl):=by
 intro pins s G H R I h;refine thE hl I h λv s1 x H1 I1 r1 q1=>?_;obtain⟨z,e,q⟩:=q1;subst e;obtain⟨t,rfl⟩:=r1;have fin:∀(o:Obj) (ty:String),(ty="str_ascii_iterator"\/ty="str_iterator")->(∀A':gt,A'.handled=none->Walks X.prog X.w A' s1.heap.objs.size [s1.heap.objs.size] [s1.heap.objs.size] z.cps.size (SignAt z) (λi h=>h.IsStrIter s1.heap.objs.size ty z t i)) ->
   (∀(A:gt) (i:Nat) (s:d4) (Q:Za0) (E:Za0),s.heap.IsStrIter s1.heap.objs.size ty z t i->Q (.ref s1.heap.objs.size) s->wpAny (model X.prog X.w) A (pyIter (.ref s1.heap.objs.size)) Q E s) ->
   (s1.heap.push o).IsStrIter s1.heap.objs.size ty z t 0->PIE X pins G tg R (.ref s1.heap.objs.size) { s1 with heap:=s1.heap.push o }:=λo ty hty W hs h0=>by
  refine⟨s1.heap.objs.size,[s1.heap.objs.size],_,_,H1,rfl,I1.kept (t':=s1.toks) λb o e=>dq _ e,qO hty W hs,h0,λb hb=>?_,q⟩;have e:b=s1.heap.objs.size:=by simpa using hb
  subst e;exact I1.fpOk (db _) (I1.hok.fresh (db _))
 cases ha:z.cps.all (· < 128)
 ·exact wpAny_pyIter_wide ha (fin _ _ (.inr rfl) (λA' hA=>Walks.strWide hA _ z t) (λA i s Q E st h=>wpAny_pyIter_striter_wide st h) ⟨_,fi _ rfl,rfl,rfl⟩)
 ·exact wpAny_pyIter_ascii ha (fin _ _ (.inl rfl) (λA' hA=>Walks.strAscii hA _ z t) (λA i s Q E st h=>wpAny_pyIter_striter_ascii st h) ⟨_,fi _ rfl,rfl,rfl⟩)
end
theorem zJ {tl:TE}{G:St}{R:It->Hp->Prop}(h:tl G H λx H1=>∃z,x=.str z/\R (Its z) H1):Aca tl G H R:=h
def qA (z:Str)(lo hi:Option Int):Str:=⟨((z.cps.toList.drop (HT.sIx z.cps.size 0 lo)).take (HT.sIx z.cps.size z.cps.size hi-HT.sIx z.cps.size 0 lo)).toArray⟩
def Ac3:V->Option Int->Option Int->Hp->VK->Prop:=λx lo hi H Q=>∃z,x=.str z/\z.length<=sizeLine/\Q (.str (qA z lo hi)) H
theorem Ab5 (lo hi:Option Int)(n:Nat):nr lo hi 1 n=(ed (HT.sIx n n hi-HT.sIx n 0 lo)).map (HT.sIx n 0 lo + ·):=by
 have e:nr lo hi 1 n=sliceRange ((HT.sIx n 0 lo:Nat):Int) ((HT.sIx n n hi:Nat):Int) 1:=by
  unfold nr;dsimp only;congr 1
  ·cases lo with
   |none=>simp[HT.sIx]
   |some i=>
    simp only[HT.sIx,show(1:Int)>0 by decide,if_true]
    by_cases h:i<0
    ·simp only[h,if_true]
     lia
    ·simp only[h,if_false]
     lia
  ·cases hi with
   |none=>simp[HT.sIx]
   |some i=>
    simp only[HT.sIx,show(1:Int)>0 by decide,if_true]
    by_cases h:i<0
    ·simp only[h,if_true]
     lia
    ·simp only[h,if_false]
     lia
 rw[e,EH]
theorem pT (z:Str)(t:Tok)(l u:Option (Int×Tok)):(sliceMade z t l u none=.val (.str z t)/\qA z (l.map (·.1)) (u.map (·.1))=z)\/sliceMade z t l u none=.str (qA z (l.map (·.1)) (u.map (·.1))):=by
 have hp:slicePicked z l u none=(ed (HT.sIx z.length z.length (u.map (·.1))-HT.sIx z.length 0 (l.map (·.1)))).map (HT.sIx z.length 0 (l.map (·.1)) + ·):=Ab5 _ _ _;have hc:(slicePicked z l u none).filterMap (z.cps[·]?)=(qA z (l.map (·.1)) (u.map (·.1))).cps.toList:=by
  rw[hp,pick_run];rfl
 unfold sliceMade;split
 ·rename_i hw
  left
  refine⟨rfl,Kg ?_⟩;have hlen:(slicePicked z l u none).length=z.length:=by simpa using hw
  rw[hp,c8,fj] at hlen;have h1:=HT.sIx_le z.length 0 (e9 _) (l.map (·.1));have h2:=HT.sIx_le z.length z.length (db _) (u.map (·.1));have e1:HT.sIx z.length 0 (l.map (·.1))=0\/z.length=0:=by lia
  show((z.cps.toList.drop (HT.sIx z.cps.size 0 (l.map (·.1)))).take _).toArray.toList=_;rw[show z.cps.size=z.length from rfl] at *;rcases e1 with e1|e1
  ·rw[e1,l4] at hlen
   rw[e1,hlen,l4,qw,ku];exact d5 (by simp[Str.length])
  ·have:z.cps.toList=[]:=by
    have:z.cps.size=0:=e1
    simpa using this
   rw[this];simp
 ·right
  rw[hc]
section
variable {X:Cx}
theorem qQ:SlR X Ac3:=by
 intro pins s G H x v vl vu lo hi sl Q I rx hs pl pu h;obtain⟨z,rfl,hz,q⟩:=h;obtain⟨t,rfl⟩:=rx;refine⟨"str",_,PySem.F.slot_str_getitem.lookup,typeIs_str _ _ _,?_⟩;obtain⟨l,el,el'⟩:∃l:Option (Int×Tok),vl=partValue l/\lo=l.map (·.1):=by
  cases pl with
  |none=>exact⟨none,rfl,rfl⟩
  |int i t=>exact⟨some (i,t),rfl,rfl⟩
 obtain⟨u,eu,eu'⟩:∃u:Option (Int×Tok),vu=partValue u/\hi=u.map (·.1):=by
  cases pu with
  |none=>exact⟨none,rfl,rfl⟩
  |int i t=>exact⟨some (i,t),rfl,rfl⟩
 subst el el' eu eu';refine wpAny_getItem_str_slice (l:=l) (u:=u) (st:=none) hs rfl ?_;rcases pT z t l u with⟨e,e2⟩|e
 ·rw[e]
  rw[e2] at q;exact⟨.str z,H,I,⟨t,rfl⟩,q⟩
 ·rw[e]
  refine⟨?_,.str _,H,I.tok _,⟨_,rfl⟩,q⟩;refine gl ?_ hz;show(EK _ (EL _ z.cps.toList)).toArray.size<=z.cps.size;rw[ez,dh,fh];simp;lia
end
theorem xI:bootBuiltins "zip"=some (.type "zip"):=by decide +kernel
theorem Io:bootBuiltins "enumerate"=some (.type "enumerate"):=by decide +kernel
theorem Inv.turnT {G:List (Option V)}{wr:List df}{T:df}(I:Inv X pins G H s)
  (k:∀b o,b∉wr->s.heap.get? b=some o->h'.get? b=some o)(hf:∀b∈wr,Od X pins H b)(hT:s.heap.objs.size<=T)(hI:h'.IsTuple T us.toArray)(rv:Bj xs us)(hz:xs.length<=sizeLine) :
  Inv X pins G (upd H T (.tup xs)) { s with heap:=h',toks:=t' }:=by
 have hn:H T=none:=I.hok.fresh hT;have nT:∀b u,H b=some u->b≠T:=λb u e=>Af e hn;have nW:∀b u,H b=some u->b∉wr:=λb u e z=>by rw[(hf b z).1] at e;cases e
 refine I.step (g':=s.gens) (d':=s.drawn) (ch:=wr) (λb hb=>?_) (λb o _ _ hc e _=>k b o hc e) (λb o _ _ hc e _=>⟨o.slots,k b o hc e⟩) (λb o hc e n=>?_)
  (λb o hc e=>⟨o,k b o hc e⟩) (λb xs e=>by rw[Ai (nT _ _ e)];exact e) (λb o u e=>by rw[Ai (nT _ _ e)];exact e) (λb ps e=>⟨#[],by rw[Ai (nT _ _ e),e];simp⟩) (λm hm=>?_) (λb u e=>?_) I.bare
 ·obtain⟨_,f1,_,f3,f4,f5⟩:=hf b hb
  exact⟨f3,f1,f4,f5⟩
 ·rw[Ai (fk (dw (d3 e) hT))]
  exact n
 ·obtain⟨o,es,ep,ho,r⟩:=hm
  exact⟨o,es,ep,k _ o (λz=>(hf _ z).2.1 rfl) ho,r⟩
 ·by_cases hb:b=T
  ·subst hb
   rw[Ac] at e;cases e;exact⟨hz,us,rv,hI⟩
  ·rw[Ai hb] at e
   refine(I.hok b u e).stay (λc v hc q=>k c v ?_ q) (λc q=>by rw[Ai (nT _ _ q)];exact q) λc ys q=>by rw[Ai (nT _ _ q)];exact q
   rcases hc with z|z
   ·rw[z];exact nW b u e
   ·exact nW c _ z
theorem Inv.turnW {G:List (Option V)}{wr:List df}(I:Inv X pins G H s)
  (k:∀b o,b∉wr->s.heap.get? b=some o->h'.get? b=some o)(hf:∀b∈wr,Od X pins H b):Inv X pins G H { s with heap:=h',toks:=t' }:=by
 have nW:∀b u,H b=some u->b∉wr:=λb u e z=>by rw[(hf b z).1] at e;cases e
 refine I.step (g':=s.gens) (d':=s.drawn) (ch:=wr) (λb hb=>?_) (λb o _ _ hc e _=>k b o hc e) (λb o _ _ hc e _=>⟨o.slots,k b o hc e⟩) (λb o hc e n=>n)
  (λb o hc e=>⟨o,k b o hc e⟩) (λ_ _ e=>e) (λ_ _ _ e=>e) (λb ps e=>⟨#[],by rw[e];simp⟩) (λm hm=>?_) (λb u e=>?_) I.bare
 ·obtain⟨_,f1,_,f3,f4,f5⟩:=hf b hb
  exact⟨f3,f1,f4,f5⟩
 ·obtain⟨o,es,ep,ho,r⟩:=hm
  exact⟨o,es,ep,k _ o (λz=>(hf _ z).2.1 rfl) ho,r⟩
 ·refine(I.hok b u e).stay (λc v hc q=>k c v ?_ q) (λ_ q=>q) λ_ _ q=>q
  rcases hc with z|z
  ·rw[z];exact nW b u e
  ·exact nW c _ z
theorem Eu {a b:df}{o u:Obj}(h1:h.get? a=some o)(h2:h.get? b=some u)(d:o.cls≠u.cls):a≠b:=λe=>by
 subst e;rw[h1] at h2;cases h2;exact d rfl
def Itz (K:da)(a b:df):It:=
 ⟨λi H=>∃xs ys x y,SqL K H a xs/\SqL K H b ys/\xs[i]?=some x/\ys[i]?=some y,
  λi H v H'=>∃t x y,H t=none/\v=.ref t/\(∀xs,SqL K H a xs->xs[i]?=some x)/\(∀ys,SqL K H b ys->ys[i]?=some y)/\H'=upd H t (.tup [x,y]),
  λi H=>∃xs ys,SqL K H a xs/\SqL K H b ys/\i=min xs.length ys.length⟩
def StZ (z TI TO i1 i2 l1 l2:df)(i:Nat)(h:gv):Prop:=IsZip h z TI TO .none/\oi h TI (.ref i1) (.ref i2)/\(∃a b,oi h TO a b)/\h.IsListIter i1 l1 i/\h.IsListIter i2 l2 i
structure fG (z TI TO i1 i2:df):Prop where
 TIz:TI≠z
 TOz:TO≠z
 i1z:i1≠z
 i2z:i2≠z
 TITO:TI≠TO
 TIi1:TI≠i1
 TIi2:TI≠i2
 TOi1:TO≠i1
 TOi2:TO≠i2
 i12:i1≠i2
theorem gJ {TI TO a b:df}{i:Nat}{xs ys:Array d0}(D:fG z TI TO i1 i2)(st:StZ z TI TO i1 i2 a b i h)(ha:h.IsList a xs)(hb:h.IsList b ys):uu z TI TO i1 i2 a b:=by
 obtain⟨hz,hTI,⟨u,v,hTO⟩,⟨o1,e1,c1,_⟩,⟨o2,e2,c2,_⟩⟩:=st;obtain⟨oa,ea,ca,_⟩:=ha;obtain⟨ob,eb,cb,_⟩:=hb;refine⟨D.TIz,D.TOz,D.i1z,D.i2z,D.TITO,D.TIi1,D.TIi2,D.TOi1,D.TOi2,D.i12,Eu ea hz ?_,Eu ea hTO ?_,Eu ea e1 ?_,Eu ea e2 ?_,Eu eb hz ?_,Eu eb hTO ?_,Eu eb e1 ?_,Eu eb e2 ?_⟩
 ·rw[ca];exact show ij "list"≠ij "zip" by decide
 ·rw[ca];exact show ij "list"≠ij "tuple" by decide
 ·rw[ca,c1];decide
 ·rw[ca,c2];decide
 ·rw[cb];exact show ij "list"≠ij "zip" by decide
 ·rw[cb];exact show ij "list"≠ij "tuple" by decide
 ·rw[cb,c1];decide
 ·rw[cb,c2];decide
theorem Uc (n:Nat):fG (n+4) (n+2) (n+3) n (n+1):=by
 constructor<;>(intro h;have h:(_:Nat)=_:=h;lia)
theorem Aa4 {n c:Nat}(h:c=n+4\/c=n+2\/c=n+3\/c=n\/c=n+1):n<=c:=by lia
theorem kP {n c:Nat}(h:c=n+1\/c=n):n<=c:=by lia
theorem lR (n:Nat):n+1≠n:=by lia
theorem pU {P:fc}{K:da}{k:Nat}(z TI TO i1 i2 a b:df)(D:fG z TI TO i1 i2) :
  No P w K (.Tuple elts k pos) (Itz K a b) [z,TI,TO,i1,i2] z (StZ z TI TO i1 i2 a b) where
 mem:=by simp
 obj:=λi h st c hc=>by
  obtain⟨hz,hTI,⟨u,v,hTO⟩,⟨o1,e1,c1,d1⟩,⟨o2,e2,c2,d2⟩⟩:=st;simp only[fu,je,or_false] at hc;rcases hc with rfl|rfl|rfl|rfl|rfl
  ·exact⟨_,hz,λv z=>by cases z⟩
  ·exact⟨_,hTI,λv z=>by cases z⟩
  ·exact⟨_,hTO,λv z=>by cases z⟩
  ·exact⟨_,e1,λv z=>by rw[d1] at z;cases z⟩
  ·exact⟨_,e2,λv z=>by rw[d2] at z;cases z⟩
 keep:=λi h h' st kk=>by
  obtain⟨hz,hTI,⟨u,v,hTO⟩,h1,h2⟩:=st;exact⟨kk _ (by simp) _ hz,kk _ (by simp) _ hTI,⟨u,v,kk _ (by simp) _ hTO⟩,h1.at λo e=>kk _ (by simp) o e,h2.at λo e=>kk _ (by simp) o e⟩
 item:=by
  intro X hP hw hK hc i pins s G H E I hf st hg;subst hP hw hK;obtain⟨xs,ys,x,y,ha,hb,hx,hy⟩:=hg;obtain⟨its,rv,p,hz⟩:=I.list ha;obtain⟨its2,rv2,p2,hz2⟩:=I.list hb;have W:=BA (prog:=X.prog) (w:=X.w) (A:=X.A) (I.ok.hd hc) z TI TO i1 i2 a b (gJ D st p.isList p2.isList) its.toArray its2.toArray;obtain⟨u1,hu1,ru1⟩:=rv.get hx;obtain⟨u2,hu2,ru2⟩:=rv2.get hy;have l1:=(d6.mp hu1).1;have l2:=(d6.mp hu2).1;obtain⟨s1,s2,s3,s4,s5⟩:=id st;refine W.item i s _ _ (by simp;lia) ⟨s1,s2,s3,s4,s5,p.isList,p2.isList⟩ λT vals h' tk hv hT hTu mid kk=>?_;obtain⟨v1,v2,e1,e2,rfl⟩:=hv;have e1:v1=u1:=by have:=e1;simp only[ni] at this;rw[hu1] at this;exact(de this).symm
  have e2:v2=u2:=by have:=e2;simp only[ni] at this;rw[hu2] at this;exact(de this).symm
  subst e1 e2;have nT:=W.apart i T h' mid;refine⟨.ref T,rfl,W.go elts k pos i T { s with heap:=h',toks:=tk } _ _ mid λh'' st'' kk2=>?_⟩;have hTu2:h''.IsTuple T ([v1,v2]:Za3).toArray:=by
   obtain⟨o,e,r⟩:=hTu;exact⟨o,kk2 T o nT e,r⟩
  have I2:Inv X pins G (upd H T (.tup [x,y])) { s with heap:=h'',toks:=tk }:=I.turnT (t':=tk) (λb o hb e=>kk2 b o hb (kk b o hb e)) (λb hb=>hf b (by simp at hb ⊢;rcases hb with rfl|rfl|rfl|rfl<;>simp)) hT hTu2 (.cons ru1 (.cons ru2 .nil)) (show 2<=sizeLine by decide)
  refine⟨.ref T,_,I2,rfl,⟨T,x,y,I.hok.fresh hT,rfl,λxs' h=>by rw[I.list_inj h ha];exact hx,λys' h=>by rw[I.list_inj h hb];exact hy,rfl⟩,⟨st''.1,st''.2.1,st''.2.2.1,st''.2.2.2.1,st''.2.2.2.2.1⟩,λc hc'=>?_⟩;have hlt:c<s.heap.objs.size:=by
   obtain⟨q,⟨t1,t2,t3⟩⟩:c∈[z,TI,TO,i1,i2]/\(IsZip s.heap z TI TO .none/\oi s.heap TI (.ref i1) (.ref i2)/\True):=⟨hc',s1,s2,trivial⟩;obtain⟨u,v,s3⟩:=s3;obtain⟨o4,s4,_⟩:=s4;obtain⟨o5,s5,_⟩:=s5;simp only[fu,je,or_false] at hc';rcases hc' with rfl|rfl|rfl|rfl|rfl
   ·exact d3 s1
   ·exact d3 s2
   ·exact d3 s3
   ·exact d3 s4
   ·exact d3 s5
  rw[Ai (fk (dw hlt hT))];exact(hf c hc').1
 done:=by
  intro X hP hw hK hc i pins s G H E I hf st hg;subst hP hw hK;obtain⟨xs,ys,ha,hb,hi⟩:=hg;obtain⟨its,rv,p,hz⟩:=I.list ha;obtain⟨its2,rv2,p2,hz2⟩:=I.list hb;have W:=BA (prog:=X.prog) (w:=X.w) (A:=X.A) (I.ok.hd hc) z TI TO i1 i2 a b (gJ D st p.isList p2.isList) its.toArray its2.toArray;have hl:=rv.length;have hl2:=rv2.length;have hi2:i=min its.toArray.size its2.toArray.size:=by rw[hi,hl,hl2];simp
  obtain⟨s1,s2,s3,s4,s5⟩:=id st;refine W.done s _ _ (by rw[<-hi2];exact⟨s1,s2,s3,s4,s5,p.isList,p2.isList⟩) λh' tk kk=>⟨rfl,?_⟩;exact I.turnW (t':=tk) kk λb hb=>hf b (by simp at hb ⊢;rcases hb with rfl|rfl|rfl|rfl<;>simp)
 self:=λ_ _ _ _ _ st h=>vh st.1 h
section
variable {X:Cx} {elts:List gd} {k:Nat} {tpos:Pos}
def Abd (K:da)(ta:TA):TI:=λG H R=>ta G H λvs H1=>∃a b,vs=[.ref a,.ref b]/\(∃xs,SqL K H1 a xs)/\(∃ys,SqL K H1 b ys)/\R (Itz K a b) H1
theorem iK {a b:gd}{ta:TA}{p:Pos}(hg:Gl X "zip")(hm:X.mg "zip"=none)(ha:PA X [a,b] ta)(hs:autoParam (starEach [a,b] X.env=[(false,eval a X.env),(false,eval b X.env)]) QD)(hs2:autoParam (starEach [b] X.env=[(false,eval b X.env)]) QD) :
  PI X (.Tuple elts k tpos) (.Call (.Name "zip" p) [a,b] [] pos) (Abd X.K ta):=by
 intro pins s G H R I h;refine Call_ (Fg I hg hm xI (gr (thA ha I h λus s1 vs H1 I1 r1 q1=>?_) (by rw[hs,hs2]) (by rw[hs2];rfl)));obtain⟨a,b,e,⟨xs,hx⟩,⟨ys,hy⟩,q⟩:=q1;subst e;obtain⟨u,v,rfl,ru,rv⟩:=Vf r1;cases ru;cases rv;obtain⟨its,rv,p,hz⟩:=I1.list hx;obtain⟨its2,rv2,p2,hz2⟩:=I1.list hy;refine call_zip_2 p.isList p2.isList λh' g1 g2 g3 g4 g5 hsz kk=>?_;refine vh (s:={ s1 with heap:=h' }) g1 ?_;refine⟨s1.heap.objs.size+4,[s1.heap.objs.size+4,s1.heap.objs.size+2,s1.heap.objs.size+3,s1.heap.objs.size,s1.heap.objs.size+1],_,_,H1,rfl,I1.kept (t':=s1.toks) kk,
  pU _ _ _ _ _ a b (Uc _),⟨g1,g2,⟨_,_,g3⟩,g4,g5⟩,λc hc=>?_,q⟩
 have hle:s1.heap.objs.size<=c:=by
  simp only[fu,je,or_false] at hc;exact Aa4 hc
 exact I1.fpOk hle (I1.hok.fresh hle)
end
def Ite (K:da)(a:df):It:=
 ⟨λi H=>∃xs x,SqL K H a xs/\xs[i]?=some x,
  λi H v H'=>∃t x,H t=none/\v=.ref t/\(∀xs,SqL K H a xs->xs[i]?=some x)/\H'=upd H t (.tup [.int i,x]),
  λi H=>∃xs,SqL K H a xs/\i=xs.length⟩
def StE (e it l:df)(i:Nat)(h:gv):Prop:=(∃old,zh h e it i old)/\h.IsListIter it l i
theorem lW {P:fc}{K:da}{k:Nat}(e it a:df)(D:e≠it) :
  No P w K (.Tuple elts k pos) (Ite K a) [e,it] e (StE e it a) where
 mem:=by simp
 obj:=λi h st c hc=>by
  obtain⟨⟨old,he⟩,⟨o1,e1,c1,d1⟩⟩:=st;simp only[fu,je,or_false] at hc;rcases hc with rfl|rfl
  ·exact⟨_,he,λv z=>by cases z⟩
  ·exact⟨_,e1,λv z=>by rw[d1] at z;cases z⟩
 keep:=λi h h' st kk=>by
  obtain⟨⟨old,he⟩,h1⟩:=st;exact⟨⟨old,kk _ (by simp) _ he⟩,h1.at λo e=>kk _ (by simp) o e⟩
 item:=by
  intro X hP hw hK hc i pins s G H E I hf st hg;subst hP hw hK;obtain⟨xs,x,ha,hx⟩:=hg;obtain⟨its,rv,p,hz⟩:=I.list ha;obtain⟨⟨old,s1⟩,s2⟩:=id st;have n1:a≠e:=by obtain⟨oa,ea,ca,_⟩:=p.isList;exact Eu ea s1 (by rw[ca];exact show ij "list"≠ij "enumerate" by decide)
  have n2:a≠it:=by obtain⟨oa,ea,ca,_⟩:=p.isList;obtain⟨o1,e1,c1,_⟩:=s2;exact Eu ea e1 (by rw[ca,c1];decide)
  have W:=yp (prog:=X.prog) (w:=X.w) (A:=X.A) (I.ok.hd hc) e it a D n1 n2 its.toArray;obtain⟨u1,hu1,ru1⟩:=rv.get hx;have l1:=(d6.mp hu1).1;refine W.item i s _ _ (by simpa using l1) ⟨⟨old,s1⟩,s2,p.isList⟩ λT vals h' tk hv hT hTu mid kk=>?_;obtain⟨t,v1,e1,rfl⟩:=hv;have e1:v1=u1:=by have:=e1;simp only[ni] at this;rw[hu1] at this;exact(de this).symm
  subst e1;have nT:=W.apart i T h' mid;refine⟨.ref T,rfl,W.go elts k pos i T { s with heap:=h',toks:=tk } _ _ mid λh'' st'' kk2=>?_⟩;have hTu2:h''.IsTuple T ([l7 (i:Int) t,v1]:Za3).toArray:=by
   obtain⟨o,e,r⟩:=hTu;exact⟨o,kk2 T o nT e,r⟩
  have I2:Inv X pins G (upd H T (.tup [.int i,x])) { s with heap:=h'',toks:=tk }:=I.turnT (t':=tk) (λb o hb e=>kk2 b o hb (kk b o hb e)) (λb hb=>hf b hb) hT hTu2 (.cons ⟨t,rfl⟩ (.cons ru1 .nil)) (show 2<=sizeLine by decide);refine⟨.ref T,_,I2,rfl,⟨T,x,I.hok.fresh hT,rfl,λxs' h=>by rw[I.list_inj h ha];exact hx,rfl⟩,⟨?_,st''.2.1⟩,λc hc'=>?_⟩
  ·exact st''.1
  have hlt:c<s.heap.objs.size:=by
   obtain⟨o5,s5,_⟩:=s2;simp only[fu,je,or_false] at hc';rcases hc' with rfl|rfl
   ·exact d3 s1
   ·exact d3 s5
  rw[Ai (fk (dw hlt hT))];exact(hf c hc').1
 done:=by
  intro X hP hw hK hc i pins s G H E I hf st hg;subst hP hw hK;obtain⟨xs,ha,hi⟩:=hg;obtain⟨its,rv,p,hz⟩:=I.list ha;obtain⟨⟨old,s1⟩,s2⟩:=id st;have n1:a≠e:=by obtain⟨oa,ea,ca,_⟩:=p.isList;exact Eu ea s1 (by rw[ca];exact show ij "list"≠ij "enumerate" by decide)
  have n2:a≠it:=by obtain⟨oa,ea,ca,_⟩:=p.isList;obtain⟨o1,e1,c1,_⟩:=s2;exact Eu ea e1 (by rw[ca,c1];decide)
  have W:=yp (prog:=X.prog) (w:=X.w) (A:=X.A) (I.ok.hd hc) e it a D n1 n2 its.toArray;have hl:=rv.length;have hi2:i=its.toArray.size:=by rw[hi,hl];simp
  refine W.done s _ _ (by rw[<-hi2];exact⟨⟨old,s1⟩,s2,p.isList⟩) λh' tk kk=>⟨rfl,?_⟩;exact I.turnW (t':=tk) kk λb hb=>hf b hb
 self:=λ_ _ _ _ _ st h=>jv (ml st.1) h
section
variable {X:Cx} {elts:List gd} {k:Nat} {tpos:Pos}
def xB (K:da)(ta:TA):TI:=λG H R=>ta G H λvs H1=>∃a,vs=[.ref a]/\(∃xs,SqL K H1 a xs)/\R (Ite K a) H1
theorem vP {a:gd}{ta:TA}{p:Pos}(hg:Gl X "enumerate")(hm:X.mg "enumerate"=none)(ha:PA X [a] ta)(hs:autoParam (starEach [a] X.env=[(false,eval a X.env)]) QD) :
  PI X (.Tuple elts k tpos) (.Call (.Name "enumerate" p) [a] [] pos) (xB X.K ta):=by
 intro pins s G H R I h;refine Call_ (Fg I hg hm Io (gr (thA ha I h λus s1 vs H1 I1 r1 q1=>?_) hs rfl));obtain⟨a,e,⟨xs,hx⟩,q⟩:=q1;subst e;obtain⟨u,rfl,ru⟩:=Fj r1;cases ru;obtain⟨its,rv,p,hz⟩:=I1.list hx;refine call_enumerate_list p.isList λh' g1 g2 hsz kk=>?_;refine jv (s:={ s1 with heap:=h' }) g1 ?_;refine⟨s1.heap.objs.size+1,[s1.heap.objs.size+1,s1.heap.objs.size],_,_,H1,rfl,I1.kept (t':=s1.toks) kk,
  lW _ _ a (lR _),⟨⟨_,g1⟩,g2⟩,λc hc=>?_,q⟩
 have hle:s1.heap.objs.size<=c:=by
  simp only[fu,je,or_false] at hc;exact kP hc
 exact I1.fpOk hle (I1.hok.fresh hle)
end
structure E5 (HK:Za6) (HL sc:kr) (x1 x2:Str) (N:Za6) (ix:Za4):Prop where
 kind:sc.kind=.function
 nocell:∀y∈sc.names,y.2≠.cell
 names:∀y∈sc.names,y.2=.local->sc.names.lookup y.1=some .local
 free:∀y∈sc.names,y.2=.free->HL.names.lookup y.1=some .cell
 nd:N.Nodup
 hd:N[0]?=some x1
 hd2:N[1]?=some x2
 loc:sc.names.lookup x1=some .local
 loc2:sc.names.lookup x2=some .local
 len:N.length=ix.length+2
 at_:∀p∈N.tail.tail.zip ix,HK[p.2]?=some p.1/\sc.names.lookup p.1=some .free
def Lg (K:da)(J:It)(H1:Hp)(fr:St)(tc:TT)(te:TE)(Q:VK):Prop:=∀D,H1 D=none->∃W:Nat->Nat->Hp->Prop,(∃m,W 0 m (upd H1 D (.lst [])))/\∀i m H,W i m H ->
 (J.stop i H/\Q (.ref D) H)\/(J.go i H/\∀v H',J.yld i H v H'->∃a x y,v=.ref a/\SqT K H' a [x,y]/\tc (some x::some y::fr) H' λb H3=>
  if b=true then te (some x::some y::fr) H3 λy H4=>∃ys,H4 D=some (.lst ys)/\ys.length<sizeLine/\∃m',m'<m/\W (i+1) m' (upd H4 D (.lst (ys++[y]))) else ∃m',m'<m/\W (i+1) m' H3)
def yR (K:da)(wi:TI)(ix:Za4)(tc:TT)(te:TE):TE:=λG H Q=>wi G H λJ H1=>Lg K J H1 (frV G ix) tc te Q
section
variable {X:Cx} {scope:kr} {N:Za6} {ix:Za4} {x1 x2:Str} {px px2 ppos:Pos} {kk:Nat} {elt iter:gd} {ifs:List gd} {tc:TT} {te:TE} {pos:Pos}
theorem yB {G:St}{tn:Nat->gv->Prop}(L:E5 X.N X.env.scope scope x1 x2 N ix)(I2:Inv X pins G H2 s2)
  (T:No X.prog X.w X.K tg J fp it tn)(st2:tn 0 s2.heap)(f2:∀b∈fp,Od X pins H2 b){s3 s4:d4}{H3:Hp}(I3:Inv X pins G H3 s3)(I4:Inv X pins G H3 s4)(hle:s2.heap.objs.size<=s3.heap.objs.size)
  (hC:C=s3.heap.objs.size)(ho:s4.os=s3.os)(kp:∀b u,s3.heap.get? b=some u->s4.heap.get? b=some u){m:Za2}(hns:s4.heap.Ns C m):Inv (Fs X scope N C s3 H3 fp) [] (none::none::frV G ix) H3 s4:=by
 have hfree:∀y∈scope.names,y.2=.free->∃c,X.env.cells.lookup y.1=some c:=λy hy hf=>I2.ok.has y.1 (.inl (L.free y hy hf));have sub:∀y c,(Eh X.env scope.names []).lookup y=some c->X.env.cells.lookup y=some c:=λy c h=>Jv _ _ y c hfree (λ_ _ z=>by simp at z) h;have lt2:∀b∈fp,b<s2.heap.objs.size:=λb hb=>by obtain⟨o,e,_⟩:=T.obj _ _ st2 b hb;exact d3 e
 have okY:(Fs X scope N C s3 H3 fp).Ok:=by
  refine⟨I2.ok.mod,L.kind,I2.ok.glob,I2.ok.blt,ll hC.symm,λy z c h1 h2=>I2.ok.inj y z c (sub y c h1) (sub z c h2),λy hy=>?_,λy c z _=>?_,I2.ok.hd,I2.ok.frames,.inl rfl,λb hb=>⟨?_,λy c h=>(f2 b hb).2.2.2.2.1 y c (sub y c h)⟩,
   I3.bs,gl I3.ok.bsz I3.sz,λb o e hb=>?_,λb hb z=>?_,I3.stack,I3.stkFree⟩
  ·have hk:(y,lw)∈scope.names:=by
    rcases hy with hy|hy
    ·rcases Ku hy with q|q
     ·exact absurd rfl (L.nocell _ q)
     ·exact q.1
    ·rcases Ku hy with q|q
     ·exact q
     ·exact absurd q.2 (by decide)
   exact ib.mp (Fo _ _ y hk)
  ·cases(show false=true from z)
  ·have l:=lt2 b hb
   show b≠C;rw[hC];exact fk (dw l hle)
  ·rcases(f2 b hb).2.2.2.1 with q|q
   ·exact I2.ok.noex b o e q
   ·exact absurd (dw (d3 e) (gl I2.ok.bsz q)) (i4 _)
  ·rcases fu.mp (I2.stkSub b z) with q|q
   ·exact(f2 b hb).2.1 q
   ·exact(f2 b hb).2.2.1 q
 refine⟨okY,ho,I4.bare,Un.kept kp,⟨m,hns,λi y v h1 h2 h3=>?_⟩,λy c e=>I4.cell y c (sub y c e),?_,λy c e=>I4.freeC y c (sub y c e),λp hp=>absurd (show p∈([]:Za1) from hp) (by simp),I4.hok,?_⟩
 ·cases i with
  |zero=>cases(show some none=some (some v) from h2)
  |succ k=>
   cases k with
   |zero=>cases(show some none=some (some v) from h2)
   |succ k=>
   have h2:(frV G ix)[k]?=some (some v):=h2;have h1:N[k+1+1]?=some y:=h1;unfold frV at h2;rw[dg] at h2
   cases hj:ix[k]? with
   |none=>rw[hj] at h2;cases h2
   |some j=>
    rw[hj] at h2;have h2:(G[j]?).getD none=some v:=de h2;have h2':G[j]?=some (some v):=by
     cases e:G[j]? with
     |none=>rw[e] at h2;cases h2
     |some z=>rw[e] at h2;exact congrArg some h2
    have ht:N.tail.tail[k]?=some y:=by rw[li,li];exact h1
    have hz:(y,j)∈N.tail.tail.zip ix:=gw (i:=k) (by rw[pk];exact⟨ht,hj⟩);obtain⟨q1,q2⟩:=L.at_ _ hz;have hm:=iq q2;have hcell:=L.free _ hm rfl;obtain⟨m',hn',hl'⟩:=I4.loc;obtain⟨u,r,lk⟩:=hl' j y v q1 h2' (.inr (.inl hcell));refine⟨u,r,.inr ⟨.inl (Oj I2.ok.kind hcell q2),?_⟩⟩;rcases lk with lk|⟨_,c,e,z⟩
    ·rw[show X.env.kindOf y=some .cell from hcell] at lk
     cases lk.1
    ·obtain⟨c',e'⟩:=ib.mp (Fo (env:=X.env) scope.names [] y hm)
     have e2:=sub y c' e';rw[e] at e2;cases e2;exact⟨c,e',z⟩
 ·show H3 C=none
  exact I3.hok.fresh (ll hC.symm)
 ·show(none::none::frV G ix).length=N.length
  rw[L.len];simp[frV]
theorem kX {tgt:gd}(htg:tgt=.Tuple [.Name x1 px,.Name x2 px2] kk ppos){G:St}{tn:Nat->gv->Prop}(hc:X.calm=true)(L:E5 X.N X.env.scope scope x1 x2 N ix)(I2:Inv X pins G H2 s2)
  (T:No X.prog X.w X.K tgt J fp it tn)(st2:tn 0 s2.heap)(f2:∀b∈fp,Od X pins H2 b)
  (hif:∀C s H,PIf (Fs X scope N C s H fp) ifs tc)(he:∀C s H,PE (Fs X scope N C s H fp) elt te){Q:VK}(rd:Lg X.K J H2 (frV G ix) tc te Q){RR:d0->df->ug->d4->Prop}{E:Za0}
  (fin:∀D C H' s' m,Inv X pins G H' s'->s2.heap.objs.size<=C->H' C=none->s'.heap.Ns C m->Q (.ref D) H'->RR (.ref D) C (.ok .next) s') :
  wpAny (model X.prog X.w) X.A (newList []) (λacc s3=>wpAny (model X.prog X.w) X.A (newFunctionEnv scope X.env.globals (Eh X.env scope.names []) [] X.env.qual none .none (some X.env)) (λcenv s4=>
   codeAny (model X.prog X.w) X.A (.compStart (.ListComp elt [⟨tgt,iter,ifs,0⟩] scope pos) 0 (.ref it) acc { cenv with scope:=relabel scope X.env }) (RR acc cenv.locals) s4) E s3) E s2:=by
 refine ut (rz L.nocell (by intro y hy;simp at hy) (λh1 hns hsb=>?_) L.kind);dsimp only at hns hsb ⊢;have I3:Inv X pins G (upd H2 s2.heap.objs.size (.lst [])) { s2 with heap:=s2.heap.push { cls:=.type "list",dict:=none,data:=.seq ([]:Za3).toArray } }:=I2.lnew (its:=[]) (t':=s2.toks) .nil (e9 _);generalize hH3:s2.heap.push { cls:=.type "list",dict:=none,data:=.seq ([]:Za3).toArray }=h3 at hns hsb I3 ⊢;have hsz:h3.objs.size=s2.heap.objs.size+1:=by rw[<-hH3,ky]
 have kp34:∀b u,h3.get? b=some u->h1.get? b=some u:=λb u e=>hsb.extBut b u (fk (d3 e)) (dq _ e);have I4:Inv X pins G (upd H2 s2.heap.objs.size (.lst [])) { s2 with heap:=h1,toks:=s2.toks+([]:List (Str×d0)).length }:=I3.kept (t':=s2.toks+([]:List (Str×d0)).length) kp34;have kp24:∀b u,s2.heap.get? b=some u->h1.get? b=some u:=λb u e=>kp34 b u (by rw[<-hH3];exact dq _ e);have IY:=yB (C:=h3.objs.size) (s3:={ s2 with heap:=h3 }) L I2 T st2 f2 I3 I4 (by show s2.heap.objs.size<=h3.objs.size;lia) rfl rfl kp34 hns;have fD:H2 s2.heap.objs.size=none:=I2.hok.fresh (db _);have lt2:∀b∈fp,b<s2.heap.objs.size:=λb hb=>by obtain⟨o,e,_⟩:=T.obj _ _ st2 b hb;exact d3 e
 have st4:tn 0 h1:=T.keep _ _ _ st2 λb _ o e=>kp24 b o e;have stat:∀{pn:Za1} {H':Hp},pn=[]->(∀b∈fp,H' b=none)->∀b∈fp,Od (Fs X scope N h3.objs.size { s2 with heap:=h3 } (upd H2 s2.heap.objs.size (.lst [])) fp) pn H' b:=λhp hn b hb=>by
  subst hp;exact⟨hn b hb,(IY.ok.exf b hb).1,IY.ok.exfs b hb,.inl hb,(IY.ok.exf b hb).2,λp hp=>absurd (show p∈([]:Za1) from hp) (by simp)⟩
 obtain⟨W,⟨m0,w0⟩,turn⟩:=rd _ fD;have loop:codeAny (model X.prog X.w) X.A (.compLoop (.ListComp elt [⟨tgt,iter,ifs,0⟩] scope pos) 0 (.ref it) (.ref s2.heap.objs.size) (compEnvC scope (Eh X.env scope.names []) h3.objs.size X.env)) (RR (.ref s2.heap.objs.size) h3.objs.size)
   { s2 with heap:=h1,toks:=s2.toks+([]:List (Str×d0)).length }:=by
  refine kL (λn s'=>∃i H',Inv (Fs X scope N h3.objs.size { s2 with heap:=h3 } (upd H2 s2.heap.objs.size (.lst [])) fp) [] (none::none::frV G ix) H' s'/\tn i s'.heap/\(∀b∈fp,H' b=none)/\W i n H') ?_ m0
   ⟨0,_,IY,st4,λb hb=>by rw[Ai (fk (lt2 b hb))];exact(f2 b hb).1,w0⟩
  rintro n s5 ⟨i,H5,I5,st5,fr5,w5⟩;rcases turn i n H5 w5 with⟨stop,q⟩|⟨go,step⟩
  ·refine thn (T.done (Fs X scope N h3.objs.size { s2 with heap:=h3 } (upd H2 s2.heap.objs.size (.lst [])) fp) rfl rfl rfl hc i [] s5 _ H5 (λ_ _=>False) I5 (stat rfl fr5) st5 stop) λr s6 ⟨hr,I6⟩=>?_
   subst hr;obtain⟨m6,hn6,_⟩:=I6.loc;have u1:Un (frs X.stack) fp H2 (upd H2 s2.heap.objs.size (.lst [])) s2.heap h3:=Un.laid (λb u e=>by rw[<-hH3];exact dq _ e) (db _) fD;have back:Inv X pins G H5 s6:=I2.call' (ch:=fp) (I6.os.trans rfl) (u1.trans I6.base) I6.hok I6.bare λb hb=>⟨(f2 b hb).2.2.2.1,(f2 b hb).2.1,(f2 b hb).2.2.2.2.1,(f2 b hb).2.2.2.2.2⟩;exact fin _ _ H5 s6 m6 back (by lia) I6.free hn6 q
  ·refine thn (T.item (Fs X scope N h3.objs.size { s2 with heap:=h3 } (upd H2 s2.heap.objs.size (.lst [])) fp) rfl rfl rfl hc i [] s5 _ H5 (λ_ _=>False) I5 (stat rfl fr5) st5 go) λr s6 ⟨u,hr,h6⟩=>?_
   subst hr;refine thn h6 λ_ s7 ⟨y,H7,I7,r7,y7,st7,fr7⟩=>?_;have I7':=I7.pinned (stat rfl fr7) (T.obj _ _ st7);have hg:PG (Fs X scope N h3.objs.size { s2 with heap:=h3 } (upd H2 s2.heap.objs.size (.lst [])) fp) tgt (fP X.K 2 (Kb (Es 0) (Kb (Es 1) gY))):=by
    rw[htg];exact O7 hc (Dw (Mu L.nd L.hd (.inl (kq L.loc)) (.inr (kq L.loc))) (Dw (Mu L.nd L.hd2 (.inl (kq L.loc2)) (.inr (kq L.loc2))) Mr))
   obtain⟨ta,y1,y2,ey,hTu,hst⟩:=step y _ y7;refine thn (hg _ s7 _ H7 y u (λmt H'=>mt=some y1::some y2::frV G ix/\H'=H7) I7' r7 ⟨ta,[y1,y2],ey,hTu,rfl,y1,[y2],rfl,y2,[],rfl,rfl,rfl,rfl⟩) λ_ s8 ⟨HP,H8,I8,e8,e8'⟩=>?_;subst e8 e8';refine thn (hif _ _ _ _ s8 _ _ _ I8 hst) λok s9 ⟨H9,I9,q9⟩=>?_;have again:∀{sz:d4} {Hz:Hp} {m':Nat},Inv (Fs X scope N h3.objs.size { s2 with heap:=h3 } (upd H2 s2.heap.objs.size (.lst [])) fp) ([]++P3 fp s7.heap) (some y1::some y2::frV G ix) Hz sz->m'<n->W (i+1) m' Hz ->
     ∃m,m<n/\∃i H',Inv (Fs X scope N h3.objs.size { s2 with heap:=h3 } (upd H2 s2.heap.objs.size (.lst [])) fp) [] (none::none::frV G ix) H' sz/\tn i sz.heap/\(∀b∈fp,H' b=none)/\W i m H':=λ{sz Hz m'} Iz hm wz=>by
    refine⟨m',hm,i+1,Hz,Iz.unpinned.weak (by simp) (λj v e=>?_),T.keep _ _ _ st7 λb hb o e=>(Iz.pin (b,o) (fe _ (fe _ (Go hb e)))).1,λb hb=>?_,wz⟩
    ·cases j with
     |zero=>cases e
     |succ j=>
      cases j with
      |zero=>cases e
      |succ j=>exact e
    ·obtain⟨o,e,d⟩:=T.obj _ _ st7 b hb
     exact(Iz.pin (b,o) (fe _ (fe _ (Go hb e)))).2.1
   cases ok with
   |false=>
    obtain⟨m',hm,wz⟩:=q9;exact again I9 hm wz
   |true=>
    refine thn (he _ _ _ _ s9 _ _ _ I9 q9) λxv s10 ⟨z,H10,I10,r10,ys,hD,hl,m',hm,wz⟩=>?_;refine thn (Bm _ s10 _ H10 (.ref s2.heap.objs.size) [z] (.ref s2.heap.objs.size) [xv] (λ_ Hz=>Hz=upd H10 s2.heap.objs.size (.lst (ys++[z]))) I10 rfl (.cons r10 .nil) ⟨_,ys,z,rfl,rfl,hD,hl,rfl⟩) λ_ s11 ⟨_,H11,I11,_,q11⟩=>?_;subst q11;exact again I11 hm wz
 exact zd loop (T.self X.A 0 _ _ _ st4 loop)
theorem gM (hc:X.calm=true)(L:E5 X.N X.env.scope scope x1 x2 N ix)(hi:PI X (.Tuple [.Name x1 px,.Name x2 px2] kk ppos) iter wi)(hif:∀C s H fp,PIf (Fs X scope N C s H fp) ifs tc)(he:∀C s H fp,PE (Fs X scope N C s H fp) elt te)
  (hs:autoParam (∀z,foldedSetIterable iter X.env z=pure z) QJ):PE X (.ListComp elt [⟨.Tuple [.Name x1 px,.Name x2 px2] kk ppos,iter,ifs,0⟩] scope pos) (yR X.K wi ix tc te):=by
 k_in;have hfree:∀y∈scope.names,y.2=.free->∃c,X.env.cells.lookup y.1=some c:=λy hy hf=>I.ok.has y.1 (.inl (L.free y hy hf));rw[EW];refine mm (use:=none) rfl hs (Hy hfree) L.kind L.names (thn (hi pins s G H _ I h) λv s1 h1=>thn h1 λitv s2 h2=>?_);obtain⟨it,fp,tn,J,H2,e,I2,T,st2,f2,rd⟩:=h2;subst e;refine kX (RR:=λacc C=>compPost (model X.prog X.w) X.A X.xe none _ acc C) rfl hc L I2 T st2 f2 (λC s H=>hif C s H fp) (λC s H=>he C s H fp) rd λD C H' s' m I' hC hf hn q=>?_;refine⟨m,hn,λh' hsb=>⟨.ref D,H',?_,rfl,q⟩⟩;have l2:=I2.lt;refine I'.turned (t':=s'.toks) (it:=C) (λb o hb e=>hsb.extBut b o hb e) hf (iy (dw l2 hC)) (.inr (gl I2.sz hC)) (λy c e=>?_) λp hp=>?_
 ·obtain⟨v,hv⟩:=I2.cell y c e
  exact fk (dw hv.lt hC)
 ·exact fk (dw (d3 (I2.pin p hp).1) hC)
theorem Pa {i:Nat}{y:Str}{py spos:Pos}(hc:X.calm=true)(L:E5 X.N X.env.scope scope x1 x2 N ix)(hN:X.N.Nodup)(hy:X.N[i]?=some y)(hl:X.env.scope.names.lookup y=some .local)
  (hi:PI X (.Tuple [.Name x1 px,.Name x2 px2] kk ppos) iter wi)(hif:∀C s H fp,PIf (Fs X scope N C s H fp) ifs tc)(he:∀C s H fp,PE (Fs X scope N C s H fp) elt te)
  (hsw:autoParam (swapsWith (.ListComp elt [⟨.Tuple [.Name x1 px,.Name x2 px2] kk ppos,iter,ifs,0⟩] scope pos) (some (.Name y py)) spos.line X.env=pure true) QD)
  (hs:autoParam (∀z,foldedSetIterable iter X.env z=pure z) QJ):PS X (.Assign [.Name y py] (.ListComp elt [⟨.Tuple [.Name x1 px,.Name x2 px2] kk ppos,iter,ifs,0⟩] scope pos) spos) (oE (yR X.K wi ix tc te) (Es i)):=by
 k_end;have hfree:∀y∈scope.names,y.2=.free->∃c,X.env.cells.lookup y.1=some c:=λy hy hf=>I.ok.has y.1 (.inl (L.free y hy hf));rw[zk _ _ _ _ hsw];refine wpAny_bind (o8 (wpAny_bind ?_));show wpAny _ X.A (do let _ <-comprehension (.ListComp elt [⟨.Tuple [.Name x1 px,.Name x2 px2] kk ppos,iter,ifs,0⟩] scope pos) scope X.env _ (newList []) false (eval iter X.env) (some (assign (.Name y py) X.env))) _ _ s;refine wpAny_bind (thn (Q:=λ_ s'=>SP X pins D .next s') (mm (use:=some (assign (.Name y py) X.env)) rfl hs (Hy hfree) L.kind L.names (thn (hi pins s G H _ I h) λv s1 h1=>thn h1 λitv s2 h2=>?_)) λ_ s' hq=>em (em hq));obtain⟨it,fp,tn,J,H2,e,I2,T,st2,f2,rd⟩:=h2;subst e;refine kX (RR:=λacc C=>compPost (model X.prog X.w) X.A X.xe (some (assign (.Name y py) X.env)) _ acc C) rfl hc L I2 T st2 f2 (λC s H=>hif C s H fp) (λC s H=>he C s H fp) rd λDa C H' s' m I' hC hf hn q=>?_;have l2:=I2.lt;have nC:C≠X.env.locals:=iy (dw l2 hC);have nF:C∉X.fs:=I2.nofs hC;obtain⟨oC,es,ep,hget,hdat,hrest⟩:=id hn;have Ip:Inv X (pins++[(C,oC)]) G H' s':=I'.pins_of λp hp=>(ju.mp hp).elim (λz=>I'.pin p (fe _ z)) λz=>by
  have e:p=(C,oC):=by simpa using z
  subst e;exact⟨hget,hf,nC,nF,λv z=>by rw[hdat] at z;cases z⟩
 have hg:PG X (.Name y py) (Es i):=Mu hN hy (.inl hl) (.inr hl);show wpAny _ X.A (assign (.Name y py) X.env (.ref Da)) _ _ s';refine thn (hg _ s' G H' (.ref Da) (.ref Da) D.nx Ip rfl q) λ_ s'' ⟨HW,H'',I'',q''⟩=>?_;obtain⟨g1,g2,_⟩:=I''.pin (C,oC) (fe _ (fe _ (by simp)));refine⟨m,⟨oC,es,ep,g1,hdat,hrest⟩,λh' hsb=>⟨HW,H'',?_,q''⟩⟩;refine I''.unpinned.turned (t':=s''.toks) (it:=C) (λb o hb e=>hsb.extBut b o hb e) g2 nC (.inr (gl I2.sz hC)) (λy c e=>?_) λp hp=>?_
 ·obtain⟨v,hv⟩:=I2.cell y c e
  exact fk (dw hv.lt hC)
 ·exact fk (dw (d3 (I2.pin p hp).1) hC)
end
theorem yL {K:da}{tA:TA}{G:St}{R:It->Hp->Prop}(h:tA G H λvs H1=>∃a b,vs=[.ref a,.ref b]/\(∃xs,SqL K H1 a xs)/\(∃ys,SqL K H1 b ys)/\R (Itz K a b) H1):Abd K tA G H R:=h
theorem uL {K:da}{tA:TA}{G:St}{R:It->Hp->Prop}(h:tA G H λvs H1=>∃a,vs=[.ref a]/\(∃xs,SqL K H1 a xs)/\R (Ite K a) H1):xB K tA G H R:=h
theorem Abt {K:da}{G:St}{Q:VK}{tc:TT}(h:wi G H λJ H1=>Lg K J H1 (frV G ix) tc te Q):yR K wi ix tc te G H Q:=h
theorem R7 {K:da}{G:St}{R:St->Hp->Prop}{a:df}{x:V}{i j:Nat}(hs:SqT K H a [x,y])(h:R ((G.set i (some x)).set j (some y)) H):fP K 2 (Kb (Es i) (Kb (Es j) gY)) (.ref a) G H R:=
 ⟨a,[x,y],rfl,hs,rfl,x,[y],rfl,y,[],rfl,rfl,h⟩
theorem Te {K:da}{fr:St}{tc:TT}{Q:VK}(n:Nat)(f1 f2:Nat->V)(acc:Nat->List V)(h0:acc 0=[])(hz:∀i,i<n->(acc i).length<sizeLine)
  (hgo:∀i H,i<n->Aj H1 H->J.go i H)(hy:∀i H v H',i<n->Aj H1 H->J.yld i H v H'->∃a,v=.ref a/\SqT K H' a [f1 i,f2 i]/\Aj H H')(hst:∀H,Aj H1 H->J.stop n H)
  (turn:∀i H (R:Hp->Prop) (A:VK),i<n->Aj H1 H->(acc (i+1)=acc i->∀H',Aj H H'->R H')->(∀y H',acc (i+1)=acc i++[y]->Aj H H'->A y H') ->
   tc (some (f1 i)::some (f2 i)::fr) H λb H3=>if b=true then te (some (f1 i)::some (f2 i)::fr) H3 A else R H3)
  (fin:∀D H,H1 D=none->Aj H1 H->H D=some (.lst (acc n))->Q (.ref D) H):Lg K J H1 fr tc te Q:=by
 intro D hD;refine⟨λi m H=>i<=n/\m=n-i/\Aj H1 H/\H D=some (.lst (acc i)),⟨n,e9 _,rfl,An hD,by rw[Ac,h0]⟩,?_⟩;rintro i m H ⟨hi,rfl,sm,hl⟩
 by_cases h:i=n
 ·subst h
  exact .inl ⟨hst H sm,fin D H hD sm hl⟩
 ·have hlt:i<n:=im hi h
  refine .inr ⟨hgo i H hlt sm,λv H' hyl=>?_⟩;obtain⟨a,rfl,ht,s2⟩:=hy i H v H' hlt sm hyl;refine⟨a,_,_,rfl,ht,turn i H' _ _ hlt (sm.trans s2) (λea H3 s3=>?_) (λy H4 ea s4=>?_)⟩
  ·exact⟨n-(i+1),by lia,by lia,rfl,(sm.trans s2).trans s3,by rw[ea];exact s3 _ _ (s2 _ _ hl)⟩
  ·refine⟨acc i,s4 _ _ (s2 _ _ hl),hz i hlt,n-(i+1),by lia,by lia,rfl,λb u e=>?_,by rw[Ac,ea]⟩
   rw[Ai (Af e hD)];exact s4 _ _ (s2 _ _ (sm _ _ e))
theorem zC {K:da}{a b:df}{fr:St}{tc:TT}{Q:VK}(ha:SqL K H1 a xs)(hb:SqL K H1 b ys)(acc:Nat->List V)(h0:acc 0=[])(hz:∀i,i<min xs.length ys.length->(acc i).length<sizeLine)
  (turn:∀(i:Nat) x y H (R:Hp->Prop) (A:VK),xs[i]?=some x->ys[i]?=some y->Aj H1 H->(acc (i+1)=acc i->∀H',Aj H H'->R H')->(∀y H',acc (i+1)=acc i++[y]->Aj H H'->A y H') ->
   tc (some x::some y::fr) H λb H3=>if b=true then te (some x::some y::fr) H3 A else R H3)
  (fin:∀D H,H1 D=none->Aj H1 H->H D=some (.lst (acc (min xs.length ys.length)))->Q (.ref D) H):Lg K (Itz K a b) H1 fr tc te Q:=by
 refine Te (min xs.length ys.length) (λi=>xs.getD i .non) (λi=>ys.getD i .non) acc h0 hz (λi H hi sm=>⟨xs,ys,xs[i]'(by lia),ys[i]'(by lia),sm.seq ha,sm.seq hb,by simp,by simp⟩) (λi H v H' hi sm h=>?_)
  (λH sm=>⟨xs,ys,sm.seq ha,sm.seq hb,rfl⟩) (λi H R A hi sm=>turn i _ _ H R A (by simp[show i<xs.length by lia]) (by simp[show i<ys.length by lia]) sm) fin
 obtain⟨t,x,y,hn,rfl,h1,h2,rfl⟩:=h;have e1:=h1 xs (sm.seq ha);have e2:=h2 ys (sm.seq hb);refine⟨t,rfl,?_,An hn⟩;simp only[eh,e1,e2,na];exact SqT.of Ac
theorem sY {K:da}{a:df}{i1 i2:Nat}{tb:TS}{D:Jg}{G:St}(Pv:Nat->St->Hp->Prop)(h0:Pv 0 G H)(hl:∀i G H,i<=xs.length->Pv i G H->SqL K H a xs)
  (step:∀i x G H t,xs[i]?=some x->Pv i G H->H t=none->tb { D with nx:=Pv (i+1),ct:=Pv (i+1),bk:=D.nx } ((G.set i1 (some (.int i))).set i2 (some x)) (upd H t (.tup [.int i,x])))
  (fin:∀G H,Pv xs.length G H->D.nx G H):iC (Ite K a) (fP K 2 (Kb (Es i1) (Kb (Es i2) gY))) tb D G H:=by
 refine⟨λi m G H=>i<=xs.length/\m=xs.length-i/\Pv i G H,⟨_,e9 _,rfl,h0⟩,?_⟩;rintro i m G H ⟨hi,rfl,hp⟩
 by_cases h:i=xs.length
 ·exact .inl ⟨⟨xs,hl i G H hi hp,h⟩,fin G H (h▸hp)⟩
 ·have hlt:i<xs.length:=im hi h
  refine .inr ⟨⟨xs,xs[i],hl i G H hi hp,by simp⟩,Pv (i+1),λmt H' q=>⟨xs.length-(i+1),by lia,hlt,rfl,q⟩,λv H' hy=>?_⟩;obtain⟨t,x,hn,rfl,hx,rfl⟩:=hy;exact R7 (SqT.of Ac) (step i x G H t (hx xs (hl i G H hi hp)) hp hn)
def vM (z:Str):It:=
 ⟨λi _=>i<z.cps.size,λi H v H'=>∃t c,H t=none/\v=.ref t/\z.cps[i]?=some c/\H'=upd H t (.tup [.int i,.str (sgn c)]),λi _=>i=z.cps.size⟩
theorem iJ {P:fc}{K:da}{k:Nat}{e:df}{z:Str}{ty:String}{t:Tok}(hne:e≠it)
  (D:∀A':gt,A'.handled=none->BQ P w A' it [it] z.cps.size (λi v=>∃c u,z.cps[i]?=some c/\v=.str ⟨#[c]⟩ u) (λi h=>h.IsStrIter it ty z t i)) :
  No P w K (.Tuple elts k pos) (vM z) [e,it] e (λi h=>(∃old,zh h e it i old)/\h.IsStrIter it ty z t i) where
 mem:=by simp
 obj:=λi h st c hc=>by
  obtain⟨⟨old,he⟩,⟨o1,e1,c1,d1⟩⟩:=st;simp only[fu,je,or_false] at hc;rcases hc with rfl|rfl
  ·exact⟨_,he,λv z=>by cases z⟩
  ·exact⟨_,e1,λv z=>by rw[d1] at z;cases z⟩
 keep:=λi h h' st kk=>by
  obtain⟨⟨old,he⟩,⟨o,ho,r⟩⟩:=st;exact⟨⟨old,kk _ (by simp) _ he⟩,⟨o,kk _ (by simp) o ho,r⟩⟩
 item:=by
  intro X hP hw hK hc i pins s G H E I hf st hg;subst hP hw hK;have W:=lm (D X.A.in1 (I.ok.hd hc)) e hne (by simpa using hne) (by simp);refine W.item i s _ _ hg st λT vals h' tk hv hT hTu mid kk=>?_;obtain⟨t1,x,⟨c,u,hc',rfl⟩,rfl⟩:=hv;have nT:=W.apart i T h' mid;refine⟨.ref T,rfl,W.go elts k pos i T { s with heap:=h',toks:=tk } _ _ mid λh'' st'' kk2=>?_⟩;have hTu2:h''.IsTuple T ([l7 (i:Int) t1,qu ⟨#[c]⟩ u]:Za3).toArray:=by
   obtain⟨o,e,r⟩:=hTu;exact⟨o,kk2 T o nT e,r⟩
  have I2:Inv X pins G (upd H T (.tup [.int i,.str (sgn c)])) { s with heap:=h'',toks:=tk }:=I.turnT (t':=tk) (λb o hb e=>kk2 b o hb (kk b o hb e)) (λb hb=>hf b hb) hT hTu2 (.cons ⟨t1,rfl⟩ (.cons ⟨u,rfl⟩ .nil)) (show 2<=sizeLine by decide);refine⟨.ref T,_,I2,rfl,⟨T,c,I.hok.fresh hT,rfl,hc',rfl⟩,st'',λb hb=>?_⟩;have hlt:b<s.heap.objs.size:=by
   obtain⟨⟨old,s1⟩,⟨o5,s5,_⟩⟩:=id st;simp only[fu,je,or_false] at hb;rcases hb with rfl|rfl
   ·exact d3 s1
   ·exact d3 s5
  rw[Ai (fk (dw hlt hT))];exact(hf b hb).1
 done:=by
  intro X hP hw hK hc i pins s G H E I hf st hg;subst hP hw hK;have W:=lm (D X.A.in1 (I.ok.hd hc)) e hne (by simpa using hne) (by simp);have hi:i=z.cps.size:=hg;refine W.done s _ _ (by rw[<-hi];exact st) λh' tk kk=>⟨rfl,?_⟩;exact I.turnW (t':=tk) kk λb hb=>hf b hb
 self:=λ_ _ _ _ _ st h=>jv (ml st.1) h
section
variable {X:Cx} {elts:List gd} {k:Nat} {tpos:Pos}
def qR (ta:TA):TI:=λG H R=>ta G H λvs H1=>∃z,vs=[.str z]/\R (vM z) H1
theorem qW {a:gd}{ta:TA}{p:Pos}(hg:Gl X "enumerate")(hm:X.mg "enumerate"=none)(ha:PA X [a] ta)(hs:autoParam (starEach [a] X.env=[(false,eval a X.env)]) QD) :
  PI X (.Tuple elts k tpos) (.Call (.Name "enumerate" p) [a] [] pos) (qR ta):=by
 intro pins s G H R I h;refine Call_ (Fg I hg hm Io (gr (thA ha I h λus s1 vs H1 I1 r1 q1=>?_) hs rfl));obtain⟨z,e,q⟩:=q1;subst e;obtain⟨u,rfl,⟨t,rfl⟩⟩:=Fj r1;refine call_enumerate_str λh' g1 g2 hsz kk=>?_;refine jv (s:={ s1 with heap:=h' }) g1 ?_;have fin:∀ty:String,h'.IsStrIter s1.heap.objs.size ty z t 0->(∀A':gt,A'.handled=none->BQ X.prog X.w A' s1.heap.objs.size [s1.heap.objs.size] z.cps.size (λi v=>∃c u,z.cps[i]?=some c/\v=.str ⟨#[c]⟩ u) (λi h=>h.IsStrIter s1.heap.objs.size ty z t i)) ->
   PIE X pins G (.Tuple elts k tpos) R (.ref (s1.heap.objs.size+1)) { s1 with heap:=h' }:=λty g2 D=>by
  refine⟨s1.heap.objs.size+1,[s1.heap.objs.size+1,s1.heap.objs.size],_,_,H1,rfl,I1.kept (t':=s1.toks) kk,iJ (lR _) D,⟨⟨_,g1⟩,g2⟩,λc hc=>?_,q⟩;have hle:s1.heap.objs.size<=c:=by
   simp only[fu,je,or_false] at hc;exact kP hc
  exact I1.fpOk hle (I1.hok.fresh hle)
 by_cases ha:z.cps.all (· < 128)=true
 ·have e:strIterType z="str_ascii_iterator":=by unfold strIterType;rw[if_pos ha]
  exact fin _ (e▸g2) λA' hA=>AJ hA _ z t
 ·have e:strIterType z="str_iterator":=by unfold strIterType;rw[if_neg ha]
  exact fin _ (e▸g2) λA' hA=>AV hA _ z t
end
theorem rW {tA:TA}{G:St}{R:It->Hp->Prop}(h:tA G H λvs H1=>∃z,vs=[.str z]/\R (vM z) H1):qR tA G H R:=h
theorem nE {K:da}{z:Str}{i1 i2:Nat}{tb:TS}{D:Jg}{G:St}(Pv:Nat->St->Hp->Prop)(h0:Pv 0 G H)
  (step:∀i c G H t,z.cps[i]?=some c->Pv i G H->H t=none->tb { D with nx:=Pv (i+1),ct:=Pv (i+1),bk:=D.nx } ((G.set i1 (some (.int i))).set i2 (some (.str (sgn c)))) (upd H t (.tup [.int i,.str (sgn c)])))
  (fin:∀G H,Pv z.cps.size G H->D.nx G H):iC (vM z) (fP K 2 (Kb (Es i1) (Kb (Es i2) gY))) tb D G H:=by
 refine⟨λi m G H=>i<=z.cps.size/\m=z.cps.size-i/\Pv i G H,⟨_,e9 _,rfl,h0⟩,?_⟩;rintro i m G H ⟨hi,rfl,hp⟩
 by_cases h:i=z.cps.size
 ·exact .inl ⟨h,fin G H (h▸hp)⟩
 ·have hlt:i<z.cps.size:=im hi h
  refine .inr ⟨hlt,Pv (i+1),λmt H' q=>⟨z.cps.size-(i+1),by lia,hlt,rfl,q⟩,λv H' hy=>?_⟩;obtain⟨t,c,hn,rfl,hx,rfl⟩:=hy;exact R7 (SqT.of Ac) (step i c G H t hx hp hn)
structure Mth (P:fc) (w:ge) (K:da) (mg:Za2) (base:gv) (C:df) (m:Str) (k:Nat) (ps:Za6) (sp:Sp):Prop where
 ex:∃(f:df) (fd:io),Ba P w K mg base CX0 k f fd ps sp/\Ge K fd ps []/\nG K C m f
 cl:Cls K C
structure Mkr (P:fc) (w:ge) (K:da) (mg:Za2) (base:gv) (name:Str) (C:df) (k:Nat) (ps:Za6) (sp:Sp):Prop where
 ex:∃(f:df) (fd:io),Ba P w K mg base CX0 k f fd ps sp/\Ge K fd ps []/\Mk K C f/\mg name=some (.ref C)
section
variable {X:Cx} {k:Nat} {C:df} {ps:Za6} {sp:Sp} {name m:Str} {p pos apos:Pos} {e o:gd} {es:List gd} {ta:TE} {t:TA} {pl:Sem Bool}
theorem dU (M:Mkr X.prog X.w X.K X.mg X.base name C k ps sp)(hr:Ck (k+1) X.A)(ha:PA X (e::es) t)(hg:autoParam (Gl X name) QD)(hdb:autoParam ((name==("__debug__":Str))=false) QF)
  (he:autoParam (starEach (e::es) X.env=(false,eval e X.env)::starEach es X.env) QD)(hpl:autoParam ((backTo pos (starEach es X.env)).any (·.1)=false) QD):PE X (.Call (.Name name p) (e::es) [] pos) (rX C sp [] E0 t):=by
 obtain⟨f,fd,F,b,M,hm⟩:=M.ex;exact vK M F hr hg hm b .nil eD ha hdb he hpl
theorem At (M:Mth X.prog X.w X.K X.mg X.base C m k ps sp)(hr:Ck k X.A)(ho:PE X o ta)(ha:PA X (e::es) t)
  (hst:autoParam (starEach (e::es) X.env=(false,eval e X.env)::starEach es X.env) QD)(hpl:autoParam ((backTo pos (starEach es X.env)).any (·.1)=false) QD)
  (ht:autoParam (eval (.Call (.Attribute o m apos) (e::es) [] pos) X.env=(do
   let ov <-eval o X.env
   standAt apos.atName
   let (f,first) <-holding [ov] (getMethod ov m pl)
   callWith pos f first (backTo pos (starEach (e::es) X.env)) (backToKw pos (keywordEach [] X.env)))) QD) :
  PE X (.Call (.Attribute o m apos) (e::es) [] pos) (P8 C m sp [] E0 ta t):=by
 obtain⟨f,fd,F,b,hm⟩:=M.ex;exact jC ho M.cl hm F hr b .nil eD ha hst hpl ht
theorem G6 (M:Mth X.prog X.w X.K X.mg X.base C m k ps sp)(hr:Ck k X.A)(ho:PE X o ta)
  (ht:autoParam (eval (.Call (.Attribute o m apos) [] [] pos) X.env=(do
   let ov <-eval o X.env
   standAt apos.atName
   let (f,first) <-holding [ov] (getMethod ov m pl)
   callWith pos f first (backTo pos (starEach [] X.env)) (backToKw pos (keywordEach [] X.env)))) QD) :
  PE X (.Call (.Attribute o m apos) [] [] pos) (P8 C m sp [] E0 ta T7):=by
 obtain⟨f,fd,F,b,hm⟩:=M.ex;exact Z6 ho M.cl hm F hr b .nil eD ht
end
section
variable {G:St} {H:Hp} {D:Jg} {Q:VK} {te ta tv:TE} {tA:TA} {K:da}
theorem Abk {f:Str}(h:te G H λx H1=>∃a C dx fs v,x=.ref a/\H1 a=some (.ins C dx fs)/\Cls K C/\Cn K C f/\fs.lookup f=some v/\Q v H1):vV K te f G H Q:=h
theorem yZ {f:Str}(h:tv G H λy H1=>ta G H1 λx H2=>∃a C dx fs,x=.ref a/\H2 a=some (.ins C dx fs)/\Cls K C/\Cn K C f/\fs.length<1000/\D.nx G (upd H2 a (.ins C dx (De f y fs)))):xK K ta tv f D G H:=h
theorem Eb {a:df}{fs:List (Str×V)}{f:Str}{R:Hp->Prop}(h:H a=some (.ins C dx fs))(c:Cls K C)(n:Cn K C f)(l:fs.length<1000)(q:R (upd H a (.ins C dx (De f y fs)))) :
  ∃a' C' dx' fs',V.ref a=.ref a'/\H a'=some (.ins C' dx' fs')/\Cls K C'/\Cn K C' f/\fs'.length<1000/\R (upd H a' (.ins C' dx' (De f y fs'))):=⟨a,C,dx,fs,rfl,h,c,n,l,q⟩
theorem zS {E:XK}(h:tA G H λvs H1=>∀x dx,H1 x=none->H1 dx=none->dx≠x->sp (.ref x::(vs++[])) (upd (upd H1 dx (.own x)) x (.ins C dx [])) (λv H2=>v=.non/\Q (.ref x) H2) E):rX C sp [] E tA G H Q:=h
theorem zA {m:Str}{E:XK}(h:ta G H λx H1=>∃a dx fs,x=.ref a/\H1 a=some (.ins C dx fs)/\fs.lookup m=none/\tA G H1 λvs H2=>sp (x::(vs++[])) H2 Q E):P8 C m sp [] E ta tA G H Q:=h
end
section
variable {X:Cx}
def fM (z:Str)(c:Nat):Nat:=z.cps.toList.count c
theorem Vt (c:Nat):∀l:Za4,DX c l=(l.count c:Nat)
 |[]=>rfl
 |n::r=>by
  rw[DW,Vt c r,kb]
  by_cases h:n=c
  ·subst h;simp;lia
  ·simp[h]
def zK:V->List V->Hp->VK->Prop:=λx vs H Q=>∃z c,x=.str z/\vs=[.str (sgn c)]/\Q (.int (fM z c:Nat)) H
theorem Y7:MtM X "str.count" zK:=by
 intro pins s G H x vs v us Q I rx rv h;obtain⟨z,c,rfl,rfl,q⟩:=h;obtain⟨t,rfl⟩:=rx;obtain⟨u,rfl,ru⟩:=rv.one;obtain⟨t',rfl⟩:=ru;have e:Txt.count z (sgn c)=(fM z c:Nat):=(DV z c).trans (Vt c _);refine SC.count ?_;rw[e];exact⟨.int (fM z c:Nat),H,I.tok _,⟨_,rfl⟩,q⟩
def Ac0 (K:da):List V->Hp->VK->Prop:=λxs H Q=>∃(p:df) (ns:List Int),xs=[.ref p]/\SqL K H p (ns.map V.int)/\Q (.int ns.sum) H
theorem pC (hc:X.calm=true):Hh X (.builtin "sum") (Ac0 X.K):=by
 intro pins s G H xs us Q I r h;obtain⟨p,ns,rfl,hp,q⟩:=h;obtain⟨u,rfl,ru⟩:=Fj r;cases ru;obtain⟨its,r,pl,_⟩:=I.list hp;have hi:=T3 r;obtain⟨ys,e⟩:=hi.allInts.items;have hl:=pl.isList;have hs:(numsOf its).sum=ns.sum:=by rw[hi.numsOf]
 rw[e] at hl;refine sum_intListG (I.ok.hd hc) hl λh' tk t' hk=>?_;refine⟨.int ns.sum,H,I.kept hk,⟨t',?_⟩,q⟩;rw[preSum_eq,d5 (by simp),<-hs];have e2:=EU ys;rw[<-e] at e2;rw[show its=its.toArray.toList from rfl,e2]
end
namespace IB
open PySem.NumText PySem.Calls
end IB
inductive Cq (K:da) (H:Hp):Nat->V->V->Prop where
 |flat {n:Nat} {x:V} (h:Ec x=true):Cq K H n x x
 |tup {n:Nat} {a b:df} {xs ys:List V} (h1:SqT K H a xs) (h2:SqT K H b ys) (hl:xs.length=ys.length) (h:∀(j:Nat) (x y:V),xs[j]?=some x->ys[j]?=some y->Cq K H n x y):Cq K H (n+1) (.ref a) (.ref b)
 |lst {n:Nat} {a b:df} {xs ys:List V} (h1:SqL K H a xs) (h2:SqL K H b ys) (hl:xs.length=ys.length) (h:∀(j:Nat) (x y:V),xs[j]?=some x->ys[j]?=some y->Cq K H n x y):Cq K H (n+1) (.ref a) (.ref b)
theorem sJ {x:V}(h:Ec x=true):eqV x x=true:=by
 cases x<;>first|rfl|(simp[eqV];done)|cases h
theorem Cq.flats {K:da}{n:Nat}(h:xs.all Ec=true):∀(j:Nat) (x y:V),xs[j]?=some x->xs[j]?=some y->Cq K H n x y:=λj x y h1 h2=>by
 rw[h1] at h2;cases h2;exact .flat (kx.mp h x (gw h1))
theorem Cq.tups {K:da}{n:Nat}{a b:df}(h1:SqT K H a xs)(h2:SqT K H b xs)(h:xs.all Ec=true):Cq K H (n+1) (.ref a) (.ref b):=.tup h1 h2 rfl (Cq.flats h)
theorem Cq.lsts {K:da}{n:Nat}{a b:df}(h1:SqL K H a xs)(h2:SqL K H b xs)(h:xs.all Ec=true):Cq K H (n+1) (.ref a) (.ref b):=.lst h1 h2 rfl (Cq.flats h)
theorem Cr (ns:List Int):(ns.map V.int).all Ec=true:=by simp[kx,Ec]
section
variable {X:Cx} {pins:Za1} {G:St} {H:Hp} {s:d4}
theorem J4 {n:Nat}{e:Nat->Bool}(h:∀j,e j=true):(ed n).all e=true:=by simp[h]
mutual
theorem Cq.eqAt (I:Inv X pins G H s):∀{n:Nat} {x y:V} {A:gt} {u v:d0},A.units+n<cLine->Cq X.K H n x y->By x u->By y v->rg A s u v true
 |_,_,_,A,u,v,hu,.flat h,ru,rv=>by
  have:=fT (A:=A) (s:=s) ru rv h h;rw[sJ h] at this;exact this
 |n+1,.ref a,.ref b,A,u,v,hu,.tup (xs:=xs) (ys:=ys) h1 h2 hl h,ru,rv=>by
  cases ru;cases rv
  by_cases hab:a=b
  ·subst hab;exact rp _
  ·obtain⟨is,r1,p1,_⟩:=I.tuple h1
   obtain⟨js,r2,p2,_⟩:=I.tuple h2;have l1:=r1.length;have l2:=r2.length;have:=wm (A:=A) (e:=λ_=>true) p1 p2 (by omega (splitDisjunctions:=true)) λj a1 a2=>Cq.items I (by show A.units+1+n<cLine;omega (splitDisjunctions:=true)) h r1 r2 j (by simpa using a1) (by simpa using a2);refine wa hab ?_;rw[J4 λ_=>rfl] at this
   simpa [<-l1,<-l2,hl] using this
 |n+1,.ref a,.ref b,A,u,v,hu,.lst (xs:=xs) (ys:=ys) h1 h2 hl h,ru,rv=>by
  cases ru;cases rv
  by_cases hab:a=b
  ·subst hab;exact rp _
  ·obtain⟨is,r1,p1,_⟩:=I.list h1
   obtain⟨js,r2,p2,_⟩:=I.list h2;have l1:=r1.length;have l2:=r2.length;have:=rc (A:=A) (e:=λ_=>true) p1.isList p2.isList (by simp;omega (splitDisjunctions:=true)) (by omega (splitDisjunctions:=true)) λj a1 a2=>Cq.items I (by show A.units+1+n<cLine;omega (splitDisjunctions:=true)) h r1 r2 j (by simpa using a1) (by simpa using a2);refine wa hab ?_;rw[J4 λ_=>rfl] at this;exact this
theorem Cq.items (I:Inv X pins G H s){n:Nat}{A:gt}{xs ys:List V}{us vs:Za3}(hu:A.units+n<cLine)(h:∀(j:Nat) (x y:V),xs[j]?=some x->ys[j]?=some y->Cq X.K H n x y)(r1:Bj xs us)(r2:Bj ys vs)(j:Nat)(h1:j<us.length)(h2:j<vs.length) :
  rg A s us[j] vs[j] true:=by
 have l1:=r1.length;have l2:=r2.length;obtain⟨x,ex⟩:∃x,xs[j]?=some x:=⟨_,c7 (by omega (splitDisjunctions:=true))⟩;obtain⟨y,ey⟩:∃y,ys[j]?=some y:=⟨_,c7 (by omega (splitDisjunctions:=true))⟩;obtain⟨u,eu,ru⟩:=r1.get ex;obtain⟨v,ev,rv⟩:=r2.get ey;rw[c7 h1] at eu;rw[c7 h2] at ev;cases eu;cases ev;exact Cq.eqAt I hu (h j x y ex ey) ru rv
end
end
def rC (K:da)(r:Bool):R2:=λx y H Q=>∃a b,x=.ref a/\y=.ref b/\Cq K H 60 x y/\Q (.bl r) H
section
variable {X:Cx}
theorem qM (hu:X.A.units+60<cLine):OpR X (compareOp .Eq) (rC X.K true):=by
 intro pins s G H x y v u Q I rx ry h;obtain⟨a,b,rfl,rfl,hs,q⟩:=h;cases rx;cases ry
 cases hs with
 |flat h=>cases h
 | @tup n _ _ xs ys h1 h2 hl h=>
  obtain⟨is,r1,p1,_⟩:=I.tuple h1;obtain⟨js,r2,p2,_⟩:=I.tuple h2;have l1:=r1.length;have l2:=r2.length;have:=wm (A:=X.A) (e:=λ_=>true) p1 p2 (by lia) λj a1 a2=>Cq.items I (by show X.A.units+1+59<cLine;lia) h r1 r2 j (by simpa using a1) (by simpa using a2);rw[J4 λ_=>rfl] at this;refine this _ _ _ _ ⟨.bl true,H,I,?_,q⟩;simp[By,<-l1,<-l2,hl]
 | @lst n _ _ xs ys h1 h2 hl h=>
  obtain⟨is,r1,p1,_⟩:=I.list h1;obtain⟨js,r2,p2,_⟩:=I.list h2;have l1:=r1.length;have l2:=r2.length;have:=rc (A:=X.A) (e:=λ_=>true) p1.isList p2.isList (by simp;lia) (by lia) λj a1 a2=>Cq.items I (by show X.A.units+1+59<cLine;lia) h r1 r2 j (by simpa using a1) (by simpa using a2);rw[J4 λ_=>rfl] at this;exact this _ _ _ _ ⟨.bl true,H,I,rfl,q⟩
theorem sB (hu:X.A.units+60<cLine):OpR X (compareOp .NotEq) (rC X.K false):=by
 intro pins s G H x y v u Q I rx ry h;obtain⟨a,b,rfl,rfl,hs,q⟩:=h;cases rx;cases ry
 cases hs with
 |flat h=>cases h
 | @tup n _ _ xs ys h1 h2 hl h=>
  obtain⟨is,r1,p1,_⟩:=I.tuple h1;obtain⟨js,r2,p2,_⟩:=I.tuple h2;have l1:=r1.length;have l2:=r2.length;have:=DA (A:=X.A) (e:=λ_=>true) p1 p2 (by lia) λj a1 a2=>Cq.items I (by show X.A.units+1+59<cLine;lia) h r1 r2 j (by simpa using a1) (by simpa using a2);rw[J4 λ_=>rfl] at this;refine this _ _ _ _ ⟨.bl false,H,I,?_,q⟩;simp[By,<-l1,<-l2,hl]
 | @lst n _ _ xs ys h1 h2 hl h=>
  obtain⟨is,r1,p1,_⟩:=I.list h1;obtain⟨js,r2,p2,_⟩:=I.list h2;have l1:=r1.length;have l2:=r2.length;have:=uz (A:=X.A) (e:=λ_=>true) p1.isList p2.isList (by simp;lia) (by lia) λj a1 a2=>Cq.items I (by show X.A.units+1+59<cLine;lia) h r1 r2 j (by simpa using a1) (by simpa using a2);rw[J4 λ_=>rfl] at this;exact this _ _ _ _ ⟨.bl false,H,I,rfl,q⟩
end
theorem oR {K:da}{Q:VK}{a b:df}{r:Bool}(h:Cq K H 60 (.ref a) (.ref b))(q:Q (.bl r) H):rC K r (.ref a) (.ref b) H Q:=⟨a,b,rfl,rfl,h,q⟩
theorem eX {k:Nat}(hr:Ck k A):A.units+60<cLine:=by have:=hr.units;lia
def eqL (xs ys:List V):Bool:=decide (xs.length=ys.length)&&(ed xs.length).all λj=>eqV (xs.getD j .non) (ys.getD j .non)
def zZ (K:da)(n:Bool):R2:=λx y H Q=>∃a b xs ys,x=.ref a/\y=.ref b/\SqL K H a xs/\SqL K H b ys/\xs.all Ec=true/\ys.all Ec=true/\Q (.bl (n != eqL xs ys)) H
section
variable {X:Cx} {pins:Za1} {G:St} {H:Hp} {s:d4}
theorem Vu (f1:xs.all Ec=true)(f2:ys.all Ec=true)(r1:Bj xs us)(r2:Bj ys vs)(j:Nat)(h1:j<us.length)(h2:j<vs.length) :
  rg A s us[j] vs[j] (eqV (xs.getD j .non) (ys.getD j .non)):=by
 have l1:=r1.length;have l2:=r2.length;have e1:xs[j]?=some (xs[j]'(by lia)):=c7 _;have e2:ys[j]?=some (ys[j]'(by lia)):=c7 _;obtain⟨u,eu,ru⟩:=r1.get e1;obtain⟨v,ev,rv⟩:=r2.get e2;rw[c7 h1] at eu;rw[c7 h2] at ev;cases eu;cases ev;simp only[eh,e1,e2,na];exact fT ru rv (kx.mp f1 _ (gw e1)) (kx.mp f2 _ (gw e2))
end
section
variable {X:Cx}
theorem xZ (hu:X.A.units+60<cLine):OpR X (compareOp .Eq) (zZ X.K false):=by
 intro pins s G H x y v u Q I rx ry h;obtain⟨a,b,xs,ys,rfl,rfl,h1,h2,f1,f2,q⟩:=h;cases rx;cases ry;obtain⟨is,r1,p1,_⟩:=I.list h1;obtain⟨js,r2,p2,_⟩:=I.list h2;have l1:=r1.length;have l2:=r2.length
 by_cases hl:xs.length=ys.length
 ·have:=rc (A:=X.A) (e:=λj=>eqV (xs.getD j .non) (ys.getD j .non)) p1.isList p2.isList (by simp;lia) (by lia) λj a1 a2=>Vu (s:=s) f1 f2 r1 r2 j (by simpa using a1) (by simpa using a2)
  refine this _ _ _ _ ⟨.bl (false != eqL xs ys),H,I,?_,q⟩;unfold eqL;rw[decide_eq_true hl];simp[By,<-l1]
 ·have:=EY (A:=X.A) p1.isList p2.isList (by simp;lia) (by lia)
  refine this _ _ _ _ ⟨.bl (false != eqL xs ys),H,I,?_,q⟩;unfold eqL;rw[decide_eq_false hl];simp[By]
theorem sH (hu:X.A.units+60<cLine):OpR X (compareOp .NotEq) (zZ X.K true):=by
 intro pins s G H x y v u Q I rx ry h;obtain⟨a,b,xs,ys,rfl,rfl,h1,h2,f1,f2,q⟩:=h;cases rx;cases ry;obtain⟨is,r1,p1,_⟩:=I.list h1;obtain⟨js,r2,p2,_⟩:=I.list h2;have l1:=r1.length;have l2:=r2.length
 by_cases hl:xs.length=ys.length
 ·have:=uz (A:=X.A) (e:=λj=>eqV (xs.getD j .non) (ys.getD j .non)) p1.isList p2.isList (by simp;lia) (by lia) λj a1 a2=>Vu (s:=s) f1 f2 r1 r2 j (by simpa using a1) (by simpa using a2)
  refine this _ _ _ _ ⟨.bl (true != eqL xs ys),H,I,?_,q⟩;unfold eqL;rw[decide_eq_true hl];simp[By,<-l1]
 ·have:=DB (A:=X.A) p1.isList p2.isList (by simp;lia) (by lia)
  refine this _ _ _ _ ⟨.bl (true != eqL xs ys),H,I,?_,q⟩;unfold eqL;rw[decide_eq_false hl];simp[By]
end
theorem qL (ns ms:List Int):eqL (ns.map V.int) (ms.map V.int)=decide (ns=ms):=by
 unfold eqL;rw[c8,c8]
 by_cases hl:ns.length=ms.length
 ·rw[decide_eq_true hl,BG]
  by_cases h:ns=ms
  ·subst h
   rw[decide_eq_true rfl,kx];intro j hj;have hj:j<ns.length:=ja.mp hj;simp[eh,hj,eqV]
  ·rw[decide_eq_false h]
   refine sr.mpr λhc=>h (zr hl λj h1 h2=>?_);have:=kx.mp hc j (ja.mpr h1);simp[eh,h1,h2,eqV] at this;exact this
 ·rw[decide_eq_false hl,AW,decide_eq_false]
  intro e;exact hl (by rw[e])
theorem wG {K:da}{Q:VK}{a b:df}{ms:List Int}(h1:SqL K H a (ns.map V.int))(h2:SqL K H b (ms.map V.int))(q:Q (.bl (!decide (ns=ms))) H):zZ K true (.ref a) (.ref b) H Q:=by
 refine⟨a,b,_,_,rfl,rfl,h1,h2,Cr _,Cr _,?_⟩;rw[qL];cases hd:decide (ns=ms)<;>(rw[hd] at q;exact q)
theorem Vn (lo hi:Int):lv lo hi (-1)=((lo-hi).toNat:Int):=by
 unfold lv;rw[if_neg (by lia)]
 by_cases h:lo>hi
 ·rw[if_pos h]
  rw[show(-(-1):Int)=1 by decide,CQ];lia
 ·rw[if_neg h]
  lia
theorem fW {lo hi:Int}(h1:-(2 ^ 40)<=lo)(h2:lo<2 ^ 40)(h3:-(2 ^ 40)<=hi)(h4:hi<2 ^ 40):ur lo hi (-1)=true:=by
 unfold ur;rw[Vn,if_neg (by lia)];simp only[CV,ly,Bool.or_eq_true,decide_eq_true_eq,beq_iff_eq];refine⟨⟨⟨⟨?_,?_⟩,?_⟩,?_⟩,.inr ?_⟩<;>lia
section
variable {X:Cx} {tg:gd}
def wD (ta:TA):TI:=λG H R=>ta G H λvs H1=>∃i j:Int,vs=[.int i,.int j,.int (-1)]/\(-(2 ^ 40)<=i/\i<2 ^ 40/\-(2 ^ 40)<=j/\j<2 ^ 40)/\R (uW i (-1) (i-j).toNat) H1
theorem nR {a b c:gd}{ta:TA}{p:Pos}(hg:Gl X "range")(hm:X.mg "range"=none)(ha:PA X [a,b,c] ta)(hs:autoParam (starEach [a,b,c] X.env=[(false,eval a X.env),(false,eval b X.env),(false,eval c X.env)]) QD)
  (hs2:autoParam (starEach [b,c] X.env=[(false,eval b X.env),(false,eval c X.env)]) QD):PI X tg (.Call (.Name "range" p) [a,b,c] [] pos) (wD ta):=by
 intro pins s G H R I h;refine Call_ (Fg I hg hm boot_range (gr (thA ha I h λus s1 vs H1 I1 r1 q1=>?_) (by rw[hs,hs2]) (by rw[hs2];rfl)));obtain⟨i,j,e,⟨q1,q2,q3,q4⟩,q⟩:=q1;subst e
 cases r1 with
 |cons r rr=>
  cases rr with
  |cons r' rr=>
   cases rr with
   |cons r'' rr=>
    cases rr;obtain⟨t,rfl⟩:=r;obtain⟨t',rfl⟩:=r';obtain⟨t'',rfl⟩:=r'';refine call_range_3 (by lia) ?_ (.inl (vq (by lia)));refine AX (AS ..) (fW (by lia) (by lia) (by lia) (by lia)) ?_;have I2:Inv X pins G H1 { s1 with heap:=s1.heap.push { cls:=.type "range",data:=.fields #[.int i t,.int j t',.int (-1) t''] },toks:=s1.toks }:=I1.kept λb o e=>dq _ e;refine⟨_,[_],_,_,H1,rfl,I2.kept (t':=s1.toks) λb o e=>dq _ e,dZ _ i (-1) (i-j).toNat,?_,λb hb=>?_,q⟩
    ·have e1:i+((0:Nat):Int)*(-1)=i:=by simp
     have e2:(((i-j).toNat:Nat):Int)-((0:Nat):Int)=lv i j (-1):=by rw[Vn];simp
     show wk _ _ (i+((0:Nat):Int)*(-1)) ((((i-j).toNat:Nat):Int)-((0:Nat):Int)) (-1);rw[e1,e2];exact fi _ rfl
    ·have e:=ie.mp hb
     subst e;exact I2.fpOk (db _) (I2.hok.fresh (db _))
theorem zO {tA:TA}{G:St}{R:It->Hp->Prop}(h:tA G H λvs H1=>∃i j:Int,vs=[.int i,.int j,.int (-1)]/\(-(2 ^ 40)<=i/\i<2 ^ 40/\-(2 ^ 40)<=j/\j<2 ^ 40)/\R (uW i (-1) (i-j).toNat) H1):wD tA G H R:=h
def yH:V->List V->Hp->VK->Prop:=λx vs H Q=>∃(l:df) (ns:List Int) (k:Int) (j:Nat),x=.ref l/\vs=[.int k]/\H l=some (.lst (ns.map V.int))/\ns[j]?=some k/\(∀i:Nat,i<j->ns[i]?≠some k)/\Q (.int (j:Nat)) H
theorem Tg:MtM X "list.index" yH:=by
 intro pins s G H x vs v us Q I rx rv h;obtain⟨l,ns,k,j,rfl,rfl,hH,hj,hno,q⟩:=h;cases rx;obtain⟨u,rfl,t,rfl⟩:=Fj rv;obtain⟨z,its,n,r,hl,e⟩:=I.lstM hH;have fl:=Cr ns;have hjl:=(d6.mp hj).1;have hln:ns.length=its.length:=by rw[<-hl,c8]
 have at':∀i (hi:i<its.length),eqU (.int k) its[i]=decide (ns[i]?=some k):=λi hi=>by
  have e1:(ns.map V.int)[i]?=some (.int (ns[i]'(by lia))):=by rw[dg,c7 (by lia)];rfl
  obtain⟨u,eu,ru⟩:=r.get e1;rw[c7 hi] at eu;cases eu;rw[Xw ru rfl,c7 (by lia)];show(ns[i]==k)=decide (some ns[i]=some k)
  by_cases h:ns[i]=k
  ·rw[decide_eq_true (congrArg some h)]
   simpa using h
  ·rw[decide_eq_false λz=>h (de z)]
   simpa using h
 have sl:=Ng;refine qc F.slot_list_index ⟨_,e,rfl⟩ F.entry_list_index (F.args_list_index_2 _ _)
  (SeqAt.list_indexAt l its.toArray n none #[] (.int k t) (eqU (.int k)) j (by simp;lia) (by rw[c8] at z;lia) ?_ ?_) ⟨e,λy hy=>L9 (x:=.int k) (v:=.int k t) ⟨t,rfl⟩ rfl r fl y (by simpa using hy),?_⟩
 ·show eqU (.int k) its[j]=true
  rw[at' j (by lia),decide_eq_true hj]
 ·intro i hi hlt
  show eqU (.int k) its[i]=false;rw[at' i (by simpa using hi),decide_eq_false (hno i hlt)]
 ·exact⟨.int j,H,I.tok _,⟨_,rfl⟩,q⟩
end
section
variable {X:Cx}
theorem Ii {x:Str}{i:Int}(hg:Gl X x)(hm:∃t,X.mg x=some (.int i t))(hd:autoParam ((x==("__debug__":Str))=false) QF):PE X (.Name x pos) (tC (.int i)):=by
 obtain⟨t,h⟩:=hm;exact uN hg h ⟨t,rfl⟩ hd
end
section
variable {G:St} {H:Hp} {D:Jg} {Q:VK} {te:TE} {QB:Bool->Hp->Prop} {tA:TA}
theorem Aap {K:da}{T:String}{r:V->List V->Hp->VK->Prop}(h:te G H λx H1=>tyV K T x H1/\r x [] H1 Q):Aaq K T r te G H Q:=h
end
theorem Aa0 {A B:Prop}(h:B):if(!true)=true then A else B:=by
 rw[if_neg (by decide)];exact h
theorem Ab0 {A B:Prop}(h:A):if(!false)=true then A else B:=by
 rw[if_pos (by decide)];exact h
def SameBut (x:df)(H H':Hp):Prop:=∀b o,b≠x->H b=some o->H' b=some o
theorem Aj.but {x:df}(h:Aj H H'):SameBut x H H':=λb o _ e=>h b o e
theorem SameBut.trans {x:df}(a:SameBut x H H1)(b:SameBut x H1 H2):SameBut x H H2:=λc o n h=>b c o n (a c o n h)
theorem Ce {x:df}{o:HO}:SameBut x H (upd H x o):=λb u n e=>by rw[Ai n];exact e
theorem Aab {fr:St}{tc:TT}{Q:VK}(n:Nat)(item:Nat->V)(Pv:Nat->List V->Hp->Prop)(h0:∀H,Aj H1 H->Pv 0 [] H)
  (stab:∀i ys H D xs o,H D=some (.lst xs)->Pv i ys H->Pv i ys (upd H D o))(hz:∀i ys H,i<n->Pv i ys H->ys.length<sizeLine)
  (hgo:∀i H,i<n->Aj H1 H->J.go i H)(hy:∀i H x H',i<n->Aj H1 H->J.yld i H x H'->x=item i/\H'=H)(hst:∀H,Aj H1 H->J.stop n H)
  (turn:∀i ys H (A:VK) (R:Hp->Prop),i<n->Aj H1 H->Pv i ys H->(∀y H',Aj H H'->Pv (i+1) (ys++[y]) H'->A y H')->tc (some (item i)::fr) H λb H3=>if b=true then te (some (item i)::fr) H3 A else R H3)
  (fin:∀D ys H,H1 D=none->Aj H1 H->Pv n ys H->H D=some (.lst ys)->Q (.ref D) H):Xz J H1 fr tc te Q:=by
 intro D hD;refine⟨λi m H=>i<=n/\m=n-i/\Aj H1 H/\∃ys,H D=some (.lst ys)/\Pv i ys H,⟨n,e9 _,rfl,An hD,[],Ac,h0 _ (An hD)⟩,?_⟩;rintro i m H ⟨hi,rfl,sm,ys,hl,hp⟩
 by_cases h:i=n
 ·subst h
  exact .inl ⟨hst H sm,fin D ys H hD sm hp hl⟩
 ·have hlt:i<n:=im hi h
  refine .inr ⟨hgo i H hlt sm,λx H' hyl=>?_⟩;obtain⟨rfl,rfl⟩:=hy i H x H' hlt sm hyl;refine turn i ys H' _ _ hlt sm hp (λy H4 s4 hp4=>?_);refine⟨ys,s4 _ _ hl,hz i ys _ hlt hp,n-(i+1),by lia,by lia,rfl,λb u e=>?_,ys++[y],Ac,stab _ _ _ _ _ _ (s4 _ _ hl) hp4⟩;rw[Ai (Af e hD)];exact s4 _ _ (sm _ _ e)
theorem sA:bootBuiltins "abs"=some (.builtin "abs"):=by decide +kernel
def Hn (ns:List Int)(m:Int):Prop:=m∈ns/\∀a∈ns,m<=a
def Yg (ns:List Int)(m:Int):Prop:=m∈ns/\∀a∈ns,a<=m
theorem Hn.uniq {a b:Int}(h:Hn ns a)(k:Hn ns b):a=b:=Int.le_antisymm (h.2 _ k.1) (k.2 _ h.1)
section
variable {X:Cx}
def Abc (K:da):List V->Hp->VK->Prop:=λxs H Q=>∃(p:df) (ns:List Int),xs=[.ref p]/\SqL K H p (ns.map V.int)/\ns≠[]/\∀m,Hn ns m->Q (.int m) H
def Acd (K:da):List V->Hp->VK->Prop:=λxs H Q=>∃(p:df) (ns:List Int),xs=[.ref p]/\SqL K H p (ns.map V.int)/\ns≠[]/\∀m,Yg ns m->Q (.int m) H
theorem Yc {G:St}{p:df}(I:Inv X pins G H s)(hp:SqL X.K H p (ns.map V.int)):∃ys:Array (Int×Tok),s.heap.IsList p (intItems ys)/\ns=ys.toList.map (·.1):=by
 obtain⟨its,r,pl,_⟩:=I.list hp;have hi:=T3 r;obtain⟨ys,e⟩:=hi.allInts.items;have hl:=pl.isList;rw[e] at hl;exact⟨ys,hl,by rw[<-hi.numsOf,<-EU,<-e]⟩
theorem Zp {ys:Array (Int×Tok)}{v:d0}(hz:0<ys.size)(hv:(intItems ys)[argBest (λi j=>decide (numAt ys i<numAt ys j)) (ys.size-1)]?=some v):∃m t,v=.int m t/\Hn (ys.toList.map (·.1)) m:=by
 obtain⟨t,rfl⟩:=AA hv;obtain⟨h1,h2⟩:=argBest_lt (numAt ys) (ys.size-1);refine⟨_,t,rfl,?_,λa ha=>?_⟩
 ·rw[z9]
  exact getD_mem (by rw[c8,i3];lia)
 ·obtain⟨j,hj,rfl⟩:=mem_getD ha
  rw[c8,i3] at hj;rw[<-z9];exact h2 j (by lia)
theorem vC {ys:Array (Int×Tok)}{v:d0}(hz:0<ys.size)(hv:(intItems ys)[argBest (λi j=>decide (numAt ys i>numAt ys j)) (ys.size-1)]?=some v):∃m t,v=.int m t/\Yg (ys.toList.map (·.1)) m:=by
 obtain⟨t,rfl⟩:=AA hv;obtain⟨h1,h2⟩:=argBest_gt (numAt ys) (ys.size-1);refine⟨_,t,rfl,?_,λa ha=>?_⟩
 ·rw[z9]
  exact getD_mem (by rw[c8,i3];lia)
 ·obtain⟨j,hj,rfl⟩:=mem_getD ha
  rw[c8,i3] at hj;rw[<-z9];exact h2 j (by lia)
theorem T1 {ys:Array (Int×Tok)}(e:ns=ys.toList.map (·.1))(h:ns≠[]):0<ys.size:=by
 rcases mf ys.size with z|z
 ·exfalso
  apply h;rw[e,gp (l:=ys.toList) (by rw[i3];exact z)];rfl
 ·exact z
theorem nX (hc:X.calm=true):Hh X (.builtin "min") (Abc X.K):=by
 intro pins s G H xs us Q I r h;obtain⟨p,ns,rfl,hp,hne,q⟩:=h;obtain⟨u,rfl,ru⟩:=Fj r;cases ru;obtain⟨ys,hl,e⟩:=Yc I hp;have hz:=T1 e hne;refine min_intList (I.ok.hd hc) hl hz λv h' tk hv hk=>?_;obtain⟨m,t,rfl,hm⟩:=Zp hz hv;exact⟨.int m,H,I.kept hk,⟨t,rfl⟩,q m (e▸hm)⟩
theorem nM (hc:X.calm=true):Hh X (.builtin "max") (Acd X.K):=by
 intro pins s G H xs us Q I r h;obtain⟨p,ns,rfl,hp,hne,q⟩:=h;obtain⟨u,rfl,ru⟩:=Fj r;cases ru;obtain⟨ys,hl,e⟩:=Yc I hp;have hz:=T1 e hne;refine max_intList (I.ok.hd hc) hl hz λv h' tk hv hk=>?_;obtain⟨m,t,rfl,hm⟩:=vC hz hv;exact⟨.int m,H,I.kept hk,⟨t,rfl⟩,q m (e▸hm)⟩
end
section
variable {prog:fc} {w:ge} {A:gt} {R:ug->d4->Prop} {I S:df} {fp wr:List df} {n:Nat} {P:Nat->d0->Prop} {St:Nat->gv->Prop} {d:d0}
abbrev rB (I S:df)(d:d0):Args:=⟨[.ref I,.none,.ref S],[(ke "default",d)]⟩
theorem Mq:(toString "min"++toString ".loop":String)="min.loop":=by decide
theorem vO (W:Walks prog w A.in1 I fp wr n P St)(bt:Nat->Nat->Bool)(hc:CmpOf prog w A.in1 .Lt P bt)(nS:S∉fp):∀(k j:Nat) (s:d4) (b:d0) (c:Nat),n-(j+1)=k->j+1<=n->St (j+1) s.heap->P (argBest bt j) b ->
  s.heap.get? S=some { cls:=.type "list",dict:=none,data:=.seq #[b,b] c,slots:=#[] } ->
  (∀v h' tk,P (argBest bt (n-1)) v->(∀a o,a∉wr->a≠S->s.heap.get? a=some o->h'.get? a=some o)->R (.ok (.ret v)) { s with heap:=h',toks:=tk })->codeAny (model prog w) A (.builtin "min.loop" (rB I S d)) R s:=by
 have nw:S∉wr:=λh=>nS (W.sub _ h);intro k
 induction k with
 |zero=>
  intro j s b c hk hj st hb eS hR;have hn:j+1=n:=by lia
  refine ki ux ?_;rw[j9 lb _];show wpAny _ A.in1 (seqItems? (.ref S) >>= _) _ _ s;refine wpAny_bind (nz eS rfl ?_);show wpAny _ A.in1 (tryCatch (pyNext (.ref I)) _ >>= _) _ _ s;refine wpAny_bind (qb (W.done s _ _ (hn▸st) λh' tk kp=>?_));have eS':=kp S _ nw eS;show wpAny _ A.in1 (updateSeq S (λ_=>#[]) >>= _) _ _ _;refine wpAny_bind ?_;refine kh eS' rfl (wpAny_bind (r9 (em ?_)));exact hR b _ tk (by rw[<-hn];exact hb) λa o aw aS e=>(gq _ _ (me aS)).trans (kp a o aw e)
 |succ k ih=>
  intro j s b c hk hj st hb eS hR;have hn:j+1<n:=by lia
  refine ki ux ?_;rw[j9 lb _];show wpAny _ A.in1 (seqItems? (.ref S) >>= _) _ _ s;refine wpAny_bind (nz eS rfl ?_);show wpAny _ A.in1 (tryCatch (pyNext (.ref I)) _ >>= _) _ _ s;refine wpAny_bind (qb (W.item (j+1) s _ _ hn st λv h' tk hv st' kp=>?_));have eS':=kp S _ nw eS;show wpAny _ A.in1 (tryCatch (holding [v,v] (richCompare .Lt v b >>= _)) _ >>= _) _ _ _;refine wpAny_bind (qb (wpAny_holding (wpAny_bind (hc (j+1) (argBest bt j) v b _ _ _ hv hb ?_))));refine wpAny_bind (wpAny_holding (km ?_));refine wpAny_bind (r9 (em ?_))
  cases t:bt (j+1) (argBest bt j) with
  |true=>
   simp only[if_true];refine wpAny_bind ?_;refine kh eS' rfl (wpAny_bind (r9 ?_));rw[Mq];refine em ⟨mq lb _,ih (j+1) _ v _ (by lia) hn (W.frame _ _ _ st' λa af o e=>?_) (by simp only[argBest,t,if_true];exact hv) (i7 _ eS' rfl) λv' h2 tk2 hv' kp2=>?_⟩
   ·exact(gq _ _ (λz:S=a=>nS (by rw[z];exact af))).trans e
   ·exact hR v' h2 tk2 hv' λa o aw aS e=>kp2 a o aw aS ((gq _ _ (me aS)).trans (kp a o aw e))
  |false=>
   simp only[lj,if_false];refine wpAny_bind (r9 ?_);rw[Mq];refine em ⟨mq lb _,ih (j+1) _ b c (by lia) hn st' (by simp only[argBest,t,lj,if_false];exact hb) eS' λv' h2 tk2 hv' kp2=>?_⟩;exact hR v' h2 tk2 hv' λa o aw aS e=>kp2 a o aw aS (kp a o aw e)
theorem iA (W:Walks prog w A.in1 I fp wr n P St)(bt:Nat->Nat->Bool)(hc:CmpOf prog w A.in1 .Lt P bt)(nS:S∉fp){c:Nat}(st:St 0 s.heap)(eS:s.heap.get? S=some { cls:=.type "list",dict:=none,data:=.seq #[] c,slots:=#[] })
  (h0:n=0->∀h' tk,(∀a o,a∉wr->a≠S->s.heap.get? a=some o->h'.get? a=some o)->R (.ok (.ret d)) { s with heap:=h',toks:=tk })
  (hR:0<n->∀v h' tk,P (argBest bt (n-1)) v->(∀a o,a∉wr->a≠S->s.heap.get? a=some o->h'.get? a=some o)->R (.ok (.ret v)) { s with heap:=h',toks:=tk }):codeAny (model prog w) A (.builtin "min.loop" (rB I S d)) R s:=by
 have nw:S∉wr:=λh=>nS (W.sub _ h);refine ki ux ?_;rw[j9 lb _];show wpAny _ A.in1 (seqItems? (.ref S) >>= _) _ _ s;refine wpAny_bind (nz eS rfl ?_);show wpAny _ A.in1 (tryCatch (pyNext (.ref I)) _ >>= _) _ _ s;rcases mf n with hn|hn
 ·refine wpAny_bind (qb (W.done s _ _ (hn▸st) λh' tk kp=>?_))
  exact wpAny_bind (wpAny_rule (em (h0 hn h' tk λa o aw _ e=>kp a o aw e)))
 ·refine wpAny_bind (qb (W.item 0 s _ _ hn st λv h' tk hv st' kp=>?_))
  have eS':=kp S _ nw eS;show wpAny _ A.in1 (updateSeq S (λ_=>#[v,v]) >>= _) _ _ _;refine wpAny_bind ?_;refine kh eS' rfl ?_;rw[Mq];refine em ⟨mq lb _,vO W bt hc nS _ 0 _ v _ rfl hn (W.frame _ _ _ st' λa af o e=>?_) hv (i7 _ eS' rfl) λv' h2 tk2 hv' kp2=>?_⟩
  ·exact(gq _ _ (λz:S=a=>nS (by rw[z];exact af))).trans e
  ·exact hR hn v' h2 tk2 hv' λa o aw aS e=>kp2 a o aw aS ((gq _ _ (me aS)).trans (kp a o aw e))
end
section
variable {prog:fc} {w:ge} {A:gt} {E:Za0} {s:d4}
theorem oF (a v:d0):argsOk "min" ⟨[a],[(ke "default",v)]⟩:=by unfold argsOk;kernel_rfl
theorem mB (d:d0):qt "min" ["key","default"] 0 ⟨[],[(ke "default",d)]⟩=pure [none,some d]:=by kernel_rfl
theorem lV {l:df}{ys:Array (Int×Tok)}{d:d0}{Q:Za0}(hh:A.handled=none)(hl:s.heap.IsList l (intItems ys))(h0:ys.size=0->∀h' tk,(∀b o,s.heap.get? b=some o->h'.get? b=some o)->Q d { s with heap:=h',toks:=tk })
  (h1:0<ys.size->∀v h' tk,(intItems ys)[argBest (λi j=>decide (numAt ys i<numAt ys j)) (ys.size-1)]?=some v->(∀b o,s.heap.get? b=some o->h'.get? b=some o)->Q v { s with heap:=h',toks:=tk }) :
  wpAny (model prog w) A (call (.builtin "min") [.ref l] [(ke "default",d)]) Q E s:=by
 refine kmb_tree F.kind_min F.plain_min F.entry_min (oF _ _) ?_;show wpAny _ A.in1 (qt "min" ["key","default"] 0 ⟨[],[(ke "default",d)]⟩ >>= _) _ _ s;refine wpAny_bind (o9 (mB d) ?_);refine wpAny_bind (em ?_);refine wpAny_bind (iter_intList hl λHI e st hfp hlI=>?_);subst e;have hsz:(intItems ys).size=ys.size:=by simp[intItems]
 refine wpAny_bind (ut ?_);rw[Mq];refine em ⟨mq lb _,?_⟩;refine iA (Walks.list (A:=A.in1) hh _ l hlI (intItems ys)) _ (CmpOf.ints_lt (numAt ys) (λ_ _=>AA)) (λhm=>i4 _ (hfp _ hm)) ⟨st.1.at λo e=>dq _ e,st.2.push _⟩ (fi _ rfl) (λhz h' tk kp=>?_) (λhz v h' tk hv kp=>?_)
 ·refine h0 (by rw[<-hsz];exact hz) h' tk (old_kept λb o hb e=>kp b o hb (fk (d3 e)) (dq _ e))
 ·rw[hsz] at hz
  refine h1 hz v h' tk (by simpa [intItems] using hv) (old_kept λb o hb e=>kp b o hb (fk (d3 e)) (dq _ e))
end
section
variable {X:Cx} {x:Str} {p pos:Pos} {e:gd} {es:List gd} {kws:List xb} {t tk:TA} {id:String} {ks:Za6}
def sT (X:Cx)(f:d0)(ks:Za6)(r:List V->List V->Hp->VK->Prop):Prop:=
 ∀(pins:Za1) (s:d4) (G:St) (H:Hp) (xs zs:List V) (us ws:Za3) (Q:VK),Inv X pins G H s->Bj xs us->Bj zs ws->r xs zs H Q->wpAny (model X.prog X.w) X.A (call f us (ks.zip ws)) (EP X pins G Q) X.xe s
def Abr (r:List V->List V->Hp->VK->Prop)(t tk:TA):TE:=λG H Q=>t G H λvs H1=>tk G H1 λzs H2=>r vs zs H2 Q
theorem nA {r:List V->List V->Hp->VK->Prop}(hc:sT X (.builtin id) ks r)(hg:Gl X x)(hm:X.mg x=none)(hv:bootBuiltins x=some (.builtin id))(ha:PA X (e::es) t)(hkw:PK X kws tk)(hks:autoParam ((backToKw pos (keywordEach kws X.env)).filterMap (·.1)=ks) QD)
  (hn:autoParam (x≠"__name__") QF)(hdb:autoParam ((x==("__debug__":Str))=false) QF)(he:autoParam (backTo pos (starEach (e::es) X.env)=(false,eval e X.env)::backTo pos (starEach es X.env)) QD)(hpl:autoParam ((backTo pos (starEach (e::es) X.env)).any (·.1)=false) QD)
  (hall:autoParam ((backToKw pos (keywordEach kws X.env)).all (·.1.isSome)=true) QD)(hnone:autoParam ((backToKw pos (keywordEach kws X.env)).any (·.1.isNone)=false) QD):PE X (.Call (.Name x p) (e::es) kws pos) (Abr r t tk):=by
 k_in;refine wpAny_Call_Name_kw (Fg I hg hm hv ?_ hn hdb);refine callWith_kw (thA ha I h λus s1 vs H1 I1 r1 q1=>?_) he hpl hall hnone;refine thn (hkw pos pins s1 G H1 _ I1 q1) λws s2 ⟨zs,H2,I2,r2,q2⟩=>?_;rw[hks];exact hc pins s2 G H2 vs zs us ws Q I2 r1 r2 q2
def Abo (K:da):List V->List V->Hp->VK->Prop:=λxs zs H Q=>∃(p:df) (ns:List Int) (d:V),xs=[.ref p]/\zs=[d]/\SqL K H p (ns.map V.int)/\(ns=[]->Q d H)/\∀m,Hn ns m->Q (.int m) H
theorem mI (hc:X.calm=true):sT X (.builtin "min") ["default"] (Abo X.K):=by
 intro pins s G H xs zs us ws Q I r r2 h;obtain⟨p,ns,d,rfl,rfl,hp,q0,q1⟩:=h;obtain⟨u,rfl,ru⟩:=Fj r;obtain⟨u2,rfl,ru2⟩:=Fj r2;cases ru;obtain⟨ys,hl,e⟩:=Yc I hp;refine lV (I.ok.hd hc) hl (λhz h' tk hk=>?_) (λhz v h' tk hv hk=>?_)
 ·refine⟨d,H,I.kept hk,ru2,q0 ?_⟩
  rw[e,gp (l:=ys.toList) (by rw[i3];exact hz)];rfl
 ·obtain⟨m,t,rfl,hm⟩:=Zp hz hv
  exact⟨.int m,H,I.kept hk,⟨t,rfl⟩,q1 m (e▸hm)⟩
theorem Ab2 {r:List V->List V->Hp->VK->Prop}{G:St}{Q:VK}(h:t G H λvs H1=>tk G H1 λzs H2=>r vs zs H2 Q):Abr r t tk G H Q:=h
end
theorem jW {z:Str}{g:TG}{tb:TS}{D:Jg}{G:St}(Pv:Nat->St->Hp->Prop)(h0:Pv 0 G H)
  (hs:∀(i c:Nat) G H,z.cps[i]?=some c->Pv i G H->g (.str (sgn c)) G H λHE H2=>tb { D with nx:=Pv (i+1),ct:=Pv (i+1),bk:=D.nx } HE H2)(hd:∀G H,Pv z.cps.size G H->D.nx G H):iC (Its z) g tb D G H:=by
 refine⟨λi m G H=>i<=z.cps.size/\m=z.cps.size-i/\Pv i G H,⟨_,e9 _,rfl,h0⟩,?_⟩;rintro i m G H ⟨hi,rfl,hP⟩
 by_cases h:i=z.cps.size
 ·subst h
  exact .inl ⟨db _,hd G H hP⟩
 ·have hlt:i<z.cps.size:=im hi h
  refine .inr ⟨hlt,Pv (i+1),λmt H' hN=>⟨z.cps.size-(i+1),by lia,hlt,rfl,hN⟩,λx H' hy=>?_⟩;obtain⟨rfl,c,hc,rfl⟩:=hy;exact hs i c G _ hc hP
end L2
end
section
namespace TW
def cnt (l:Za5)(k:Nat):Nat:=(l.take k).count true
theorem rL (f:Nat->Bool)(n:Nat):[n].filter f=if f n then[n] else[]:=by
 cases h:f n<;>simp[List.filter,h]
def occ (b:Bool)(l:Za5)(n:Nat):Za4:=(ed n).filter λi=>l.getD i false==b
theorem J2 (b:Bool)(l:Za5)(n:Nat):occ b l (n+1)=occ b l n++if l.getD n false==b then[n] else[]:=by
 unfold occ;rw[ic,l8,rL]
theorem kK (b:Bool)(l:Za5)(n:Nat):∀d:Nat,occ b l (n+d)=occ b l n++((ed d).filter λp=>l.getD (n+p) false==b).map (n + ·)
 |0=>by simp
 |d+1=>by
  rw[show n+(d+1)=n+d+1 by lia,J2,kK b l n d,ic,l8,dj,d9,rL];congr 2;cases l.getD (n+d) false==b<;>rfl
theorem vE {b:Bool}{l:Za5}{n m i:Nat}(h:n<=m)(hi:i<(occ b l n).length):(occ b l m)[i]?=(occ b l n)[i]?:=by
 obtain⟨d,rfl⟩:=Nat.le.dest h;rw[kK,dv hi]
theorem R1 (l:Za5):∀n:Nat,(occ true l n).length=cnt l n/\(occ false l n).length+cnt l n=n
 |0=>by simp[occ,cnt]
 |n+1=>by
  obtain⟨h1,h2⟩:=R1 l n;have e:cnt l (n+1)=cnt l n+(l.getD n false).toNat:=by
   unfold cnt;rw[gj,gu,ve]
   cases hx:l[n]? with
   |none=>simp
   |some b=>cases b<;>simp
  rw[J2,J2,e];cases l.getD n false<;>simp<;>lia
def dAt (ds:Za4)(k:Nat):Nat:=ds.getD k 0
def opn (ds:Za4):Nat->Nat
 |0=>0
 |k+1=>dAt ds k+1
def way (ds:Za4):Nat->List Int
 |0=>[-1]
 |k+1=>(way ds k).take (dAt ds k+1)++[(k:Int)]
def Dok (ds:Za4):Prop:=∀k,k<ds.length->dAt ds k<=opn ds k
def eld (ds:Za4)(k:Nat):Int:=(way ds k).getD (dAt ds k) 0
def Bh (ds:Za4):List Int:=(ed ds.length).map (eld ds)
theorem Ci {ds:Za4}(h:Dok ds):∀k,k<=ds.length->(way ds k).length=opn ds k+1
 |0,_=>rfl
 |k+1,hk=>by
  show((way ds k).take (dAt ds k+1)++[(k:Int)]).length=dAt ds k+1+1;have:=Ci h k (by lia);have:=h k (by lia);rw[c9,dh];simp only[d8,f6];lia
theorem Cu {ds:Za4}(h:Dok ds):∀k,k<=ds.length->(way ds k)[0]?=some (-1)
 |0,_=>rfl
 |k+1,hk=>by
  show((way ds k).take (dAt ds k+1)++[(k:Int)])[0]?=some (-1);have e:=Cu h k (by lia);have hl:=Ci h k (by lia);rw[dv (by rw[dh];lia),d7 (by lia)];exact e
theorem O2 {ds:Za4}(h:Dok ds):∀(k j:Nat) (x:Int),k<=ds.length->(way ds k)[j+1]?=some x->∃v:Nat,x=(v:Int)/\v<k/\dAt ds v=j
 |0,j,x,_,e=>by cases e
 |k+1,j,x,hk,e=>by
  have e:((way ds k).take (dAt ds k+1)++[(k:Int)])[j+1]?=some x:=e;have hl:=Ci h k (by lia);have hd:=h k (by lia);have hl2:((way ds k).take (dAt ds k+1)).length=dAt ds k+1:=by rw[dh];lia
  by_cases hj:j+1<dAt ds k+1
  ·rw[dv (by lia),d7 hj] at e
   obtain⟨v,hv,hlt,hdv⟩:=O2 h k j x (by lia) e;exact⟨v,hv,by lia,hdv⟩
  ·rw[di (by lia),hl2] at e
   have e0:j+1-(dAt ds k+1)=0:=by
    have:=(d6.mp e).1;simp only[d8,f6] at this;lia
   rw[e0] at e;have e:=de e;exact⟨k,e.symm,by lia,by lia⟩
theorem Sl {ds:Za4}(h:Dok ds):∀(k i j:Nat) (x y:Int),k<=ds.length->i<j->(way ds k)[i]?=some x->(way ds k)[j]?=some y->x<y
 |0,i,j,x,y,_,hij,e1,e2=>by
  have:=(d6.mp e2).1;simp only[way,d8,f6] at this;lia
 |k+1,i,j,x,y,hk,hij,e1,e2=>by
  have hl:=Ci h k (by lia);have hd:=h k (by lia);have hl2:((way ds k).take (dAt ds k+1)).length=dAt ds k+1:=by rw[dh];lia
  have e2':((way ds k).take (dAt ds k+1)++[(k:Int)])[j]?=some y:=e2;have e1':((way ds k).take (dAt ds k+1)++[(k:Int)])[i]?=some x:=e1
  by_cases hj:j<dAt ds k+1
  ·rw[dv (by lia),d7 hj] at e2'
   rw[dv (by lia),d7 (by lia)] at e1';exact Sl h k i j x y (by lia) hij e1' e2'
  ·rw[di (by lia),hl2] at e2'
   have e0:j-(dAt ds k+1)=0:=by
    have:=(d6.mp e2').1;simp only[d8,f6] at this;lia
   rw[e0] at e2';have ey:=de e2';rw[dv (by lia),d7 (by lia)] at e1'
   cases i with
   |zero=>
    rw[Cu h k (by lia)] at e1';have:=de e1';lia
   |succ i=>
    obtain⟨v,hv,hlt,_⟩:=O2 h k i x (by lia) e1';lia
theorem Dj {ds:Za4}(h:Dok ds){k:Nat}(hk:k<ds.length):(way ds k)[dAt ds k]?=some (eld ds k):=by
 have hl:=Ci h k (by lia);have hd:=h k hk;unfold eld eh;rw[c7 (by lia)];rfl
theorem Ho {ds:Za4}(h:Dok ds){k:Nat}(hk:k<ds.length)(e:eld ds k=-1):dAt ds k=0:=by
 have ha:=Dj h hk
 cases hd:dAt ds k with
 |zero=>rfl
 |succ j=>
  rw[hd] at ha;obtain⟨v,hv,_⟩:=O2 h k j _ (by lia) ha;lia
theorem Cc {ds:Za4}(h:Dok ds){k:Nat}(hk:k<ds.length)(e:eld ds k≠-1):∃v:Nat,eld ds k=(v:Int)/\v<k/\dAt ds k=dAt ds v+1:=by
 have ha:=Dj h hk
 cases hd:dAt ds k with
 |zero=>
  rw[hd,Cu h k (by lia)] at ha;exact absurd (de ha).symm e
 |succ j=>
  rw[hd] at ha;obtain⟨v,hv,hlt,hdv⟩:=O2 h k j _ (by lia) ha;exact⟨v,hv,hlt,by lia⟩
theorem Ph {ds:Za4}(h:Dok ds){k:Nat}(hk:k<ds.length):-1<=eld ds k:=by
 by_cases e:eld ds k=-1
 ·lia
 ·obtain⟨v,hv,_⟩:=Cc h hk e
  lia
theorem Au (ds:Za4):(Bh ds).length=ds.length:=by unfold Bh;rw[c8,fj]
theorem Cy {ds:Za4}{k:Nat}(hk:k<ds.length):(Bh ds)[k]?=some (eld ds k):=by
 unfold Bh;rw[dg,ia hk];rfl
def Bx (ds:Za4)(k:Nat):Za5:=dn (opn ds k-dAt ds k) false++[true]
def Li (ds:Za4)(k:Nat):Za5:=((ed k).map (Bx ds)).flatten
def Av (ds:Za4):Za5:=Li ds ds.length++dn (opn ds ds.length) false
theorem Jn (ds:Za4)(k:Nat):Li ds (k+1)=Li ds k++Bx ds k:=by
 unfold Li;rw[ic,dj,i6];simp
theorem Ov {ds:Za4}(h:Dok ds):∀k,k<=ds.length->(Li ds k).length+opn ds k=2*k
 |0,_=>rfl
 |k+1,hk=>by
  have:=Ov h k (by lia);have:=h k (by lia);rw[Jn,c9];show(Li ds k).length+(dn (opn ds k-dAt ds k) false++[true]).length+(dAt ds k+1)=2*(k+1);rw[c9,ii];simp only[d8,f6];lia
theorem Bq {ds:Za4}(h:Dok ds):(Av ds).length=2*ds.length:=by
 unfold Av;rw[c9,ii];exact Ov h _ (db _)
def Vs:Nat->Za5->Prop
 |h,[]=>h=0
 |h,false::s=>0<h/\Vs (h-1) s
 |h,true::s=>Vs (h+1) s
theorem Ta:∀(m h:Nat) (s:Za5),Vs h s->Vs (h+m) (dn m false++s)
 |0,h,s,v=>v
 |m+1,h,s,v=>by
  rw[gk];refine⟨by lia,?_⟩;show Vs (h+(m+1)-1) (dn m false++s);rw[show h+(m+1)-1=h+m by lia];exact Ta m h s v
theorem lM {ds:Za4}(h:Dok ds):∀(m k:Nat),k+m=ds.length->Vs (opn ds k) (((ed m).map λi=>Bx ds (k+i)).flatten++dn (opn ds ds.length) false)
 |0,k,e=>by
  have e:k=ds.length:=by lia
  subst e;have:=Ta (opn ds ds.length) 0 [] rfl;rw[ji,iz] at this;exact this
 |m+1,k,e=>by
  have ih:=lM h m (k+1) (by lia);have hd:=h k (by lia);rw[jw,jd,jm,il];have e1:((λi=>Bx ds (k+i)) ∘ vw)=λi=>Bx ds (k+1+i):=by
   funext i
   show Bx ds (k+(i+1))=Bx ds (k+1+i);rw[show k+(i+1)=k+1+i by lia]
  rw[e1];show Vs (opn ds k) ((dn (opn ds k-dAt ds (k+0)) false++[true]++_)++_);rw[iw,d9,d9];have:=Ta (opn ds k-dAt ds k) (dAt ds k) (true::(((ed m).map λi=>Bx ds (k+1+i)).flatten++dn (opn ds ds.length) false)) ih;rw[show dAt ds k+(opn ds k-dAt ds k)=opn ds k by lia] at this;exact this
theorem Xn {ds:Za4}(h:Dok ds):Vs 0 (Av ds):=by
 have:=lM h ds.length 0 (by lia);unfold Av Li;have e:(λi=>Bx ds (0+i))=Bx ds:=by funext i;rw[ji]
 rw[e] at this;exact this
theorem Tc:∀(m n:Nat) (s t:Za5),dn m false++true::s=dn n false++true::t->m=n/\s=t
 |0,0,s,t,e=>⟨rfl,by simpa using e⟩
 |0,n+1,s,t,e=>by rw[gk] at e;cases e
 |m+1,0,s,t,e=>by rw[gk] at e;cases e
 |m+1,n+1,s,t,e=>by
  rw[gk,gk] at e;obtain⟨a,b⟩:=Tc m n s t (j8 e).2;exact⟨by lia,b⟩
theorem dY {ds es:Za4}(h1:Dok ds)(h2:Dok es)(hl:ds.length=es.length):∀(m k:Nat),k+m=ds.length->opn ds k=opn es k ->
  ((ed m).map λi=>Bx ds (k+i)).flatten++dn (opn ds ds.length) false=((ed m).map λi=>Bx es (k+i)).flatten++dn (opn es es.length) false->∀i,k<=i->i<ds.length->dAt ds i=dAt es i
 |0,k,e,_,_=>λi a b=>by lia
 |m+1,k,e,ho,hr=>λi a b=>by
  have f:∀xs:Za4,((ed (m+1)).map λi=>Bx xs (k+i)).flatten=dn (opn xs k-dAt xs k) false++true::((ed m).map λi=>Bx xs (k+1+i)).flatten:=λxs=>by
   rw[jw,jd,jm,il];have e1:((λi=>Bx xs (k+i)) ∘ vw)=λi=>Bx xs (k+1+i):=by
    funext i
    show Bx xs (k+(i+1))=Bx xs (k+1+i);rw[show k+(i+1)=k+1+i by lia]
   rw[e1];show(dn (opn xs k-dAt xs (k+0)) false++[true])++_=_;rw[iw,d9];rfl
  rw[f,f,d9,d9,uc,uc] at hr;obtain⟨e1,e2⟩:=Tc _ _ _ _ hr;have d1:=h1 k (by lia);have d2:=h2 k (by lia);have hk:dAt ds k=dAt es k:=by lia
  by_cases hi:i=k
  ·rw[hi];exact hk
  ·exact dY h1 h2 hl m (k+1) (by lia) (by show dAt ds k+1=dAt es k+1;lia) e2 i (by lia) b
theorem Tj {ds es:Za4}(h1:Dok ds)(h2:Dok es)(e:Av ds=Av es):ds=es:=by
 have hl:ds.length=es.length:=by
  have a:=Bq h1;have b:=Bq h2;rw[e] at a;lia
 have z:∀xs:Za4,Av xs=((ed xs.length).map λi=>Bx xs (0+i)).flatten++dn (opn xs xs.length) false:=λxs=>by
  unfold Av Li;have e:(λi=>Bx xs (0+i))=Bx xs:=by funext i;rw[ji]
  rw[e]
 have key:=dY h1 h2 hl ds.length 0 (by lia) rfl (by rw[<-z,e,z,hl]);refine zr hl λk a b=>?_;have:=key k (by lia) a;unfold dAt at this
 simpa [eh,a,b] using this
def Jo (A B:Za4)(off:Nat):Za4:=A++B.map (·+off)
theorem Mf (A B:Za4)(off:Nat):(Jo A B off).length=A.length+B.length:=by unfold Jo;rw[c9,c8]
theorem Ou {A B:Za4}{off k:Nat}(h:k<A.length):dAt (Jo A B off) k=dAt A k:=by
 unfold Jo dAt eh;rw[dv h]
theorem L7 {A B:Za4}{off k:Nat}(h:k<B.length):dAt (Jo A B off) (A.length+k)=dAt B k+off:=by
 unfold Jo dAt eh;rw[di (by lia),fq,dg,c7 h];rfl
theorem dH {A B:Za4}{off:Nat}:∀k,k<=A.length->opn (Jo A B off) k=opn A k
 |0,_=>rfl
 |k+1,h=>by
  show dAt (Jo A B off) k+1=dAt A k+1;rw[Ou (by lia)]
theorem N3 {A B:Za4}{off:Nat}:∀k,k<=A.length->way (Jo A B off) k=way A k
 |0,_=>rfl
 |k+1,h=>by
  show(way (Jo A B off) k).take (dAt (Jo A B off) k+1)++[(k:Int)]=_;rw[N3 k (by lia),Ou (by lia)];rfl
theorem Lu {B:Za4}(hB:Dok B)(h:0<B.length):dAt B 0=0:=by
 have:=hB 0 h;have e:opn B 0=0:=rfl;lia
theorem vL {A B:Za4}{off:Nat}(hA:Dok A)(hB:Dok B)(ho:off<=opn A A.length):Dok (Jo A B off):=λk hk=>by
 rw[Mf] at hk
 by_cases h:k<A.length
 ·rw[Ou h,dH k (by lia)]
  exact hA k h
 ·obtain⟨j,rfl⟩:∃j,k=A.length+j:=⟨k-A.length,by lia⟩
  rw[L7 (by lia)]
  cases j with
  |zero=>
   rw[iw,dH _ (db _),Lu hB (by lia)];lia
  |succ j=>
   have:=hB (j+1) (by lia);have e:opn B (j+1)=dAt B j+1:=rfl;show _<=dAt (Jo A B off) (A.length+j)+1;rw[L7 (by lia)];lia
theorem uF {B:Za4}(hB:Dok B){k:Nat}(h:k<=B.length):way B k=-1::(way B k).tail:=by
 have e:=Cu hB k h
 cases hw:way B k with
 |nil=>rw[hw] at e;cases e
 |cons x r=>
  rw[hw] at e;obtain rfl:=de e;rfl
theorem W1 {A B:Za4}{off:Nat}(hA:Dok A)(hB:Dok B)(ho:off<=opn A A.length):∀k,k<B.length->way (Jo A B off) (A.length+(k+1))=(way A A.length).take (off+1)++(way B (k+1)).tail.map (·+(A.length:Int))
 |0,h=>by
  show(way (Jo A B off) A.length).take (dAt (Jo A B off) (A.length+0)+1)++[(A.length:Int)]=_;rw[N3 _ (db _),L7 h,Lu hB h,ji];congr 1;show _=((way B 0).take (dAt B 0+1)++[((0:Nat):Int)]).tail.map _;rw[Lu hB h];show[(A.length:Int)]=[(0:Int)+(A.length:Int)];rw[td]
 |k+1,h=>by
  show(way (Jo A B off) (A.length+(k+1))).take (dAt (Jo A B off) (A.length+(k+1))+1)++[((A.length+(k+1):Nat):Int)]=_;rw[W1 hA hB ho k (by lia),L7 h];have hl:=Ci hA A.length (db _);have hw:((way A A.length).take (off+1)).length=off+1:=by rw[dh];lia
  rw[zq,hw,d5 (by lia),d9];congr 1;have e:(way B (k+1+1)).tail=(way B (k+1)).tail.take (dAt B (k+1))++[((k+1:Nat):Int)]:=by
   show((way B (k+1)).take (dAt B (k+1)+1)++[((k+1:Nat):Int)]).tail=_;rw[uF hB (k:=k+1) (by lia)];rfl
  rw[e,dj,jx,show dAt B (k+1)+off+1-(off+1)=dAt B (k+1) by lia];congr 1;show[((A.length+(k+1):Nat):Int)]=[((k+1:Nat):Int)+(A.length:Int)];congr 1;lia
theorem rE {A B:Za4}{off:Nat}(hA:Dok A)(hB:Dok B)(ho:off<=opn A A.length){k:Nat}(hk:k<B.length){top:Int}(ht:(way A A.length)[off]?=some top) :
  eld (Jo A B off) (A.length+k)=if eld B k<0 then top else eld B k+(A.length:Int):=by
 have hC:=vL hA hB ho;have h1:=Dj hC (k:=A.length+k) (by rw[Mf];lia);rw[L7 hk] at h1;have h2:=Dj hB hk;have hl:=Ci hA A.length (db _);have hw:((way A A.length).take (off+1)).length=off+1:=by rw[dh];lia
 cases k with
 |zero=>
  rw[iw,N3 _ (db _),Lu hB hk,ji,ht] at h1;rw[Lu hB hk,Cu hB 0 (by lia)] at h2;have e2:=de h2;rw[if_pos (by lia)];exact(de h1).symm
 |succ k=>
  rw[W1 hA hB ho k (by lia)] at h1
  cases hd:dAt B (k+1) with
  |zero=>
   rw[hd,ji,dv (by lia),d7 (by lia),ht] at h1;rw[hd,Cu hB _ (by lia)] at h2;have e2:=de h2;rw[if_pos (by lia)];exact(de h1).symm
  |succ d=>
   rw[hd,di (by lia),hw,dg,li,show d+1+off-(off+1)+1=d+1 by lia] at h1;rw[hd] at h2;rw[h2] at h1;obtain⟨v,hv,_⟩:=O2 hB (k+1) d _ (by lia) h2;rw[if_neg (by lia)];exact(de h1).symm
theorem lZ {A B:Za4}{off:Nat}(hA:Dok A)(hB:Dok B)(ho:off<=opn A A.length){top:Int}(ht:(way A A.length)[off]?=some top) :
  Bh (Jo A B off)=Bh A++(Bh B).map λe=>if e<0 then top else e+(A.length:Int):=by
 refine jt λk=>?_
 by_cases h:k<A.length
 ·rw[Cy (by rw[Mf];lia),dv (by rw[Au];exact h),Cy h]
  unfold eld;rw[N3 k (by lia),Ou h]
 ·by_cases h2:k<A.length+B.length
  ·obtain⟨j,rfl⟩:∃j,k=A.length+j:=⟨k-A.length,by lia⟩
   rw[Cy (by rw[Mf];lia),di (by rw[Au];lia),Au,fq,dg,Cy (by lia)];show some _=some _;rw[rE hA hB ho (by lia) ht]
  ·rw[eg (by rw[Au,Mf];lia),eg (by rw[c9,c8,Au,Au];lia)]
end TW
end
section
namespace L2
open PySem PySem.Spec PyProof.Rows
variable {C CS Pt dx i1 i2 it kl l1 l2 pa z:df} {params:kj} {A:gt} {CX:CXT} {op:rf} {X:Cx} {env:Env} {tg:gd} {fd:io} {base h h' h1:gv} {H H' H1 H2:Hp} {J:It} {pins:Za1} {as fp:List df} {outer:List Env} {elts:List gd} {ns:List Int} {ix:Za4} {N ps:Za6} {ts:List Tb} {xs ys:List V} {us vs:Za3} {M:qr} {off t':Nat} {oT:Obj} {od:Option df} {pos:Pos} {scope:kr} {pl:Sem Bool} {s s2:d4} {sp:Sp} {st:gm} {qual:Str} {tk:TA} {te:TE} {wi:TI} {y:V} {pm:d0} {w:ge}
def Kd {α:Type}:Sem α->Prop
 |.pure _=>True
 |.raise _=>True
 |.unsupported _=>True
 |.finish _=>True
 |.rule _ k=>Kd (k ())
 |.at _ k=>Kd (k ())
 |.load _ _ k=>∀o,Kd (k o)
 |.update _ _ f k=>(∀o,(f o).dict=o.dict/\(f o).isFreed=o.isFreed)/\Kd (k ())
 |.alloc _ k=>∀a,Kd (k a)
 |.loadIfAlive _ k=>∀o,Kd (k o)
 |.point _ k=>Kd (k ())
 |.fresh k=>∀t,Kd (k t)
 |.ask k=>∀x,Kd (k x)
 |.stack k=>∀x,Kd (k x)
 |.handled _ k=>∀x,Kd (k x)
 |.thread k=>∀x,Kd (k x)
 |_=>False
theorem Kd.bind {α β:Type}{m:Sem α}{f:α->Sem β}(h:Kd m)(hf:∀a,Kd (f a)):Kd (m >>= f):=by
 show Kd (m.bind f)
 induction m<;>first|exact hf _|exact h.elim|exact trivial|skip
 all_goals (rename_i ih;first|exact ih _ h|exact λo=>ih o (h o)|exact⟨h.1,ih _ h.2⟩)
def Le (h h':gv):Prop:=∀b o,h.get? b=some o->∃o',h'.get? b=some o'/\o'.dict=o.dict
theorem Le.refl (h:gv):Le h h:=λ_ o e=>⟨o,e,rfl⟩
theorem Le.trans {h2 h3:gv}(a:Le h1 h2)(b:Le h2 h3):Le h1 h3:=λx o e=>by
 obtain⟨o1,e1,d1⟩:=a x o e;obtain⟨o2,e2,d2⟩:=b x o1 e1;exact⟨o2,e2,d2.trans d1⟩
theorem fH (h:gv)(o:Obj):Le h (h.push o):=λ_ u e=>⟨u,dq _ e,rfl⟩
theorem nL {a:df}{f:Obj->Obj}(hf:∀o,(f o).dict=o.dict/\(f o).isFreed=o.isFreed):Le h (h.update a f):=λb o e=>by
 by_cases hb:b=a
 ·subst hb
  have fr:=(Heap.get?_some_iff.mp e).2;exact⟨f o,i7 f e (by rw[(hf o).2];exact fr),(hf o).1⟩
 ·exact⟨o,(gq _ _ (me hb)).trans e,rfl⟩
theorem Ab7 {α:Type}{Γ:PySem.Ctx}{m:Sem α}:∀{Q:α->Pos->d4->Prop} {E:d0->Pos->d4->Prop} {p:Pos} {s:d4},Kd m->EI M Γ m Q E p s->EI M Γ m (λa p' s'=>Q a p' s'/\Le s.heap s'.heap) E p s:=by
 induction m with
 |pure x=>exact λ_ h=>⟨h,Le.refl _⟩
 |raise v=>exact λ_ h=>h
 |unsupported=>exact λ_ h=>h
 |finish=>exact λ_ h=>h
 |rule _ k ih=>exact λq h=>ih _ q h
 | «at» _ k ih=>exact λq h=>ih _ q h
 |load a _ k ih=>
  intro Q E p s q h;obtain⟨o,ho,h⟩:=h;exact⟨o,ho,ih o (q o) h⟩
 |update a _ f k ih=>
  intro Q E p s q h;obtain⟨ha,h⟩:=h;exact⟨ha,DC _ _ _ (λ_ _ _ z=>⟨z.1,(nL q.1).trans z.2⟩) (λ_ _ _ z=>z) _ _ (ih _ q.2 h)⟩
 |alloc o k ih=>
  intro Q E p s q h;exact DC _ _ _ (λ_ _ _ z=>⟨z.1,(fH _ o).trans z.2⟩) (λ_ _ _ z=>z) _ _ (ih _ (q _) h)
 |loadIfAlive _ k ih=>exact λq h=>ih _ (q _) h
 |point _ k ih=>exact λq h=>ih _ q h
 |fresh k ih=>exact λq h=>ih _ (q _) h
 |ask k ih=>exact λq h=>ih _ (q _) h
 |stack k ih=>exact λq h=>ih _ (q _) h
 |handled _ k ih=>exact λq h=>ih _ (q _) h
 |thread k ih=>exact λq h=>ih _ (q _) h
 |_=>exact λq=>q.elim
theorem Xf {α:Type}{m:Sem α}{Q:α->d4->Prop}{E:Za0}(q:Kd m)(h:wpAny M A m Q E s):wpAny M A m (λa s'=>Q a s'/\Le s.heap s'.heap) E s:=λΓ p hΓ=>Ab7 q (h Γ p hΓ)
theorem Ye (a:df):Kd (load a):=λ_=>trivial
theorem Y2 (v:d0):Kd (fieldsOf v):=by
 unfold fieldsOf;split
 ·exact Kd.bind (Ye _) λo=>by split<;>exact trivial
 ·exact trivial
theorem Oc (v:d0)(i:Nat):Kd (field v i):=Kd.bind (Y2 v) λa=>by split<;>exact trivial
theorem tJ (f:Array d0->Array d0)(o:Obj):(BM f o).dict=o.dict/\(BM f o).isFreed=o.isFreed:=by
 obtain⟨c,d,dt,sl⟩:=o;cases dt<;>exact⟨rfl,rfl⟩
theorem Mo (v:d0)(i:Nat)(x:d0):Kd (setField v i x):=by
 unfold setField;split
 ·unfold updateField
  refine Kd.bind (Ye _) λo=>?_;split
  ·split
   ·exact⟨tJ _,trivial⟩
   ·exact trivial
  ·exact trivial
 ·exact trivial
theorem K7 (e:d0)(f:Option df):Kd (setFlight e f):=by
 unfold setFlight;refine Kd.bind (Oc _ _) λtb=>?_;split
 ·exact Mo _ _ _
 ·exact trivial
theorem eO:∀l:List Env,Kd (readyFrames l)
 |[]=>trivial
 |env::outer=>by
  unfold readyFrames;split
  ·rename_i f hf
   refine Kd.bind (Ye _) λo=>?_;split
   ·exact trivial
   ·refine Kd.bind ?_ λi=>Kd.bind ?_ λb=>⟨λo=>?_,eO outer⟩
    ·unfold behindIsImport
     split
     ·exact trivial
     ·split
      ·exact trivial
      ·exact Kd.bind (Oc _ _) λ_=>trivial
    ·unfold keptBack
     split
     ·split
      ·exact trivial
      ·refine Kd.bind ?_ λ_=>trivial
       unfold underTheClaimsCaller;exact λ_=>trivial
     ·exact trivial
    ·obtain⟨c,d,dt,sl⟩:=o
     cases dt<;>exact⟨rfl,rfl⟩
  ·exact trivial
theorem iO (env:Env):Kd (vj env):=by
 unfold vj;refine Kd.bind (λ_=>trivial) λl=>Kd.bind ?_ λo=>?_
 ·unfold frameObject
  split
  ·exact trivial
  ·exact Kd.bind (eO _) λ_=>trivial
 ·split<;>exact trivial
theorem sU (f:df)(b:Bool):Kd (entryPlaceOf f b):=by
 unfold entryPlaceOf;refine Kd.bind (λ_=>trivial) λl=>?_;split<;>exact trivial
theorem pR (a b c d e:d0)(l:Za3):Kd (qg a b c d e l):=by
 unfold qg newFields;generalize ([a,b,c,d,e]++if l.isEmpty=true then dn 6 k7 else l).toArray=vs;unfold newObj;dsimp only;have as_is:Kd (newObjAsIs (.type "traceback") (.fields vs) none):=Kd.bind (m:=alloc _) (λ_=>trivial) λ_=>trivial;split
 ·exact Kd.bind (m:=unsupported _) trivial λ_=>as_is
 ·exact as_is
theorem jR (e:d0)(env:Env):Kd (noteFrame e env):=by
 unfold noteFrame;have jp:∀(f:df) (head:d0),Kd (do
   let a <-vj env
   let b <-entryPlaceOf f (head != k7)
   let c <-qg head a k7 (rawInt ↑f) k7 b
   setField e 1 c):=λf head=>Kd.bind (iO _) λ_=>Kd.bind (sU _ _) λ_=>Kd.bind (pR _ _ _ _ _ _) λ_=>Mo _ _ _
 split
 ·refine Kd.bind (Oc _ _) λhead=>?_
  dsimp only;split
  ·refine Kd.bind (Oc _ _) λv=>?_
   split
   ·exact trivial
   ·exact Kd.bind (Mo _ _ _) λ_=>jp _ _
  ·exact jp _ _
 ·exact trivial
theorem gN (e:d0)(env:Env):Kd (leaving env e):=Kd.bind (jR _ _) λ_=>K7 _ _
def Xm (B:gv)(l:List Env)(e:df)(cls a0:d0)(od:Option df)(h:gv):Prop:=sk B l e cls a0 h/\∃o,h.get? e=some o/\o.dict=od
def wV (B:gv)(l:List Env)(e:df)(cls a0:d0)(od:Option df)(L:df)(h:gv):Prop:=EB B l e cls a0 L h/\∃o,h.get? e=some o/\o.dict=od
theorem Xm.first {B:gv}{l:List Env}{e:df}{cls a0:d0}(x:Xm B l e cls a0 od h):∃oe vs,h.get? e=some oe/\oe.cls=cls/\oe.data=.fields vs/\oe.dict=od:=by
 obtain⟨f,o,ho,hd⟩:=x;obtain⟨oe,vs,he,hc,hv,_⟩:=f.first;rw[ho] at he;cases he;exact⟨o,vs,ho,hc,hv,hd⟩
section
variable {M:qr} {A:gt} {E:Za0} {s:d4} {B:gv} {env:Env} {outer l:List Env} {L e:df} {cls a0:d0} {od:Option df} {Q:Unit->d4->Prop}
theorem Rz (k:Le h h')(x:∃o,h.get? e=some o/\o.dict=od):∃o,h'.get? e=some o/\o.dict=od:=by
 obtain⟨o,ho,hd⟩:=x;obtain⟨o2,ho2,hd2⟩:=k e o ho;exact⟨o2,ho2,hd2.trans hd⟩
theorem mV (hfr:A.frames=some (env::outer))(hf:env.frame=some L)(fl:Xm B (env::outer) e cls a0 od s.heap)(q:∀h',wV B (env::outer) e cls a0 od L h'->s.heap.UpToSlots h'->Q () { s with heap:=h' }):wpAny M A (noteFrame (.ref e) env) Q E s:=by
 refine ip (Xf (jR _ _) (wpAny_looks_onW (Q:=λ_ s'=>∃h',s'={ s with heap:=h' }/\EB B (env::outer) e cls a0 L h'/\s.heap.UpToSlots h') hfr hf fl.1 λh' f u=>⟨h',rfl,f,u⟩)) (λ_ s' z=>?_) λ_ _ z=>z;obtain⟨⟨h',rfl,f,u⟩,k⟩:=z;exact q h' ⟨f,Rz k fl.2⟩ u
theorem yS (hh:wV B l e cls a0 od L s.heap)(q:∀h',Xm B l e cls a0 od h'->s.heap.UpToSlots h'->Q () { s with heap:=h' }):wpAny M A (setFlight (.ref e) none) Q E s:=by
 refine ip (Xf (K7 _ _) (wpAny_landsW (Q:=λ_ s'=>∃h',s'={ s with heap:=h' }/\sk B l e cls a0 h'/\s.heap.UpToSlots h') hh.1 λh' f u=>⟨h',rfl,f,u⟩)) (λ_ s' z=>?_) λ_ _ z=>z;obtain⟨⟨h',rfl,f,u⟩,k⟩:=z;exact q h' ⟨f,Rz k hh.2⟩ u
theorem xJ (fl:Xm B l e cls a0 od s.heap)(q:∀h',Xm B l e cls a0 od h'->s.heap.UpToSlots h'->Q () { s with heap:=h' }):wpAny M A (setFlight (.ref e) none) Q E s:=by
 refine ip (Xf (K7 _ _) (lands_againW (Q:=λ_ s'=>∃h',s'={ s with heap:=h' }/\sk B l e cls a0 h'/\s.heap.UpToSlots h') fl.1 λh' f u=>⟨h',rfl,f,u⟩)) (λ_ s' z=>?_) λ_ _ z=>z;obtain⟨⟨h',rfl,f,u⟩,k⟩:=z;exact q h' ⟨f,Rz k fl.2⟩ u
theorem Xq {args:Za3}(hfr:A.frames=some (env::outer))(hf:env.frame=some L)(hkb:B.StaysIn h)(hl:h.FunFrames B (env::outer))(hx:AU h s.heap e cls args)
  (q:∀h' t,Xm B outer e cls (.ref t) none h'->s.heap.UpToSlots h'->Q () { s with heap:=h' }):wpAny M A (leaving env (.ref e)) Q E s:=by
 refine ip (Xf (gN _ _) (wpAny_leaves_madeW (Q:=λ_ s'=>∃h' t,s'={ s with heap:=h' }/\sk B outer e cls (.ref t) h'/\s.heap.UpToSlots h') hfr hf hkb hl hx λh' t f _ _ u=>⟨h',t,rfl,f,u⟩)) (λ_ s' z=>?_) λ_ _ z=>z;obtain⟨⟨h',t,rfl,f,u⟩,k⟩:=z;obtain⟨_,he,_⟩:=hx.there;exact q h' t ⟨f,Rz k ⟨_,he,rfl⟩⟩ u
end
structure Aa2 (outer:List Env) (H':Hp) (h h':gv) (e C:df) (od:Option df):Prop where
 new:h.get? e=none
 unt:H' e=none
 fly:∃a0 B,Xm B outer e (.ref C) a0 od h'/\∀b o,h'.get? b=some o->B.get? b=none->b=e\/b∈frs outer\/(h.get? b=none/\H' b=none)
theorem Ee.there {P:fc}{a:df}{o:HO}(x:Ee P w H h a o):∃ob,h.get? a=some ob:=by
 cases o with
 |lst xs=>obtain⟨_,_,_,_,e⟩:=x;exact⟨_,e⟩
 |tup xs=>obtain⟨_,_,_,o,e,_⟩:=x;exact⟨_,e⟩
 |dK kvs=>obtain⟨_,_,_,_,o,_,_,e,_⟩:=x;exact⟨_,e⟩
 |dT kvs=>obtain⟨_,_,_,_,o,_,_,e,_⟩:=x;exact⟨_,e⟩
 |set S n=>obtain⟨o,_,_,_,e,_⟩:=x;exact⟨_,e⟩
 |ins C dx fs=>obtain⟨_,_,_,e,_⟩:=x;exact⟨_,e⟩
 |own y=>exact x
 |xd fs=>obtain⟨_,⟨_,_,_,e,_⟩,_⟩:=x;exact⟨_,e⟩
 |rng lo hi=>obtain⟨_,_,_,e⟩:=x;exact⟨_,e⟩
 |frz ob u=>obtain⟨e,_⟩:=x;exact⟨_,e⟩
 |tbl ps=>exact⟨_,(show h.get? a=some _ from x)⟩
 |met f y=>exact⟨_,(show h.get? a=some _ from x)⟩
 |ext φ=>obtain⟨_,e,_⟩:=x;exact e
def CXE (P:fc)(w:ge):CXT:=λouter H s E ex s'=>∃e C od H',ex=.ref e/\s'.os=s.os/\qh s'.gens/\Un (frs outer) [] H H' s.heap s'.heap/\HOk P w H' s'.heap/\(∀b∈frs outer,H' b=none)/\Aa2 outer H' s.heap s'.heap e C od/\E (.ref C) od H'
theorem kF {P:fc}{w:ge}{H:Hp}{h h':gv}{B:gv}{outer:List Env}{e:df}{n:gv}(ok:HOk P w H h)(st:B.StaysIn h')(he:H e=none)(hf:∀b∈frs outer,H b=none)
  (hB:∀b o,h.get? b=some o->B.get? b=none->b=e\/b∈frs outer\/(n.get? b=none/\H b=none))(hBh:∀b o,B.get? b=some o->h.get? b=some o):HOk P w H h':=λa u ea=>by
 have tr:∀b v,H b=some v->∀o,h.get? b=some o->h'.get? b=some o:=λb v ev o eo=>by
  cases q:B.get? b with
  |some o'=>
   have:=hBh b o' q;rw[eo] at this;cases this;exact st b o q
  |none=>
   rcases hB b o eo q with z|z|z
   ·rw[z,he] at ev;cases ev
   ·rw[hf b z] at ev;cases ev
   ·rw[z.2] at ev;cases ev
 refine(ok a u ea).stay (λb o hb q=>?_) (λ_ q=>q) λ_ _ q=>q;rcases hb with z|z
 ·subst z;exact tr b u ea o q
 ·exact tr b _ z o q
section
variable {P:fc} {w:ge} {K:da} {mg:Za2} {base:gv} {N:Za6} {qual:Str} {scope:kr} {f:df} {cd:d0} {A:gt} {outer:List Env} {HA:d4} {HC:Hp} {E:XK}
theorem vA {G:St}{e:df}{a0:d0}{B h2:gv}{g:Array AH}{d:Drawn}{t:Nat}(I:Inv (E1 CX P w K mg base N qual scope f cd A outer HA HC E) pins G H s)
  (un:Un (frs (E1 CX P w K mg base N qual scope f cd A outer HA HC E).stack) [] H H' s.heap h1)(hok:HOk P w H' h1)(hfr:∀b∈frs (E1 CX P w K mg base N qual scope f cd A outer HA HC E).stack,H' b=none)(hg:qh g)
  (hn:s.heap.get? e=none)(hu:H' e=none)(hB:∀b o,h1.get? b=some o->B.get? b=none->b=e\/b∈frs (E1 CX P w K mg base N qual scope f cd A outer HA HC E).stack\/(s.heap.get? b=none/\H' b=none))(hBh:B.StaysIn h1)
  (fl:Xm B outer e (.ref C) a0 od h2)(up:h1.UpToSlots h2)(q:E (.ref C) od H'):CXE P w outer HC HA E (.ref e) { s with heap:=h2,gens:=g,drawn:=d,toks:=t }:=by
 have hBst:B.StaysIn h2:=fl.1.1;have st:∀b,b∈frs (E1 CX P w K mg base N qual scope f cd A outer HA HC E).stack->b=HA.heap.objs.size\/b∈frs outer:=λb hb=>by
  rcases fu.mp (I.stkSub b hb) with z|z
  ·exact .inl z
  ·exact .inr z
 have so:∀b,b∈frs outer->b∈frs (E1 CX P w K mg base N qual scope f cd A outer HA HC E).stack:=λb hb=>gy _ hb;have neL:∀b o,HA.heap.get? b=some o->b≠HA.heap.objs.size:=λb o z=>fk (d3 z);have inS:∀b o,HA.heap.get? b=some o->∃o',s.heap.get? b=some o':=λb o z=>I.base.there b o z (by intro y;cases y);have in1:∀b o,s.heap.get? b=some o->∃o',h1.get? b=some o':=λb o z=>un.there b o z (by simp);have fz:∀b∈frs (E1 CX P w K mg base N qual scope f cd A outer HA HC E).stack,∀o,h1.get? b=some o->∃sl,h2.get? b=some { o with slots:=sl }:=λb hb o z=>by
  refine up b o z λvs y=>?_;obtain⟨_,o',ho',hd⟩:=I.stack.mem hb;obtain⟨sl,z2⟩:=un.any ho' (I.stkFree b hb) (by simp);rw[z] at z2;cases z2;exact hd vs y
 have keep1:∀b o,s.heap.get? b=some o->h1.get? b=some o->b∉frs (E1 CX P w K mg base N qual scope f cd A outer HA HC E).stack->h2.get? b=some o:=λb o z z1 nf=>by
  cases y:B.get? b with
  |some o'=>
   have:=hBh b o' y;rw[z1] at this;cases this;exact hBst b o y
  |none=>
   rcases hB b o z1 y with r|r|r
   ·rw[r,hn] at z;cases z
   ·exact absurd r nf
   ·rw[r.1] at z;cases z
 refine⟨e,C,od,H',rfl,I.os,hg,⟨λb o z n nf _=>?_,λb o z n nf _=>?_,λb o z n _=>?_,λb o z _=>?_,λb xs z=>un.tups b xs (I.base.tups b xs z),λb o u z=>un.frzs b o u (I.base.frzs b o u z),λb ps z=>?_⟩,?_,λb hb=>hfr b (so b hb),⟨?_,hu,a0,B,fl,λb o z y=>?_⟩,q⟩
 ·have z1:=I.base.keep b o z n nf (by intro y;cases y)
  have n1:=I.base.free b o z n (by intro y;cases y);have nf1:b∉frs (E1 CX P w K mg base N qual scope f cd A outer HA HC E).stack:=λy=>(st b y).elim (neL b o z) nf;exact keep1 b o z1 (un.keep b o z1 n1 nf1 (by simp)) nf1
 ·obtain⟨sl,z1⟩:=I.base.slot b o z n nf (by intro y;cases y)
  have n1:=I.base.free b o z n (by intro y;cases y);obtain⟨sl2,z2⟩:=un.any z1 n1 (by simp);obtain⟨sl3,z3⟩:=fz b (so b nf) _ z2;exact⟨sl3,z3⟩
 ·obtain⟨o',z1⟩:=inS b o z
  exact un.free b o' z1 (I.base.free b o z n (by intro y;cases y)) (by simp)
 ·obtain⟨o1,z1⟩:=inS b o z
  obtain⟨o2,z2⟩:=in1 b o1 z1
  cases y:B.get? b with
  |some o'=>exact⟨o',hBst b o' y⟩
  |none=>
   rcases hB b o2 z2 y with r|r|r
   ·rw[r,hn] at z1;cases z1
   ·obtain⟨sl,z3⟩:=fz b r o2 z2
    exact⟨_,z3⟩
   ·rw[r.1] at z1;cases z1
 ·obtain⟨m1,e1⟩:=I.base.tbls b ps z
  obtain⟨m2,e2⟩:=un.tbls b _ e1;exact⟨m1++m2,by rw[e2,rn]⟩
 ·exact kF (n:=s.heap) (e:=e) (outer:=(E1 CX P w K mg base N qual scope f cd A outer HA HC E).stack) hok hBst hu hfr hB hBh
 ·cases y:HA.heap.get? e with
  |none=>rfl
  |some o=>
   obtain⟨o',z⟩:=inS e o y;rw[hn] at z;cases z
 ·cases y1:h1.get? b with
  |none=>
   refine .inr (.inr ⟨?_,?_⟩)
   ·cases y2:HA.heap.get? b with
    |none=>rfl
    |some o0=>
     obtain⟨o1,z1⟩:=inS b o0 y2;obtain⟨o2,z2⟩:=in1 b o1 z1;rw[y1] at z2;cases z2
   ·cases y2:H' b with
    |none=>rfl
    |some v=>
     have:=(hok b v y2).there;obtain⟨o2,z2⟩:=this;rw[y1] at z2;cases z2
  |some o1=>
   rcases hB b o1 y1 y with r|r|r
   ·exact .inl r
   ·rcases st b r with r2|r2
    ·refine .inr (.inr ⟨?_,hfr b r⟩)
     cases y2:HA.heap.get? b with
     |none=>rfl
     |some o0=>exact absurd r2 (neL b o0 y2)
    ·exact .inr (.inl r2)
   ·refine .inr (.inr ⟨?_,r.2⟩)
    cases y2:HA.heap.get? b with
    |none=>rfl
    |some o0=>
     obtain⟨o1,z1⟩:=inS b o0 y2;rw[r.1] at z1;cases z1
theorem fU (hCX:CX=CXE P w){G:St}{e:df}(I:Inv (E1 CX P w K mg base N qual scope f cd A outer HA HC E) pins G H s)
  (mx:AU s.heap h1 e (.ref C) vs)(q:E (.ref C) none H):(E1 CX P w K mg base N qual scope f cd A outer HA HC E).xe (.ref e) { s with heap:=h1 }:=by
 subst hCX;show wpAny (model P w) (A.deeper (envOfC qual scope HA.heap.objs.size f cd)) (leaving (envOfC qual scope HA.heap.objs.size f cd) (.ref e)) _ _ _;have hin:∀env∈(E1 (CXE P w) P w K mg base N qual scope f cd A outer HA HC E).stack,∀b,env.frame=some b->b∈frs (E1 (CXE P w) P w K mg base N qual scope f cd A outer HA HC E).stack:=λenv he b hb=>rq.mpr ⟨env,he,hb⟩;refine Xq (L:=HA.heap.objs.size) (s:={ s with heap:=h1 }) (B:=sw s.heap (frs (E1 (CXE P w) P w K mg base N qual scope f cd A outer HA HC E).stack)) I.ok.frames rfl (λb o z=>qx _ z) (PySem.W.funFrames_hide I.stack hin) mx λh2 tt fl2 up=>?_;have hBh:(sw s.heap (frs (E1 (CXE P w) P w K mg base N qual scope f cd A outer HA HC E).stack)).StaysIn h1:=λb o z=>mx.keeps b o (qx _ z);refine vA (s:=s) (g:=s.gens) (d:=s.drawn) (t:=s.toks) I (Un.kept mx.keeps) (I.hok.kept mx.keeps) I.stkFree I.bare mx.new ?_ (λb o z y=>?_) hBh fl2 up q
 ·cases y:H e with
  |none=>rfl
  |some v=>
   obtain⟨o,z⟩:=(I.hok e v y).there;rw[mx.new] at z;cases z
 ·by_cases hf:b∈frs (E1 (CXE P w) P w K mg base N qual scope f cd A outer HA HC E).stack
  ·exact .inr (.inl hf)
  ·cases z2:s.heap.get? b with
   |some o2=>
    rw[ww _ z2 hf] at y;cases y
   |none=>
    refine .inr (.inr ⟨rfl,?_⟩)
    cases y2:H b with
    |none=>rfl
    |some v=>
     obtain⟨o,z3⟩:=(I.hok b v y2).there;rw[z2] at z3;cases z3
end
abbrev tG:Za3:=[.type "ValueError",.type "Exception",.type "BaseException",.type "object"]
structure Exc (K:da) (mg:Za2) (x:Str) (C:df):Prop where
 at_:mg x=some (.ref C)
 ex:excIn K C tG "ValueError.__new__"=true
theorem vD {K:da}{bB:Za3}{nid:String}(X:K.In h)(q:excIn K C bB nid=true) :
  ∃bm N nm qn bs hdct sn sub ab col dd k0 k1 k2 k3 k5 mN,h.get? C=some (excClassObj nm qn C N bs bm hdct sn sub ab col dd k0 k1 k2 k3 k5 nid)/\h.Ns N mN/\mN "__init__"=none/\OwnTail h bB bm:=by
 unfold excIn at q;split at q
 case h_2=>exact z4 q
 case h_1 d1 c1 l1 look=>
  split at q
  case h_2=>exact z4 q
  case h_1 C2 m2 r0 r1 r2 r3 nn r5 eqm eqs=>
   simp only[ly,beq_iff_eq,Bool.not_eq_true'] at q;obtain⟨⟨⟨⟨⟨w1,w2⟩,w3⟩,w4⟩,w5⟩,w6⟩:=q;subst w1 w2;obtain⟨x1,x2,x3,x4,x5,x6,x7,x8,x9,x10,x11⟩:=c1;dsimp only at eqm w3 w5 w6;subst eqm w3;have l2:l1=#[r0,r1,r2,r3,some (.builtin nn),r5]:=by
    have:=congrArg List.toArray eqs
    simpa using this
   subst l2;exact⟨m2,x4,x1,x5,x2,x6,x7,x8,x9,x10,d1,r0,r1,r2,r3,r5,h.nsMap x4,X _ _ look,.of_isNs (PySem.W.isNs_of_in X w5),PySem.W.nsMap_none_of_in X w5 w6,PySem.W.tail_of_in X w4⟩
theorem nK {l:Za3}(t:OwnTail h tG l):l.contains (.type "BaseException")=true:=by
 induction t with
 |base=>decide
 |own _ _ _ _ ih=>rw[List.contains_cons,ih,Bool.or_true]
def zP (C:df)(E:XK)(t:TA):TS:=λ_ G H=>t G H λvs H1=>vs.length<=sizeLine/\E (.ref C) none H1
section
variable {P:fc} {w:ge} {K:da} {mg:Za2} {base:gv} {N:Za6} {qual:Str} {scope:kr} {f:df} {cd:d0} {A:gt} {outer:List Env} {HA:d4} {HC:Hp} {E:XK}
theorem qN {x:Str}{np cpos:Pos}{a:gd}{as:List gd}{t:TA}(X:Exc K mg x C)(hg:Gl (E1 (CXE P w) P w K mg base N qual scope f cd A outer HA HC E) x)(ha:PA (E1 (CXE P w) P w K mg base N qual scope f cd A outer HA HC E) (a::as) t)
  (hdb:autoParam ((x==("__debug__":Str))=false) QF)
  (he:autoParam (starEach (a::as) (E1 (CXE P w) P w K mg base N qual scope f cd A outer HA HC E).env=(false,eval a (E1 (CXE P w) P w K mg base N qual scope f cd A outer HA HC E).env)::starEach as (E1 (CXE P w) P w K mg base N qual scope f cd A outer HA HC E).env) QD)
  (hpl:autoParam ((backTo cpos (starEach as (E1 (CXE P w) P w K mg base N qual scope f cd A outer HA HC E).env)).any (·.1)=false) QD) :
  PS (E1 (CXE P w) P w K mg base N qual scope f cd A outer HA HC E) (.Raise (some (.Call (.Name x np) (a::as) [] cpos)) none pos) (zP C E t):=by
 k_end;obtain⟨bm,Nn,nm,qn,bs,hdct,sn,sub,ab,col,dd,k0,k1,k2,k3,k5,mN,hC,hN,hni,hT⟩:=vD I.ok.mod.kin X.ex;refine wpAny_Raise_call_subT (C:=C) (N:=Nn) (nm:=nm) (q:=qn) (bs:=bs) (bm:=bm) (hdct:=hdct) (sn:=sn) (sub:=sub) (ab:=ab) (col:=col) (dd:=dd) (k0:=k0) (k1:=k1) (k2:=k2) (k3:=k3) (k5:=k5) (mN:=mN) F.excBase_ValueError (nK hT) (I.ok.hd rfl) ?_ hni ?_
 ·rw[he]
  show((false||(backTo cpos (starEach as _)).any (·.1)))=false;rw[hpl];rfl
 ·refine La I hg X.at_ ⟨rfl,?_⟩ hdb
  have hs:=ha cpos pins s G H _ I h;rw[he] at hs ⊢;refine xn (thn hs λus s1 ⟨vs,H1,I1,r,hl,q⟩=>⟨rfl,?_,I1.bk _ _ hC,hN.keeps I1.bk,hT.keeps I1.bk,λh1 e mx=>?_⟩)
  ·have:=r.length
   show us.length<=sizeLine;lia
  ·exact fU rfl I1 mx q
end
def Cx.re (X:Cx)(A':gt)(c:Bool)(xe':Za0):Cx:={ X with A:=A',calm:=c,xe:=xe' }
section
variable {X:Cx} {pins:Za1} {G:St} {H:Hp} {s:d4} {A':gt} {c:Bool} {xe':Za0}
theorem Inv.re (I:Inv X pins G H s)(hf:A'.frames=some X.stack)(hh:c=true->A'.handled=none):Inv (X.re A' c xe') pins G H s:=
 ⟨⟨I.ok.mod,I.ok.kind,I.ok.glob,I.ok.blt,I.ok.above,I.ok.inj,I.ok.has,I.ok.cab,hh,hf,I.ok.stk,I.ok.exf,I.ok.bs,I.ok.bsz,I.ok.noex,I.ok.exfs,I.ok.funs,I.ok.frf⟩,I.os,I.bare,I.base,I.loc,I.cell,I.free,I.freeC,I.pin,I.hok,I.len⟩
theorem Inv.unre (ok:X.Ok)(I:Inv (X.re A' c xe') pins G H s):Inv X pins G H s:=⟨ok,I.os,I.bare,I.base,I.loc,I.cell,I.free,I.freeC,I.pin,I.hok,I.len⟩
end
section
variable {X:Cx} {pins:Za1} {G:St} {H H':Hp} {s s':d4} {e C:df} {B h1 h2:gv}
theorem tL (I:Inv X pins G H s)(un:Un (frs X.stack) [] H H' s.heap h1)(hB:∀b o,h1.get? b=some o->B.get? b=none->b=e\/b∈frs X.stack\/(s.heap.get? b=none/\H' b=none))(hBh:B.StaysIn h1)(st:B.StaysIn h2)(up:h1.UpToSlots h2)
  (hn:s.heap.get? e=none):Un (frs X.stack) [] H H' s.heap h2:=by
 have fz:∀b∈frs X.stack,∀o,h1.get? b=some o->∃sl,h2.get? b=some { o with slots:=sl }:=λb hb o z=>by
  refine up b o z λvs y=>?_;obtain⟨_,o',ho',hd⟩:=I.stack.mem hb;obtain⟨sl,z2⟩:=un.any ho' (I.stkFree b hb) (by simp);rw[z] at z2;cases z2;exact hd vs y
 refine⟨λb o z n nf nx=>?_,λb o z n nf nx=>?_,un.free,λb o z nx=>?_,un.tups,un.frzs,un.tbls⟩
 ·have z1:=un.keep b o z n nf nx
  cases y:B.get? b with
  |some o'=>
   have:=hBh b o' y;rw[z1] at this;cases this;exact st b o y
  |none=>
   rcases hB b o z1 y with r|r|r
   ·rw[r,hn] at z;cases z
   ·exact absurd r nf
   ·rw[r.1] at z;cases z
 ·obtain⟨sl,z1⟩:=un.slot b o z n nf nx
  obtain⟨sl2,z2⟩:=fz b nf _ z1;exact⟨sl2,z2⟩
 ·obtain⟨o1,z1⟩:=un.there b o z nx
  cases y:B.get? b with
  |some o'=>exact⟨o',st b o' y⟩
  |none=>
   rcases hB b o1 z1 y with r|r|r
   ·rw[r,hn] at z;cases z
   ·obtain⟨sl,z3⟩:=fz b r o1 z1
    exact⟨_,z3⟩
   ·rw[r.1] at z;cases z
def Vw (e C:df)(od:Option df)(h:gv):Prop:=∃o vs,h.get? e=some o/\o.cls=.ref C/\o.data=.fields vs/\o.dict=od
def rJ (e C:df)(od:Option df):HO:=.ext (Vw e C od)
theorem Y0 {h2:gv}(x:Vw e C od h1)(k:∀o,h1.get? e=some o->h2.get? e=some o):Vw e C od h2:=let ⟨o,vs,e1,r⟩:=x;⟨o,vs,k o e1,r⟩
theorem Inv.track (I0:Inv X pins G H s)(hex:X.ex=[])(hn0:s.heap.get? e=none)(I:Inv X pins G H' s')(hu:H' e=none)(he:Vw e C od s'.heap):Inv X pins G (upd H' e (rJ e C od)) s':=by
 have nl:X.env.locals≠e:=λz=>by
  obtain⟨m,⟨o,_,_,ho,_⟩,_⟩:=I0.loc;rw[z,hn0] at ho;cases ho
 have nc:∀x c,X.env.cells.lookup x=some c->c≠e:=λx c q z=>by
  obtain⟨v,o,ho,_⟩:=I0.cell x c q;rw[z,hn0] at ho;cases ho
 have np:∀p∈X.pn++pins,p.1≠e:=λp hp z=>by
  have:=(I0.pin p hp).1;rw[z,hn0] at this;cases this
 have n0:∀b o,X.HA.heap.get? b=some o->b≠e:=λb o q z=>by
  subst z;obtain⟨o',q'⟩:=I0.base.there b o q (by rw[hex];simp);rw[hn0] at q';cases q'
 have nt:∀{b:df} {u:HO},H' b=some u->b≠e:=λq=>Af q hu;refine⟨I.ok,I.os,I.bare,⟨I.base.keep,I.base.slot,λb o q n nx=>?_,I.base.there,λb xs q=>?_,λb o u q=>?_,λb ps q=>?_⟩,I.loc,I.cell,?_,λx c q=>?_,λp hp=>?_,λb u q=>?_,I.len⟩
 ·rw[Ai (n0 b o q)];exact I.base.free b o q n nx
 ·have:=I.base.tups b xs q;rw[Ai (nt this)];exact this
 ·have:=I.base.frzs b o u q;rw[Ai (nt this)];exact this
 ·obtain⟨m,q'⟩:=I.base.tbls b ps q;exact⟨m,by rw[Ai (nt q')];exact q'⟩
 ·rw[Ai nl];exact I.free
 ·rw[Ai (nc x c q)];exact I.freeC x c q
 ·obtain⟨q1,q2,q3⟩:=I.pin p hp
  exact⟨q1,by rw[Ai (np p hp)];exact q2,q3⟩
 ·by_cases hb:b=e
  ·subst hb
   rw[Ac] at q;cases q;obtain⟨o,vs,he1,r⟩:=id he;exact⟨he,⟨o,he1⟩,λh1 h2 x k=>Y0 x k⟩
  ·rw[Ai hb] at q
   exact(I.hok b u q).stay (λ_ _ _ z=>z) (λc z=>by rw[Ai (nt z)];exact z) λc xs z=>by rw[Ai (nt z)];exact z
theorem Mz {E:Za0}{n:Str}{i:Nat}{Q:Unit->d4->Prop}(I:Inv X pins G H s)(hN:X.N.Nodup)(hi:X.N[i]?=some n)(hl:X.env.kindOf n=some .local)
  (h:∀s',Inv X pins (G.set i none) H s'->Q () s'):wpAny M A (do bindName X.env n .none;unbindBehindTheSuite X.env n pos) Q E s:=by
 obtain⟨m,hn,hlk⟩:=id I.loc;have hcls:(X.env.scope.kind==.class||(X.env.scope.kind==.module&&X.env.locals != X.env.globals))=false:=by rw[I.ok.kind];rfl
 have HQ:i<G.length:=by rw[I.len];exact(d6.mp hi).1
 have cne:=I.cne;refine wpAny_nameGoes_keeps hl hn hcls λh' v hn' hs=>?_;have old:∀b o,X.HA.heap.get? b=some o->b≠X.env.locals:=λb o q=>fk (dw (d3 q) I.ok.above);refine h _ ⟨I.ok,I.os,I.bare,⟨λb o q n nf nx=>?_,λb o q n nf nx=>?_,I.base.free,λb o q nx=>?_,I.base.tups,I.base.frzs,I.base.tbls⟩,⟨_,hn',λj y v' e1 e2 e3=>?_⟩,λy c q=>?_,I.free,I.freeC,λp hp=>?_,λb u q=>?_,by simpa using I.len⟩
 ·exact(hs.2 b (old b o q)).trans (I.base.keep b o q n nf nx)
 ·obtain⟨sl,z⟩:=I.base.slot b o q n nf nx
  exact⟨sl,(hs.2 b (old b o q)).trans z⟩
 ·obtain⟨o',z⟩:=I.base.there b o q nx
  exact⟨o',(hs.2 b (old b o q)).trans z⟩
 ·by_cases hj:j=i
  ·subst hj
   rw[qf HQ] at e2;cases e2
  ·rw[qv (me hj)] at e2
   obtain⟨u',r',q⟩:=hlk j y v' e1 e2 e3;refine⟨u',r',?_⟩;rcases q with⟨k,z⟩|⟨k,c,z,z2⟩
   ·refine .inl ⟨k,?_⟩
    have:y≠n:=λw=>hj (Sc hN e1 (w▸hi));simp[this,z]
   ·exact .inr ⟨k,c,z,z2.sameBut hs (cne y c z)⟩
 ·obtain⟨w',z⟩:=I.cell y c q
  exact⟨w',z.sameBut hs (cne y c q)⟩
 ·obtain⟨q1,q2,q3,q4,q5⟩:=I.pin p hp
  exact⟨(hs.2 p.1 q3).trans q1,q2,q3,q4,q5⟩
 ·refine(I.hok b u q).stay (λc w' hc z=>(hs.2 c ?_).trans z) (λ_ z=>z) λ_ _ z=>z
  rintro rfl;rcases hc with hc|hc
  ·rw[<-hc,I.free] at q;cases q
  ·rw[I.free] at hc;cases hc
end
def xE (X:Cx)(pins:Za1)(G:St)(st:List gm)(t:TS):Prop:=∀(s:d4) (H:Hp) (D:Jg),Inv X pins G H s->t D G H->wpAny (model X.prog X.w) X.A (execs st X.env) (SP X pins D) X.xe s
def Aan (X:Cx)(pins:Za1)(G:St)(st:gm)(t:TS):Prop:=∀(s:d4) (H:Hp) (D:Jg),Inv X pins G H s->t D G H->wpAny (model X.prog X.w) X.A (exec st X.env) (SP X pins D) X.xe s
def Abu (X:Cx)(pins:Za1)(G:St)(e:gd)(t:TE):Prop:=∀(s:d4) (H:Hp) (Q:VK),Inv X pins G H s->t G H Q->wpAny (model X.prog X.w) X.A (eval e X.env) (EP X pins G Q) X.xe s
def gS (CX:CXT)(X:Cx)(pins:Za1)(G:St)(E:XK):Prop:=∀(H:Hp) (s:d4) (e:d0) (s':d4),Inv X pins G H s->CX X.stack H s E e s'->X.xe e s'
section
variable {X:Cx} {pins:Za1} {G:St} {pos:Pos} {e:gd} {te:TE} {t u:TS}
theorem gW (he:Abu X pins G e te)(hs:autoParam (swapsWith e none pos.line X.env=pure false) QD):Aan X pins G (.Expr e pos) (sO te):=by
 intro s H D I h;exact wpAny_Expr_any (thn (he s H _ I h) λv s1 ⟨x,H1,I1,r1,q1⟩=>⟨G,H1,I1,q1⟩) I.quiet hs
theorem iG (h1:Aan X pins G st t):xE X pins G [st] t:=by
 intro s H D I h;refine wpAny_execs_cons (thn (h1 s H D I h) λf s1 q=>?_)
 cases f with
 |next=>exact mv q
 |brk=>exact q
 |cont=>exact q
 |ret v=>exact q
end
theorem tH {P:fc}:Ja (CXE P w) X E0:=λ_ _ _ _ _ _ _ h=>by
 obtain⟨_,_,_,_,_,_,_,_,_,_,_,z⟩:=h;exact z.elim
structure sW (P:fc) (w:ge) (K:da) (mg:Za2) (base:gv) (C:df) (m:Str) (k:Nat) (ps:Za6) (sp:Sp):Prop where
 ex:∃(f:df) (fd:io),Ba P w K mg base (CXE P w) k f fd ps sp/\Ge K fd ps []/\nG K C m f
 cl:Cls K C
section
variable {X:Cx} {k:Nat} {C:df} {ps:Za6} {sp:Sp} {name m:Str} {p pos apos:Pos} {e o:gd} {es:List gd} {ta:TE} {t:TA} {pl:Sem Bool} {E:XK} {pins:Za1} {G:St} {CX:CXT} {f:df} {fd:io}
theorem Ada (M:sW X.prog X.w X.K X.mg X.base C m k ps sp)(hr:Ck k X.A)(hx:Ja (CXE X.prog X.w) X E)(ho:PE X o ta)(ha:PA X (e::es) t)
  (hst:autoParam (starEach (e::es) X.env=(false,eval e X.env)::starEach es X.env) QD)(hpl:autoParam ((backTo pos (starEach es X.env)).any (·.1)=false) QD)
  (ht:autoParam (eval (.Call (.Attribute o m apos) (e::es) [] pos) X.env=(do
   let ov <-eval o X.env
   standAt apos.atName
   let (f,first) <-holding [ov] (getMethod ov m pl)
   callWith pos f first (backTo pos (starEach (e::es) X.env)) (backToKw pos (keywordEach [] X.env)))) QD) :
  PE X (.Call (.Attribute o m apos) (e::es) [] pos) (P8 C m sp [] E ta t):=by
 obtain⟨f,fd,F,b,hm⟩:=M.ex;exact jC ho M.cl hm F hr b .nil hx ha hst hpl ht
theorem jL (M:sW X.prog X.w X.K X.mg X.base C m k ps sp)(hr:Ck k X.A)(hx:Ja (CXE X.prog X.w) X E)(ho:PE X o ta)
  (ht:autoParam (eval (.Call (.Attribute o m apos) [] [] pos) X.env=(do
   let ov <-eval o X.env
   standAt apos.atName
   let (f,first) <-holding [ov] (getMethod ov m pl)
   callWith pos f first (backTo pos (starEach [] X.env)) (backToKw pos (keywordEach [] X.env)))) QD) :
  PE X (.Call (.Attribute o m apos) [] [] pos) (P8 C m sp [] E ta T7):=by
 obtain⟨f,fd,F,b,hm⟩:=M.ex;exact Z6 ho M.cl hm F hr b .nil hx ht
theorem yO {Q:VK}{vs:List V}(F:Ba X.prog X.w X.K X.mg X.base CX k f fd ps sp)(hr:Ck k X.A)(hb:Ge X.K fd ps [])(hx:gS CX X pins G E)(I:Inv X pins G H s)(r:Bj vs us)(h:sp (vs++[]) H Q E) :
  wpAny (model X.prog X.w) X.A (call (.ref f) us) (EP X pins G Q) X.xe s:=by
 have r2:Bj (vs++[]) (us++[]):=r.append .nil;have hl:(us++[]).length=ps.length:=by rw[<-r2.length];exact F.len _ _ _ _ h
 refine oy (lq (F.run X.A X.stack s H ⟨us,[]⟩ (us++[]) (vs++[]) Q E hr I.env0 (hb s us I.kIn hl) r2 h) λr s' hq=>?_)
 cases r with
 |error e=>exact hx H s e s' I hq
 |ok fl=>
  cases fl with
  |ret u=>exact I.after hq
  |next=>exact hq.elim
  |brk=>exact hq.elim
  |cont=>exact hq.elim
end
def xA (X:Cx)(E:XK)(pins:Za1)(G:St):Za0:=λex s1=>∃H0 s0,Inv X pins G H0 s0/\CXE X.prog X.w X.stack H0 s0 E ex s1
theorem mC {E:XK}{G:St}:gS (CXE X.prog X.w) (X.wish (xA X E pins G)) pins G E:=λH s e s' I h=>⟨H,s,I.unwish,h⟩
def Ac9 (K:da)(i:Nat)(C0:d0)(tb:XK->TS)(th:TS):TS:=λD G H=>∃E:XK,tb E D G H/\∀C od H' e,E (.ref C) od H'->H' e=none->ui K (.ref C) C0=some true /\
 th { nx:=λmt H2=>D.nx (mt.set i none) H2,rt:=D.rt,bk:=λmt H2=>D.bk (mt.set i none) H2,ct:=λmt H2=>D.ct (mt.set i none) H2 } (G.set i (some (.ref e))) (upd H' e (rJ e C od))
section
variable {X:Cx} {i:Nat} {n x:Str} {C0:d0} {np hpos pos:Pos} {body suite:List gm} {b0:gm} {tb:XK->TS} {th:TS}
theorem P7 {v:Za7}:(A.mark v).frames=A.frames:=rfl
theorem yD (hst:X.stack=X.env::X.outer)(hfr:X.env.frame=some X.env.locals)(hex:X.ex=[])(hN:X.N.Nodup)(hi:X.N[i]?=some n)(hl:X.env.kindOf n=some .local)(hg:Gl X x)(hm:X.mg x=some C0)
  (hb:∀E pins G,xE (X.wish (xA X E pins G)) pins G body (tb E))(hs:∀e,PSs (X.re (X.A.mark (some (.ref e))) false λ_ _=>False) (b0::suite) th)(hdb:autoParam ((x==("__debug__":Str))=false) QF) :
  PS X (.Try body [.ExceptHandler (some (.Name x np)) (some n) (b0::suite) hpos] [] [] pos) (Ac9 X.K i C0 tb th):=by
 k_end;obtain⟨E,hb1,hh⟩:=h;refine wpAny_Try_except (ip (hb E pins G s H D (I.wish _) hb1) (λf s1 q=>?_) λex s1 q=>?_)
 ·have q:=q.unwish
  cases f with
  |next=>exact mv q
  |brk=>exact q
  |cont=>exact q
  |ret v=>exact q
 ·obtain⟨H0,s0,I0,e,C,od,H',rfl,ho,hgn,un,hok,hfree,⟨hn,hu,a0,B,fl,hB⟩,hE⟩:=q
  have fl':=fl;rw[hst] at fl';refine mV (by rw[I.ok.frames,hst]) hfr fl' λh4 held4 up4=>?_;refine yS held4 λh5 fl5 up5=>?_;have inv:∀h6,B.StaysIn h6->s1.heap.UpToSlots h6->Inv X pins G H' { s1 with heap:=h6 }:=λh6 st up=>
   I0.call' (s':={ s1 with heap:=h6 }) (ch:=[]) ho (tL I0 un hB fl.1.1 st up hn) (kF (n:=s0.heap) (e:=e) (outer:=X.stack) hok st hu hfree hB fl.1.1) hgn (λb z=>absurd z (by simp))
  have I5:=inv h5 fl5.1.1 (up4.trans up5);refine wpAny_handleBy_cons (codeAny_handlers_test ?_) (by intro q;cases q);refine La (X:=X.re (X.A.mark (some (.ref e))) false λ_ _=>False) (I5.re (by rw[P7];exact I.ok.frames) (by intro z;cases z)) hg hm ?_ hdb;obtain⟨hx,hth⟩:=hh C od H' e hE hu;have LT:PySem.W.Looks (model X.prog X.w) h5 (typeOf (.ref e)) (.ref C):=by
   obtain⟨ob,hob,hc⟩:=fl5.1.there;exact hc▸(BV hob).andThen .now
  refine(PySem.W.exm_one I5.kIn LT hx).here ?_;refine codeAny_handlers_suite_as ?_;refine xJ fl5 λh6 fl6 up6=>?_;have I6:=inv h6 fl6.1.1 ((up4.trans up5).trans up6);obtain⟨oe,ws,hoe,hoec,hoed,hodd⟩:=fl6.first;have I6t:=Inv.track I0 hex hn I6 hu ⟨oe,ws,hoe,hoec,hoed,hodd⟩;have I6m:Inv (X.re (X.A.mark (some (.ref e))) false λ_ _=>False) pins G (upd H' e (rJ e C od)) { s1 with heap:=h6 }:=I6t.re (by rw[P7];exact I.ok.frames) (by intro z;cases z);refine Nz (X:=X.re (X.A.mark (some (.ref e))) false λ_ _=>False) (v:=.ref e) I6m hN hi (.inl hl) rfl (λs7 I7=>?_) (.inr hl);refine ip (hs e pins s7 _ _ _ I7 hth) (λf s8 q8=>?_) (λ_ _ z=>z.elim)
  cases f with
  |next=>
   obtain⟨HP,H8,I8,q⟩:=q8;exact Mz (I8.unre I.ok) hN hi hl λs9 I9=>⟨_,H8,I9,q⟩
  |brk=>
   obtain⟨HP,H8,I8,q⟩:=q8;exact Mz (I8.unre I.ok) hN hi hl λs9 I9=>⟨_,H8,I9,q⟩
  |cont=>
   obtain⟨HP,H8,I8,q⟩:=q8;exact Mz (I8.unre I.ok) hN hi hl λs9 I9=>⟨_,H8,I9,q⟩
  |ret v=>
   obtain⟨v8,HP,H8,I8,r8,q⟩:=q8;exact Mz (I8.unre I.ok) hN hi hl λs9 I9=>⟨v8,_,H8,I9,r8,q⟩
end
section
variable {P:fc} {w:ge} {K:da} {mg:Za2} {base:gv}
theorem Fun.okE {x:Str}{f:df}{k:Nat}(F:Fun K x qual st f fd)(S:Al N ps (Ae st))(len:∀vs H Q E,sp vs H Q E->vs.length=ps.length)
  (hbody:∀(cdv:d0) (A:gt) (outer:List Env) (s:d4) (H:Hp) (vs:List V) (Q:VK) (E:XK),Ck k (A.deeper (envOfC qual (Ae st) s.heap.objs.size f cdv))->sp vs H Q E ->
   ∃t,PSs (E1 (CXE P w) P w K mg base N qual (Ae st) f cdv A outer s H E) (Ch st) t/\t { nx:=λ_ H'=>Q .non H',rt:=Q } (Nc N vs) H):Ba P w K mg base (CXE P w) (k+1) f fd ps sp:=by
 obtain⟨oc,od,kV,doc,pm,an,cdv,ct,osl,rfl,lk,hcd⟩:=F.ex;exact qC lk hcd S len λA outer s H vs Q E hr hsp=>hbody cdv A outer s H vs Q E hr hsp
end
theorem jJ (K:da)(h:autoParam (X.K=K) QD):IxR X (zY K):=by
 subst h;exact Mp
theorem Hv (K:da)(h:autoParam (X.K=K) QD):IxR X (xQ K):=by
 subst h;exact Ap
open PySem.W Builtin.Getset_descriptor
structure Zk (K:da) (D:df):Prop where
 ga:findIn K (.ref D) "__getattribute__"=some (some (.builtin "BaseException.__getattribute__"))
 gx:findIn K (.ref D) "__getattr__"=some none
 ca:findIn K (.ref D) "__class__"=some (some (.builtin "object.__class__"))
 sp:specialIn K (.builtin "object.__class__") "__get__"=some (some (.builtin "getset_descriptor.__get__"))
 tk:takesIn K (.builtin "object.__class__")=some true
 mo:mroIn K D (.type "object")=some true
 mb:mroIn K D (.type "BaseException")=some true
theorem Zk.cl {K:da}{D:df}(Z:Zk K D):(clsIn K D).isSome=true:=by
 obtain⟨cd,a,_⟩:=Option.bind_eq_some_iff.mp Z.mo;rw[a];rfl
section
variable {prog:fc} {w:ge} {A:gt} {E:Za0} {s:d4} {K:da} {x D:df} {ox:Obj} {od0:Option Obj} {od:Option df}
theorem pL (Z:Zk K D)(X:K.In h):Looks M h (zz (.ref x) (.ref D) "__class__") (.bind (.builtin "getset_descriptor.__get__") (.builtin "object.__class__")):=by
 have L3:=looks_takesIn (M:=M) X Z.tk;refine(y9 X Z.ca).andThen ((looks_specialIn X Z.sp).andThen ?_);exact(show Looks M h (z0 (some (.builtin "object.__class__")) (some (.builtin "getset_descriptor.__get__"))) (some (.builtin "getset_descriptor.__get__",.builtin "object.__class__")) from L3.andThen .now).andThen (Looks.tag .now)
theorem tY {R:ug->d4->Prop}{tp:d0}(X:K.In s.heap)(L0:Looks (model prog w) s.heap (typeOf (.ref x)) (.ref D))(hm:mroIn K D (.type "object")=some true)(h:R (.ok (.ret (.ref D))) s) :
  codeAny (model prog w) A (.call (.builtin "getset_descriptor.__get__") ⟨[.builtin "object.__class__",.ref x,tp],[]⟩) R s:=by
 obtain⟨hh,g,dr,t,os⟩:=s;have L1:=looks_mroIn (M:=model prog w) X hm;refine pb FN.plain KF.entry_gs (FN.check _ _ _ _ _ _ _ _ KF.type_class (KF.args_gs _ _ _) ?_);unfold ra.«getset_descriptor.__get__» descrGet;rw[dga_obj];refine wpAny_bind (em ?_);unfold descrGetter descrCheckInstance descrNameAndClass isInstance;simp only[KF.owner_class];repeat lk
 refine⟨yy _ (by decide +kernel),ki KF.entry_class ?_⟩;unfold ra.«object.__class__» shownTypeOf;repeat lk
 exact h
theorem oI {Q:Za7->d4->Prop}(Z:Zk K D)(X:K.In s.heap)(I:Vw x D od s.heap)(h:Q (some (.ref D)) { s with toks:=s.toks+1 }):wpAny (model prog w) A (getAttr? (.ref x) "__class__") Q E s:=by
 obtain⟨hh,g,d,t,os⟩:=s;obtain⟨ox,ws,hox,hoc,_⟩:=I;have L0:Looks (model prog w) hh (typeOf (.ref x)) (.ref D):=hoc▸(EJ hox).andThen .now;have L1:=y9 (M:=model prog w) X Z.ga;have L2:=y9 (M:=model prog w) X Z.gx;have LF:=pL (M:=model prog w) (x:=x) Z X;have LB:=looks_mroIn (M:=model prog w) X Z.mb;unfold getAttr? getAttrBy? getAttrBy;refine wpAny_bind (wpAny_mkText (wpAny_bind (tq (wpAny_holding (wpAny_bind (L0.at (wpAny_bind (L1.at ?_))))))));show wpAny _ _ (getAttrByItsOwn _ _ _ _ _ _) _ _ _;unfold getAttrByItsOwn hookBefore;refine wpAny_bind (L2.at (wpAny_bind (tq (wpAny_holding ?_))));show wpAny _ _ (boundAndCalled _ _ _) _ _ _;unfold boundAndCalled;refine wpAny_bind (o9 (zi.ga.bind (.ref x)) ?_);show wpAny _ _ (call (.builtin "BaseException.__getattribute__") [.ref x,.str "__class__" t]) _ _ _;refine oy (pb zi.ga.plain F.entry_bexc_ga ?_);have hk:builtinKind "BaseException.__getattribute__"=some .slot:=by decide +kernel
 have hsp:splitId "BaseException.__getattribute__"=some ("BaseException","__getattribute__"):=by decide +kernel
 simp only[checkBuiltinCall,hk,hsp];have ha:=F.args_bexc_ga (.ref x) (.str "__class__" t);refine wpAny_bind ?_;unfold isInstance
 iterate 4 lk
 refine o9 (a:=()) ?_ ?_
 ·have ha':=ha
  unfold argsOk at ha'
  cases hsig:Manifest.signature? "BaseException.__getattribute__" with
  |none=>rfl
  |some sig=>
   rw[hsig] at ha';exact ha'
 unfold ra.«object.__getattribute__»;refine wpAny_bind (em ?_);refine wpAny_bind (em (wpAny_bind (L0.at (wpAny_bind (LF.at ?_)))));show wpAny _ _ (holding [Value.builtin "object.__class__"] (call (.builtin "getset_descriptor.__get__") [.builtin "object.__class__",.ref x,.ref D]) >>= ret) _ _ _;refine wpAny_bind (wpAny_holding (oy (tY (s:=⟨hh,g,d,t+1,os⟩) X L0 Z.mo (em ?_))));exact handed_on rfl (em h)
theorem qE (Z:Zk K D):KitX K (.ref x) (.ref D) (Vw x D od) where
 ty:=λM h X p=>by
  obtain⟨ox,ws,hox,hoc,_⟩:=p;exact hoc▸(EJ hox).andThen .now
 it:=λM h X p=>by
  obtain⟨cd,hc⟩:=ib.mp Z.cl;unfold clsIn at hc;split at hc
  ·rename_i c' d' cd' sl' ho
   intro A' Q' E' s' k q;unfold isType loadHead;exact wpAny_bind (EG (k _ _ (X _ _ ho)) (em q))
  ·cases hc
 ne:=λh tp dd its n sl X htp=>by
  obtain⟨cd,hc⟩:=ib.mp Z.cl;refine sr.mpr λq=>?_;have e:D=tp:=yq (beq_iff_eq.mp q);subst e;unfold clsIn at hc;split at hc
  ·rename_i c' d' cd' sl' ho
   have z:=(X _ _ ho).symm.trans htp;cases z
  ·cases hc
 ca:=λX p k=>oI Z X p k
end
def Ac7:V->d0->Prop
 |.ty n,v=>v=.type n
 |.ref a,v=>v=.ref a
 |_,_=>False
def Abn (K:da):List V->Hp->VK->Prop:=λxs H Q=>∃e C od c cv b,xs=[.ref e,c]/\H e=some (rJ e C od)/\Zk K C/\Ac7 c cv/\kitOne K (.ref C) cv=some b/\Q (.bl b) H
theorem Ys:Hh X (.builtin "isinstance") (Abn X.K):=by
 intro pins s G H xs us Q I r h;obtain⟨e,C,od,c,cv,b,rfl,he,Z,hcv,hk,q⟩:=h;obtain⟨u,w',rfl,ru,rw'⟩:=Vf r;cases(show u=ik e from ru);have hw:w'=cv:=by
  cases c<;>first|exact hcv.elim|exact(show w'=_ from rw').trans (show cv=_ from hcv).symm
 subst hw;obtain⟨p,_,_⟩:=(show Ee X.prog X.w H s.heap e (rJ e C od) from I.hok e _ he);exact n6 (qE Z) I.kIn p hk (λz=>nomatch z) λtk=>⟨.bl b,H,I.tok tk,rfl,q⟩
theorem Up (K:da)(h:autoParam (X.K=K) QD):Hh X (.builtin "isinstance") (Abn K):=by
 subst h;exact Ys
theorem X8:bootBuiltins "ValueError"=some (.type "ValueError"):=by decide +kernel
section
variable {X:Cx}
def vF:V->List V->Hp->VK->Prop:=λx vs H Q=>∃(l:df) (xs:List V) (y:V),x=.ref l/\vs=[y]/\H l=some (.lst xs)/\xs.all Ec=true/\Ec y=true/\Q (.int (xs.countP (λz=>eqV z y):Nat)) H
theorem Tn {y:V}:∀{xs:List V} {us:Za3},Bj xs us->xs.all Ec=true->us.countP (eqU y)=xs.countP λz=>eqV z y
 |_,_,.nil,_=>rfl
 |x::xs,u::us,.cons r t,f=>by
  rw[rm,ly] at f;rw[ub,ub,Tn t f.2,Xw r f.1]
theorem Vc:MtM X "list.count" vF:=by
 intro pins s G H x vs v us Q I rx rv h;obtain⟨l,xs,y,rfl,rfl,hH,hf,hy,q⟩:=h;cases rx;obtain⟨u,rfl,ru⟩:=Fj rv;obtain⟨z,its,n,r,hl,e⟩:=I.lstM hH;refine qc F.slot_list_count ⟨_,e,rfl⟩ F.entry_list_count (F.args_list_count_2 _ _) (SeqAt.list_countAt l its.toArray n none #[] u (eqU y)) ⟨e,λw hw=>L9 ru hy r hf w (by simpa using hw),?_⟩;rw[show its.toArray.toList=its from rfl,Tn r hf];exact⟨.int _,H,I.tok _,⟨_,rfl⟩,q⟩
end
abbrev Acn (vs:Array d0):Obj:={ cls:=.type "zip",dict:=none,data:=.fields vs,slots:=#[] }
abbrev N9 (h:gv)(z TI TO T:df)(c:Bool):Prop:=h.get? z=some (Acn #[rawInt T,.bool c,.bool false,.ref TI,.ref TO])
section
variable {prog:fc} {w:ge} {A:gt} {E:Za0} {s:d4}
theorem rN {a:df}{Q:Option Obj->d4->Prop}(h:Q (s.heap.get? a) s):wpAny (model prog w) A (loadIfAlive a) Q E s:=λΓ p hΓ=>by
 show EI _ _ (.loadIfAlive a _) _ _ _ _;rw[Sem.wp_loadIfAlive];exact h
theorem Vg {TI TO T:df}{c:Bool}{Q:Bool->d4->Prop}(hz:N9 s.heap z TI TO T c)(hT:s.heap.get? T=some oT)(q:∀h',N9 h' z TI TO T true->sj z s.heap h'->Q false { s with heap:=h' }) :
  wpAny (model prog w) A (jr (.ref z)) Q E s:=by
 unfold jr;refine wpAny_bind (qe hz rfl (x:=rawInt T) rfl ?_);show wpAny _ _ (loadIfAlive (Int.toNat (T:Int)) >>= _) _ _ _;refine wpAny_bind (rN ?_);rw[f9,hT];show wpAny _ _ (field (.ref z) 1 >>= _) _ _ _;refine wpAny_bind (qe hz rfl (x:=.bool c) rfl ?_)
 cases c with
 |true=>
  exact em (q s.heap hz (EA _ _))
 |false=>
  refine wpAny_bind (wpAny_setField_rec hz (by simp) λHJ HR HF=>?_);exact em (q HJ HR HF)
theorem lY {TI TO T:df}{k1 k2:Nat}{xs ys:Array d0}{x y:d0}{c:Bool}{Q:Za0}(D:uu z TI TO i1 i2 l1 l2)
  (hz:N9 s.heap z TI TO T c)(hT:s.heap.get? T=some oT)(hTI:oi s.heap TI (.ref i1) (.ref i2))(h1:s.heap.IsListIter i1 l1 k1)(h2:s.heap.IsListIter i2 l2 k2)(hl1:s.heap.IsList l1 xs)(hl2:s.heap.IsList l2 ys)(hx:xs[k1]?=some x)(hy:ys[k2]?=some y)
  (hQ:∀h',N9 h' z TI TO T true->h'.IsListIter i1 l1 (k1+1)->h'.IsListIter i2 l2 (k2+1)->oi h' s.heap.objs.size x y->h'.objs.size=s.heap.objs.size+1->(∀b o,b≠z->b≠i1->b≠i2->s.heap.get? b=some o->h'.get? b=some o)->Q (.ref s.heap.objs.size) { s with heap:=h' }) :
  wpAny (model prog w) A (ra.«zip.__next__» ⟨[.ref z],[]⟩) (λfin s'=>∃v,fin=.done (.ret v)/\Q v s') E s:=by
 show wpAny _ _ (field (.ref z) 2 >>= _) _ _ _;refine wpAny_bind (qe hz rfl (x:=.bool false) rfl ?_);show wpAny _ _ (field (.ref z) 3 >>= _) _ _ _;refine wpAny_bind (qe hz rfl (x:=.ref TI) rfl ?_);refine wpAny_bind (nz hTI rfl ?_);show wpAny _ _ (jr (.ref z) >>= _) _ _ _;refine wpAny_bind (Vg hz hT λHJ HR HF=>?_);rw[if_neg (by decide)];refine wpAny_bind ?_;rw[<-yn];simp only[um,AQ];refine wpAny_bind (wpAny_bind (wpAny_holding ?_));show wpAny _ _ (m9 (.ref i1) >>= _) _ _ _;refine wpAny_bind (y4 (h1.extBut HF.extBut D.i1z) (hl1.extBut HF.extBut D.l1z) hx λQP QQ HM=>em ?_);refine em ?_;refine wpAny_bind (wpAny_bind (wpAny_holding ?_));show wpAny _ _ (m9 (.ref i2) >>= _) _ _ _;refine wpAny_bind (y4 ((h2.extBut HF.extBut D.i2z).extBut HM.extBut D.i12.symm) ((hl2.extBut HF.extBut D.l2z).extBut HM.extBut D.l2i1) hy λHS QR HU=>em ?_);refine em (em ?_);have hsz:HS.objs.size=s.heap.objs.size:=by rw[HU.1,HM.1,HF.1]
 have kp:∀b o,b≠z->b≠i1->b≠i2->s.heap.get? b=some o->HS.get? b=some o:=λb o b1 b2 b3 e=>HU.extBut _ _ b3 (HM.extBut _ _ b2 (HF.extBut _ _ b1 e));have QS:N9 HS z TI TO T true:=HU.extBut _ _ D.i2z.symm (HM.extBut _ _ D.i1z.symm HR);show wpAny _ _ (newTuple [x,y] >>= _) _ _ _;refine wpAny_bind (wpAny_newTuple (em ⟨_,rfl,?_⟩));have hp:HS.objs.size=s.heap.objs.size:=hsz;rw[hp];refine hQ _ (dq _ QS) ((QQ.extBut HU.extBut D.i12).at λo e=>dq _ e) (QR.at λo e=>dq _ e) ?_ (by rw[ky,hp]) λb o b1 b2 b3 e=>dq _ (kp b o b1 b2 b3 e);rw[<-hp];exact fi _ rfl
theorem lT {TI TO T:df}{k1 k2:Nat}{xs ys:Array d0}{x y:d0}{c:Bool}{Q:Za7->d4->Prop}(D:uu z TI TO i1 i2 l1 l2)
  (hz:N9 s.heap z TI TO T c)(hT:s.heap.get? T=some oT)(hTI:oi s.heap TI (.ref i1) (.ref i2))(h1:s.heap.IsListIter i1 l1 k1)(h2:s.heap.IsListIter i2 l2 k2)(hl1:s.heap.IsList l1 xs)(hl2:s.heap.IsList l2 ys)(hx:xs[k1]?=some x)(hy:ys[k2]?=some y)
  (hQ:∀h',N9 h' z TI TO T true->h'.IsListIter i1 l1 (k1+1)->h'.IsListIter i2 l2 (k2+1)->oi h' s.heap.objs.size x y->h'.objs.size=s.heap.objs.size+1->(∀b o,b≠z->b≠i1->b≠i2->s.heap.get? b=some o->h'.get? b=some o)->Q (some (.ref s.heap.objs.size)) { s with heap:=h' }) :
  wpAny (model prog w) A (pyNext (.ref z)) Q E s:=by
 have hTy:s.TypeIs (.ref z) "zip":=⟨_,hz,rfl⟩;unfold pyNext;exact wpAny_bind (tq (yo (name:=ke "__next__") hTy my
  (BS my hTy vp
   (lY D hz hT hTI h1 h2 hl1 hl2 hx hy λh' a1 a2 a3 a4 a5 a6=>em (hQ h' a1 a2 a3 a4 a5 a6)) (vd _))))
theorem qJ {TI TO T:df}{k1:Nat}{xs:Array d0}{c:Bool}{Q:Za7->d4->Prop}(hh:A.handled=none)(D:uu z TI TO i1 i2 l1 l2)
  (hz:N9 s.heap z TI TO T c)(hT:s.heap.get? T=some oT)(hTI:oi s.heap TI (.ref i1) (.ref i2))(h1:s.heap.IsListIter i1 l1 k1)(hl1:s.heap.IsList l1 xs)(hx:xs[k1]?=none)
  (hQ:∀h',(∀b o,b≠z->b≠i1->b≠i2->s.heap.get? b=some o->h'.get? b=some o)->Q none { s with heap:=h' }) :
  wpAny (model prog w) A (pyNext (.ref z)) Q E s:=by
 have hTy:s.TypeIs (.ref z) "zip":=⟨_,hz,rfl⟩;unfold pyNext;refine wpAny_bind (tq (yo (name:=ke "__next__") hTy my
  (BS my hTy vp ?_ (vd _))))
 show wpAny _ _ (field (.ref z) 2 >>= _) _ _ _;refine wpAny_bind (qe hz rfl (x:=.bool false) rfl ?_);show wpAny _ _ (field (.ref z) 3 >>= _) _ _ _;refine wpAny_bind (qe hz rfl (x:=.ref TI) rfl ?_);refine wpAny_bind (nz hTI rfl ?_);show wpAny _ _ (jr (.ref z) >>= _) _ _ _;refine wpAny_bind (Vg hz hT λHJ HR HF=>?_);rw[if_neg (by decide)];refine wpAny_bind ?_;rw[<-yn];simp only[um,AQ];refine wpAny_bind (wpAny_bind (wpAny_holding ?_));show wpAny _ _ (m9 (.ref i1) >>= _) _ _ _;refine wpAny_bind (wpAny_nextOf_list_end hh (h1.extBut HF.extBut D.i1z) (hl1.extBut HF.extBut D.l1z) hx λQP e HM he=>?_);obtain⟨oe,hoe,hce⟩:=he;show wpAny _ _ (isInstance (.ref e) (.type "StopIteration") >>= _) _ _ _;refine wpAny_bind (wpAny_isInstance (T:="StopIteration") (b:=true) ⟨oe,hoe,hce⟩ isSubtype_stop ?_);exact em (hQ _ λb o b1 b2 b3 e=>HM _ _ b2 (HF.extBut _ _ b1 e))
end
section
variable {prog:fc} {w:ge} {A:gt} {E:Za0} {R:ug->d4->Prop}
structure DzA (d z TI TO i1 i2 l1 l2:df):Prop where
 za:uu z TI TO i1 i2 l1 l2
 dz:d≠z
 dI:d≠TI
 dO:d≠TO
 d1:d≠i1
 d2:d≠i2
 dl:d≠l1
 dm:d≠l2
end
theorem Tq:∀{xs:List V} {us:Za3},xs.length=us.length->(∀(i:Nat) x u,xs[i]?=some x->us[i]?=some u->By x u)->Bj xs us
 |[],[],_,_=>.nil
 |x::xs,u::us,hl,h=>.cons (h 0 x u rfl rfl) (Tq (zo hl) λi y v e1 e2=>h (i+1) y v e1 e2)
section
variable {G:St} {H:Hp}
theorem vQ {n j:Nat}(h:j<n):ixN n (j:Int)=some j:=by
 unfold ixN;rw[if_pos (by lia),if_pos (by lia)];simp
theorem xU {p:df}{j:Nat}{i:Int}{v:V}{R:Hp->Prop}(h:H p=some (.lst xs))(hi:i=j)(hj:j<xs.length)(q:R (upd H p (.lst (xs.set j v)))):wL (.ref p) (.int i) v H R:=
 ⟨p,xs,i,j,rfl,rfl,h,by rw[hi];exact vQ hj,q⟩
end
section
variable {X:Cx} {pins:Za1} {G:St} {H:Hp} {s:d4} {a:df} {y v:V} {u r:d0} {o:Option V} {A:gt} {E:Za0}
end
end L2
end
section
namespace L2
open PySem PySem.Spec PyProof.Rows
variable {C CS Pt dx i1 i2 it kl l1 l2 pa z:df} {params:kj} {A:gt} {CX:CXT} {op:rf} {X:Cx} {env:Env} {tg:gd} {fd:io} {base h h' h1:gv} {H H' H1 H2:Hp} {J:It} {pins:Za1} {as fp:List df} {outer:List Env} {elts:List gd} {ns:List Int} {ix:Za4} {N ps:Za6} {ts:List Tb} {xs ys:List V} {us vs:Za3} {M:qr} {off t':Nat} {oT:Obj} {od:Option df} {pos:Pos} {scope:kr} {pl:Sem Bool} {s s2:d4} {sp:Sp} {st:gm} {qual:Str} {tk:TA} {te:TE} {wi:TI} {y:V} {pm:d0} {w:ge}
end L2
end
section
namespace TW
section
variable {α:Type} (lt:α->α->Bool)
variable {lt}
variable (lt)
variable {lt}
end
end TW
end
section
namespace L2
open PySem PySem.Spec PyProof.Rows TW
variable {C CS Pt dx i1 i2 it kl l1 l2 pa z:df} {params:kj} {A:gt} {CX:CXT} {op:rf} {X:Cx} {env:Env} {tg:gd} {fd:io} {base h h' h1:gv} {H H' H1 H2:Hp} {J:It} {pins:Za1} {as fp:List df} {outer:List Env} {elts:List gd} {ns:List Int} {ix:Za4} {N ps:Za6} {ts:List Tb} {xs ys:List V} {us vs:Za3} {M:qr} {off t':Nat} {oT:Obj} {od:Option df} {pos:Pos} {scope:kr} {pl:Sem Bool} {s s2:d4} {sp:Sp} {st:gm} {qual:Str} {tk:TA} {te:TE} {wi:TI} {y:V} {pm:d0} {w:ge}
def both (N H:Hp):Hp:=λb=>match N b with|some o=>some o|none=>H b
theorem Md {N:Hp}{b:df}{o:HO}(h:N b=some o):both N H b=some o:=by unfold both;rw[h]
theorem G0 {N:Hp}{b:df}(h:N b=none):both N H b=H b:=by unfold both;rw[h]
def Xs (oc:Obj)(qual:Str):Prop:=∃vs t,oc.data=.fields vs/\vs[1]?=some (.str qual t)
def Sk (H:Hp)(P:df)(pos:Pos)(qual:Str):Prop:=∃ps:Array d0,H P=some (.tbl ps)/\TriplesOk ps.toList/\(codeAmong pos ps.toList=none\/∃c' oc,codeAmong pos ps.toList=some (.ref c')/\H c'=some (.frz oc (.own 0))/\Xs oc qual)
section
variable {X:Cx} {pins:Za1} {G:St} {H:Hp} {s:d4}
theorem Inv.grown {P:df}{ps more:Array d0}{N:Hp}(I:Inv X pins G H s)(hP:H P=some (.tbl ps))(k:∀b u,b≠P->s.heap.get? b=some u->h'.get? b=some u)(hT:h'.get? P=some (qi (ps++more)))
  (hp:∀b o,N b=some o->s.heap.objs.size<=b)(new:∀b o,N b=some o->Ee X.prog X.w (both N (upd H P (.tbl (ps++more)))) h' b o):Inv X pins G (both N (upd H P (.tbl (ps++more)))) { s with heap:=h',toks:=t' }:=by
 have hlt:P<s.heap.objs.size:=(I.hok P _ hP).lt;have hNP:N P=none:=by
  cases e:N P with
  |none=>rfl
  |some o=>exact absurd hlt (qj.mpr (hp P o e))
 have hn:∀b o,N b=some o->H b=none:=λb o e=>I.hok.fresh (hp b o e);have old:∀b u,s.heap.get? b=some u->N b=none:=λb u e=>by
  cases hN:N b with
  |none=>rfl
  |some o=>exact absurd (d3 e) (qj.mpr (hp b o hN))
 have sm:∀b o,b≠P->H b=some o->both N (upd H P (.tbl (ps++more))) b=some o:=λb o hb e=>by
  have:N b=none:=by
   cases hN:N b with
   |none=>rfl
   |some u=>rw[hn b u hN] at e;cases e
  rw[G0 this,Ai hb];exact e
 have neP:∀b,H b=none->b≠P:=λb e z=>by rw[z,hP] at e;cases e
 refine I.un ⟨λb u q n _ _=>k b u (neP b n) q,λb u q n _ _=>⟨u.slots,k b u (neP b n) q⟩,λb u q n _=>by rw[G0 (old b u q),Ai (neP b n)];exact n,λb u q _=>?_,λb xs q=>sm _ _ (λz=>by rw[z,hP] at q;cases q) q,λb u xs q=>sm _ _ (λz=>by rw[z,hP] at q;cases q) q,λb qs q=>?_⟩ λb o e=>?_
 ·by_cases hb:b=P
  ·rw[hb];exact⟨_,hT⟩
  ·exact⟨u,k b u hb q⟩
 ·by_cases hb:b=P
  ·rw[hb,hP] at q
   cases q;exact⟨more,by rw[hb,G0 hNP,Ac]⟩
  ·exact⟨#[],by rw[sm b _ hb q];simp⟩
 ·cases hN:N b with
  |some u=>
   rw[Md hN] at e;cases e;exact new b _ hN
  |none=>
   rw[G0 hN] at e
   by_cases hb:b=P
   ·rw[hb,Ac] at e
    cases e;rw[hb];exact hT
   ·rw[Ai hb] at e
    refine(I.hok b o e).stay (λc v hc q=>k c v (λz=>?_) q) (λc q=>sm _ _ (λz=>by rw[z,hP] at q;cases q) q) λc xs q=>sm _ _ (λz=>by rw[z,hP] at q;cases q) q;rcases hc with h|h
    ·exact hb (h▸z)
    ·rw[z,hP] at h;cases h
end
def Ri (P:df)(H H':Hp):Prop:=∀b u,b≠P->H b=some u->H' b=some u
section
variable {X:Cx} {pins:Za1} {G:St} {H:Hp} {s:d4} {M:qr} {A:gt} {E:Za0} {Q:Za0} {c P:df} {pos:Pos} {qual:Str} {params:kj} {body:gd} {scope:kr} {clos:List (Str×df)}
theorem pE (I:Inv X pins G H s)(T:Sk H P pos qual)(C:zj X.base c P)(hb:X.base.BuiltinsAt X.mg P)(hcode:X.env.code=.ref c)(hcl:closureFor scope X.env=pure clos)(hdef:defaultsOf params X.env=([],[]))(hq:X.env.qual++"<lambda>"=qual)
  (h:∀(f c':df) (oc:Obj) (pm ctv:d0) (s':d4) (H':Hp),Inv X pins G H' s'->Sk H' P pos qual->Ri P H H'->H f=none->H' f=some (.frz (wv "<lambda>" qual params body scope clos pm c' ctv) (.own 0))->H' c'=some (.frz oc (.own 0))->Xs oc qual->Q (.ref f) s') :
  wpAny M A (eval (.Lambda params body scope pos) X.env) Q E s:=by
 obtain⟨ps,hP,ht,hc⟩:=T;refine PySem.W.kla_eval hdef ?_;rw[hq];have hPs:s.heap.get? P=some (qi ps):=I.hok P _ hP;have hg:s.heap.Ns mainGlobals X.mg:=I.mod.glob.keeps I.bk;have hgP:mainGlobals≠P:=λe=>by
  obtain⟨o,es,ep,e1,d,_⟩:=I.mod.glob;have:=(I.bs _ _ e1).2;rw[e,hP] at this;cases this
 have hb':s.heap.BuiltinsAt X.mg P:=by
  obtain⟨bm,o,a1,a2,a3,a4,a5,a6⟩:=hb;exact⟨bm,o,a1,a2,a3,a4,I.bk _ _ a5,a6⟩
 rcases hc with hc|⟨c',oc,hc,hc',ho⟩
 ·refine PySem.W.kla_makeFunction hcl I.ok.glob hg hcode (C.keeps I.bk) hPs ht hc hgP hb' λc' ctv h' tk hx hge hlt hrec htb=>?_
  obtain⟨c₂,oc,vs,t,e2,hoc,hd,hv⟩:=hrec;cases e2
  let fo:=wv "<lambda>" qual params body scope clos ((X.mg "__name__").getD .none) c' ctv
  let N:Hp:=λb=>if b=h'.objs.size then some (.frz fo (.own 0)) else if b=c' then some (.frz oc (.own 0)) else none
  have n1:N h'.objs.size=some (.frz fo (.own 0)):=if_pos rfl;have n2:N c'=some (.frz oc (.own 0)):=(if_neg (fk hlt)).trans (if_pos rfl);have n3:∀b o,N b=some o->(b=h'.objs.size/\o=.frz fo (.own 0))\/(b=c'/\o=.frz oc (.own 0)):=λb o e=>by
   by_cases h1:b=h'.objs.size
   ·rw[h1,n1] at e;cases e;exact .inl ⟨h1,rfl⟩
   ·by_cases h2:b=c'
    ·rw[h2,n2] at e;cases e;exact .inr ⟨h2,rfl⟩
    ·have:N b=none:=(if_neg h1).trans (if_neg h2)
     rw[this] at e;cases e
  have hp:∀b o,N b=some o->s.heap.objs.size<=b:=λb o e=>by
   rcases n3 b o e with⟨r,_⟩|⟨r,_⟩<;>rw[r]
   ·exact gl hge (fb hlt)
   ·exact hge
  have hNP:N P=none:=by
   cases e:N P with
   |none=>rfl
   |some o=>exact absurd (I.hok P _ hP).lt (qj.mpr (hp P o e))
  have gf:(h'.push fo).get? h'.objs.size=some fo:=fi _ rfl;have gc:(h'.push fo).get? c'=some oc:=dq _ hoc;have I':=Inv.grown (N:=N) (more:=#[BB pos.line,BB pos.col,.ref c']) (h':=h'.push fo) (t':=tk) I hP (λb u hb e=>dq _ (hx b u hb e)) (dq _ htb) hp λb o e=>by
   rcases n3 b o e with⟨r,r'⟩|⟨r,r'⟩<;>rw[r,r']
   ·exact⟨gf,_,gf⟩
   ·exact⟨gc,_,gc⟩
  refine h _ c' oc _ ctv _ _ I' ⟨_,by rw[G0 hNP,Ac],?_,.inr ⟨c',oc,?_,Md n2,vs,t,hd,hv⟩⟩ (λb u hb e=>?_) (I.hok.fresh (hp _ _ n1)) (Md n1) (Md n2) ⟨vs,t,hd,hv⟩
  ·rw[rb];exact TriplesOk_snoc _ _ _ _ ht
  ·rw[rb];exact codeAmong_snoc _ ht hc
  ·have:N b=none:=by
    cases hN:N b with
    |none=>rfl
    |some o=>rw[I.hok.fresh (hp b o hN)] at e;cases e
   rw[G0 this,Ai hb];exact e
 ·refine PySem.W.kla_makeFunctionHit hcl I.ok.glob hg hcode (C.keeps I.bk) hPs ht hc hb' λctv h' tk hk hsz=>?_
  let fo:=wv "<lambda>" qual params body scope clos ((X.mg "__name__").getD .none) c' ctv
  let N:Hp:=λb=>if b=h'.objs.size then some (.frz fo (.own 0)) else none
  have n1:N h'.objs.size=some (.frz fo (.own 0)):=if_pos rfl;have n3:∀b o,N b=some o->b=h'.objs.size/\o=.frz fo (.own 0):=λb o e=>by
   by_cases h1:b=h'.objs.size
   ·rw[h1,n1] at e;cases e;exact⟨h1,rfl⟩
   ·have:N b=none:=if_neg h1
    rw[this] at e;cases e
  have hp:∀b o,N b=some o->s.heap.objs.size<=b:=λb o e=>by rw[(n3 b o e).1];exact hsz
  have hn:∀b u,H b=some u->N b=none:=λb u e=>by
   cases hN:N b with
   |none=>rfl
   |some o=>rw[I.hok.fresh (hp b o hN)] at e;cases e
  have gf:(h'.push fo).get? h'.objs.size=some fo:=fi _ rfl;have I':=Inv.grown (N:=N) (more:=#[]) (h':=h'.push fo) (t':=tk) I hP (λb u _ e=>dq _ (hk b u e)) (by rw[pe];exact dq _ (hk _ _ hPs)) hp λb o e=>by
   rw[(n3 b o e).1,(n3 b o e).2];exact⟨gf,_,gf⟩
  rw[pe] at I';have old:∀b u,b≠P->H b=some u->both N (upd H P (.tbl ps)) b=some u:=λb u hb e=>by rw[G0 (hn b u e),Ai hb];exact e
  have hcP:c'≠P:=Jy hc' hP (by intro q;cases q);exact h _ c' oc _ ctv _ _ I' ⟨ps,by rw[G0 (hn P _ hP),Ac],ht,.inr ⟨c',oc,hc,old _ _ hcP hc',ho⟩⟩ old (I.hok.fresh (hp _ _ n1)) (Md n1) (old _ _ hcP hc') ho
end
open PySem.W
def Kh (o:Obj)(c P:df):Prop:=∃vs file tf flags tg inF text tt,o.cls=.type "code"/\o.data=.fields vs/\vs[11]?=some (.ref P)/\vs.getD 11 .none=.ref P/\vs.getD 18 .none=.str file tf /\
  vs.getD 7 .none=.int flags tg/\vs.getD 9 .none=.bool inF/\vs.getD 10 .none=.int text tt/\c≠P
theorem Kh.at {o:Obj}{c P:df}(x:Kh o c P)(e:h.get? c=some o):zj h c P:=by
 obtain⟨vs,file,tf,flags,tg,inF,text,tt,a1,a2,a3,a4,a5,a6,a7,a8,a9⟩:=x;exact⟨o,vs,file,tf,flags,tg,inF,text,tt,e,a1,a2,a3,a4,a5,a6,a7,a8,a9⟩
theorem gC {P:fc}{K:da}{mg mb:Za2}{k:Nat}{fa a:df}{x:Str}{HB:d4}{tabs:List (df×df)}
  (hT:uj tabs HB.heap)(hTK:∀q∈tabs,K.lookup q.2=none)(hB:∃bm ob,mg "__builtins__"=some (.ref bm)/\bm≠builtinsNs/\HB.heap.get? bm=some ob/\ob.cls=.type "module"/\ob.dict=some builtinsNs/\ob.data=.plain)(KX:K.In HB.heap)(hns:HB.heap.Ns mainGlobals mg)(hb:HB.heap.Ns builtinsNs mb)(hbb:∀x:Str,x≠"__name__"->mb x=bootBuiltins x)(hlim:HB.heap.NoLimit)(hg:HB.gens=#[])
  (ha:HB.heap.get? a=some { cls:=.type "list",data:=.seq vs.toArray })(hi:xc vs ns)(hl:ns.length<=sizeLine)(hr:Ck k callerA)
  (F:∀base:gv,K.In base->base.Ns mainGlobals mg->(∀q∈tabs,base.BuiltinsAt mg q.2)->Ba P w K mg base CX k fa fd [x] sp)(hbind:∀(s:d4) (u:d0),xg s fd ⟨[u],[]⟩ [(x,u)])
  (hsp:∀H:Hp,(∀q∈tabs,H q.2=some (.tbl #[]))->SqL K H a (ns.map V.int)->sp [.ref a] H (λv _=>v=.bl true) λ_ _ _=>False)
  (hCX:∀H e s',CX [] H HB (λ_ _ _=>False) e s'->False) :
  codeAny (model P w) callerA (.call (.ref fa) ⟨[.ref a],[]⟩) (λr s'=>r=.ok (.ret (.bool true))/\OldK HB.heap s'.heap/\s'.os=HB.os/\qh s'.gens) HB:=by
 have rv:=U6 hi;have tabAt:∀b,b∈tabs.map (·.2)->HB.heap.get? b=some (qi #[])/\K.lookup b=none/\isCodeTable HB.heap b:=λb hm=>by
  obtain⟨q,hq,rfl⟩:=lh.mp hm;exact⟨(hT q hq).2,hTK q hq,((hT q hq).1.tab (hT q hq).2).isCodeTable⟩
 have haT:a∉tabs.map (·.2):=λhm=>by
  have:=(tabAt a hm).1;rw[ha] at this;cases this
 let H:Hp:=λb=>if b∈tabs.map (·.2) then some (.tbl #[]) else if b=a/\K.lookup a=none then some (.frz { cls:=.type "list",data:=.seq vs.toArray } (.lst (ns.map V.int))) else none
 have H1:∀b,b∈tabs.map (·.2)->H b=some (.tbl #[]):=λb hm=>if_pos hm;have H2:∀b,b∉tabs.map (·.2)->¬(b=a/\K.lookup a=none)->H b=none:=λb h1 h2=>(if_neg h1).trans (if_neg h2);have H3:K.lookup a=none->H a=some (.frz { cls:=.type "list",data:=.seq vs.toArray } (.lst (ns.map V.int))):=λh=>(if_neg haT).trans (if_pos ⟨rfl,h⟩);have cases3:∀b,(b∈tabs.map (·.2))\/(b=a/\K.lookup a=none/\b∉tabs.map (·.2))\/(H b=none):=λb=>by
  by_cases h1:b∈tabs.map (·.2)
  ·exact .inl h1
  ·by_cases h2:b=a/\K.lookup a=none
   ·exact .inr (.inl ⟨h2.1,h2.2,h1⟩)
   ·exact .inr (.inr (H2 b h1 h2))
 have hok:HOk P w H HB.heap:=λb o e=>by
  rcases cases3 b with h|⟨rfl,h1,_⟩|h
  ·rw[H1 b h] at e
   cases e;exact(tabAt b h).1
  ·rw[H3 h1] at e
   cases e;exact⟨ha,by rw[c8];exact hl,vs,_,rv,ha⟩
  ·rw[h] at e
   cases e
 have noD:∀{b:df} {o:Obj} {es:Array DictEntry} {ep:Nat},HB.heap.get? b=some o->o.data=.dict es ep->H b=none:=λ{b o es ep} e d=>by
  rcases cases3 b with h|⟨rfl,_,_⟩|h
  ·rw[(tabAt b h).1] at e
   cases e;have d':yb #[]=EO es ep:=d;cases d'
  ·rw[ha] at e
   cases e;have d':Data.seq vs.toArray _=EO es ep:=d;cases d'
  ·exact h
 have nsK:∀{b:df} {m:Za2},HB.heap.Ns b m->(Xy HB.heap H).Ns b m:=λ{b m} ⟨o,es,ep,e,d,r⟩=>⟨o,es,ep,Sa e (noD e d),d,r⟩;have hKb:K.In (Xy HB.heap H):=λb o e=>Sa (KX b o e) (by
  rcases cases3 b with h|⟨rfl,h1,_⟩|h
  ·rw[(tabAt b h).2.1] at e;cases e
  ·rw[h1] at e;cases e
  ·exact h)
 have hBa:∀q∈tabs,(Xy HB.heap H).BuiltinsAt mg q.2:=λq hq=>by
  obtain⟨bm,ob,b1,b2,b3,b4,b5,b6⟩:=hB;have n1:bm≠mainGlobals:=λz=>by
   obtain⟨o,es,ep,e,d,_⟩:=hns;rw[z,e] at b3;cases b3;rw[d] at b6;cases b6
  have nP:bm∉tabs.map (·.2):=λhm=>by
   have:=(tabAt bm hm).1;rw[b3] at this;cases this;cases b6
  have hn:H bm=none:=by
   rcases cases3 bm with h|⟨h,_,_⟩|h
   ·exact absurd h nP
   ·rw[h,ha] at b3
    cases b3;cases b6
   ·exact h
  exact⟨bm,ob,b1,b2,n1,λz=>nP (z▸l6 hq),Sa b3 hn,b4,b5,b6⟩
 have hM:Mod K mg (Xy HB.heap H):=⟨hKb,nsK hns,⟨mb,nsK hb,hbb⟩,let ⟨mc,h1,h2⟩:=hlim;⟨mc,nsK h1,h2⟩⟩;have e0:Uo P w K mg (Xy HB.heap H) callerA [] HB H:=⟨rfl,hM,λb o e=>uR e,ll (nO _ _),trivial,λb hb=>absurd (show b∈([]:List df) from hb) (by simp),hok,.of_eq hg⟩;have hS:SqL K H a (ns.map V.int):=by
  cases hk:K.lookup a with
  |none=>exact .inl (.inr ⟨_,H3 hk⟩)
  |some o=>
   have e:=KX a o hk;rw[ha] at e;cases e;exact .inr ⟨_,vs.toArray,_,hk,rfl,rfl,rfl,by rw[ez,hi.length];exact hl,by simpa using rv⟩
 refine lq ((F _ hKb (nsK hns) hBa).run callerA [] HB H ⟨[.ref a],[]⟩ [.ref a] [.ref a] _ _ hr e0 (hbind HB (.ref a)) (.cons rfl .nil) (hsp H (λq hq=>H1 _ (l6 hq)) hS)) λr s' h=>?_
 cases r with
 |error e=>exact(hCX H e s' h).elim
 |ok fl=>
  cases fl with
  |next=>exact i9 h
  |brk=>exact i9 h
  |cont=>exact i9 h
  |ret u=>
   obtain⟨v,H',os,bare,un,hok',r',q⟩:=h;have q':v=.bl true:=q;subst q';obtain rfl:u=uv true:=r';have out:∀b o,HB.heap.get? b=some o->(b∈tabs.map (·.2)/\∃more,s'.heap.get? b=some (qi more))\/s'.heap.get? b=some o:=λb o e=>by
    rcases cases3 b with h|⟨rfl,h1,_⟩|h
    ·obtain⟨more,hm⟩:=un.tbls b _ (H1 b h)
     exact .inl ⟨h,_,hok' b _ hm⟩
    ·obtain⟨e2,_⟩:=hok' _ _ (un.frzs _ _ _ (H3 h1))
     rw[ha] at e;cases e;exact .inr e2
    ·exact .inr (un.keep b o e h (by intro z;exact absurd (show b∈([]:List df) from z) (by simp)) (by simp))
   refine⟨rfl,⟨λb o e=>?_,λb o e=>?_⟩,os,bare⟩
   ·rcases out b o e with⟨h,more,hm⟩|h
    ·have e1:=(tabAt b h).1
     rw[e] at e1;cases e1;exact .inr (.inl ⟨(tabAt b h).2.2,rfl,#[],more,rfl,by rw[Array.empty_append];exact hm⟩)
    ·exact .inl h
   ·rcases out b o e with⟨_,more,hm⟩|h
    ·exact⟨_,hm⟩
    ·exact⟨o,h⟩
theorem mX {l:sx}{n k:Nat}{q:fc}{loose:Za6}{XP:(Za2)->gv->Prop}{YP:ge->gv->Prop}{d:EN}{K:vt->da}{CX:ge->CXT}{sp:ge->Sp}{x:Str}{tabs:List (df×df)}
  (hn:l.most=some n)(hn2:n<=sizeLine)(hdf:d.params.defaults=[])(hr:Ck k callerA)
  (hY:∀(w:ge) (h:gv),YP w h->(K w.params).In h)(hTb:∀(w:ge) (h:gv),YP w h->uj tabs h)(hTK:∀w:ge,∀p∈tabs,(K w.params).lookup p.2=none)
  (F:∀(w:ge) (mg:Za2) (fa:df) (h:gv),(K w.params).In h->h.Ns mainGlobals mg->mg d.name=some (.ref fa) ->
   ∃fd:io,(∀(s:d4) (u:d0),xg s fd ⟨[u],[]⟩ [(x,u)]) /\
    ∀base:gv,(K w.params).In base->base.Ns mainGlobals mg->(∀q∈tabs,base.BuiltinsAt mg q.2)->Ba l.prog w (K w.params) mg base (CX w) k fa fd [x] (sp w))
  (hsp:∀(w:ge) (H:Hp) (a:df) (ns:List Int),ns.length<=n->(∀p∈tabs,H p.2=some (.tbl #[]))->SqL (K w.params) H a (ns.map V.int)->sp w [.ref a] H (λv _=>v=.bl true) λ_ _ _=>False)
  (hCX:∀(w:ge) (H:Hp) (s:d4) (e:d0) (s':d4),CX w [] H s (λ_ _ _=>False) e s'->False) :
  zm q loose XP YP l.row.toRowW d [] (λf vs=>yg f vs):=by
 refine Att.attach_call hn hdf λw HA HB mg mb fa o pm cd doc a vs ns G Y ho hd hcd hmg hobj hints hlen hg=>?_;have KX:=hY w _ Y;obtain⟨fd,hb,hF⟩:=F w mg fa _ KX G.T.g hmg;exact gC (hTb w _ Y) (hTK w) G.T.bmain KX G.T.g G.T.b G.T.builtins G.T.nolimit hg hobj hints (gl hlen hn2) hr hF hb (λH hO hS=>hsp w H a ns hlen hO hS) λH e s'=>hCX w H HB e s'
structure Uy (K:da) (x qual:Str) (st:gm) (f:df) (fd:io) (c P:df):Prop where
 ex:∃(oc:d0) (od:Option df) (kV doc pm:d0) (an:Option df) (ct:d0) (osl:Array (Za7)),
  fd=jh x qual (C7 st) (Ch st) (Ae st) .none kV doc pm an (.ref c) ct/\K.lookup f=some ⟨oc,od,.func fd,osl⟩/\kg K (.ref c) qual=true
 kp:jf K (.ref f)=true
 hd:∃oc,K.lookup c=some oc/\Kh oc c P
section
variable {P:fc} {w:ge} {K:da} {mg:Za2} {base:gv}
theorem Uy.ok {x:Str}{f c:df}{k:Nat}(F:Uy K x qual st f fd c Pt)(S:Al N ps (Ae st))(len:∀vs H Q E,sp vs H Q E->vs.length=ps.length)
  (hbody:∀(A:gt) (outer:List Env) (s:d4) (H:Hp) (vs:List V) (Q:VK) (E:XK),Ck k (A.deeper (envOfC qual (Ae st) s.heap.objs.size f (.ref c)))->sp vs H Q E ->
   ∃t,PSs (E1 CX0 P w K mg base N qual (Ae st) f (.ref c) A outer s H E).nox (Ch st) t/\t { nx:=λ_ H'=>Q .non H',rt:=Q } (Nc N vs) H):Ba P w K mg base CX0 (k+1) f fd ps sp:=by
 obtain⟨oc,od,kV,doc,pm,an,ct,osl,rfl,lk,hcd⟩:=F.ex;refine qC lk hcd S len λA outer s H vs Q E hr hsp=>?_;obtain⟨t,h,q⟩:=hbody A outer s H vs Q E hr hsp;exact⟨t,h.nox,q⟩
theorem Uy.code {x:Str}{f c:df}(F:Uy K x qual st f fd c Pt)(hK:K.In base):zj base c Pt:=let ⟨oc,e,h⟩:=F.hd;h.at (hK _ _ e)
theorem Uy.binds {x:Str}{f c:df}(F:Uy K x qual st f fd c Pt)
  (h:∀(kV doc pm:d0) (an:Option df) (cdv ct:d0) (us:Za3),us.length=ps.length->bindArgs (jh x qual (C7 st) (Ch st) (Ae st) .none kV doc pm an cdv ct) ⟨us,[]⟩=pure (ps.zip us)):Ge K fd ps []:=by
 obtain⟨oc,od,kV,doc,pm,an,ct,osl,rfl,lk,hcd⟩:=F.ex;exact .all (h kV doc pm an (.ref c) ct)
theorem Xj {x:Str}{f c:df}{oc:d0}{an:Option df}{osl:Array (Za7)}{kV doc ct:d0}{oo:Obj}(l:K.lookup f=some ⟨oc,od,.func (jh x qual (C7 st) (Ch st) (Ae st) .none kV doc pm an (.ref c) ct),osl⟩)
  (cc:kg K (.ref c) qual=true)(k:jf K (.ref f)=true)(lc:K.lookup c=some oo)(hc:Kh oo c Pt):Uy K x qual st f (jh x qual (C7 st) (Ch st) (Ae st) .none kV doc pm an (.ref c) ct) c Pt:=⟨⟨oc,od,kV,doc,pm,an,ct,osl,rfl,l,cc⟩,k,oo,lc,hc⟩
end
def InC (cl:List (Str×df))(b:df):Prop:=∃x,cl.lookup x=some b
open Classical in
noncomputable def Jk (H:Hp) (cl:List (Str×df)):Hp:=λb=>if InC cl b then none else H b
open Classical in
noncomputable def Jt (H:Hp) (h:gv) (cl:List (Str×df)):Hp:=λb=>if InC cl b then(h.get? b).map λo=>.frz o (.own 0) else H b
theorem Ly {cl:List (Str×df)}{b:df}(h:InC cl b):Jk H cl b=none:=if_pos h
theorem Gk {cl:List (Str×df)}{b:df}(h:¬ InC cl b):Jk H cl b=H b:=if_neg h
theorem Ob {cl:List (Str×df)}{b:df}{o:Obj}(hb:InC cl b)(e:h.get? b=some o):Jt H h cl b=some (.frz o (.own 0)):=by
 unfold Jt;rw[if_pos hb,e];rfl
theorem Db {cl:List (Str×df)}{b:df}(hb:¬ InC cl b):Jt H h cl b=H b:=if_neg hb
theorem Ff {cl:List (Str×df)}{b:df}(h:H b=none):Jk H cl b=none:=by
 by_cases hb:InC cl b
 ·exact Ly hb
 ·rw[Gk hb];exact h
theorem gT {cl:List (Str×df)}{b:df}{o:HO}(h:Jk H cl b=some o):¬ InC cl b/\H b=some o:=by
 by_cases hb:InC cl b
 ·rw[Ly hb] at h;cases h
 ·rw[Gk hb] at h;exact⟨hb,h⟩
theorem eT {P:fc}{cl:List (Str×df)}(hk:HOk P w H h)(hc:∀b,InC cl b->∃o u,H b=some (.frz o u)):HOk P w (Jk H cl) h:=λb o e=>by
 obtain⟨hb,e⟩:=gT e;refine(hk b o e).stay (λ_ _ _ q=>q) (λc q=>?_) λc xs q=>?_
 ·rw[Gk λz=>?_]
  ·exact q
  ·obtain⟨o,u,e⟩:=hc c z
   rw[q] at e;cases e
 ·rw[Gk λz=>?_]
  ·exact q
  ·obtain⟨o,u,e⟩:=hc c z
   rw[q] at e;cases e
theorem eC {P:fc}{w:ge}{H:Hp}{h:gv}{cl:List (Str×df)}(hk:HOk P w H h)(hn:∀b,InC cl b->H b=none):HOk P w (Jt H h cl) h:=λb o e=>by
 by_cases hb:InC cl b
 ·unfold Jt at e
  rw[if_pos hb] at e
  cases g:h.get? b with
  |none=>rw[g] at e;cases e
  |some ob=>
   rw[g] at e;cases e;exact⟨g,_,g⟩
 ·rw[Db hb] at e
  refine(hk b o e).stay (λ_ _ _ q=>q) (λc q=>?_) λc xs q=>?_
  ·rw[Db λz=>by rw[hn c z] at q;cases q];exact q
  ·rw[Db λz=>by rw[hn c z] at q;cases q];exact q
def eJ (P:fc)(w:ge)(K:da)(mg:Za2)(base:gv)(k:Nat)(H:Hp)(f:df)(dom:Int->Prop)(p:Int->Bool):Prop:=
 (∃oc od fd sl u,H f=some (.frz ⟨oc,od,.func fd,sl⟩ u))/\∀(A:gt) (outer:List Env) (s:d4) (H1:Hp) (i:Int) (t:Tok),Ck k A->Uo P w K mg base A outer s H1->Aj H H1->dom i ->
  codeAny (model P w) A (.call (.ref f) ⟨[.int i t],[]⟩) (CR CX0 outer P w H1 s (λv H2=>v=.bl (p i)/\Aj H1 H2) E0) s
theorem eJ.same {P:fc}{K:da}{mg:Za2}{k:Nat}{f:df}{dom:Int->Prop}{p:Int->Bool}(a:eJ P w K mg base k H f dom p)(s:Aj H H'):eJ P w K mg base k H' f dom p:=
 ⟨let ⟨oc,od,fd,sl,u,e⟩:=a.1;⟨oc,od,fd,sl,u,s _ _ e⟩,λA outer st H1 i t hr e0 sm hd=>a.2 A outer st H1 i t hr e0 (λb o e=>sm _ _ (s _ _ e)) hd⟩
section
variable {X:Cx} {x:Str} {i:Nat} {k:Nat} {a:gd} {ta:TE} {q pos:Pos}
def Acc (P:fc)(w:ge)(K:da)(mg:Za2)(base:gv)(k i:Nat)(ta:TE):TE:=λG H Q=>∃(f:df) (dom:Int->Prop) (p:Int->Bool),G[i]?=some (some (.ref f))/\eJ P w K mg base k H f dom p /\
 ta G H λv H1=>T7 G H1 λvs H2=>∃z:Int,v::vs=[.int z]/\Aj H H2/\dom z/\∀H3,Aj H2 H3->Q (.bl (p z)) H3
theorem Abp {P:fc}{K:da}{mg:Za2}{G:St}{Q:VK}(h:∃(f:df) (dom:Int->Prop) (p:Int->Bool),G[i]?=some (some (.ref f))/\eJ P w K mg base k H f dom p /\
 ta G H λv H1=>T7 G H1 λvs H2=>∃z:Int,v::vs=[.int z]/\Aj H H2/\dom z/\∀H3,Aj H2 H3->Q (.bl (p z)) H3):Acc P w K mg base k i ta G H Q:=h
theorem xP (hr:Ck k X.A)(hN:X.N[i]?=some x)(hv:X.env.scope.names.lookup x=some .local)(ha:PE X a ta)(hdb:autoParam ((x==("__debug__":Str))=false) QF)(hcd:autoParam ((x==("__classdict__":Str))=false) QF)
  (he:autoParam (starEach [a] X.env=[(false,eval a X.env)]) QD) :
  PE X (.Call (.Name x q) [a] [] pos) (Acc X.prog X.w X.K X.mg X.base k i ta):=by
 intro pins s G H Q I ⟨f,dom,p,hσ,hA,h⟩;have hn:PE X (.Name x q) (tW i):=sQ hN (.inl hv) hdb hcd;refine wpAny_Call_Name_kw (thn (hn pins s G H (λv H1=>v=.ref f/\H1=H) I ⟨_,hσ,rfl,rfl⟩) λu s0 ⟨v0,H0,I0,r0,e0,e1⟩=>?_);subst e0 e1;obtain rfl:u=ik f:=r0;have fnAt:∀{s':d4} {H':Hp},Inv X pins G H' s'->Aj H0 H'->PySem.W.FnAt f s'.heap:=λI' sm=>by
  obtain⟨oc,od,fd,sl,u,e⟩:=hA.1;exact⟨oc,od,fd,sl,(I'.hok _ _ (sm _ _ e)).1⟩
 have hp:PA X [a] (Vq ta T7):=kG ha Aa he;refine PySem.W.callWith_F (fnAt I0 (λ_ _ e=>e)) (thn (hp pos pins s0 G H0 (λvs H1=>∃z:Int,vs=[.int z]/\Aj H0 H1/\dom z/\∀H3,Aj H1 H3->Q (.bl (p z)) H3) I0 ?_) λus s1 ⟨vs,H1,I1,r1,z,e1,sm,hz,q1⟩=>⟨fnAt I1 sm,?_⟩) he rfl
 ·exact h
 subst e1;obtain⟨u,rfl,t,rfl⟩:=Fj r1;refine oy (lq (hA.2 X.A X.stack s1 H1 z t hr I1.env0 sm hz) λr s' hq=>?_)
 cases r with
 |error e=>exact hq.elim
 |ok fl=>
  cases fl with
  |ret u=>
   obtain⟨v,H',os,bare,un,hok,r,e2,sm2⟩:=hq;subst e2;exact I1.after ⟨_,H',os,bare,un,hok,r,q1 _ sm2⟩
  |next=>exact i9 hq
  |brk=>exact i9 hq
  |cont=>exact i9 hq
end
abbrev mE (qual:Str)(scope:kr)(cl:List (Str×df))(C f:df)(cd:d0):Env:=newEnv scope C mainGlobals cl (qual++ke ".<locals>.") (some f) cd none builtinsNs
def Wu (P:fc)(w:ge)(K:da)(mg:Za2)(base:gv)(N:Za6)(qual:Str)(scope:kr)(cl:List (Str×df))(f:df)(cd:d0)(A:gt)(outer:List Env)(s:d4)(H:Hp):Cx where
 prog:=P
 w:=w
 K:=K
 mg:=mg
 base:=base
 A:=A.deeper (mE qual scope cl s.heap.objs.size f cd)
 N:=N
 HA:=s
 HC:=H
 env:=mE qual scope cl s.heap.objs.size f cd
 outer:=outer
 stack:=mE qual scope cl s.heap.objs.size f cd::outer
 ex:=[]
 fn:=λ_=>false
 calm:=true
 pn:=[]
 xe:=λ_ _=>False
section
variable {P:fc} {w:ge} {K:da} {mg:Za2} {base:gv}
theorem tK {HK:Za6}{HL:kr}{x:Str}{cl:List (Str×df)}{f:df}{cd:d0}{G:St}{HJ:gv}{tk:Nat}{v0:V}{u0:d0}{k:Nat}
  (L:B4 HK HL scope x N ix)(hr:Ck (k+1) A)(e0:Uo P w K mg base A outer s H1)
  (hinj:∀y z c,cl.lookup y=some c->cl.lookup z=some c->y=z)(hhas:∀y,(y,lw)∈scope.names->∃c,cl.lookup y=some c)
  (hcs:∀y c,cl.lookup y=some c->∃o v,H1 c=some (.frz o (.own 0))/\o.data=.cell v)
  (hval:∀y j v,(y,j)∈N.tail.zip ix->G[j]?=some (some v)->∃c o u,cl.lookup y=some c/\H1 c=some (.frz o (.own 0))/\o.data=.cell (some u)/\By v u)
  (hr0:By v0 u0)(hns:HJ.Ns s.heap.objs.size λz=>mh z [(x,u0)].reverse)(hk:∀b o,s.heap.get? b=some o->HJ.get? b=some o) :
  Inv (Wu P w K mg base N qual scope cl f cd A outer s (Jk H1 cl)) [] (some v0::frV G ix) (Jk H1 cl) { s with heap:=HJ,toks:=tk }:=by
 have noA:∀b:df,b∉(Wu P w K mg base N qual scope cl f cd A outer s (Jk H1 cl)).ex:=λb z=>absurd (show b∈([]:List df) from z) (by simp);have kf:∀y,scope.names.lookup y≠some .cell:=λy e=>L.nocell _ (iq e) rfl;refine⟨⟨e0.mod,L.kind,rfl,rfl,db _,λy z c h1 h2=>hinj y z c h1 h2,λy hy=>?_,λy c z _=>?_,λ_=>(hr.deeper _).hd,xh e0.frames,.inr ⟨rfl,rfl⟩,λb z=>absurd z (noA b),λb o e=>⟨(e0.bs b o e).1,Ff (e0.bs b o e).2⟩,e0.bsz,λb _ _=>noA b,λb z=>absurd z (noA b),e0.funs,λb hb=>Ff (e0.frf b hb)⟩,
  rfl,e0.bare,Un.kept hk,⟨_,hns,λi y v h1 h2 h3=>?_⟩,λy c e=>?_,Ff (e0.hok.fresh (db _)),λy c e=>Ly ⟨y,e⟩,λp hp=>absurd (show p∈([]:Za1) from hp) (by simp),?_,?_⟩
 ·have hy:scope.names.lookup y=some .cell\/scope.names.lookup y=some .free:=hy
  rcases hy with hy|hy
  ·exact absurd hy (kf y)
  ·exact hhas y (iq hy)
 ·cases(show false=true from z)
 ·cases i with
  |zero=>
   have h1:N[0]?=some y:=h1;have h2:some (some v0)=some (some v):=h2;cases h2;have hx:N[0]?=some x:=by have:=L.hd;rwa [w9] at this
   rw[h1] at hx;cases hx;exact⟨u0,hr0,.inl ⟨L.loc,by simp⟩⟩
  |succ j=>
   have h1:N[j+1]?=some y:=h1;have h2:(frV G ix)[j]?=some (some v):=h2;unfold frV at h2;rw[dg] at h2
   cases hj:ix[j]? with
   |none=>rw[hj] at h2;cases h2
   |some m=>
    rw[hj] at h2;have h2:(G[m]?).getD none=some v:=de h2;have h2':G[m]?=some (some v):=by
     cases e:G[m]? with
     |none=>rw[e] at h2;cases h2
     |some z=>rw[e] at h2;exact congrArg some h2
    have ht:N.tail[j]?=some y:=by rw[li];exact h1
    have hz:(y,m)∈N.tail.zip ix:=gw (i:=j) (by rw[pk];exact⟨ht,hj⟩);obtain⟨c,o,u,e1,e2,e3,r⟩:=hval y m v hz h2';exact⟨u,r,.inr ⟨.inr (L.at_ _ hz).2,c,e1,o,hk _ _ (e0.hok _ _ e2).1,e3⟩⟩
 ·obtain⟨o,v,e1,e2⟩:=hcs y c e
  exact⟨v,o,hk _ _ (e0.hok _ _ e1).1,e2⟩
 ·exact(eT e0.hok λb ⟨y,e⟩=>let ⟨o,v,e1,_⟩:=hcs y b e;⟨o,_,e1⟩).kept hk
 ·show(some v0::frV G ix).length=N.length
  rw[L.len];simp[frV]
theorem qS {HK:Za6}{HL:kr}{x:Str}{cl:List (Str×df)}{f c':df}{G:St}{k:Nat}{body:gd}{ctv:d0}{oc:Obj}{dom:Int->Prop}{p:Int->Bool}
  (L:B4 HK HL scope x N ix)(hco:scope.isCoroutine=false)(hgen:scope.isGenerator=false)
  (hinj:∀y z c,cl.lookup y=some c->cl.lookup z=some c->y=z)(hhas:∀y,(y,lw)∈scope.names->∃c,cl.lookup y=some c)
  (hcs:∀y c,cl.lookup y=some c->∃o v,H c=some (.frz o (.own 0))/\o.data=.cell v)
  (hval:∀y j v,(y,j)∈N.tail.zip ix->G[j]?=some (some v)->∃c o u,cl.lookup y=some c/\H c=some (.frz o (.own 0))/\o.data=.cell (some u)/\By v u)
  (hf:H f=some (.frz (wv "<lambda>" qual params body scope cl pm c' ctv) (.own 0)))(hc':H c'=some (.frz oc (.own 0)))(hoc:Xs oc qual)
  (hbind:∀(n:Int) (t:Tok),bindArgs (uh "<lambda>" qual params body scope cl pm (.ref c') ctv) ⟨[.int n t],[]⟩=pure [(x,.int n t)])
  (hbody:∀(A:gt) (outer:List Env) (s:d4) (H1:Hp),Ck k (A.deeper (mE qual scope cl s.heap.objs.size f (.ref c')))->PE (Wu P w K mg base N qual scope cl f (.ref c') A outer s H1) body te)
  (hte:∀(i:Int) (H1:Hp),dom i->(∀b u,¬ InC cl b->H b=some u->H1 b=some u)->te (some (.int i)::frV G ix) H1 λv H2=>v=.bl (p i)/\Aj H1 H2):eJ P w K mg base (k+1) H f dom p:=by
 refine⟨⟨_,_,_,_,_,hf⟩,λA outer s H1 i t hr e0 sm hd=>?_⟩;have hfo:s.heap.get? f=some (wv "<lambda>" qual params body scope cl pm c' ctv):=(e0.hok _ _ (sm _ _ hf)).1;have hco':s.heap.get? c'=some oc:=(e0.hok _ _ (sm _ _ hc')).1;have lim:s.heap.NoLimit:=e0.mod.nolimit.keeps λb o e=>(e0.bs b o e).1;refine PySem.W.kla_callFunE hr.depth hfo rfl hco hgen rfl (let ⟨vs,t,e1,e2⟩:=hoc;⟨c',oc,vs,t,rfl,hco',e1,e2⟩) ?_;rw[hbind];refine em (rz L.nocell (λy hy=>by cases ie.mp hy;exact L.loc) (λHJ hns hsb=>⟨lim.fresh _ hsb,?_⟩) L.kind);have QT:∀b o,s.heap.get? b=some o->HJ.get? b=some o:=λb o e=>hsb.extBut b o (fk (d3 e)) (dq _ e);have inH:∀b,InC cl b->∃o v,H1 b=some (.frz o (.own 0))/\o.data=.cell v:=λb ⟨y,e⟩=>let ⟨o,v,e1,e2⟩:=hcs y b e;⟨o,v,sm _ _ e1,e2⟩;have I':=tK (qual:=qual) (f:=f) (cd:=.ref c') (tk:=s.toks+[(x,l7 i t)].length) (v0:=.int i) (u0:=.int i t) L hr e0 hinj hhas (λy c e=>let ⟨o,v,e1,e2⟩:=hcs y c e;⟨o,v,sm _ _ e1,e2⟩)
  (λy j v h1 h2=>let ⟨c,o,u,a1,a2,a3,a4⟩:=hval y j v h1 h2;⟨c,o,u,a1,sm _ _ a2,a3,a4⟩) ⟨t,rfl⟩ hns QT
 refine PySem.W.kla_codeExpr (ip (hbody A outer s (Jk H1 cl) (hr.deeper _) [] _ _ _ _ I' (hte i _ hd λb u hb e=>by rw[Gk hb];exact sm _ _ e)) (λv s' ⟨v',H2,I2,r,ev,sm2⟩=>?_) λe s' z=>z.elim);have nfr:∀b,InC cl b->b∉frs outer:=λb hb z=>by
  obtain⟨o,v,e1,_⟩:=inH b hb;rw[e0.frf b z] at e1;cases e1
 have cell':∀b o u,InC cl b->H1 b=some (.frz o u)->s'.heap.get? b=some o/\u=.own 0:=λb o u hb e=>by
  obtain⟨o2,v2,e1,_⟩:=inH b hb;rw[e] at e1;cases e1;exact⟨I2.base.keep b o (e0.hok _ _ e).1 (Ly hb) (nfr b hb) (by simp[Wu]),rfl⟩
 have same':∀b u,H1 b=some u->(∀ps,u≠.tbl ps)\/True->Jt H2 s'.heap cl b=some u:=λb u e _=>by
  by_cases hb:InC cl b
  ·obtain⟨o,v,e1,_⟩:=inH b hb
   rw[e] at e1;cases e1;exact Ob hb (cell' b o _ hb e).1
  ·rw[Db hb]
   exact sm2 _ _ (by rw[Gk hb];exact e)
 refine⟨v',Jt H2 s'.heap cl,I2.os,I2.bare,⟨λb o e n hf hx=>I2.base.keep b o e (Ff n) hf hx,λb o e n hf hx=>I2.base.slot b o e (Ff n) hf hx,λb o e n hx=>?_,λb o e hx=>I2.base.there b o e hx,λb xs e=>same' _ _ e (.inr trivial),λb o u e=>same' _ _ e (.inr trivial),λb ps e=>⟨#[],by rw[pe];exact same' _ _ e (.inr trivial)⟩⟩,eC I2.hok λb ⟨y,e⟩=>I2.freeC y b e,r,ev,λb u e=>same' b u e (.inr trivial)⟩;have hb:¬ InC cl b:=λhb=>by
  obtain⟨o,v,e1,_⟩:=inH b hb;rw[n] at e1;cases e1
 rw[Db hb];exact I2.base.free b o e (Ff n) hx
end
inductive Rx (P:fc)(w:ge)(K:da)(mg:Za2)(base:gv)(k:Nat)(vs:List V)(H:Hp)(Q:VK)(E:XK):Prop|mk(lo hi:Int)(f:df)(p:Int->Bool)(_:vs=[.int lo,.int hi,.ref f])(_:lo<=hi)(_:eJ P w K mg base k H f (λi=>lo<=i/\i<hi) p)(_:∀m H',lo<=m->m<=hi->(lo<m->p (m-1)=false)->(m<hi->p m=true)->Aj H H'->Q (.int m) H')
def gZ (Pt:df)(lpos:Pos)(qual:Str)(ix:Za4)(te ta tb:TE):TE:=λG H Q=>ta G H λv H1=>tb G H1 λu H2=>∃(lo hi:Int) (p:Int->Bool),v=.int lo/\u=.int hi/\lo<=hi/\Sk H2 Pt lpos qual /\
 (∀(i:Int) (H3:Hp),lo<=i->i<hi->Ri Pt H2 H3->te (some (.int i)::frV G ix) H3 λv H4=>v=.bl (p i)/\Aj H3 H4) /\
 ∀(m:Int) (H':Hp),lo<=m->m<=hi->(lo<m->p (m-1)=false)->(m<hi->p m=true)->Ri Pt H2 H'->Sk H' Pt lpos qual->Q (.int m) H'
theorem uC {lpos:Pos}{ta tb:TE}{G:St}{Q:VK}(h:ta G H λv H1=>tb G H1 λu H2=>∃(lo hi:Int) (p:Int->Bool),v=.int lo/\u=.int hi/\lo<=hi/\Sk H2 Pt lpos qual /\
 (∀(i:Int) (H3:Hp),lo<=i->i<hi->Ri Pt H2 H3->te (some (.int i)::frV G ix) H3 λv H4=>v=.bl (p i)/\Aj H3 H4) /\
 ∀(m:Int) (H':Hp),lo<=m->m<=hi->(lo<m->p (m-1)=false)->(m<hi->p m=true)->Ri Pt H2 H'->Sk H' Pt lpos qual->Q (.int m) H'):gZ Pt lpos qual ix te ta tb G H Q:=h
section
variable {X:Cx}
theorem sM {g x:Str}{a b body:gd}{ta tb:TE}{q lpos:Pos}{ff c:df}{kf k:Nat} 
  (F:Ba X.prog X.w X.K X.mg X.base CX0 kf ff fd ps (Rx X.prog X.w X.K X.mg X.base (k+1)))(hr:Ck kf X.A)(hg:Gl X g)(hm:X.mg g=some (.ref ff))(hkp:jf X.K (.ref ff)=true)(hb:Ge X.K fd ps [])
  (ha:PE X a ta)(hbb:PE X b tb)(hfn:X.fn=λ_=>true)
  (C:zj X.base c Pt)(hB:X.base.BuiltinsAt X.mg Pt)(hcode:X.env.code=.ref c)(hq:X.env.qual++"<lambda>"=qual)
  (L:B4 X.N X.env.scope scope x N ix)(hco:scope.isCoroutine=false)(hgen:scope.isGenerator=false)(hdef:defaultsOf params X.env=([],[]))
  (hbind:∀(cl:List (Str×df)) (pm cv ctv:d0) (n:Int) (t:Tok),bindArgs (uh "<lambda>" qual params body scope cl pm cv ctv) ⟨[.int n t],[]⟩=pure [(x,.int n t)])
  (hbody:∀(cl:List (Str×df)) (f c':df) (A:gt) (outer:List Env) (s:d4) (H1:Hp),Ck k (A.deeper (mE qual scope cl s.heap.objs.size f (.ref c')))->PE (Wu X.prog X.w X.K X.mg X.base N qual scope cl f (.ref c') A outer s H1) body te)
  (hdb:autoParam ((g==("__debug__":Str))=false) QF)(he1:autoParam (starEach [a,b,.Lambda params body scope lpos] X.env=(false,eval a X.env)::starEach [b,.Lambda params body scope lpos] X.env) QD)(he2:autoParam (starEach [b,.Lambda params body scope lpos] X.env=(false,eval b X.env)::starEach [.Lambda params body scope lpos] X.env) QD)
  (he3:autoParam (starEach [.Lambda params body scope lpos] X.env=[(false,eval (.Lambda params body scope lpos) X.env)]) QD)(hpl:autoParam ((backTo pos (starEach [b,.Lambda params body scope lpos] X.env)).any (·.1)=false) QD) :
  PE X (.Call (.Name g q) [a,b,.Lambda params body scope lpos] [] pos) (gZ Pt lpos qual ix te ta tb):=by
 k_in;refine wpAny_Call_Name_kw (La I hg hm ?_ hdb);refine callWith_K (h₀:=X.base) I.ok.mod.kin hkp ?_ he1 hpl;rw[he1];show wpAny _ _ (spliced ((false,eval a X.env)::backTo pos (starEach [b,.Lambda params body scope lpos] X.env))) _ _ s;refine lf (thE ha I h λu1 s1 v1 H1 I1 r1 q1=>?_);rw[he2];show wpAny _ _ (spliced ((false,eval b X.env)::backTo pos (starEach [.Lambda params body scope lpos] X.env))) _ _ s1;refine lf (thE hbb I1 q1 λu2 s2 v2 H2 I2 r2 ⟨lo,hi,p,e1,e2,hle,hT,hbd,q2⟩=>?_);subst e1 e2;rw[he3];show wpAny _ _ (spliced [(false,eval (.Lambda params body scope lpos) X.env)]) _ _ s2;have hfree:∀y∈scope.names,y.2=.free->∃c,X.env.cells.lookup y.1=some c:=λy hy hf=>I.ok.has y.1 (.inl (L.free y hy hf));have sub:∀y c,(Eh X.env scope.names []).lookup y=some c->X.env.cells.lookup y=some c:=λy c h=>Jv _ _ y c hfree (λ_ _ z=>by simp at z) h;refine lf (pE I2 hT C hB hcode (Hy hfree) hdef hq λf c' oc pm ctv s3 H3 I3 hT3 sm hf0 hf hc' hoc=>?_);refine pq ?_;generalize hcl:Eh X.env scope.names []=cl at hf sub;have inj:∀y z c,cl.lookup y=some c->cl.lookup z=some c->y=z:=λy z c h1 h2=>I.ok.inj y z c (sub y c h1) (sub z c h2);have n3:∀b,InC cl b->H3 b=none:=λb ⟨y,e⟩=>I3.freeC y b (sub y b e);have cellAt:∀y c,cl.lookup y=some c->∃o v,s3.heap.get? c=some o/\o.data=.cell v:=λy c e=>let ⟨v,o,e1,e2⟩:=I3.cell y c (sub y c e);⟨o,v,e1,e2⟩;have nLoc:∀b,InC cl b->b≠X.env.locals:=λb ⟨y,e⟩=>I3.cne y b (sub y b e);have hab:∀b,InC cl b->X.HA.heap.objs.size<=b:=λb ⟨y,e⟩=>I3.ok.cab y b (by rw[hfn]) (sub y b e);have nfr:∀b,InC cl b->b∉frs X.stack:=λb hb z=>by
  rcases fu.mp (I3.stkSub b z) with e|hz
  ·exact nLoc b hb e
  ·obtain⟨_,o,ho,_⟩:=I3.ok.funs.mem hz
   exact absurd (d3 ho) (qj.mpr (hab b hb))
 have e0:Uo X.prog X.w X.K X.mg X.base X.A X.stack s3 (Jt H3 s3.heap cl):=by
  have z:=I3.env0;refine⟨z.frames,z.mod,λb o e=>⟨(z.bs b o e).1,?_⟩,z.bsz,z.funs,λb hb=>?_,eC z.hok n3,z.bare⟩
  ·rw[Db λhb=>?_]
   ·exact(z.bs b o e).2
   ·exact absurd (d3 e) (qj.mpr (gl I3.ok.bsz (hab b hb)))
  ·rw[Db λh=>nfr b h hb]
   exact z.frf b hb
 have out:∀b u,H3 b=some u->Jt H3 s3.heap cl b=some u:=λb u e=>by
  rw[Db λhb=>by rw[n3 b hb] at e;cases e];exact e
 have asks:eJ X.prog X.w X.K X.mg X.base (k+1) (Jt H3 s3.heap cl) f (λi=>lo<=i/\i<hi) p:=by
  refine qS (G:=G) (te:=te) L hco hgen inj (λy hy=>?_) (λy c e=>?_) (λy j v hz hj=>?_) (out _ _ hf) (out _ _ hc') hoc (hbind _ _ _ _) (λA outer s H1 hr=>hbody _ _ _ A outer s H1 hr) λi H4 hi k4=>?_
  ·rw[<-hcl];exact ib.mp (Fo _ _ y hy)
  ·obtain⟨o,v,e1,e2⟩:=cellAt y c e
   exact⟨o,v,Ob ⟨y,e⟩ e1,e2⟩
  ·obtain⟨b1,b2⟩:=L.at_ _ hz
   have hm:=iq b2;have hcell:=L.free _ hm rfl;obtain⟨m',hn',hl'⟩:=I3.loc;obtain⟨u,r,lk⟩:=hl' j y v b1 hj (.inr (.inl hcell));rcases lk with lk|⟨_,c2,e,o,z1,z2⟩
   ·rw[show X.env.kindOf y=some .cell from hcell] at lk
    cases lk.1
   ·obtain⟨c3,e'⟩:=ib.mp (Fo (env:=X.env) scope.names [] y hm)
    rw[hcl] at e';have e2:=sub y c3 e';rw[e] at e2;cases e2;exact⟨c2,o,u,e',Ob ⟨y,e'⟩ z1,z2,r⟩
  ·refine hbd i H4 hi.1 hi.2 λb u hb e=>?_
   have e3:=sm b u hb e;exact k4 b u (λhc=>by rw[n3 b hc] at e3;cases e3) (out b u e3)
 refine⟨I3.kIn,?_⟩;show wpAny _ _ (call (.ref ff) [u1,u2,.ref f]) _ _ s3;have rv:Bj [V.int lo,V.int hi,V.ref f] [u1,u2,.ref f]:=.cons r1 (.cons r2 (.cons rfl .nil));have hl:([u1,u2,ik f]++[]).length=ps.length:=by
  have:=F.len [.int lo,.int hi,.ref f] (Jt H3 s3.heap cl) (λ_ _=>True) E0 ⟨lo,hi,f,p,rfl,hle,asks,λ_ _ _ _ _ _ _=>trivial⟩;exact this
 refine oy (lq (F.run X.A X.stack s3 (Jt H3 s3.heap cl) ⟨[u1,u2,.ref f],[]⟩ ([u1,u2,.ref f]++[]) [.int lo,.int hi,.ref f] (λv H'=>∃m,v=.int m/\lo<=m/\m<=hi/\(lo<m->p (m-1)=false)/\(m<hi->p m=true)/\Aj (Jt H3 s3.heap cl) H') E0 hr e0 (hb s3 _ I3.kIn hl) (by simpa using rv)
  ⟨lo,hi,f,p,rfl,hle,asks,λm H' a1 a2 a3 a4 a5=>⟨m,rfl,a1,a2,a3,a4,a5⟩⟩) λr s' hq=>?_)
 cases r with
 |error e=>exact hq.elim
 |ok fl=>
  cases fl with
  |next=>exact i9 hq
  |brk=>exact i9 hq
  |cont=>exact i9 hq
  |ret u=>
   obtain⟨v,H4,os,bare,un,hok,rr,m,ev,a1,a2,a3,a4,sm4⟩:=hq;subst ev;have c4:∀b,InC cl b->∃o,s3.heap.get? b=some o/\H4 b=some (.frz o (.own 0)):=λb ⟨y,e⟩=>by
    obtain⟨o,v,e1,_⟩:=cellAt y b e;exact⟨o,e1,sm4 _ _ (Ob ⟨y,e⟩ e1)⟩
   have sm5:∀b u,H3 b=some u->Jk H4 cl b=some u:=λb u e=>by
    rw[Gk λhb=>by rw[n3 b hb] at e;cases e];exact sm4 _ _ (out _ _ e)
   have un2:Un (frs X.stack) [] H3 (Jk H4 cl) s3.heap s'.heap:=by
    refine⟨λb o e n hf hx=>?_,λb o e n hf hx=>?_,λb o e n hx=>?_,λb o e hx=>un.there b o e hx,λb xs e=>sm5 _ _ e,λb o u e=>sm5 _ _ e,λb ps e=>⟨#[],by rw[pe];exact sm5 _ _ e⟩⟩
    ·by_cases hb:InC cl b
     ·obtain⟨o2,z1,z2⟩:=c4 b hb
      rw[e] at z1;cases z1;exact(hok _ _ z2).1
     ·exact un.keep b o e (by rw[Db hb];exact n) hf hx
    ·have hb:¬ InC cl b:=λhb=>nfr b hb hf
     exact un.slot b o e (by rw[Db hb];exact n) hf hx
    ·by_cases hb:InC cl b
     ·exact Ly hb
     ·exact Ff (un.free b o e (by rw[Db hb];exact n) hx)
   have hok2:HOk X.prog X.w (Jk H4 cl) s'.heap:=eT hok λb hb=>let ⟨o,_,z⟩:=c4 b hb;⟨o,_,z⟩;refine I3.after ⟨_,Jk H4 cl,os,bare,un2,hok2,rr,q2 m _ a1 a2 a3 a4 (λb u hb e=>sm5 _ _ (sm b u hb e)) ?_⟩;obtain⟨pps,t1,t2,t3⟩:=hT3;exact⟨pps,sm5 _ _ t1,t2,t3.imp id λ⟨c2,oc2,z1,z2,z3⟩=>⟨c2,oc2,z1,sm5 _ _ z2,z3⟩⟩
theorem fB {g x:Str}{a b body:gd}{ta tb:TE}{q lpos:Pos}{c:df}{kf k:Nat} 
  (F:Cal X.prog X.w X.K X.mg X.base g kf ps (Rx X.prog X.w X.K X.mg X.base (k+1)))(hr:Ck kf X.A)(ha:PE X a ta)(hbb:PE X b tb)(C:zj X.base c Pt)(hB:X.base.BuiltinsAt X.mg Pt)(hcode:X.env.code=.ref c)(hq:X.env.qual++"<lambda>"=qual)
  (L:B4 X.N X.env.scope scope x N ix)(hbody:∀(cl:List (Str×df)) (f c':df) (A:gt) (outer:List Env) (s:d4) (H1:Hp),Ck k (A.deeper (mE qual scope cl s.heap.objs.size f (.ref c')))->PE (Wu X.prog X.w X.K X.mg X.base N qual scope cl f (.ref c') A outer s H1) body te)
  (hfn:autoParam (X.fn=λ_=>true) QD)(hg:autoParam (Gl X g) QD)(hco:autoParam (scope.isCoroutine=false) QD)(hgen:autoParam (scope.isGenerator=false) QD)(hdef:autoParam (defaultsOf params X.env=([],[])) QD)
  (hbind:∀(cl:List (Str×df)) (pm cv ctv:d0) (n:Int) (t:Tok),bindArgs (uh "<lambda>" qual params body scope cl pm cv ctv) ⟨[.int n t],[]⟩=pure [(x,.int n t)]:=by intros;rfl)
  (hdb:autoParam ((g==("__debug__":Str))=false) QF)(he1:autoParam (starEach [a,b,.Lambda params body scope lpos] X.env=(false,eval a X.env)::starEach [b,.Lambda params body scope lpos] X.env) QD)(he2:autoParam (starEach [b,.Lambda params body scope lpos] X.env=(false,eval b X.env)::starEach [.Lambda params body scope lpos] X.env) QD)
  (he3:autoParam (starEach [.Lambda params body scope lpos] X.env=[(false,eval (.Lambda params body scope lpos) X.env)]) QD)(hpl:autoParam ((backTo pos (starEach [b,.Lambda params body scope lpos] X.env)).any (·.1)=false) QD) :
  PE X (.Call (.Name g q) [a,b,.Lambda params body scope lpos] [] pos) (gZ Pt lpos qual ix te ta tb):=by
 obtain⟨f,fd,F,bb,hm,hk⟩:=F.ex;exact sM F hr hg hm hk bb ha hbb hfn C hB hcode hq L hco hgen hdef hbind hbody hdb he1 he2 he3 hpl
end
theorem Uv:bootBuiltins "reversed"=some (.type "reversed"):=by decide +kernel
end L2
end
section
namespace HD
open PySem PySem.W PySem.Calls PyProof.Rows
def Iq (tb:String->Option ra)(p:fc)(w:ge)(m:Nat)(ann:Za7):Nat->n8->Thread->Option n8
 |0,_,_=>none
 |n+1,s,t=>match through t with
  |true=>some s
  |false=>match stepOk m ann t with
   |false=>none
   |true=>match stepT (denote tb) p w s t with
    |some (s',t')=>Iq tb p w m ann n s' t'
    |none=>none
theorem U8 {tb:String->Option ra}{p:fc}{w:ge}{m:Nat}{ann:Za7}:∀{n:Nat} {s s':n8} {t:Thread},Iq tb p w m ann n s t=some s'->topRun tb p w m ann n s.abs t=some s'.abs
 |0,_,_,_,h=>by cases h
 |n+1,s,s',t,h=>by
  unfold Iq at h;unfold topRun
  cases he:through t with
  |true=>rw[he] at h;cases h;rfl
  |false=>
   rw[he] at h
   cases hk:stepOk m ann t with
   |false=>rw[hk] at h;cases h
   |true=>
    rw[hk] at h
    cases hs:stepT (denote tb) p w s t with
    |none=>rw[hs] at h;cases h
    |some r=>obtain⟨HI,t₂⟩:=r;rw[hs] at h;rw[stepT_spec hs];exact U8 h
def qK:List Obj->Nat->BT->BT
 |[],_,t=>t
 |o::l,n,t=>qK l (n+1) (t.ins n o)
noncomputable def Sg (P:vt):BT:=qK (j7 P).objs.toList 0 .nil
def bootSize:Nat:=11
noncomputable def bootT (w:ge) (os:OsState):n8:=⟨Sg w.params,bootSize,(j7 w.params).life,#[],ue,vi,os⟩
def iI {α:Type}(Yf:d4->α)(h0:gv)(p q:fc)(loose:Za6)(s:d4):=
 (staticsOk (importedModules p.main.body) h0 s.heap&&namesBound p s.heap&&gensDone s&&laidKept h0 s.heap,
  openSeen q loose (importedModules p.main.body) (λ_=>true) true s,Yf s)
def bothT {α:Type}(Yf:d4->α)(s0:n8)(h0:gv)(m:Nat)(p q:fc)(loose:Za6)(M:Nat)(w:ge):=
 (Iq treeTable p w m (some (.ref 6)) M s0 (topStub p)).map λs=>iI Yf h0 p q loose s.abs
theorem rA (P:vt):absHeap (Sg P) bootSize (j7 P).life=j7 P:=by kernel_rfl
theorem mP (P:vt):((j7 P).isNs mainGlobals&&(#[]:Array AH).size==0,(j7 P).objs.size,(j7 P).nsMap mainGlobals "__annotations__")=(true,bootSize,some (.ref 6)):=by kernel_rfl
theorem vT {p q:fc}{loose:Za6}{α:Type}{Yf:d4->α}{Ya:ge->α}{M N:Nat}(e:opening p=plainProg p.main.scope.names)(f:∀s,fenceModules? p s=some s)(hN:zp 600 N=true)(le:zp M N=true)
  (both:∀w:ge,(λos=>bothT Yf (bootT w os) (j7 w.params) bootSize p q loose M w)=λ_=>some (true,openGood q loose,Ya w)) :
  LeftO p q loose (λ_=>true) Yf Ya N:=λw=>by
 obtain⟨⟨h,gs,d,k,os⟩,e1,e'⟩:=mj.mp (boot_open e hN f w);obtain⟨rfl,rfl,rfl,rfl⟩:h=j7 w.params/\gs=xo []/\d=ue/\k=vi:=by simpa using e'
 have b:=congrFun (both w) os;unfold bothT at b;obtain⟨s,r,l⟩:=mj.mp b;have r2:=U8 r;have r3:=topRun_mono (N-M) _ _ _ _ r2;rw[show M+(N-M)=N by have:=xt le;lia] at r3;have eb:(bootT w os).abs=⟨j7 w.params,xo [],ue,vi,os⟩:=by
  show Shared.mk (absHeap (Sg w.params) bootSize (j7 w.params).life) (xo []) ue vi os=_;rw[rA]
 rw[eb] at r3;obtain⟨z1,z2,z3⟩:_/\_/\_:=by simpa only[pi] using mP w.params
 obtain⟨l1,l2,l3⟩:_/\_/\_:=by simpa only[iI,pi] using l
 have t:topFrom treeTable p w N ⟨j7 w.params,xo [],ue,vi,os⟩=some s.abs:=by
  unfold topFrom;dsimp only;rw[z1,z2,z3,r3];show(match staticsOk (importedModules p.main.body) (j7 w.params) s.abs.heap&&namesBound p s.abs.heap&&gensDone s.abs&&laidKept (j7 w.params) s.abs.heap with|true=>_|false=>_)=_;rw[l1]
 unfold openEnds;rw[e1];show(topFrom treeTable p w N _).map _=_;rw[t];exact congrArg some (AN l2 l3)
def recOf:gm->EN
 |.FunctionDef n a b _ _ _ sc _ _ pos=>⟨n,a,b,sc,pos⟩
 |_=>⟨"",default,[],default,default⟩
end HD
lay_quick HD.bothT
end
section
namespace TW
open PySem PySem.StrLaws PySem.Builtin.Str
theorem kS {ds:Za4}(h:Dok ds):∀k,k<=ds.length->opn ds k<=k
 |0,_=>db _
 |k+1,hk=>by
  have:=h k (by lia);have:=kS h k (by lia);show dAt ds k+1<=k+1;lia
theorem Ia {ds:Za4}(h:Dok ds){k:Nat}(hk:k<ds.length):dAt ds k<=k:=gl (h k hk) (kS h k (by lia))
theorem yN {ds:Za4}(h:Dok ds){k:Nat}(hk:k<ds.length):eld ds k<k:=by
 by_cases e:eld ds k=-1
 ·lia
 ·obtain⟨v,e1,e2,_⟩:=Cc h hk e
  lia
def As (ds:Za4)(k:Nat)(v:Int):Za4:=(ed k).filter λj=>decide (eld ds j=v)
theorem Kk (ds:Za4)(k:Nat)(v:Int):(As ds k v).length<=k:=by
 unfold As;exact gl (xm ..) (by rw[fj];exact db _)
theorem C3 {ds:Za4}{k:Nat}{v:Int}(h:eld ds k=v):As ds (k+1) v=As ds k v++[k]:=by
 unfold As;rw[ic,l8,List.filter_cons_of_pos (by simpa using h)];rfl
theorem Gs {ds:Za4}{k:Nat}{v:Int}(h:eld ds k≠v):As ds (k+1) v=As ds k v:=by
 unfold As;rw[ic,l8,List.filter_cons_of_neg (by simpa using h)];simp
theorem Cm {ds:Za4}{k j:Nat}{v:Int}:j∈As ds k v↔j<k/\eld ds j=v:=by
 unfold As;rw[ql,ja];simp
theorem mM {ds:Za4}(h:Dok ds){k v:Nat}(hk:k<=ds.length)(hv:k<=v+1):As ds k v=[]:=by
 apply ua.mpr;intro j hj;obtain⟨h1,h2⟩:=Cm.mp hj;have:=yN h (k:=j) (by lia);lia
end TW
end
section
namespace L2
open PySem PySem.Spec PyProof.Rows
variable {C CS Pt dx i1 i2 it kl l1 l2 pa z:df} {params:kj} {A:gt} {CX:CXT} {op:rf} {X:Cx} {env:Env} {tg:gd} {fd:io} {base h h' h1:gv} {H H' H1 H2:Hp} {J:It} {pins:Za1} {as fp:List df} {outer:List Env} {elts:List gd} {ns:List Int} {ix:Za4} {N ps:Za6} {ts:List Tb} {xs ys:List V} {us vs:Za3} {M:qr} {off t':Nat} {oT:Obj} {od:Option df} {pos:Pos} {scope:kr} {pl:Sem Bool} {s s2:d4} {sp:Sp} {st:gm} {qual:Str} {tk:TA} {te:TE} {wi:TI} {y:V} {pm:d0} {w:ge}
section
variable {X:Cx}
theorem gP (K:da)(h:autoParam (X.K=K) QD):Hh X (.builtin "len") (λxs H Q=>∃p ys,xs=[.ref p]/\(SqL K H p ys\/SqT K H p ys)/\Q (.int ys.length) H):=by
 subst h;exact Aq
end
theorem uO {K:da}{fr:St}{tc:TT}{Q:VK}(n:Nat)(f1 f2:Nat->V)(Pv:df->Nat->List V->Hp->Prop)(h0:∀D H,H1 D=none->Aj H1 H->Pv D 0 [] H)
  (stab:∀D i ys H xs o,H D=some (.lst xs)->Pv D i ys H->Pv D i ys (upd H D o))(hz:∀D i ys H,i<n->Pv D i ys H->ys.length<sizeLine)(psame:∀D i ys H H',Aj H H'->Pv D i ys H->Pv D i ys H')
  (hgo:∀i H,i<n->Aj H1 H->J.go i H)(hy:∀i H v H',i<n->Aj H1 H->J.yld i H v H'->∃a,v=.ref a/\SqT K H' a [f1 i,f2 i]/\Aj H H')(hst:∀H,Aj H1 H->J.stop n H)
  (turn:∀D i ys H (A:VK) (R:Hp->Prop),i<n->Aj H1 H->H1 D=none->H D=some (.lst ys)->Pv D i ys H->(∀y H',Aj H H'->Pv D (i+1) (ys++[y]) H'->A y H') ->
   tc (some (f1 i)::some (f2 i)::fr) H λb H3=>if b=true then te (some (f1 i)::some (f2 i)::fr) H3 A else R H3)
  (fin:∀D ys H,H1 D=none->Aj H1 H->Pv D n ys H->H D=some (.lst ys)->Q (.ref D) H):Lg K J H1 fr tc te Q:=by
 intro D hD;refine⟨λi m H=>i<=n/\m=n-i/\Aj H1 H/\∃ys,H D=some (.lst ys)/\Pv D i ys H,⟨n,e9 _,rfl,An hD,[],Ac,h0 D _ hD (An hD)⟩,?_⟩;rintro i m H ⟨hi,rfl,sm,ys,hl,hp⟩
 by_cases h:i=n
 ·subst h
  exact .inl ⟨hst H sm,fin D ys H hD sm hp hl⟩
 ·have hlt:i<n:=im hi h
  refine .inr ⟨hgo i H hlt sm,λv H' hyl=>?_⟩;obtain⟨a,rfl,ht,s2⟩:=hy i H v H' hlt sm hyl;refine⟨a,_,_,rfl,ht,turn D i ys H' _ _ hlt (sm.trans s2) hD (s2 _ _ hl) (psame _ _ _ _ _ s2 hp) (λy H4 s4 hp4=>?_)⟩;refine⟨ys,s4 _ _ (s2 _ _ hl),hz D i ys _ hlt hp,n-(i+1),by lia,by lia,rfl,λb u e=>?_,ys++[y],Ac,stab _ _ _ _ _ _ (s4 _ _ (s2 _ _ hl)) hp4⟩;rw[Ai (Af e hD)];exact s4 _ _ (s2 _ _ (sm _ _ e))
theorem vW {K:da}{a b:df}{fr:St}{tc:TT}{Q:VK}(ha:SqL K H1 a xs)(hb:SqL K H1 b ys)(Pv:df->Nat->List V->Hp->Prop)(h0:∀D H,H1 D=none->Aj H1 H->Pv D 0 [] H)
  (stab:∀D i zs H us o,H D=some (.lst us)->Pv D i zs H->Pv D i zs (upd H D o))(hz:∀D i zs H,i<min xs.length ys.length->Pv D i zs H->zs.length<sizeLine)(psame:∀D i zs H H',Aj H H'->Pv D i zs H->Pv D i zs H')
  (turn:∀D (i:Nat) zs x y H (A:VK) (R:Hp->Prop),xs[i]?=some x->ys[i]?=some y->Aj H1 H->H1 D=none->H D=some (.lst zs)->Pv D i zs H->(∀y H',Aj H H'->Pv D (i+1) (zs++[y]) H'->A y H') ->
   tc (some x::some y::fr) H λb H3=>if b=true then te (some x::some y::fr) H3 A else R H3)
  (fin:∀D zs H,H1 D=none->Aj H1 H->Pv D (min xs.length ys.length) zs H->H D=some (.lst zs)->Q (.ref D) H):Lg K (Itz K a b) H1 fr tc te Q:=by
 refine uO (min xs.length ys.length) (λi=>xs.getD i .non) (λi=>ys.getD i .non) Pv h0 stab hz psame (λi H hi sm=>⟨xs,ys,xs[i]'(by lia),ys[i]'(by lia),sm.seq ha,sm.seq hb,by simp,by simp⟩) (λi H v H' hi sm h=>?_)
  (λH sm=>⟨xs,ys,sm.seq ha,sm.seq hb,rfl⟩) (λD i zs H A R hi sm=>turn D i zs _ _ H A R (by simp[show i<xs.length by lia]) (by simp[show i<ys.length by lia]) sm) fin
 obtain⟨t,x,y,hn,rfl,h1,h2,rfl⟩:=h;have e1:=h1 xs (sm.seq ha);have e2:=h2 ys (sm.seq hb);refine⟨t,rfl,?_,An hn⟩;simp only[eh,e1,e2,na];exact SqT.of Ac
theorem oY {K:da}{a:df}{fr:St}{tc:TT}{Q:VK}(hl:SqL K H1 a xs)(Pv:Nat->List V->Hp->Prop)(h0:∀H,Aj H1 H->Pv 0 [] H)
  (stab:∀i ys H D zs o,H D=some (.lst zs)->Pv i ys H->Pv i ys (upd H D o))(hz:∀i ys H,i<xs.length->Pv i ys H->ys.length<sizeLine)
  (turn:∀(i:Nat) ys x H (A:VK) (R:Hp->Prop),xs[i]?=some x->Aj H1 H->Pv i ys H->(∀y H',Aj H H'->Pv (i+1) (ys++[y]) H'->A y H')->tc (some x::fr) H λb H3=>if b=true then te (some x::fr) H3 A else R H3)
  (fin:∀D ys H,H1 D=none->Aj H1 H->Pv xs.length ys H->H D=some (.lst ys)->Q (.ref D) H):Xz (Itl K a) H1 fr tc te Q:=by
 refine Aab xs.length (λi=>xs.getD i .non) Pv h0 stab hz (λi H hi sm=>⟨xs,xs[i],sm.seq hl,by simp[hi]⟩) (λi H x H' hi sm h=>⟨?_,h.1⟩) (λH sm=>⟨xs,sm.seq hl,db _⟩) (λi ys H A R hi sm=>turn i ys _ H A R (by simp[hi]) sm) fin;have:=h.2 xs (sm.seq hl);simp[eh,this]
open PySem.W
structure vU (P:fc) (w:ge) (K:da) (mg:Za2) (base:gv) (x m:Str) (k:Nat) (ps:Za6) (sp:Sp):Prop where
 ex:∃(W f:df) (fd:io),Ba P w K mg base CX0 k f fd ps sp/\Ge K fd ps []/\mg x=some (.ref W)/\specialIn K (.ref W) "__getattribute__"=some (some (.builtin "type.__getattribute__")) /\
  readsIn K W (.type "type")=true/\findCls K (.ref W) (.type "type") m=some (.val (.ref f))/\keepIn K (.ref f)=true
section
variable {X:Cx} {x m:Str} {k:Nat} {ps:Za6} {sp:Sp} {np apos pos:Pos} {e:gd} {es:List gd} {t:TA} {pl:Sem Bool}
theorem wQ (M:vU X.prog X.w X.K X.mg X.base x m k ps sp)(hr:Ck k X.A)(hg:Gl X x)(ha:PA X (e::es) t)(hdb:autoParam ((x==("__debug__":Str))=false) QF)
  (hst:autoParam (starEach (e::es) X.env=(false,eval e X.env)::starEach es X.env) QD)(hpl:autoParam ((backTo pos (starEach es X.env)).any (·.1)=false) QD)
  (ht:autoParam (eval (.Call (.Attribute (.Name x np) m apos) (e::es) [] pos) X.env=(do
   let ov <-eval (.Name x np) X.env
   standAt apos.atName
   let (f,first) <-holding [ov] (getMethod ov m pl)
   callWith pos f first (backTo pos (starEach (e::es) X.env)) (backToKw pos (keywordEach [] X.env)))) QD) :
  PE X (.Call (.Attribute (.Name x np) m apos) (e::es) [] pos) (jP sp [] E0 t):=by
 obtain⟨W,f,fd,F,hb,hm,ga,rd,ini,kp⟩:=M.ex;k_in;refine methodCall_KW (La I hg hm ?_ hdb) ht;refine method_cls I.kIn ga (cls_value I.kIn rd ini rfl ?_);refine callWith_K (h₀:=X.base) I.ok.mod.kin kp (thn (ha pos pins _ G H _ (I.tok (s.toks+1)) h) λus s1 ⟨vs,H1,I1,r,q⟩=>⟨I1.kIn,?_⟩) hst hpl;exact Yj F hr hb .nil eD I1 r q
end
theorem rQ {K:da}{fr:St}{tc:TT}{Q:VK}(n:Nat)(f1 f2:Nat->V)(Pv:df->Nat->List V->Hp->Prop)(h0:∀D H,H1 D=none->Aj H1 H->Pv D 0 [] H)
  (stab:∀D i ys H xs o,H D=some (.lst xs)->Pv D i ys H->Pv D i ys (upd H D o))(hz:∀D i ys H,i<n->Pv D i ys H->ys.length<sizeLine)(psame:∀D i ys H H',Aj H H'->Pv D i ys H->Pv D i ys H')
  (hgo:∀i H,i<n->Aj H1 H->J.go i H)(hy:∀i H v H',i<n->Aj H1 H->J.yld i H v H'->∃a,v=.ref a/\SqT K H' a [f1 i,f2 i]/\Aj H H')(hst:∀H,Aj H1 H->J.stop n H)
  (turn:∀D i ys H (A:VK) (R:Hp->Prop),i<n->Aj H1 H->H1 D=none->H D=some (.lst ys)->Pv D i ys H->(∀H',Aj H H'->Pv D (i+1) ys H'->R H')->(∀y H',Aj H H'->Pv D (i+1) (ys++[y]) H'->A y H') ->
   tc (some (f1 i)::some (f2 i)::fr) H λb H3=>if b=true then te (some (f1 i)::some (f2 i)::fr) H3 A else R H3)
  (fin:∀D ys H,H1 D=none->Aj H1 H->Pv D n ys H->H D=some (.lst ys)->Q (.ref D) H):Lg K J H1 fr tc te Q:=by
 intro D hD;refine⟨λi m H=>i<=n/\m=n-i/\Aj H1 H/\∃ys,H D=some (.lst ys)/\Pv D i ys H,⟨n,e9 _,rfl,An hD,[],Ac,h0 D _ hD (An hD)⟩,?_⟩;rintro i m H ⟨hi,rfl,sm,ys,hl,hp⟩
 by_cases h:i=n
 ·subst h
  exact .inl ⟨hst H sm,fin D ys H hD sm hp hl⟩
 ·have hlt:i<n:=im hi h
  refine .inr ⟨hgo i H hlt sm,λv H' hyl=>?_⟩;obtain⟨a,rfl,ht,s2⟩:=hy i H v H' hlt sm hyl;refine⟨a,_,_,rfl,ht,turn D i ys H' _ _ hlt (sm.trans s2) hD (s2 _ _ hl) (psame _ _ _ _ _ s2 hp) (λH3 s3 hp3=>?_) (λy H4 s4 hp4=>?_)⟩
  ·exact⟨n-(i+1),by lia,by lia,rfl,(sm.trans s2).trans s3,ys,s3 _ _ (s2 _ _ hl),hp3⟩
  refine⟨ys,s4 _ _ (s2 _ _ hl),hz D i ys _ hlt hp,n-(i+1),by lia,by lia,rfl,λb u e=>?_,ys++[y],Ac,stab _ _ _ _ _ _ (s4 _ _ (s2 _ _ hl)) hp4⟩;rw[Ai (Af e hD)];exact s4 _ _ (s2 _ _ (sm _ _ e))
end L2
end
section
namespace HD
open PySem PySem.W PySem.Calls PyProof.Rows
def oneA (s0:n8)(h0:gv)(m:Nat)(p:fc)(M:Nat)(w:ge):=
 (Iq treeTable p w m (some (.ref 6)) M s0 (topStub p)).map λs=>staticsOk (importedModules p.main.body) h0 s.abs.heap&&namesBound p s.abs.heap&&gensDone s.abs&&laidKept h0 s.abs.heap
def oneB (s0:n8)(m:Nat)(p q:fc)(loose:Za6)(M:Nat)(w:ge):=
 (Iq treeTable p w m (some (.ref 6)) M s0 (topStub p)).map λs=>openSeen q loose (importedModules p.main.body) (λ_=>true) true s.abs
def oU {α:Type}(Yf:d4->α)(s0:n8)(m:Nat)(p:fc)(M:Nat)(w:ge):=
 (Iq treeTable p w m (some (.ref 6)) M s0 (topStub p)).map λs=>Yf s.abs
theorem Abx {α:Type}{Yf:d4->α}{s0:n8}{h0:gv}{m:Nat}{p q:fc}{loose:Za6}{M:Nat}{w:ge}{a:α}
  (hA:oneA s0 h0 m p M w=some true)(hB:oneB s0 m p q loose M w=some (openGood q loose))(hC:oU Yf s0 m p M w=some a) :
  bothT Yf s0 h0 m p q loose M w=some (true,openGood q loose,a):=by
 unfold oneA at hA;unfold oneB at hB;unfold oU at hC;unfold bothT iI;obtain⟨s,r,l⟩:=mj.mp hA;rw[r] at hB hC ⊢;have hB:=de hB;have hC:=de hC;exact congrArg some (AN l (AN hB hC))
theorem left_of3 {p q:fc}{loose:Za6}{α:Type}{Yf:d4->α}{Ya:ge->α}{M N:Nat}(e:opening p=plainProg p.main.scope.names)(f:∀s,fenceModules? p s=some s)(hN:zp 600 N=true)(le:zp M N=true)
  (hA:∀w:ge,(λos=>oneA (bootT w os) (j7 w.params) bootSize p M w)=λ_=>some true)(hB:∀w:ge,(λos=>oneB (bootT w os) bootSize p q loose M w)=λ_=>some (openGood q loose))
  (hC:∀w:ge,(λos=>oU Yf (bootT w os) bootSize p M w)=λ_=>some (Ya w)):LeftO p q loose (λ_=>true) Yf Ya N:=
 vT e f hN le λw=>funext λos=>Abx (congrFun (hA w) os) (congrFun (hB w) os) (congrFun (hC w) os)
def dR (s:n8)(a:Nat):Option Obj:=match Nat.blt a s.n with
 |true=>(match s.tree.get a with
  |some o=>alive o
  |none=>none)
 |false=>none
theorem rM {s:n8}{a:Nat}{o:Obj}(h:dR s a=some o):s.abs.heap.get? a=some o:=by
 unfold dR at h
 cases hb:Nat.blt a s.n with
 |false=>rw[hb] at h;cases h
 |true=>
  rw[hb] at h
  cases hg:s.tree.get a with
  |none=>rw[hg] at h;cases h
  |some u=>
   rw[hg] at h;have hlt:a<s.n:=by
    have:=xt hb;lia
   exact(abs_get hlt hg).trans h
theorem R8 {s:n8}:∀{as:Za4} {L:List (Option Obj)},(∀x∈L,x.isSome=true)->as.map (dR s)=L->as.map s.abs.heap.get?=L
 |[],L,_,e=>e
 |a::as,[],_,e=>by cases e
 |a::as,x::L,h,e=>by
  obtain⟨e1,e2⟩:=j8 e;obtain⟨o,ho⟩:=ib.mp (h x jj);subst ho;show s.abs.heap.get? a::as.map s.abs.heap.get?=_;rw[rM e1,R8 (λy hy=>h y (gy _ hy)) e2]
def oneP (as ts:List df)(s0:n8)(m:Nat)(p:fc)(M:Nat)(w:ge):=
 (Iq treeTable p w m (some (.ref 6)) M s0 (topStub p)).map λs=>(as.map (dR s),ts.map (dR s))
theorem hC_km {K:vt->AI}{as:List df}{e:∀P,as=(K P).map (·.1)}{ts:List df}{p:fc}{M:Nat}
  (h:∀w:ge,(λos=>oneP as ts (bootT w os) bootSize p M w)=λ_=>some ((K w.params).map λq=>some q.2,ts.map λ_=>some (tabObj #[]))) :
  ∀w:ge,(λos=>oU (kmHook K as e ts).obs (bootT w os) bootSize p M w)=λ_=>some ((kmHook K as e ts).val w):=λw=>funext λos=>by
 have h:=congrFun (h w) os;unfold oneP at h;unfold oU;obtain⟨s,r,l⟩:=mj.mp h;obtain⟨l1,l2⟩:=Prod.mk.inj l;rw[r];show some (as.map s.abs.heap.get?,ts.map s.abs.heap.get?)=some ((K w.params).map λq=>some q.2,ts.map λ_=>some (tabObj #[]));rw[R8 (λx hx=>by obtain⟨q,_,rfl⟩:=lh.mp hx;rfl) l1,R8 (λx hx=>by obtain⟨q,_,rfl⟩:=lh.mp hx;rfl) l2]
end HD
lay_quick HD.oneP
theorem HD.oneP_eq:@HD.oneP=@PySem.W.Fast.tw13831889492591282369:=PySem.W.Fast.te13831889492591282369
lay_quick HD.oneA
lay_quick HD.oneB
theorem HD.oneA_eq:@HD.oneA=@PySem.W.Fast.tw6247638121477898359:=PySem.W.Fast.te6247638121477898359
theorem HD.oneB_eq:@HD.oneB=@PySem.W.Fast.tw4394042064226896843:=PySem.W.Fast.te4394042064226896843
end
section
namespace L2
open PySem PySem.Spec PyProof.Rows
variable {C CS Pt dx i1 i2 it kl l1 l2 pa z:df} {params:kj} {A:gt} {CX:CXT} {op:rf} {X:Cx} {env:Env} {tg:gd} {fd:io} {base h h' h1:gv} {H H' H1 H2:Hp} {J:It} {pins:Za1} {as fp:List df} {outer:List Env} {elts:List gd} {ns:List Int} {ix:Za4} {N ps:Za6} {ts:List Tb} {xs ys:List V} {us vs:Za3} {M:qr} {off t':Nat} {oT:Obj} {od:Option df} {pos:Pos} {scope:kr} {pl:Sem Bool} {s s2:d4} {sp:Sp} {st:gm} {qual:Str} {tk:TA} {te:TE} {wi:TI} {y:V} {pm:d0} {w:ge}
theorem iD:typeLookup (.type "zip") "__len__"=pure none:=by rw[CY,zl];kernel_rfl
theorem eQ:typeLookup (.type "zip") "__length_hint__"=pure none:=by rw[CY,zl];kernel_rfl
def Pi (h:gv)(lo:Nat)(xs ys acc:Array d0):Prop:=(∀(j:Nat) v,acc[j]?=some v->∃T x y,v=ik T/\lo<=T/\xs[j]?=some x/\ys[j]?=some y/\oi h T x y)/\∀(j k:Nat) v,acc[j]?=some v->acc[k]?=some v->j=k
theorem Pi.keep {lo:Nat}{xs ys acc:Array d0}(p:Pi h lo xs ys acc)(k:∀b o,lo<=b->h.get? b=some o->h'.get? b=some o):Pi h' lo xs ys acc:=⟨λj v e=>by
 obtain⟨T,x,y,e1,e2,e3,e4,e5⟩:=p.1 j v e;exact⟨T,x,y,e1,e2,e3,e4,k _ _ e2 e5⟩,p.2⟩
theorem Pi.push {lo T:Nat}{x y:d0}{xs ys acc:Array d0}(p:Pi h lo xs ys acc)(hn:∀j:Nat,acc[j]?≠some (.ref T))(hT:lo<=T)(hx:xs[acc.size]?=some x)(hy:ys[acc.size]?=some y)(hp:oi h T x y):Pi h lo xs ys (acc.push (.ref T)):=by
 refine⟨λj v e=>?_,λj k v e1 e2=>?_⟩
 ·rw[yc] at e
  by_cases hj:j=acc.size
  ·rw[if_pos hj] at e
   cases e;rw[hj];exact⟨T,x,y,rfl,hT,hx,hy,hp⟩
  ·rw[if_neg hj] at e
   exact p.1 j v e
 ·rw[yc] at e1 e2
  by_cases hj:j=acc.size
  ·by_cases hk:k=acc.size
   ·rw[hj,hk]
   ·rw[if_pos hj] at e1
    rw[if_neg hk] at e2;cases e1;exact absurd e2 (hn k)
  ·by_cases hk:k=acc.size
   ·rw[if_neg hj] at e1
    rw[if_pos hk] at e2;cases e2;exact absurd e1 (hn j)
   ·rw[if_neg hj] at e1
    rw[if_neg hk] at e2;exact p.2 j k v e1 e2
theorem Pi.below {lo:Nat}{xs ys acc:Array d0}(p:Pi h lo xs ys acc)(j:Nat):acc[j]?≠some (.ref h.objs.size):=λe=>by
 obtain⟨T,x,y,e1,_,_,_,e5⟩:=p.1 j _ e;cases e1;exact i4 _ (d3 e5)
section
variable {prog:fc} {w:ge} {A:gt} {E:Za0} {R:ug->d4->Prop}
abbrev sL (acc:Array d0)(c:Nat):Obj:={ cls:=.type "list",dict:=none,data:=.seq acc c,slots:=#[] }
theorem yY {S TI TO T lo:df}{xs ys:Array d0}(D:DzA S z TI TO i1 i2 l1 l2)(hTz:T≠z)(hT1:T≠i1)(hT2:T≠i2)(hTS:T≠S)(hlo:z<lo/\i1<lo/\i2<lo/\S<lo)(hh:A.handled=none)(he:xs.size=ys.size)(hsz:xs.size<=sizeLine) :
  ∀(m i:Nat) (s:d4) (c:Bool) (acc:Array d0) (n:Nat) (oT:Obj),xs.size-i=m->i<=xs.size->N9 s.heap z TI TO T c->s.heap.get? T=some oT->oi s.heap TI (.ref i1) (.ref i2) ->
   s.heap.IsListIter i1 l1 i->s.heap.IsListIter i2 l2 i->s.heap.IsList l1 xs->s.heap.IsList l2 ys->s.heap.get? S=some (sL acc n)->acc.size=i->Pi s.heap lo xs ys acc->lo<=s.heap.objs.size ->
   (∀h' acc' n',h'.get? S=some (sL acc' n')->acc'.size=xs.size->Pi h' lo xs ys acc'->(∀b o,b≠z->b≠i1->b≠i2->b≠S->s.heap.get? b=some o->h'.get? b=some o)->R (.ok (.ret .none)) { s with heap:=h' }) ->
   codeAny (model prog w) A (.builtin "list.extend.loop" ⟨[.ref S,.ref z,.none],[]⟩) R s:=by
 have far:∀b,lo<=b->b≠z/\b≠i1/\b≠i2/\b≠S:=λb hb=>⟨iy (dw hlo.1 hb),iy (dw hlo.2.1 hb),iy (dw hlo.2.2.1 hb),iy (dw hlo.2.2.2 hb)⟩;intro m
 induction m with
 |zero=>
  intro i s c acc n oT hm hi hz hT hTI h1 h2 hl1 hl2 hS hac hp hls q;refine ki pc ?_;rw[j9 jo _];show wpAny _ A.in1 (pyNext (.ref z) >>= _) _ _ s;refine wpAny_bind (qJ (by exact hh) D.za hz hT hTI h1 hl1 (mr (by lia)) λh' kp=>?_);refine em ?_;exact q h' acc n (kp _ _ D.dz D.d1 D.d2 hS) (by lia) (hp.keep λb o hb e=>kp b o (far b hb).1 (far b hb).2.1 (far b hb).2.2.1 e) λb o b1 b2 b3 _ e=>kp b o b1 b2 b3 e
 |succ m ih=>
  intro i s c acc n oT hm hi hz hT hTI h1 h2 hl1 hl2 hS hac hp hls q;obtain⟨x,hx⟩:∃x,xs[i]?=some x:=⟨_,lz (show i<xs.size by lia)⟩;obtain⟨y,hy⟩:∃y,ys[i]?=some y:=⟨_,lz (show i<ys.size by lia)⟩;refine ki pc ?_;rw[j9 jo _];show wpAny _ A.in1 (pyNext (.ref z) >>= _) _ _ s;refine wpAny_bind (lT D.za hz hT hTI h1 h2 hl1 hl2 hx hy λh' hz' h1' h2' hpr hsz' kp=>?_);have hS':=kp _ _ D.dz D.d1 D.d2 hS;show wpAny _ A.in1 (updateSeq S (·.push (.ref s.heap.objs.size)) >>= _) _ _ _;refine wpAny_bind ?_;have oth:∀b o,b≠S->h'.get? b=some o->(h'.update S (jn (·.push (.ref s.heap.objs.size)))).get? b=some o:=λb o hb e=>(gq _ _ (me hb)).trans e;have k2:∀b o,b≠z->b≠i1->b≠i2->b≠S->s.heap.get? b=some o->(h'.update S (jn (·.push (.ref s.heap.objs.size)))).get? b=some o:=λb o b1 b2 b3 b4 e=>oth b o b4 (kp b o b1 b2 b3 e);refine kh hS' rfl (em ⟨mq jo _,?_⟩) (by rw[hac];lia) (by show(acc.push _).size<=sizeLine+1;rw[uk,hac];lia);refine ih (i+1) _ true (acc.push (.ref s.heap.objs.size)) _ oT (by lia) (by lia) (oth _ _ D.dz.symm hz') (k2 _ _ hTz hT1 hT2 hTS hT) (k2 _ _ D.za.TIz D.za.TIi1 D.za.TIi2 D.dI.symm hTI) (h1'.at λo e=>oth _ o D.d1.symm e) (h2'.at λo e=>oth _ o D.d2.symm e)
   (hl1.at λo e=>k2 _ o D.za.l1z D.za.l1i1 D.za.l1i2 D.dl.symm e) (hl2.at λo e=>k2 _ o D.za.l2z D.za.l2i1 D.za.l2i2 D.dm.symm e) (i7 _ hS' rfl) (by rw[uk,hac]) ?_ (by rw[ny,hsz'];exact sy hls) λh3 acc' n' hS3 hac3 hp3 kp3=>?_
  ·have far1:=far _ hls
   refine((hp.keep λb o hb e=>kp b o (far b hb).1 (far b hb).2.1 (far b hb).2.2.1 e).push hp.below hls (by rw[hac];exact hx) (by rw[hac];exact hy) hpr).keep λb o hb e=>oth b o (far b hb).2.2.2 e
  ·exact q h3 acc' n' hS3 hac3 hp3 λb o b1 b2 b3 b4 e=>kp3 b o b1 b2 b3 b4 (k2 b o b1 b2 b3 b4 e)
theorem oJ {S TI TO lo:df}{a b:d0}{xs ys:Array d0}{n:Nat}(D:DzA S z TI TO i1 i2 l1 l2)(hlo:z<lo/\i1<lo/\i2<lo/\S<lo/\TO<lo)(hh:A.handled=none)(he:xs.size=ys.size)(hsz:xs.size<=sizeLine)
  (hz:IsZip s.heap z TI TO .none)(hTO:oi s.heap TO a b)(hTI:oi s.heap TI (.ref i1) (.ref i2))(h1:s.heap.IsListIter i1 l1 0)(h2:s.heap.IsListIter i2 l2 0)(hl1:s.heap.IsList l1 xs)(hl2:s.heap.IsList l2 ys)(hS:s.heap.get? S=some (sL #[] n))(hls:lo<=s.heap.objs.size)
  (q:∀h' acc' n',h'.get? S=some (sL acc' n')->acc'.size=xs.size->Pi h' lo xs ys acc'->(∀b o,b≠z->b≠TO->b≠i1->b≠i2->b≠S->s.heap.get? b=some o->h'.get? b=some o)->R (.ok (.ret .none)) { s with heap:=h' }) :
  codeAny (model prog w) A (.builtin "list.extend.loop" ⟨[.ref S,.ref z,.none],[]⟩) R s:=by
 have far:∀b,lo<=b->b≠z/\b≠i1/\b≠i2/\b≠S/\b≠TO:=λb hb=>⟨iy (dw hlo.1 hb),iy (dw hlo.2.1 hb),iy (dw hlo.2.2.1 hb),iy (dw hlo.2.2.2.1 hb),iy (dw hlo.2.2.2.2 hb)⟩;refine ki pc ?_;rw[j9 jo _];show wpAny _ A.in1 (pyNext (.ref z) >>= _) _ _ s;rcases mf xs.size with h0|h0
 ·refine wpAny_bind (wpAny_pyNext_zip_end (by exact hh) D.za hz hTI hTO h1 h2 hl1 hl2 (.inl (mr (by lia))) λh' kp=>?_)
  refine em ?_;exact q h' #[] n (kp _ _ D.dz D.dO D.d1 D.d2 hS) (by rw[h0];rfl) ⟨λj v e=>by simp at e,λj k v e=>by simp at e⟩ λb o b1 b2 b3 b4 _ e=>kp b o b1 b2 b3 b4 e
 ·obtain⟨x,hx⟩:∃x,xs[0]?=some x:=⟨_,lz h0⟩
  obtain⟨y,hy⟩:∃y,ys[0]?=some y:=⟨_,lz (show 0<ys.size by lia)⟩;refine wpAny_bind (wpAny_pyNext_zip_item D.za hz hTI hTO h1 h2 hl1 hl2 hx hy λh' hz' _ h1' h2' hpr hsz' kp=>?_);have hS':=kp _ _ D.dz D.dO D.d1 D.d2 hS;have lt:∀{c o},s.heap.get? c=some o->s.heap.objs.size≠c:=λe=>iy (d3 e);show wpAny _ A.in1 (updateSeq S (·.push (.ref s.heap.objs.size)) >>= _) _ _ _;refine wpAny_bind ?_;have oth:∀b o,b≠S->h'.get? b=some o->(h'.update S (jn (·.push (.ref s.heap.objs.size)))).get? b=some o:=λb o hb e=>(gq _ _ (me hb)).trans e;have k2:∀b o,b≠z->b≠TO->b≠i1->b≠i2->b≠S->s.heap.get? b=some o->(h'.update S (jn (·.push (.ref s.heap.objs.size)))).get? b=some o:=λb o b1 b2 b3 b5 b4 e=>oth b o b4 (kp b o b1 b2 b3 b5 e);refine kh hS' rfl (em ⟨mq jo _,?_⟩) (by show(#[]:Array d0).size<=_;exact e9 _) (by show((#[]:Array d0).push _).size<=sizeLine+1;rw[uk];exact Nat.succ_le_succ (e9 _));refine yY (T:=s.heap.objs.size) D (lt hz) (by obtain⟨_,e,_⟩:=h1;exact lt e) (by obtain⟨_,e,_⟩:=h2;exact lt e) (lt hS) ⟨hlo.1,hlo.2.1,hlo.2.2.1,hlo.2.2.2.1⟩ hh he hsz _ 1 _ false ((#[]:Array d0).push (.ref s.heap.objs.size)) _ _ rfl h0 (oth _ _ D.dz.symm hz') (oth _ _ (lt hS) hpr) (k2 _ _ D.za.TIz D.za.TITO D.za.TIi1 D.za.TIi2 D.dI.symm hTI) (h1'.at λo e=>oth _ o D.d1.symm e) (h2'.at λo e=>oth _ o D.d2.symm e)
   (hl1.at λo e=>k2 _ o D.za.l1z D.za.l1TO D.za.l1i1 D.za.l1i2 D.dl.symm e) (hl2.at λo e=>k2 _ o D.za.l2z D.za.l2TO D.za.l2i1 D.za.l2i2 D.dm.symm e) (i7 _ hS' rfl) rfl ?_ (by rw[ny,hsz'];exact sy hls) λh3 acc' n' hS3 hac3 hp3 kp3=>?_
  ·refine(Pi.push (acc:=#[]) ⟨λj v e=>by simp at e,λj k v e=>by simp at e⟩ (λj e=>by simp at e) hls hx hy hpr).keep λb o hb e=>oth b o (far b hb).2.2.2.1 e
  ·exact q h3 acc' n' hS3 hac3 hp3 λb o b1 b2 b3 b5 b4 e=>kp3 b o b1 b3 b5 b4 (k2 b o b1 b2 b3 b5 b4 e)
theorem U2 {TI TO:df}{a b:d0}{xs ys:Array d0}{Q:Za0}(D:uu z TI TO i1 i2 l1 l2)(hh:A.handled=none)(he:xs.size=ys.size)(hsz:xs.size<=sizeLine)
  (hz:IsZip s.heap z TI TO .none)(hTO:oi s.heap TO a b)(hTI:oi s.heap TI (.ref i1) (.ref i2))(h1:s.heap.IsListIter i1 l1 0)(h2:s.heap.IsListIter i2 l2 0)(hl1:s.heap.IsList l1 xs)(hl2:s.heap.IsList l2 ys)
  (q:∀h' acc' n',h'.get? s.heap.objs.size=some (sL acc' n')->acc'.size=xs.size->Pi h' (s.heap.objs.size+1) xs ys acc'->(∀b o,b≠z->b≠TO->b≠i1->b≠i2->s.heap.get? b=some o->h'.get? b=some o)->Q (.ref s.heap.objs.size) { s with heap:=h' }) :
  wpAny (model prog w) A (call (.type "list") [.ref z]) Q E s:=by
 refine callType_codes (Q₁:=λobj HB=>obj=.ref s.heap.objs.size/\HB={ s with heap:=s.heap.push { cls:=.type "list",data:=.seq #[] } }) PySem.F.called_list (PySem.F.typeCall_list_1 _) PySem.F.entry_list_init (code_list_new _ ⟨rfl,rfl⟩) ?_;rintro obj HB ⟨rfl,rfl⟩;have hS:(s.heap.push { cls:=.type "list",data:=.seq #[] }).get? s.heap.objs.size=some { cls:=.type "list",data:=.seq #[] }:=fi _ rfl;have up:∀b o,s.heap.get? b=some o->(s.heap.push { cls:=.type "list",data:=.seq #[] }).get? b=some o:=λb o e=>dq _ e;have lt:∀{c o},s.heap.get? c=some o->s.heap.objs.size≠c:=λe=>iy (d3 e);refine⟨⟨_,hS,rfl⟩,PySem.F.args_list_init_2 _ _,?_⟩;show wpAny _ _ (do let old <-ud (.ref s.heap.objs.size);EC (.ref s.heap.objs.size) (λ_=>#[]);letGo old.toList.reverse;ng (.ref s.heap.objs.size) (.ref z) .none) _ _ _;refine wpAny_bind ?_;unfold ud;refine wpAny_bind (nz hS rfl (em ?_));show wpAny _ _ (updateSeq s.heap.objs.size (λ_=>#[]) >>= λ_=>letGo (#[]:Array d0).toList.reverse >>= λ_=>ng (.ref s.heap.objs.size) (.ref z) .none) _ _ _;refine wpAny_bind (kh hS rfl ?_);have HZ:=i7 (jn (λ_=>(#[]:Array d0))) hS rfl;have oth:∀b o,s.heap.get? b=some o->((s.heap.push { cls:=.type "list",data:=.seq #[] }).update s.heap.objs.size (jn (λ_=>(#[]:Array d0)))).get? b=some o:=
  λb o e=>(gq _ _ (lt e)).trans (up b o e)
 refine wpAny_bind (r9 ?_);unfold ng;have hzT:=oth _ _ hz;refine wpAny_bind (wpAny_typeOf (T:="zip") ⟨_,hzT,rfl⟩ ?_);have g1:sq (.ref s.heap.objs.size) (.ref z)=false:=by simp[sq,lt hz]
 have g2:(ij "zip"==ij "list")=false:=by decide
 have g3:(ij "zip"==ij "tuple")=false:=by decide
 simp only[g1,g2,g3,Bool.or_false,lj,if_false];refine wpAny_bind (vh hzT ?_);refine wpAny_bind (wpAny_holding ?_);unfold EE;refine wpAny_bind (CW (T:="zip") ⟨_,hzT,rfl⟩ iD ?_);show wpAny _ _ (specialOf (ik z) (ke "__length_hint__") >>= _) _ _ _;refine wpAny_bind (CW (T:="zip") ⟨_,hzT,rfl⟩ eQ ?_);refine em ?_;show wpAny _ _ (rule "list.extend.makes-room" >>= λ_=>ED (.ref s.heap.objs.size) >>= λ_=>
  again (.builtin "list.extend.loop" ⟨[.ref s.heap.objs.size,.ref z,.none],[]⟩)) _ _ _
 refine wpAny_bind (wpAny_rule ?_);refine wpAny_bind ?_;show wpAny _ _ (updateSeq s.heap.objs.size (·.push .none) >>= λ_=>updateSeq s.heap.objs.size (·.pop)) _ _ _;refine wpAny_bind (kh HZ rfl ?_);have QM:=i7 (jn (·.push k7)) HZ rfl;refine kh (hz:=by seq_fits) QM rfl ?_;have QU:=i7 (jn (·.pop)) QM rfl;have up2:∀b o,s.heap.get? b=some o->((((s.heap.push { cls:=.type "list",data:=.seq #[] }).update s.heap.objs.size (jn (λ_=>(#[]:Array d0)))).update s.heap.objs.size (jn (·.push k7))).update s.heap.objs.size (jn (·.pop))).get? b=some o:=
  λb o e=>(gq _ _ (lt e)).trans ((gq _ _ (lt e)).trans (oth b o e))
 have ltS:∀{c o},s.heap.get? c=some o->c<s.heap.objs.size+1:=λe=>Nat.lt_succ_of_lt (d3 e);refine em ⟨mq jo _,?_⟩;refine oJ (a:=a) (b:=b) (lo:=s.heap.objs.size+1) (xs:=xs) (ys:=ys) ⟨D,lt hz,lt hTI,lt hTO,?_,?_,?_,?_⟩ ⟨ltS hz,?_,?_,n9 _,ltS hTO⟩ (by exact hh) he hsz (up2 _ _ hz) (up2 _ _ hTO) (up2 _ _ hTI) (h1.at λo e=>up2 _ o e) (h2.at λo e=>up2 _ o e) (hl1.at λo e=>up2 _ o e) (hl2.at λo e=>up2 _ o e) QU ?_ λh3 acc' n' hS3 hac3 hp3 kp3=>?_
 ·obtain⟨_,e,_⟩:=h1;exact lt e
 ·obtain⟨_,e,_⟩:=h2;exact lt e
 ·obtain⟨_,e,_⟩:=hl1;exact lt e
 ·obtain⟨_,e,_⟩:=hl2;exact lt e
 ·obtain⟨_,e,_⟩:=h1;exact ltS e
 ·obtain⟨_,e,_⟩:=h2;exact ltS e
 ·rw[ny,ny,ny,ky]
  exact db _
 ·exact⟨rfl,q h3 acc' n' hS3 hac3 hp3 λb o b1 b2 b3 b4 e=>kp3 b o b1 b2 b3 b4 (lt e).symm (up2 _ _ e)⟩
end
def Rg (N H:Hp):Hp:=λb=>match N b with|some o=>some o|none=>H b
theorem Pm {N:Hp}{b:df}{o:HO}(h:N b=some o):Rg N H b=some o:=by unfold Rg;rw[h]
theorem Pf {N:Hp}{b:df}(h:N b=none):Rg N H b=H b:=by unfold Rg;rw[h]
theorem Sj {N H:Hp}(h:∀b o,N b=some o->H b=none):Aj H (Rg N H):=λb o e=>by
 cases hN:N b with
 |none=>rw[Pf hN];exact e
 |some u=>rw[h b u hN] at e;cases e
theorem Inv.laidN {G:St}{N:Hp}(I:Inv X pins G H s)(k:∀b u,s.heap.get? b=some u->h'.get? b=some u)(hp:∀b o,N b=some o->s.heap.objs.size<=b)
  (new:∀b o,N b=some o->Ee X.prog X.w (Rg N H) h' b o):Inv X pins G (Rg N H) { s with heap:=h',toks:=t' }:=by
 have hn:∀b o,N b=some o->H b=none:=λb o e=>I.hok.fresh (hp b o e);have sm:=Sj hn;have old:∀b u,s.heap.get? b=some u->N b=none:=λb u e=>by
  cases hN:N b with
  |none=>rfl
  |some o=>exact absurd (d3 e) (qj.mpr (hp b o hN))
 refine I.un ⟨λb u q _ _ _=>k b u q,λb u q _ _ _=>⟨u.slots,k b u q⟩,λb u q n _=>by rw[Pf (old b u q)];exact n,λb u q _=>⟨u,k b u q⟩,λb xs q=>sm _ _ q,λb u xs q=>sm _ _ q,λb ps q=>⟨#[],by rw[sm _ _ q];simp⟩⟩ λb o e=>?_
 cases hN:N b with
 |some u=>
  rw[Pm hN] at e;cases e;exact new b _ hN
 |none=>
  rw[Pf hN] at e;exact(I.hok b o e).stay (λc v _ q=>k c v q) (λc q=>sm _ _ q) λc xs q=>sm _ _ q
def Acv:d0->df
 |.ref a=>a
 |_=>0
def zT (H1 H':Hp)(as:List df)(xs ys:List V):Prop:=as.length=xs.length/\∀(i:Nat) t x y,as[i]?=some t->xs[i]?=some x->ys[i]?=some y->H1 t=none/\H' t=some (.tup [x,y])
def eH:List df->List V->List V->Hp
 |t::as,x::xs,y::ys=>λb=>if b=t then some (.tup [x,y]) else eH as xs ys b
 |_,_,_=>λ_=>none
theorem lF:∀{as:List df} {xs ys:List V},(∀(j k:Nat) t,as[j]?=some t->as[k]?=some t->j=k)->∀(i:Nat) t x y,as[i]?=some t->xs[i]?=some x->ys[i]?=some y->eH as xs ys t=some (.tup [x,y])
 |[],_,_,_,_,_,_,_,e,_,_=>by cases e
 |_::_,[],_,_,_,_,_,_,_,e,_=>by cases e
 |_::_,_::_,[],_,_,_,_,_,_,_,e=>by cases e
 |t::as,x::xs,y::ys,inj,i,t',x',y',e1,e2,e3=>by
  show(if t'=t then some (HO.tup [x,y]) else eH as xs ys t')=_
  cases i with
  |zero=>
   cases e1;cases e2;cases e3;rw[if_pos rfl]
  |succ i=>
   have hne:t'≠t:=λh=>by
    have:=inj (i+1) 0 t' e1 (by rw[h];rfl);cases this
   rw[if_neg hne];exact lF (λj k u h1 h2=>by have:=inj (j+1) (k+1) u h1 h2;lia) i t' x' y' e1 e2 e3
theorem X7:∀{as:List df} {xs ys:List V} {b:df} {o:HO},eH as xs ys b=some o->∃(i:Nat) (x y:V),as[i]?=some b/\xs[i]?=some x/\ys[i]?=some y/\o=.tup [x,y]
 |[],_,_,_,_,e=>by cases e
 |_::_,[],_,_,_,e=>by cases e
 |_::_,_::_,[],_,_,e=>by cases e
 |t::as,x::xs,y::ys,b,o,e=>by
  have e:(if b=t then some (HO.tup [x,y]) else eH as xs ys b)=some o:=e
  by_cases h:b=t
  ·rw[if_pos h] at e
   cases e;exact⟨0,x,y,by rw[h];rfl,rfl,rfl,rfl⟩
  ·rw[if_neg h] at e
   obtain⟨i,x',y',a1,a2,a3,a4⟩:=X7 e;exact⟨i+1,x',y',a1,a2,a3,a4⟩
section
variable {X:Cx}
def wT (K:da)(ta:TA):TE:=λG H Q=>ta G H λvs H1=>∃a b xs ys,vs=[.ref a,.ref b]/\SqL K H1 a xs/\SqL K H1 b ys/\xs.length=ys.length/\∀p as H',Aj H1 H'->H1 p=none->H' p=some (.lst (as.map V.ref))->zT H1 H' as xs ys->Q (.ref p) H'
theorem uQ {a b:gd}{ta:TA}{p q pos2:Pos}(hcal:X.calm=true)(hg:Gl X "list")(hm:X.mg "list"=none)(hg2:Gl X "zip")(hm2:X.mg "zip"=none)(ha:PA X [a,b] ta)
  (hs:autoParam (starEach [a,b] X.env=[(false,eval a X.env),(false,eval b X.env)]) QD)(hs2:autoParam (starEach [b] X.env=[(false,eval b X.env)]) QD)
  (hs3:autoParam (starEach [EM (.Name "zip" q) [a,b] [] pos2] X.env=[(false,eval (.Call (.Name "zip" q) [a,b] [] pos2) X.env)]) QD) :
  PE X (.Call (.Name "list" p) [.Call (.Name "zip" q) [a,b] [] pos2] [] pos) (wT X.K ta):=by
 k_in;refine wpAny_Call_Name_kw (Fg I hg hm Si (gr ?_ hs3 rfl) (by decide) (by decide));rw[hs3];refine lf ?_;show wpAny _ _ (eval (EM (.Name "zip" q) [a,b] [] pos2) X.env) _ _ _;refine wpAny_Call_Name_kw (Fg I hg2 hm2 xI (gr (thA ha I h λus s1 vs H1 I1 r1 q1=>?_) (by rw[hs,hs2]) (by rw[hs2];rfl)) (by decide) (by decide));obtain⟨a,b,xs,ys,e,hx,hy,hl,q⟩:=q1;subst e;obtain⟨u,v,rfl,ru,rv⟩:=Vf r1;cases ru;cases rv;obtain⟨its,rv,p,hz⟩:=I1.list hx;obtain⟨its2,rv2,p2,hz2⟩:=I1.list hy;have l1:=rv.length;have l2:=rv2.length;refine call_zip_2 p.isList p2.isList λh' g1 g2 g3 g4 g5 hsz kk=>?_;refine pq ?_;have A1:h'.IsList a its.toArray:=p.isList.at λo e=>kk _ o e;have A2:h'.IsList b its2.toArray:=p2.isList.at λo e=>kk _ o e;have D:=gJ (Uc _) (⟨g1,g2,⟨_,_,g3⟩,g4,g5⟩:StZ _ _ _ _ _ a b 0 h') A1 A2;refine U2 (s:={ s1 with heap:=h' }) D (I1.ok.hd hcal) (by simp;lia) (by simp;lia) g1 g3 g2 g4 g5 A1 A2 λh2 acc n hS hac hp kp=>?_;have hle:s1.heap.objs.size<=h'.objs.size:=by lia
 have hac:acc.size=xs.length:=by rw[hac];simp;lia
 have kp1:∀b o,s1.heap.get? b=some o->h2.get? b=some o:=λb o e=>by
  have lt:=d3 e;have ne:∀c,s1.heap.objs.size<=c->b≠c:=λc hc z=>i4 _ (dw lt (z▸hc));exact kp b o (ne _ (j0 _ _)) (ne _ (j0 _ _)) (ne _ (db _)) (ne _ (j0 _ _)) (kk _ _ e)
 obtain⟨as,has⟩:∃as,as=acc.toList.map Acv:=⟨_,rfl⟩;have hasl:as.length=xs.length:=by rw[has,c8,i3,hac]
 have hat:∀(i:Nat) t,as[i]?=some t->∃x y,acc[i]?=some (ik t)/\h'.objs.size+1<=t/\its[i]?=some x/\its2[i]?=some y/\oi h2 t x y:=λi t e=>by
  rw[has,dg] at e
  cases hv:acc.toList[i]? with
  |none=>rw[hv] at e;cases e
  |some v=>
   rw[hv] at e;have hv2:acc[i]?=some v:=by rw[<-nh];exact hv
   obtain⟨T,x,y,e1,e2,e3,e4,e5⟩:=hp.1 i v hv2;subst e1;obtain rfl:T=t:=de e;exact⟨x,y,hv2,e2,by simpa using e3,by simpa using e4,e5⟩
 have inj:∀(j k:Nat) t,as[j]?=some t->as[k]?=some t->j=k:=λj k t h1 h2=>by
  obtain⟨_,_,a1,_⟩:=hat j t h1;obtain⟨_,_,a2,_⟩:=hat k t h2;exact hp.2 j k _ a1 a2
 let N:Hp:=λb=>if b=h'.objs.size then some (.lst (as.map V.ref)) else eH as xs ys b
 have hN0:N h'.objs.size=some (.lst (as.map V.ref)):=if_pos rfl;have hNt:∀(i:Nat) t x y,as[i]?=some t->xs[i]?=some x->ys[i]?=some y->N t=some (.tup [x,y]):=λi t x y e1 e2 e3=>by
  obtain⟨_,_,_,hlt,_⟩:=hat i t e1;show(if t=h'.objs.size then _ else _)=_;rw[if_neg (iy hlt)];exact lF inj i t x y e1 e2 e3
 have hNp:∀b o,N b=some o->s1.heap.objs.size<=b:=λb o e=>by
  have e:(if b=h'.objs.size then some (HO.lst (as.map V.ref)) else eH as xs ys b)=some o:=e
  by_cases hb:b=h'.objs.size
  ·rw[hb];exact hle
  ·rw[if_neg hb] at e
   obtain⟨i,x,y,e1,_⟩:=X7 e;obtain⟨_,_,_,hlt,_⟩:=hat i b e1;exact gl hle (Nat.le_of_succ_le hlt)
 have hNn:∀b o,N b=some o->H1 b=none:=λb o e=>I1.hok.fresh (hNp b o e);have I2:Inv X pins G (Rg N H1) { s1 with heap:=h2 }:=by
  refine I1.laidN (t':=s1.toks) kp1 hNp λb o e=>?_;have e:(if b=h'.objs.size then some (HO.lst (as.map V.ref)) else eH as xs ys b)=some o:=e
  by_cases hb:b=h'.objs.size
  ·rw[if_pos hb] at e
   cases e;subst hb;refine⟨by rw[c8];lia,acc.toList,n,?_,hS⟩;refine Tq (by rw[c8,hasl,<-hac];exact(i3 (xs:=acc)).symm) λi v u e1 e2=>?_;rw[dg] at e1
   cases ht:as[i]? with
   |none=>rw[ht] at e1;cases e1
   |some t=>
    rw[ht] at e1;cases e1;obtain⟨_,_,a1,_⟩:=hat i t ht;rw[<-nh,e2] at a1;exact de a1
  ·rw[if_neg hb] at e
   obtain⟨i,x,y,e1,e2,e3,rfl⟩:=X7 e;obtain⟨u,v,_,_,e4,e5,e6⟩:=hat i b e1;obtain⟨u',hu,ru⟩:=rv.get e2;obtain⟨v',hv,rv'⟩:=rv2.get e3;rw[e4] at hu;rw[e5] at hv;cases hu;cases hv;exact⟨fb (sd (show 2<=2 from db 2) (by decide)),[u,v],.cons ru (.cons rv' .nil),_,e6,rfl,_,rfl⟩
 refine⟨.ref h'.objs.size,_,I2,rfl,q _ as _ (Sj hNn) (hNn _ _ hN0) (Pm hN0) ⟨hasl,λi t x y e1 e2 e3=>⟨hNn _ _ (hNt i t x y e1 e2 e3),Pm (hNt i t x y e1 e2 e3)⟩⟩⟩
theorem yK {G:St}{Q:VK}{ta:TA}{K:da}(h:ta G H λvs H1=>∃a b xs ys,vs=[.ref a,.ref b]/\SqL K H1 a xs/\SqL K H1 b ys/\xs.length=ys.length/\∀p as H',Aj H1 H'->H1 p=none->H' p=some (.lst (as.map V.ref))->zT H1 H' as xs ys->Q (.ref p) H'):wT K ta G H Q:=h
end
def uG (K:da)(a:df)(n:Nat):It:=
 ⟨λi H=>∃xs x,SqL K H a xs/\i<n/\xs[n-1-i]?=some x,λi H x H'=>H'=H/\∀xs,SqL K H a xs->xs[n-1-i]?=some x,λi _=>i=n⟩
theorem gG {P:fc}{K:da}(a it:df)(n:Nat):No P w K tg (uG K a n) [it] it (λi h=>h.IsRevIter it a ((n:Int)-1-(i:Int))) where
 mem:=by simp
 obj:=λi h st b hb=>by
  have e:b=it:=by simpa using hb
  subst e;obtain⟨o,e,c,d⟩:=st;exact⟨o,e,λv z=>by rw[d] at z;cases z⟩
 keep:=λi h h' st k=>st.at λo e=>k it (by simp) o e
 item:=by
  intro X hP hw hK hc i pins s G H E I hf st hg;subst hP hw hK;obtain⟨xs,x,hq,hi,hx⟩:=hg;obtain⟨its,rv,p,hz⟩:=I.list hq;obtain⟨u,hu,ru⟩:=rv.get hx;obtain⟨f0,f1,f2,f3,f4,f5⟩:=hf it (by simp);have e:(n:Int)-1-(i:Int)=((n-1-i:Nat):Int):=by lia
  have st1:=st;rw[e] at st1;refine wpAny_pyNext_rev_item st1 p.isList (x:=u) (by simpa using hu) λh' st' sb=>?_;have e2:((n-1-i:Nat):Int)-1=(n:Int)-1-((i+1:Nat):Int):=by lia
  rw[e2] at st';have I1:Inv X pins G H { s with heap:=h' }:=I.turned (t':=s.toks) (λb o hb e=>(sb.2 b hb).trans e) f0 f1 f3 f4 f5;obtain⟨o,e,c,d⟩:=id st';exact⟨u,rfl,dW (s:={ s with heap:=h' }) e c d (by decide) ⟨x,H,I1,ru,⟨rfl,λys hy=>by rw[I.list_inj hy hq];exact hx⟩,st',λb hb=>(hf b hb).1⟩⟩
 done:=by
  intro X hP hw hK hc i pins s G H E I hf st hg;subst hP hw hK;have hg:i=n:=hg;subst hg;obtain⟨f0,f1,f2,f3,f4,f5⟩:=hf it (by simp);have e:(i:Int)-1-(i:Int)=-1:=by lia
  rw[e] at st;exact wpAny_pyNext_rev_end (I.ok.hd hc) st λh' eb=>⟨rfl,I.turned (t':=s.toks) (λb o hb e=>eb b o hb e) f0 f1 f3 f4 f5⟩
 self:=λ_ _ _ _ _ st h=>z5 st h
section
variable {X:Cx} {tg:gd}
def wM (K:da)(tl:TE):TI:=λG H R=>tl G H λx H1=>∃a xs,x=.ref a/\SqL K H1 a xs/\R (uG K a xs.length) H1
theorem yT {K:da}{tl:TE}{G:St}{R:It->Hp->Prop}(h:tl G H λx H1=>∃a xs,x=.ref a/\SqL K H1 a xs/\R (uG K a xs.length) H1):wM K tl G H R:=h
theorem vJ {l:gd}{tl:TE}{p:Pos}(hg:Gl X "reversed")(hm:X.mg "reversed"=none)(hl:PE X l tl)(hs3:autoParam (starEach [l] X.env=[(false,eval l X.env)]) QD):PI X tg (.Call (.Name "reversed" p) [l] [] pos) (wM X.K tl):=by
 intro pins s G H R I h;refine Call_ (Fg I hg hm Uv (gr ?_ hs3 rfl));rw[hs3];refine lf ?_;refine thE hl I h λv s1 x H1 I1 r1 q1=>?_;obtain⟨a,xs,e,hq,q⟩:=q1;subst e;cases r1;obtain⟨its,rv,p,hz⟩:=I1.list hq;refine pq ?_;refine call_reversed_list p.isList ?_;have hn:((its.toArray.size:Nat):Int)-1=((xs.length:Nat):Int)-1-((0:Nat):Int):=by have:=rv.length;simp;lia
 refine z5 (i:=((xs.length:Nat):Int)-1-((0:Nat):Int)) (l:=a) ⟨_,fi _ rfl,rfl,by rw[<-hn];rfl⟩ ?_;refine⟨s1.heap.objs.size,[s1.heap.objs.size],_,_,H1,rfl,I1.kept (t':=s1.toks) λb o e=>dq _ e,gG a _ xs.length,⟨_,fi _ rfl,rfl,by rw[<-hn];rfl⟩,λb hb=>?_,q⟩;have e:b=s1.heap.objs.size:=by simpa using hb
 subst e;exact I1.fpOk (db _) (I1.hok.fresh (db _))
end
theorem Vd {K:da}{a:df}{i1 i2:Nat}{tb:TS}{D:Jg}{G:St}(hx:as.length=xs.length)(hy:as.length=ys.length)(Pv:Nat->St->Hp->Prop)(h0:Pv 0 G H)
  (hl:∀i G H,i<=as.length->Pv i G H->SqL K H a (as.map V.ref))(ht:∀(i:Nat) t x y G H,as[i]?=some t->xs[i]?=some x->ys[i]?=some y->Pv i G H->H t=some (.tup [x,y]))
  (step:∀(i:Nat) x y G H,xs[i]?=some x->ys[i]?=some y->Pv i G H->tb { D with nx:=Pv (i+1),ct:=Pv (i+1),bk:=D.nx } ((G.set i1 (some x)).set i2 (some y)) H)
  (fin:∀G H,Pv as.length G H->D.nx G H):iC (Itl K a) (fP K 2 (Kb (Es i1) (Kb (Es i2) gY))) tb D G H:=by
 refine⟨λi m G H=>i<=as.length/\m=as.length-i/\Pv i G H,⟨_,e9 _,rfl,h0⟩,?_⟩;rintro i m G H ⟨hi,rfl,hp⟩
 by_cases h:i=as.length
 ·exact .inl ⟨⟨_,hl i G H hi hp,by rw[c8];lia⟩,fin G H (h▸hp)⟩
 ·have hlt:i<as.length:=im hi h
  refine .inr ⟨⟨_,.ref as[i],hl i G H hi hp,by rw[dg,c7 hlt];rfl⟩,Pv (i+1),λmt H' q=>⟨as.length-(i+1),by lia,hlt,rfl,q⟩,λv H' hyl=>?_⟩;obtain⟨rfl,hv⟩:=hyl;have hv:=hv _ (hl i G H' hi hp);rw[dg,c7 hlt] at hv;obtain rfl:=de hv;exact R7 (SqT.of (ht i _ _ _ G H' (c7 hlt) (c7 (by lia)) (c7 (by lia)) hp)) (step i _ _ G H' (c7 (by lia)) (c7 (by lia)) hp)
theorem eY {K:da}{a:df}{i1 i2:Nat}{tb:TS}{D:Jg}{G:St}(hx:as.length=xs.length)(hy:as.length=ys.length)(Pv:Nat->St->Hp->Prop)(h0:Pv 0 G H)
  (hl:∀i G H,i<=as.length->Pv i G H->SqL K H a (as.map V.ref))(ht:∀(i j:Nat) t x y G H,as[j]?=some t->xs[j]?=some x->ys[j]?=some y->Pv i G H->H t=some (.tup [x,y]))
  (step:∀(i:Nat) x y G H,i<as.length->xs[as.length-1-i]?=some x->ys[as.length-1-i]?=some y->Pv i G H->tb { D with nx:=Pv (i+1),ct:=Pv (i+1),bk:=D.nx } ((G.set i1 (some x)).set i2 (some y)) H)
  (fin:∀G H,Pv as.length G H->D.nx G H):iC (uG K a as.length) (fP K 2 (Kb (Es i1) (Kb (Es i2) gY))) tb D G H:=by
 refine⟨λi m G H=>i<=as.length/\m=as.length-i/\Pv i G H,⟨_,e9 _,rfl,h0⟩,?_⟩;rintro i m G H ⟨hi,rfl,hp⟩
 by_cases h:i=as.length
 ·exact .inl ⟨h,fin G H (h▸hp)⟩
 ·have hlt:i<as.length:=im hi h
  have hj:as.length-1-i<as.length:=by lia
  refine .inr ⟨⟨_,.ref as[as.length-1-i],hl i G H hi hp,hlt,by rw[dg,c7 hj];rfl⟩,Pv (i+1),λmt H' q=>⟨as.length-(i+1),by lia,hlt,rfl,q⟩,λv H' hyl=>?_⟩;obtain⟨rfl,hv⟩:=hyl;have hv:=hv _ (hl i G H' hi hp);rw[dg,c7 hj] at hv;obtain rfl:=de hv;exact R7 (SqT.of (ht i _ _ _ _ G H' (c7 hj) (c7 (by lia)) (c7 (by lia)) hp)) (step i _ _ G H' hlt (c7 (by lia)) (c7 (by lia)) hp)
theorem fY (n:Nat):sliceRange (sliceBounds none none (some (-1)) n).1 (sliceBounds none none (some (-1)) n).2.1 (sliceBounds none none (some (-1)) n).2.2=(ed n).map λk=>n-1-k:=by
 have e:sliceBounds none none (some (-1)) n=((n:Int)-1,-1,-1):=by simp[sliceBounds]
 rw[e];unfold sliceRange;dsimp only;rw[if_neg (by decide)];have e2:(if(n:Int)-1 > -1 then((n:Int)-1 - -1 - -1-1) / - -1 else 0).toNat=n:=by
  split
  ·rw[show(- -1:Int)=1 by decide,CQ]
   lia
  ·lia
 rw[e2];refine i5 λk hk=>?_;have:=ja.mp hk;lia
theorem Tp {α:Type}(l:List α):∀n,n<=l.length->((ed n).map λk=>n-1-k).filterMap (l[·]?)=(l.take n).reverse
 |0,_=>by simp
 |n+1,h=>by
  have hl:n<l.length:=h;rw[jw,jd,jm,o7];have e:((λk=>n+1-1-k) ∘ vw)=λk=>n-1-k:=by
   funext k
   show n+1-1-(k+1)=n-1-k;lia
  rw[e,show n+1-1-0=n by lia,c7 hl];dsimp only;rw[Tp l n (by lia),gj,c7 hl,Option.toList_some,List.reverse_append];rfl
theorem pD:∀{xs:List V} {us:Za3},Bj xs us->Bj xs.reverse us.reverse:=λ{xs us} h=>by
 have key:∀(xs:List V) (us:Za3) (ys:List V) (vs:Za3),Bj xs us->Bj ys vs->Bj (xs.reverse++ys) (us.reverse++vs):=λxs=>by
  induction xs with
  |nil=>intro us ys vs h1 h2;cases h1;exact h2
  |cons x xs ih=>
   intro us ys vs h1 h2
   cases h1 with
   |cons r t=>
    rw[zg,zg,d9,d9];exact ih _ _ _ t (.cons r h2)
 have:=key xs us [] [] h .nil
 rwa [iz,iz] at this
def wE (K:da)(te:TE):TE:=λG H Q=>te G H λx H1=>∃a xs,x=.ref a/\SqL K H1 a xs/\∀p,H1 p=none->Q (.ref p) (upd H1 p (.lst xs.reverse))
section
variable {X:Cx} {e:gd} {te:TE} {pos p1 p2 p3:Pos}
theorem tX {x1}(he:PE X e te):PE X (.Subscript e (.Slice none none (some (.UnaryOp .USub (.Constant (.int 1) x1 p1) p2)) p3) pos) (wE X.K te):=by
 k_in;refine Subscript_ (thE he I h λv s1 x H1 I1 r1 q1=>?_);obtain⟨a,xs,rfl,hq,q⟩:=q1;obtain rfl:v=ik a:=r1;refine wpAny_Slice ?_;rw[ye];refine em (em ?_);rw[evalPart_some];have hm:PE X (.UnaryOp .USub (.Constant (.int 1) x1 p1) p2) (tUn (rU λi=>.int (-i)) (tC (.int 1))):=Dg Cf Ag;refine thn (hm pins s1 G H1 (λy H2=>y=.int (-1)/\H2=H1) I1 ⟨1,rfl,rfl,rfl⟩) λw s2 ⟨y,H2,I2,r2,e2,e3⟩=>?_;subst e2 e3;obtain⟨t,rfl⟩:=r2;have I4:Inv X pins G H2 { s2 with heap:=s2.heap.push { cls:=.type "slice",data:=.fields #[.none,.none,.int (-1) t] } }:=I2.kept (t':=s2.toks) λb ob q=>dq _ q;obtain⟨its,r,pl,hz⟩:=I4.list hq;have e1:=r.length;show wpAny (model X.prog X.w) X.A (subscriptTail e (.Slice none none (some (.UnaryOp .USub (.Constant (.int 1) x1 p1) p2)) p3) (.ref a) (.ref s2.heap.objs.size)) (EP X pins G Q) X.xe { s2 with heap:=s2.heap.push { cls:=.type "slice",data:=.fields #[.none,.none,.int (-1) t] } };refine tail_any (ops:=[.ref a,.ref s2.heap.objs.size]) pl.isList.typeIs list_getitem_lookup ?_ (by with_unfolding_all rfl);refine yd pl.isList (uq ..) .none .none (.int (-1) t) (by intro z;have:=de z;lia) ?_ (by rw[ez];lia);have hp:slicePick its.toArray none none (some (-1))=its.reverse.toArray:=by
  have:=Tp its its.length (db _);rw[d5 (db _)] at this;rw[<-this,<-fY its.length];unfold slicePick;simp
 rw[hp];exact⟨.ref _,_,I4.lnew (t':=s2.toks) (pD r) (by rw[yk];exact hz),rfl,q _ (I4.hok.fresh (db _))⟩
theorem zN {K:da}{G:St}{Q:VK}(h:te G H λx H1=>∃a xs,x=.ref a/\SqL K H1 a xs/\∀p,H1 p=none->Q (.ref p) (upd H1 p (.lst xs.reverse))):wE K te G H Q:=h
end
theorem oS {K:da}{a b:df}{fr:St}{tc:TT}{Q:VK}(ha:SqL K H1 a xs)(hb:SqL K H1 b ys)(Pv:df->Nat->List V->Hp->Prop)(h0:∀D H,H1 D=none->Aj H1 H->Pv D 0 [] H)
  (stab:∀D i zs H us o,H D=some (.lst us)->Pv D i zs H->Pv D i zs (upd H D o))(hz:∀D i zs H,i<min xs.length ys.length->Pv D i zs H->zs.length<sizeLine)(psame:∀D i zs H H',Aj H H'->Pv D i zs H->Pv D i zs H')
  (turn:∀D (i:Nat) zs x y H (A:VK) (R:Hp->Prop),xs[i]?=some x->ys[i]?=some y->Aj H1 H->H1 D=none->H D=some (.lst zs)->Pv D i zs H->(∀H',Aj H H'->Pv D (i+1) zs H'->R H')->(∀y H',Aj H H'->Pv D (i+1) (zs++[y]) H'->A y H') ->
   tc (some x::some y::fr) H λb H3=>if b=true then te (some x::some y::fr) H3 A else R H3)
  (fin:∀D zs H,H1 D=none->Aj H1 H->Pv D (min xs.length ys.length) zs H->H D=some (.lst zs)->Q (.ref D) H):Lg K (Itz K a b) H1 fr tc te Q:=by
 refine rQ (min xs.length ys.length) (λi=>xs.getD i .non) (λi=>ys.getD i .non) Pv h0 stab hz psame (λi H hi sm=>⟨xs,ys,xs[i]'(by lia),ys[i]'(by lia),sm.seq ha,sm.seq hb,by simp,by simp⟩) (λi H v H' hi sm h=>?_)
  (λH sm=>⟨xs,ys,sm.seq ha,sm.seq hb,rfl⟩) (λD i zs H A R hi sm=>turn D i zs _ _ H A R (by simp[show i<xs.length by lia]) (by simp[show i<ys.length by lia]) sm) fin
 obtain⟨t,x,y,hn,rfl,h1,h2,rfl⟩:=h;have e1:=h1 xs (sm.seq ha);have e2:=h2 ys (sm.seq hb);refine⟨t,rfl,?_,An hn⟩;simp only[eh,e1,e2,na];exact SqT.of Ac
theorem Hm (K:da){e:gd}{f:Str}{ta:TE}(he:PE X e ta)(h:autoParam (X.K=K) QD)(hb:autoParam (attributeBase e f X.env (eval e X.env)=eval e X.env) QD):PE X (.Attribute e f pos) (vV K ta f):=by
 subst h;exact rZ he hb
open PySem.W
def GD (K:AI)(x:Str)(st:gm):Prop:=∃(f:df) (fd:io),Fun K x x st f fd/\nsIn K mainGlobals x=some (some (.ref f))
def MD (K:AI)(C:df)(x q:Str)(st:gm):Prop:=∃(f:df) (fd:io),Fun K x q st f fd/\findIn K (.ref C) x=some (some (.ref f))/\isFn K (.ref f)=true
def BD (K:AI)(C:df)(x q:Str)(st:gm):Prop:=∃(f:df) (fd:io),Fun K x q st f fd/\findCls K (.ref C) (.type "type") x=some (.val (.ref f))
structure CD (K:AI) (C:df) (x:Str):Prop where
 a:nsIn K mainGlobals x=some (some (.ref C))
 ma:makesIn K C=true
 kc:keepIn K (.ref C)=true
structure BC (K:AI) (C:df) (x:Str):Prop where
 a:nsIn K mainGlobals x=some (some (.ref C))
 bg:specialIn K (.ref C) "__getattribute__"=some (some (.builtin "type.__getattribute__"))
 br:readsIn K C (.type "type")=true
def noB:Option (Za7)->Bool
 |some none=>true
 |_=>false
structure FD (K:AI) (C:df) (fs:Za6):Prop where
 cl:Cls K C
 al:(fs.all λf=>noB (findIn K (.ref C) f))=true
section
variable {P:fc} {w:ge} {K:AI} {mg:Za2} {base h:gv} {x q:Str} {st:gm} {f C:df} {oc:d0} {od an:Option df} {osl:Array (Za7)} {kV doc pm cdv ct:d0} {fs ps:Za6} {k:Nat} {sp:Sp}
theorem gD (a:nsIn K mainGlobals x=some (some (.ref f)))(l:K.lookup f=some ⟨oc,od,.func (fnOf x x (C7 st) (Ch st) (Ae st) .none kV doc pm an cdv ct),osl⟩)(c:codeIn K cdv x=true)(k:keepIn K (.ref f)=true):GD K x st:=⟨f,_,gL l c k,a⟩
theorem mD (a:findIn K (.ref C) x=some (some (.ref f)))(i:isFn K (.ref f)=true)(l:K.lookup f=some ⟨oc,od,.func (fnOf x q (C7 st) (Ch st) (Ae st) .none kV doc pm an cdv ct),osl⟩)(c:codeIn K cdv q=true)(k:keepIn K (.ref f)=true):MD K C x q st:=⟨f,_,gL l c k,a,i⟩
theorem bD (a:findCls K (.ref C) (.type "type") x=some (.val (.ref f)))(l:K.lookup f=some ⟨oc,od,.func (fnOf x q (C7 st) (Ch st) (Ae st) .none kV doc pm an cdv ct),osl⟩)(c:codeIn K cdv q=true)(k:keepIn K (.ref f)=true):BD K C x q st:=⟨f,_,gL l c k,a⟩
theorem fD (pg:plainGet K C uf=true)(hd:hasDictIn K C=true)(po:plainOver K C=true)(sa:findIn K (.ref C) "__setattr__"=some (some (.builtin "object.__setattr__")))(al:(fs.all λf=>noB (findIn K (.ref C) f))=true):FD K C fs:=⟨⟨pg,hd,po,sa⟩,al⟩
theorem FD.no (D:FD K C fs)(i:Nat){g:Str}(h:autoParam (fs[i]?=some g) QD):Cn K C g:=by
 have:=kx.mp D.al g (gw h);show findIn K (.ref C) g=some none
 cases e:findIn K (.ref C) g with
 |none=>rw[e] at this;cases this
 |some o=>
  cases o with
  |none=>rfl
  |some v=>rw[e] at this;cases this
def Cur:Nat->(Za3->Prop)->Prop
 |0,P=>P []
 |n+1,P=>∀a,Cur n λl=>P (a::l)
theorem Cur.all:∀{n:Nat} {P:Za3->Prop},Cur n P->∀us:Za3,us.length=n->P us
 |0,_,h,[],_=>h
 |n+1,_,h,a::l,e=>Cur.all (n:=n) (h a) l (zo e)
abbrev Js (x q:Str)(st:gm)(ps:Za6):Prop:=∀(kV doc pm:d0) (an:Option df) (cdv ct:d0),Cur ps.length λus=>bindArgs (fnOf x q (C7 st) (Ch st) (Ae st) .none kV doc pm an cdv ct) ⟨us,[]⟩=pure (ps.zip us)
theorem Fun.bd (F:Fun K x q st f fd)(hb:Js x q st ps):Ge K fd ps []:=F.binds λa b c d e g=>(hb a b c d e g).all
theorem GD.cal (X:K.In h)(G:h.Ns mainGlobals mg)(g:GD K x st)(ok:∀{f fd},Fun K x x st f fd->Ba P w K mg base CX0 k f fd ps sp)
  (hb:autoParam (Js x x st ps) QL):Cal P w K mg base x k ps sp:=
 let ⟨f,fd,F,a⟩:=g
 ⟨⟨f,fd,ok F,F.bd hb,mg_of X G a,F.kp⟩⟩
theorem MD.mth (c:Cls K C)(g:MD K C x q st)(ok:∀{f fd},Fun K x q st f fd->Ba P w K mg base CX0 k f fd ps sp)
  (hb:autoParam (Js x q st ps) QL):Mth P w K mg base C x k ps sp:=
 let ⟨f,fd,F,a,i⟩:=g
 ⟨⟨f,fd,ok F,F.bd hb,⟨a,i,F.kp⟩⟩,c⟩
theorem MD.mkr {y:Str}(X:K.In h)(G:h.Ns mainGlobals mg)(c:CD K C y)(g:MD K C "__init__" q st)(ok:∀{f fd},Fun K "__init__" q st f fd->Ba P w K mg base CX0 k f fd ps sp)
  (hb:autoParam (Js "__init__" q st ps) QL):Mkr P w K mg base y C k ps sp:=
 let ⟨f,fd,F,a,i⟩:=g
 ⟨⟨f,fd,ok F,F.bd hb,⟨c.ma,a,i,c.kc⟩,mg_of X G c.a⟩⟩
theorem BD.calC {y:Str}(X:K.In h)(G:h.Ns mainGlobals mg)(c:BC K C y)(g:BD K C x q st)(ok:∀{f fd},Fun K x q st f fd->Ba P w K mg base CX0 k f fd ps sp)
  (hb:autoParam (Js x q st ps) QL):vU P w K mg base y x k ps sp:=
 let ⟨f,fd,F,a⟩:=g
 ⟨⟨C,f,fd,ok F,F.bd hb,mg_of X G c.a,c.bg,c.br,a,F.kp⟩⟩
end
section
variable {P:fc} {w:ge} {K:AI} {mg:Za2} {base h:gv} {x q:Str} {st:gm} {C:df} {ps:Za6} {k:Nat} {sp:Sp}
theorem MD.mthE (c:Cls K C)(g:MD K C x q st)(ok:∀{f fd},Fun K x q st f fd->Ba P w K mg base (CXE P w) k f fd ps sp)(hb:autoParam (Js x q st ps) QL):sW P w K mg base C x k ps sp:=
 let ⟨f,fd,F,a,i⟩:=g
 ⟨⟨f,fd,ok F,F.bd hb,⟨a,i,F.kp⟩⟩,c⟩
end
end L2
end
section
namespace TW
theorem jM {ds:Za4}{v:Nat}:∀{i j:Nat},v<j->j<=i->(v:Int)∈way ds i->(v:Int)∈way ds j
 |0,j,h1,h2,_=>by lia
 |i+1,j,h1,h2,h=>by
  by_cases e:j=i+1
  ·rw[e];exact h
  ·have h:(v:Int)∈(way ds i).take (dAt ds i+1)++[(i:Int)]:=h
   rcases ju.mp h with h|h
   ·exact jM h1 (by lia) (xw h)
   ·have:=ie.mp h
    lia
theorem Pg {ds:Za4}(h:Dok ds){i j:Nat}{v:Int}(hi:i<ds.length)(e:eld ds i=v)(h1:v<j)(h2:j<i):v<=eld ds j:=by
 by_cases hv:v=-1
 ·rw[hv];exact Ph h (by lia)
 obtain⟨w,hw,hwi,_⟩:=Cc h hi (by rw[e];exact hv);have hwv:v=(w:Int):=by rw[<-e,hw]
 subst hwv;have hm:(w:Int)∈way ds i:=by rw[<-e];exact gw (Dj h hi)
 have hm2:(w:Int)∈(way ds j).take (dAt ds j+1)++[(j:Int)]:=jM (i:=i) (j:=j+1) (by lia) (by lia) hm;rcases ju.mp hm2 with hm3|hm3
 ·obtain⟨a,ha⟩:=kd hm3
  have hlt:=(d6.mp ha).1;rw[dh] at hlt;rw[d7 (by lia)] at ha;have hea:=Dj h (show j<ds.length by lia)
  by_cases hd:a=dAt ds j
  ·rw[hd,hea] at ha
   have:=de ha;lia
  ·have:=Sl h j a (dAt ds j) _ _ (by lia) (by lia) ha hea
   lia
 ·have:=ie.mp hm3
  lia
def eK (ds:Za4)(k:Nat):Nat->Nat->Nat
 |0,j=>j
 |m+1,j=>if(k:Int)<=eld ds j then eK ds k m (j+1) else j
def Ao (ds:Za4)(k:Nat):Nat:=eK ds k (ds.length-(k+1)) (k+1)
theorem kE (ds:Za4)(k:Nat):∀m j,k<j->(∀i,k<i->i<j->(k:Int)<=eld ds i)->j<=eK ds k m j/\eK ds k m j<=j+m/\(∀i,k<i->i<eK ds k m j->(k:Int)<=eld ds i)/\(eK ds k m j<j+m->eld ds (eK ds k m j)<k)
 |0,j,h1,h2=>⟨db _,db _,h2,λh=>absurd h (i4 _)⟩
 |m+1,j,h1,h2=>by
  unfold eK
  by_cases h:(k:Int)<=eld ds j
  ·rw[if_pos h]
   obtain⟨a,b,c,d⟩:=kE ds k m (j+1) (by lia) (λi h3 h4=>by
    by_cases e:i=j
    ·rw[e];exact h
    ·exact h2 i h3 (by lia))
   exact⟨by lia,by lia,c,λh5=>d (by lia)⟩
  ·rw[if_neg h]
   exact⟨db _,by lia,h2,λ_=>by lia⟩
theorem Ax {ds:Za4}{k:Nat}(hk:k<ds.length):k<Ao ds k/\Ao ds k<=ds.length/\(∀i,k<i->i<Ao ds k->(k:Int)<=eld ds i)/\(Ao ds k<ds.length->eld ds (Ao ds k)<k):=by
 obtain⟨a,b,c,d⟩:=kE ds k (ds.length-(k+1)) (k+1) (by lia) (λi h1 h2=>by lia);unfold Ao;exact⟨by lia,by lia,c,λh=>d (by lia)⟩
theorem Xh {ds:Za4}(h:Dok ds){k i:Nat}(hk:k<ds.length)(h1:Ao ds k<=i)(h2:i<ds.length):eld ds i<k\/(Ao ds k:Int)<=eld ds i:=by
 obtain⟨a,b,c,d⟩:=Ax (ds:=ds) hk
 by_cases e:i=Ao ds k
 ·left;rw[e];exact d (by lia)
 ·by_cases z:eld ds i<k
  ·exact .inl z
  ·right
   by_cases y:(Ao ds k:Int)<=eld ds i
   ·exact y
   ·have:=Pg h h2 rfl (show eld ds i<(Ao ds k:Nat) by lia) (by lia)
    have:=d (by lia);lia
theorem mQ {ds:Za4}(h:Dok ds){k g:Nat}(hk:k<ds.length)(hg:eld ds k+1=g):g<=k/\eld ds g=eld ds k:=by
 have hlt:eld ds k<k:=by
  by_cases e:eld ds k=-1
  ·lia
  ·obtain⟨v,hv,hvk,_⟩:=Cc h hk e
   lia
 refine⟨by lia,?_⟩
 by_cases e:g=k
 ·rw[e]
 ·have h1:=Pg h hk rfl (show eld ds k<(g:Nat) by lia) (by lia)
  have h2:eld ds g<g:=by
   by_cases e:eld ds g=-1
   ·lia
   ·obtain⟨v,hv,hvk,_⟩:=Cc h (show g<ds.length by lia) e
    lia
  lia
theorem Fx {ds:Za4}(h:Dok ds){k:Nat}(hk:k<ds.length):eld ds k<k:=by
 by_cases e:eld ds k=-1
 ·lia
 ·obtain⟨v,hv,hvk,_⟩:=Cc h hk e
  lia
def bS (ds:Za4):Nat->Int->Nat
 |0,_=>0
 |m+1,j=>bS ds m j+if eld ds (ds.length-(m+1))=j then Ao ds (ds.length-(m+1))-(ds.length-(m+1)) else 0
theorem R4 {ds:Za4}{M:Nat}(h:M<ds.length)(j:Int):bS ds (ds.length-M) j=bS ds (ds.length-(M+1)) j+if eld ds M=j then Ao ds M-M else 0:=by
 obtain⟨m,hm⟩:∃m,ds.length-M=m+1:=⟨ds.length-M-1,by lia⟩;rw[hm,show ds.length-(M+1)=m by lia];show bS ds m j+(if eld ds (ds.length-(m+1))=j then Ao ds (ds.length-(m+1))-(ds.length-(m+1)) else 0)=_;rw[show ds.length-(m+1)=M by lia]
theorem R3 {ds:Za4}{j:Int}:∀(d M:Nat),M+d<=ds.length->(∀i,M<=i->i<M+d->eld ds i≠j)->bS ds (ds.length-M) j=bS ds (ds.length-(M+d)) j
 |0,M,_,_=>rfl
 |d+1,M,h1,h2=>by
  rw[R4 (by lia),if_neg (h2 M (db _) (by lia)),iw,R3 d (M+1) (by lia) (λi a b=>h2 i (by lia) (by lia)),show M+1+d=M+(d+1) by lia]
theorem uP {ds:Za4}(h:Dok ds){k:Nat}(hk:k<ds.length):∀(f M:Nat),Ao ds k-M<=f->k<M->M<=Ao ds k->(M=Ao ds k\/eld ds M=k)->bS ds (ds.length-M) k=Ao ds k-M:=by
 obtain⟨a,b,c,d⟩:=Ax (ds:=ds) hk;have done:bS ds (ds.length-Ao ds k) k=0:=by
  rw[R3 (ds.length-Ao ds k) (Ao ds k) (by lia) (λi h1 h2 e=>by
   rcases Xh h hk h1 (by lia) with z|z<;>lia),show Ao ds k+(ds.length-Ao ds k)=ds.length by lia,fv]
  rfl
 intro f
 induction f with
 |zero=>
  intro M h1 h2 h3 _;obtain rfl:M=Ao ds k:=by lia
  rw[done,fv]
 |succ f ih=>
  intro M h1 h2 h3 h4
  by_cases e:M=Ao ds k
  ·rw[e,done,fv]
  ·have hM:eld ds M=k:=by rcases h4 with z|z;exact absurd z e;exact z
   have hMl:M<ds.length:=by lia
   obtain⟨a2,b2,c2,d2⟩:=Ax (ds:=ds) hMl;have hle:Ao ds M<=Ao ds k:=by
    by_cases z:Ao ds M<=Ao ds k
    ·exact z
    ·have:=c2 (Ao ds k) (by lia) (by lia)
     have:=d (by lia);lia
   rw[R4 hMl,if_pos hM,R3 (Ao ds M-(M+1)) (M+1) (by lia) (λi i1 i2 z=>by
    have:=c2 i (by lia) (by lia);lia),show M+1+(Ao ds M-(M+1))=Ao ds M by lia,ih (Ao ds M) (by lia) (by lia) hle ?_]
   ·lia
   ·by_cases z:Ao ds M=Ao ds k
    ·exact .inl z
    ·right
     have h5:=c (Ao ds M) (by lia) (by lia);have h6:=d2 (by lia)
     by_cases y:eld ds (Ao ds M)=k
     ·exact y
     ·have:=Pg h (show Ao ds M<ds.length by lia) rfl h6 (by lia)
      lia
theorem oZ {ds:Za4}(h:Dok ds){k:Nat}(hk:k<ds.length):bS ds (ds.length-(k+1)) k=Ao ds k-(k+1):=by
 obtain⟨a,b,c,d⟩:=Ax (ds:=ds) hk;refine uP h hk _ (k+1) (db _) (by lia) (by lia) ?_
 by_cases e:k+1=Ao ds k
 ·exact .inl e
 ·right
  have h1:=c (k+1) (by lia) (by lia);have h2:=Fx h (show k+1<ds.length by lia);lia
theorem zI {ds:Za4}(h:Dok ds){k:Nat}(hk:k<ds.length):bS ds ds.length k=Ao ds k-(k+1):=by
 have e:=R3 (ds:=ds) (j:=k) (k+1) 0 (by lia) (λi _ i2=>by
  have:=Fx h (show i<ds.length by lia);lia)
 rw[l4,ji] at e;rw[e,oZ h hk]
theorem jH {ds:Za4}(h:Dok ds){k i:Nat}(hki:k<i)(hi:i<ds.length)(e:eld ds i=eld ds k):Ao ds k<ds.length/\eld ds (Ao ds k)=eld ds k:=by
 have hk:k<ds.length:=by lia
 obtain⟨a,b,c,d⟩:=Ax (ds:=ds) hk;have hlt:=Fx h hk;have hle:Ao ds k<=i:=by
  by_cases z:Ao ds k<=i
  ·exact z
  ·have:=c i hki (by lia)
   lia
 refine⟨by lia,?_⟩
 by_cases z:Ao ds k=i
 ·rw[z];exact e
 ·have h1:=Pg h hi rfl (show eld ds i<(Ao ds k:Nat) by lia) (by lia)
  have h2:=d (by lia)
  by_cases y:eld ds (Ao ds k)=eld ds k
  ·exact y
  ·have:=Pg h (show Ao ds k<ds.length by lia) rfl h2 a
   lia
theorem Mw {ds:Za4}{v:Int}:∀(d k:Nat),(∀i,k<=i->i<k+d->eld ds i≠v)->As ds (k+d) v=As ds k v
 |0,k,_=>rfl
 |d+1,k,h=>by
  rw[show k+(d+1)=k+d+1 by lia,Gs (h (k+d) (by lia) (by lia)),Mw d k λi a b=>h i a (by lia)]
theorem dN {ds:Za4}(h:Dok ds){k:Nat}(hk:k<ds.length):As ds (Ao ds k) (eld ds k)=As ds k (eld ds k)++[k]:=by
 obtain⟨a,b,c,d⟩:=Ax (ds:=ds) hk;have hlt:=Fx h hk;have:=Mw (ds:=ds) (v:=eld ds k) (Ao ds k-(k+1)) (k+1) (λi i1 i2=>by
  have:=c i (by lia) (by lia);lia)
 rw[show k+1+(Ao ds k-(k+1))=Ao ds k by lia] at this;rw[this,C3 rfl]
def Dr (ds:Za4)(k:Nat):Option Nat:=if Ao ds k<ds.length/\eld ds (Ao ds k)=eld ds k then some (Ao ds k) else none
theorem Ki {ds:Za4}{k j:Nat}(e:Dr ds k=some j):j=Ao ds k/\j<ds.length/\eld ds j=eld ds k:=by
 unfold Dr at e
 by_cases z:Ao ds k<ds.length/\eld ds (Ao ds k)=eld ds k
 ·rw[if_pos z] at e
  obtain rfl:=de e;exact⟨rfl,z.1,z.2⟩
 ·rw[if_neg z] at e
  cases e
theorem gK {ds:Za4}(h:Dok ds){k:Nat}(hk:k<ds.length)(e:Dr ds k=none):As ds ds.length (eld ds k)=As ds k (eld ds k)++[k]:=by
 have hno:∀i,k+1<=i->i<k+1+(ds.length-(k+1))->eld ds i≠eld ds k:=λi i1 i2 z=>by
  have:=jH h (show k<i by lia) (by lia) z;unfold Dr at e;rw[if_pos this] at e;cases e
 have:=Mw (ds:=ds) (ds.length-(k+1)) (k+1) hno;rw[show k+1+(ds.length-(k+1))=ds.length by lia] at this;rw[this,C3 rfl]
theorem Pj {ds:Za4}{v:Int}:∀(d k:Nat),(As ds k v).length<=(As ds (k+d) v).length
 |0,k=>db _
 |d+1,k=>by
  have:=Pj (ds:=ds) (v:=v) d k;rw[show k+(d+1)=k+d+1 by lia]
  by_cases e:eld ds (k+d)=v
  ·rw[C3 e,c9];lia
  ·rw[Gs e];exact this
theorem nZ {ds:Za4}(h:Dok ds){k j:Nat}(hk:k<ds.length)(e:Dr ds k=some j):(As ds j (eld ds j)).length=(As ds k (eld ds k)).length+1/\(As ds k (eld ds k)).length+1<(As ds ds.length (eld ds k)).length:=by
 obtain⟨rfl,h1,h2⟩:=Ki e;have h3:=dN h hk;refine⟨by rw[h2,h3,c9];rfl,?_⟩;have h4:(As ds (Ao ds k+1) (eld ds k)).length=(As ds k (eld ds k)).length+2:=by rw[C3 h2,h3,c9,c9];rfl
 have h5:=Pj (ds:=ds) (v:=eld ds k) (ds.length-(Ao ds k+1)) (Ao ds k+1);rw[show Ao ds k+1+(ds.length-(Ao ds k+1))=ds.length by lia] at h5;lia
theorem oG {ds:Za4}(h:Dok ds){k j:Nat}(hk:k<ds.length)(e:(As ds k (eld ds k)).getLast?=some j):j<k/\eld ds j=eld ds k/\Ao ds j=k/\(As ds j (eld ds j)).length+1=(As ds k (eld ds k)).length:=by
 have hm:=xx e;obtain⟨h1,h2⟩:=Cm.mp hm;have hj:j<ds.length:=by lia
 obtain⟨s1,s2⟩:=jH h h1 hk h2.symm;obtain⟨a,b,c,d⟩:=Ax (ds:=ds) hj;have hle:Ao ds j<=k:=by
  by_cases z:Ao ds j<=k
  ·exact z
  ·have:=c k h1 (by lia)
   have:=Fx h hj;lia
 have he:Ao ds j=k:=by
  by_cases z:Ao ds j=k
  ·exact z
  ·have hmem:Ao ds j∈As ds k (eld ds k):=Cm.mpr ⟨by lia,by rw[s2,h2]⟩
   obtain⟨p,hp⟩:=kd hmem;have hlast:(As ds k (eld ds k))[(As ds k (eld ds k)).length-1]?=some j:=by rw[<-vz];exact e
   have hpl:=(d6.mp hp).1;have hsort:(As ds k (eld ds k)).Pairwise (· < ·):=by
    unfold As;exact mi _ m8
   by_cases y:p=(As ds k (eld ds k)).length-1
   ·rw[y,hlast] at hp
    have:=de hp;lia
   ·have hl2:=(d6.mp hlast).1
    have:=vx.mp hsort p ((As ds k (eld ds k)).length-1) hpl hl2 (by lia);rw[c7 hpl] at hp;rw[c7 hl2] at hlast;have e1:=de hp;have e2:=de hlast;lia
 refine⟨h1,h2,he,?_⟩;have h3:=dN h hj;rw[he,h2] at h3;rw[h2,h3,c9];rfl
theorem yF {ds:Za4}(h:Dok ds){k v:Nat}(hk:k<ds.length)(e:Dr ds k=none)(hv:eld ds k=v):Ao ds v=Ao ds k:=by
 have hvk:=Fx h hk;have hvl:v<ds.length:=by lia
 obtain⟨a,b,c,d⟩:=Ax (ds:=ds) hk;obtain⟨a2,b2,c2,d2⟩:=Ax (ds:=ds) hvl;have h1:k<Ao ds v:=by
  by_cases z:k<Ao ds v
  ·exact z
  ·rcases Xh h hvl (show Ao ds v<=k by lia) hk with y|y<;>lia
 have h2:Ao ds k<=Ao ds v:=by
  by_cases z:Ao ds k<=Ao ds v
  ·exact z
  ·have:=c (Ao ds v) h1 (by lia)
   have:=d2 (by lia);lia
 by_cases z:Ao ds k=Ao ds v
 ·exact z.symm
 ·exfalso
  have h3:=c2 (Ao ds k) (by lia) (by lia);have h4:=d (by lia);have h5:=Pg h (show Ao ds k<ds.length by lia) rfl h4 a;unfold Dr at e;rw[if_pos ⟨by lia,by lia⟩] at e;cases e
theorem Jc {ds:Za4}(h:Dok ds){k:Nat}(hk:k<ds.length):∀i,k<i->i<Ao ds k->dAt ds k<dAt ds i:=λi=>by
 obtain⟨a,b,c,d⟩:=Ax (ds:=ds) hk
 induction i using Nat.strongRecOn with
 |_ i ih=>
  intro h1 h2;have h3:=c i h1 h2;obtain⟨v,hv,hvi,hd⟩:=Cc h (show i<ds.length by lia) (by lia)
  by_cases e:v=k
  ·rw[hd,e];lia
  ·have:=ih v hvi (by lia) (by lia)
   lia
def Df (ds:Za4)(k:Nat):Za4:=(ed (Ao ds k-k)).map λi=>dAt ds (k+i)-dAt ds k
theorem Dt (ds:Za4)(k:Nat):(Df ds k).length=Ao ds k-k:=by unfold Df;rw[c8,fj]
theorem Nt {ds:Za4}{k i:Nat}(h:i<Ao ds k-k):dAt (Df ds k) i=dAt ds (k+i)-dAt ds k:=by
 unfold dAt Df eh;rw[dg,ia h];rfl
theorem Ir {ds:Za4}(h:Dok ds){k:Nat}(hk:k<ds.length):Dok (Df ds k):=λi hi=>by
 obtain⟨a,b,c,d⟩:=Ax (ds:=ds) hk;rw[Dt] at hi;rw[Nt hi]
 cases i with
 |zero=>show _<=0;rw[iw,fv];exact db _
 |succ i=>
  show _<=dAt (Df ds k) i+1;rw[Nt (by lia)];have h1:dAt ds (k+(i+1))<=dAt ds (k+i)+1:=h (k+(i+1)) (by lia)
  by_cases e:i=0
  ·subst e
   rw[iw] at *;lia
  ·have:=Jc h hk (k+i) (by lia) (by lia)
   lia
theorem iY {ds:Za4}(h:Dok ds){k:Nat}(hk:k<ds.length):∀i,i<Ao ds k-k->way (Df ds k) (i+1)=-1::((way ds (k+(i+1))).drop (dAt ds k+1)).map (λx=>x-(k:Int))
 |0,hi=>by
  obtain⟨a,b,c,d⟩:=Ax (ds:=ds) hk;show(way (Df ds k) 0).take (dAt (Df ds k) 0+1)++[((0:Nat):Int)]=_;have hl:=Ci h k (by lia);have hd:=h k hk;show([-1]:List Int).take (dAt (Df ds k) 0+1)++[((0:Nat):Int)]=-1::(((way ds k).take (dAt ds k+1)++[(k:Int)]).drop (dAt ds k+1)).map (λx=>x-(k:Int));have e1:(((way ds k).take (dAt ds k+1)++[(k:Int)]).drop (dAt ds k+1))=[(k:Int)]:=by
   have:((way ds k).take (dAt ds k+1)).length=dAt ds k+1:=by rw[dh];lia
   rw[la (by lia),gg (by lia)];rfl
  rw[e1,d5 (by simp)];simp
 |i+1,hi=>by
  obtain⟨a,b,c,d⟩:=Ax (ds:=ds) hk;have ih:=iY h hk i (by lia);have hl:=Ci h (k+(i+1)) (by lia);have hd:=h (k+(i+1)) (by lia);have hdp:=Jc h hk (k+(i+1)) (by lia) (by lia);show(way (Df ds k) (i+1)).take (dAt (Df ds k) (i+1)+1)++[((i+1:Nat):Int)]=-1::((((way ds (k+(i+1))).take (dAt ds (k+(i+1))+1)++[((k+(i+1):Nat):Int)])).drop (dAt ds k+1)).map (λx=>x-(k:Int));rw[ih,Nt hi,oz];have hl2:((way ds (k+(i+1))).take (dAt ds (k+(i+1))+1)).length=dAt ds (k+(i+1))+1:=by rw[dh];lia
  rw[la (by lia),dj,AR,uc,<-jx,show dAt ds (k+(i+1))+1-(dAt ds k+1)=dAt ds (k+(i+1))-dAt ds k by lia];congr 2;show[((i+1:Nat):Int)]=[((k+(i+1):Nat):Int)-(k:Int)];congr 1;lia
theorem uX {ds:Za4}(h:Dok ds){k i:Nat}(hk:k<ds.length)(h0:0<i)(hi:i<Ao ds k-k):eld (Df ds k) i=eld ds (k+i)-k:=by
 obtain⟨a,b,c,d⟩:=Ax (ds:=ds) hk;obtain⟨j,rfl⟩:∃j,i=j+1:=⟨i-1,by lia⟩;have h1:=Dj (Ir h hk) (k:=j+1) (by rw[Dt];exact hi);have h2:=Dj h (show k+(j+1)<ds.length by lia);have hdp:=Jc h hk (k+(j+1)) (by lia) (by lia);rw[iY h hk j (by lia),Nt hi] at h1;obtain⟨m,hm⟩:∃m,dAt ds (k+(j+1))-dAt ds k=m+1:=⟨_,(Nat.succ_pred_eq_of_pos (by lia)).symm⟩;rw[hm,wt,dg,jb,show dAt ds k+1+m=dAt ds (k+(j+1)) by lia,h2] at h1;exact(de h1).symm
theorem rD {ds:Za4}(h:Dok ds){k:Nat}(hk:k<ds.length):eld (Df ds k) 0=-1:=by
 obtain⟨a,b,c,d⟩:=Ax (ds:=ds) hk;have h1:=Dj (Ir h hk) (k:=0) (by rw[Dt];lia);have h2:dAt (Df ds k) 0=0:=by rw[Nt (by lia),iw,fv]
 rw[h2] at h1;exact(de h1).symm
theorem kD:∀{l m:Za4},l.Pairwise (· < ·)->m.Pairwise (· < ·)->(∀x,x∈l↔x∈m)->l=m
 |[],[],_,_,_=>rfl
 |[],b::m,_,_,h=>by have:=(h b).mpr (by simp);cases this
 |a::l,[],_,_,h=>by have:=(h a).mp (by simp);cases this
 |a::l,b::m,h1,h2,h=>by
  rw[List.pairwise_cons] at h1 h2;have e:a=b:=by
   rcases fu.mp ((h a).mp (by simp)) with z|z
   ·exact z
   ·rcases fu.mp ((h b).mpr (by simp)) with y|y
    ·exact y.symm
    ·have:=h2.1 a z
     have:=h1.1 b y;lia
  subst e;congr 1;refine kD h1.2 h2.2 λx=>⟨λhx=>?_,λhx=>?_⟩
  ·rcases fu.mp ((h x).mp (by simp[hx])) with z|z
   ·have:=h1.1 x hx;lia
   ·exact z
  ·rcases fu.mp ((h x).mpr (by simp[hx])) with z|z
   ·have:=h2.1 x hx;lia
   ·exact z
def Sb (ds:Za4)(i:Nat):Option Nat:=if 0<(As ds ds.length (i:Int)).length then some (i+1) else none
theorem Td {ds:Za4}(h:Dok ds){i j:Nat}(e:Sb ds i=some j):j=i+1/\j<ds.length/\eld ds j=i:=by
 unfold Sb at e
 by_cases z:0<(As ds ds.length (i:Int)).length
 ·rw[if_pos z] at e
  obtain rfl:=de e;obtain⟨j,hj⟩:=List.exists_mem_of_length_pos z;obtain⟨j1,j2⟩:=Cm.mp hj;obtain⟨h1,h2⟩:=mQ h j1 (g:=i+1) (by rw[j2];lia);exact⟨rfl,by lia,by rw[h2,j2]⟩
 ·rw[if_neg z] at e
  cases e
theorem Zn {ds:Za4}{i:Nat}(e:Sb ds i=none):∀j,j<ds.length->eld ds j≠i:=λj hj z=>by
 unfold Sb at e;have:j∈As ds ds.length (i:Int):=Cm.mpr ⟨hj,z⟩;rw[if_pos (w8 this)] at e;cases e
def rwH:Nat->Za4->Za5
 |h,[]=>dn h false
 |h,d::ds=>dn (h-d) false++true::rwH (d+1) ds
def dk:Nat->Za4->Prop
 |_,[]=>True
 |h,d::ds=>d<=h/\dk (d+1) ds
def Kw:Nat->Za4->Nat
 |h,[]=>h
 |_,d::ds=>Kw (d+1) ds
def Pl (B:Za4)(off:Nat):Prop:=∀d C,B=d::C->d<=off
theorem iB {ds:Za4}{k:Nat}(h:k<ds.length):ds.drop k=dAt ds k::ds.drop (k+1):=by
 rw[jq h];unfold dAt eh;rw[c7 h];rfl
theorem Yu {ds:Za4}:∀(m k:Nat),k+m=ds.length->((ed m).map λi=>Bx ds (k+i)).flatten++dn (opn ds ds.length) false=rwH (opn ds k) (ds.drop k)
 |0,k,e=>by
  obtain rfl:k=ds.length:=by lia
  rw[gg (db _)];rfl
 |m+1,k,e=>by
  have ih:=Yu (ds:=ds) m (k+1) (by lia);rw[jw,jd,jm,il,iB (by lia)];have e1:((λi=>Bx ds (k+i)) ∘ vw)=λi=>Bx ds (k+1+i):=by
   funext i
   show Bx ds (k+(i+1))=Bx ds (k+1+i);rw[show k+(i+1)=k+1+i by lia]
  rw[e1,d9,ih];show(dn (opn ds k-dAt ds (k+0)) false++[true])++_=dn (opn ds k-dAt ds k) false++true::rwH (dAt ds k+1) _;rw[iw,d9];rfl
theorem iE (ds:Za4):Av ds=rwH 0 ds:=by
 have:=Yu (ds:=ds) ds.length 0 (by lia);unfold Av Li;have e:(λi=>Bx ds (0+i))=Bx ds:=by funext i;rw[ji]
 rw[e] at this;exact this
theorem wW:∀(B:Za4) (h:Nat),(∀k,k<B.length->dAt B k<=if k=0 then h else dAt B (k-1)+1)->dk h B
 |[],_,_=>trivial
 |d::B,h,hh=>⟨hh 0 (by simp),wW B (d+1) λk hk=>by
  have:=hh (k+1) (by simp;exact hk);rw[if_neg (by lia)] at this
  cases k with
  |zero=>exact this
  |succ k=>exact this⟩
theorem wJ:∀(B:Za4) (h:Nat),dk h B->∀k,k<B.length->dAt B k<=if k=0 then h else dAt B (k-1)+1
 |d::B,h,hh,0,_=>hh.1
 |d::B,h,hh,k+1,hk=>by
  have:=wJ B (d+1) hh.2 k (by simp at hk;exact hk);rw[if_neg (by lia)]
  cases k with
  |zero=>exact this
  |succ k=>exact this
theorem F0 {ds:Za4}:Dok ds↔dk 0 ds:=by
 constructor
 ·intro h
  refine wW ds 0 λk hk=>?_;have:=h k hk
  cases k with
  |zero=>exact this
  |succ k=>rw[if_neg (by lia)];exact this
 ·intro h k hk
  have:=wJ ds 0 h k hk
  cases k with
  |zero=>exact this
  |succ k=>rw[if_neg (by lia)] at this;exact this
theorem Jb:∀(A B:Za4) (h:Nat),dk h (A++B)↔dk h A/\dk (Kw h A) B
 |[],B,h=>⟨λe=>⟨trivial,e⟩,λe=>e.2⟩
 |d::A,B,h=>by
  have ih:=Jb A B (d+1);exact⟨λe=>⟨⟨e.1,(ih.mp e.2).1⟩,(ih.mp e.2).2⟩,λe=>⟨e.1.1,ih.mpr ⟨e.1.2,e.2⟩⟩⟩
theorem oN {B:Za4}{h h' off:Nat}(hB:dk h B)(hd:Pl B off)(ho:off<=h'):dk h' B:=by
 cases B with
 |nil=>trivial
 |cons d B=>exact⟨gl (hd d B rfl) ho,hB.2⟩
theorem Ab9 {B:Za4}{h h':Nat}(hB:dk h B)(hh:h<=h'):dk h' B:=by
 cases B with
 |nil=>trivial
 |cons d B=>exact⟨gl hB.1 hh,hB.2⟩
theorem rV {off:Nat}:∀(E:Za4) (h:Nat),dk h E->dk (h+off) (E.map (·+off))
 |[],_,_=>trivial
 |d::E,h,hh=>⟨Nat.add_le_add_right hh.1 _,by
  have:=rV (off:=off) E (d+1) hh.2;rw[show d+1+off=d+off+1 by lia] at this;exact this⟩
theorem eM {off:Nat}:∀(E:Za4) (h:Nat),off<=h->off<=Kw h (E.map (·+off))
 |[],_,hh=>hh
 |d::E,h,_=>eM E (d+off+1) (by lia)
theorem To:∀(A:Za4),Kw 0 A=opn A A.length:=by
 have key:∀(A:Za4) (h:Nat),Kw h A=if A.length=0 then h else dAt A (A.length-1)+1:=by
  intro A
  induction A with
  |nil=>intro h;rfl
  |cons d A ih=>
   intro h;show Kw (d+1) A=_;rw[ih (d+1)]
   cases A with
   |nil=>rfl
   |cons c A=>rfl
 intro A;rw[key A 0]
 cases h:A.length with
 |zero=>rfl
 |succ n=>rw[if_neg (by lia)];rfl
theorem zQ {off:Nat}{E B:Za4}(hE:dk 0 E)(hB:Pl B off):Pl (E.map (·+off)++B) off:=by
 intro d C e
 cases E with
 |nil=>exact hB d C e
 |cons c E=>
  have:=hE.1;have e:c+off=d:=(j8 e).1;lia
theorem Aac {A E B:Za4}{off:Nat}(h:dk 0 (A++B))(hE:dk 0 E)(ho:off<=Kw 0 A)(hB:Pl B off):dk 0 (A++(E.map (·+off)++B)):=by
 obtain⟨h1,h2⟩:=(Jb A B 0).mp h;have h3:=rV (off:=off) E 0 hE;rw[ji] at h3;exact(Jb _ _ _).mpr ⟨h1,(Jb _ _ _).mpr ⟨Ab9 h3 ho,oN h2 hB (eM E _ ho)⟩⟩
theorem pS {A E B:Za4}{off:Nat}(h:dk 0 (A++(E.map (·+off)++B)))(ho:off<=Kw 0 A)(hB:Pl B off):dk 0 (A++B):=by
 obtain⟨h1,h2⟩:=(Jb A _ 0).mp h;exact(Jb _ _ _).mpr ⟨h1,oN ((Jb _ _ _).mp h2).2 hB ho⟩
theorem kC (a b:Nat):dn (a+b) false=dn a false++dn b false:=by rw[List.replicate_append_replicate]
theorem X3 {h off:Nat}{B:Za4}(ho:off<=h)(hB:Pl B off):rwH h B=dn (h-off) false++rwH off B:=by
 cases B with
 |nil=>
  show dn h false=dn (h-off) false++dn off false;rw[<-kC,Nat.sub_add_cancel ho]
 |cons d B=>
  have:=hB d B rfl;show dn (h-d) false++_=dn (h-off) false++(dn (off-d) false++_);rw[<-d9,<-kC,show h-off+(off-d)=h-d by lia]
theorem pG {off:Nat}{B:Za4}(hB:Pl B off):∀(E:Za4) (h:Nat),dk h E->rwH (h+off) (E.map (·+off)++B)=rwH h E++rwH off B
 |[],h,_=>by
  show rwH (h+off) B=dn h false++_;rw[X3 (by lia) hB,se]
 |d::E,h,hh=>by
  have ih:=pG hB E (d+1) hh.2;show dn (h+off-(d+off)) false++true::rwH (d+off+1) (E.map (·+off)++B)=(dn (h-d) false++true::rwH (d+1) E)++_;rw[show d+off+1=d+1+off by lia,ih,Nat.add_sub_add_right,d9];rfl
theorem pQ:∀(A:Za4) (h:Nat),dk h A->∃P:Za5,P.length+Kw h A=h+2*A.length/\P.count true=A.length/\∀B,rwH h (A++B)=P++rwH (Kw h A) B
 |[],h,_=>⟨[],by show 0+h=h+2*0;lia,rfl,λB=>rfl⟩
 |d::A,h,hh=>by
  obtain⟨P,p1,p2,p3⟩:=pQ A (d+1) hh.2;refine⟨dn (h-d) false++true::P,?_,?_,λB=>?_⟩
  ·have:=hh.1
   rw[c9,ii,d8,d8];show h-d+(P.length+1)+Kw (d+1) A=_;lia
  ·rw[gu,kb,p2,x0]
   simp
  ·show dn (h-d) false++true::rwH (d+1) (A++B)=_
   rw[p3,d9];rfl
theorem X1 {A E B:Za4}{off:Nat}(hA:dk 0 A)(hE:dk 0 E)(ho:off<=Kw 0 A)(hB:Pl B off):∃P S:Za5,P.length+off=2*A.length/\P.count true=A.length/\Av (A++(E.map (·+off)++B))=P++(Av E++S)/\Av (A++B)=P++S:=by
 obtain⟨P,p1,p2,p3⟩:=pQ A 0 hA;refine⟨P++dn (Kw 0 A-off) false,rwH off B,?_,?_,?_,?_⟩
 ·rw[c9,ii]
  lia
 ·rw[gu,p2,x0]
  simp
 ·rw[iE,iE,p3,X3 ho (zQ hE hB),d9]
  have:=pG hB E 0 hE;rw[ji] at this;rw[this]
 ·rw[iE,p3,X3 ho hB,d9]
def els:List Int->Nat->Za4->List Int
 |_,_,[]=>[]
 |W,n,d::ds=>W.getD d 0::els (W.take (d+1)++[(n:Int)]) (n+1) ds
def Ug:List Int->Nat->Za4->List Int
 |W,_,[]=>W
 |W,n,d::ds=>Ug (W.take (d+1)++[(n:Int)]) (n+1) ds
theorem dS {ds:Za4}:∀(m k:Nat),k+m=ds.length->els (way ds k) k (ds.drop k)=(ed m).map (λi=>eld ds (k+i))/\Ug (way ds k) k (ds.drop k)=way ds ds.length
 |0,k,e=>by
  obtain rfl:k=ds.length:=by lia
  rw[gg (db _)];exact⟨rfl,rfl⟩
 |m+1,k,e=>by
  have ih:=dS (ds:=ds) m (k+1) (by lia);rw[iB (by lia),jw,jd,jm];have e1:((λi=>eld ds (k+i)) ∘ vw)=λi=>eld ds (k+1+i):=by
   funext i
   show eld ds (k+(i+1))=eld ds (k+1+i);rw[show k+(i+1)=k+1+i by lia]
  rw[e1,<-ih.1];exact⟨rfl,ih.2⟩
theorem Ju (ds:Za4):Bh ds=els [-1] 0 ds/\Ug [-1] 0 ds=way ds ds.length:=by
 have:=dS (ds:=ds) ds.length 0 (by lia);unfold Bh;have e:(λi=>eld ds (0+i))=eld ds:=by funext i;rw[ji]
 rw[e] at this;exact⟨this.1.symm,this.2⟩
theorem Yl:∀(A B:Za4) (W:List Int) (n:Nat),els W n (A++B)=els W n A++els (Ug W n A) (n+A.length) B
 |[],_,_,_=>rfl
 |d::A,B,W,n=>by
  have ih:=Yl A B (W.take (d+1)++[(n:Int)]) (n+1);show _::els (W.take (d+1)++[(n:Int)]) (n+1) (A++B)=_::(_++els _ (n+(A.length+1)) B);rw[ih,show n+(A.length+1)=n+1+A.length by lia];rfl
theorem eG:∀(A B:Za4) (W:List Int) (n:Nat),Ug W n (A++B)=Ug (Ug W n A) (n+A.length) B
 |[],_,_,_=>rfl
 |d::A,B,W,n=>by
  have ih:=eG A B (W.take (d+1)++[(n:Int)]) (n+1);show Ug (W.take (d+1)++[(n:Int)]) (n+1) (A++B)=Ug _ (n+(A.length+1)) B;rw[ih,show n+(A.length+1)=n+1+A.length by lia];rfl
theorem lO {off n:Nat}{W:List Int}{B:Za4}(hB:Pl B off):els W n B=els (W.take (off+1)) n B:=by
 cases B with
 |nil=>rfl
 |cons d B=>
  have:=hB d B rfl;show W.getD d 0::els (W.take (d+1)++[(n:Int)]) (n+1) B=(W.take (off+1)).getD d 0::els ((W.take (off+1)).take (d+1)++[(n:Int)]) (n+1) B;rw[mz,gn (by lia)];congr 1;unfold eh;rw[d7 (by lia)]
theorem kA {φ:Int->Int}:∀(B:Za4) (W:List Int) (n m h:Nat),(∀i:Nat,φ ((n+i:Nat):Int)=((m+i:Nat):Int))->dk h B->W.length=h+1->els (W.map φ) m B=(els W n B).map φ
 |[],_,_,_,_,_,_,_=>rfl
 |d::B,W,n,m,h,hp,hd,hl=>by
  have ih:=kA (φ:=φ) B (W.take (d+1)++[(n:Int)]) (n+1) (m+1) (d+1) (λi=>by
   rw[show n+1+i=n+(i+1) by lia,hp,show m+1+i=m+(i+1) by lia]) hd.2 (by
   have:=hd.1;rw[c9,dh,gn (by lia)];rfl)
  show(W.map φ).getD d 0::els ((W.map φ).take (d+1)++[(m:Int)]) (m+1) B=φ (W.getD d 0)::_;have hdl:d<W.length:=by have:=hd.1;lia
  have e0:φ (n:Int)=(m:Int):=hp 0;rw[<-ih,dj,jx];congr 1
  ·unfold eh
   rw[dg,c7 hdl];rfl
  ·show els (_++[(m:Int)]) _ _=els (_++[φ (n:Int)]) _ _
   rw[e0]
theorem U7 {off:Nat}:∀(E:Za4) (W:List Int) (n:Nat),off+1<=W.length->(Ug W n (E.map (·+off))).take (off+1)=W.take (off+1)
 |[],_,_,_=>rfl
 |d::E,W,n,hl=>by
  have ih:=U7 (off:=off) E (W.take (d+off+1)++[(n:Int)]) (n+1) (by rw[c9,dh];simp only[d8,f6];lia);show(Ug (W.take (d+off+1)++[(n:Int)]) (n+1) (E.map (·+off))).take (off+1)=_;rw[ih,oj (by rw[dh];lia),mz,gn (by lia)]
theorem Z4 {A E B:Za4}{off:Nat}(h:dk 0 (A++B))(hE:dk 0 E)(ho:off<=Kw 0 A)(hB:Pl B off){top:Int}(ht:(way A A.length)[off]?=some top) :
  Bh (A++(E.map (·+off)++B))=Bh A++(((Bh E).map λe=>if e<0 then top else e+(A.length:Int))++(els (way A A.length) A.length B).map λx=>if(A.length:Int)<=x then x+(E.length:Int) else x)/\Bh (A++B)=Bh A++els (way A A.length) A.length B:=by
 obtain⟨hA,hB2⟩:=(Jb A B 0).mp h;have hAo:=F0.mpr hA;have h1:=lZ hAo (F0.mpr hE) (by rw[<-To];exact ho) ht;have hwl:=Ci hAo A.length (db _);rw[<-To] at hwl;have e2:Bh (A++B)=Bh A++els (way A A.length) A.length B:=by
  rw[(Ju _).1,Yl,(Ju A).2,(Ju A).1,ji]
 refine⟨?_,e2⟩;rw[<-d9 A,(Ju _).1,Yl,eG,(Ju A).2,ji,c9,c8];have e3:els [-1] 0 (A++E.map (·+off))=Bh A++(Bh E).map λe=>if e<0 then top else e+(A.length:Int):=by
  rw[<-h1,(Ju _).1];rfl
 rw[e3,d9];congr 2;rw[lO hB,U7 E _ _ (by lia),lO hB (W:=way A A.length)];have e4:((way A A.length).take (off+1)).map (λx=>if(A.length:Int)<=x then x+(E.length:Int) else x)=(way A A.length).take (off+1):=by
  rw[i5 (g:=id),xy];intro x hx;obtain⟨i,hi⟩:=kd (xw hx);have:¬(A.length:Int)<=x:=by
   cases i with
   |zero=>
    rw[Cu hAo _ (db _)] at hi;have:=de hi;lia
   |succ i=>
    obtain⟨v,hv,hlt,_⟩:=O2 hAo _ i x (db _) hi;lia
  show(if _ then _ else _)=x;rw[if_neg this]
 have e5:=kA (φ:=λx=>if(A.length:Int)<=x then x+(E.length:Int) else x) B ((way A A.length).take (off+1)) A.length (A.length+E.length) off (λi=>by
  show(if _ then _ else _)=_;rw[if_pos (by lia)];lia) (oN hB2 hB (db _)) (by rw[dh];lia)
 rw[e4] at e5;rw[ji];exact e5
theorem Yi {ds:Za4}(h:Dok ds){k:Nat}(hk:k<ds.length):∀d,k+1+d<=Ao ds k->(way ds (k+1+d))[dAt ds k+1]?=some (k:Int)
 |0,_=>by
  have hl:=Ci h k (by lia);have hd:=h k hk;show((way ds k).take (dAt ds k+1)++[(k:Int)])[dAt ds k+1]?=_;rw[di (by rw[dh];lia),dh,gn (by lia),fv];rfl
 |d+1,hd=>by
  have ih:=Yi h hk d (by lia);obtain⟨a,b,c,_⟩:=Ax (ds:=ds) hk;have hl:=Ci h (k+1+d) (by lia);have h2:=h (k+1+d) (by lia);have h3:=Jc h hk (k+1+d) (by lia) (by lia);show((way ds (k+1+d)).take (dAt ds (k+1+d)+1)++[((k+1+d:Nat):Int)])[dAt ds k+1]?=_;rw[dv (by rw[dh];lia),d7 (by lia)];exact ih
theorem M1 {ds:Za4}(h:Dok ds){k:Nat}(hk:k<ds.length)(he:Ao ds k<ds.length):dAt ds (Ao ds k)<=dAt ds k:=by
 obtain⟨a,b,c,d⟩:=Ax (ds:=ds) hk;have h1:=d he;have h2:=Yi h hk (Ao ds k-(k+1)) (by lia);rw[show k+1+(Ao ds k-(k+1))=Ao ds k by lia] at h2;have h3:=Dj h he
 by_cases hlt:dAt ds (Ao ds k)<=dAt ds k
 ·exact hlt
 ·exfalso
  by_cases e:dAt ds (Ao ds k)=dAt ds k+1
  ·rw[e,h2] at h3
   have:=de h3;lia
  ·have:=Sl h _ _ _ _ _ b (show dAt ds k+1<dAt ds (Ao ds k) by lia) h2 h3
   lia
theorem Oo {ds:Za4}(h:Dok ds){k j:Nat}(hk:k<ds.length)(h1:k<j)(h2:j<Ao ds k):eld ds j=(k:Int)↔dAt ds j=dAt ds k+1:=by
 obtain⟨a,b,c,d⟩:=Ax (ds:=ds) hk;have h3:=Yi h hk (j-(k+1)) (by lia);rw[show k+1+(j-(k+1))=j by lia] at h3;have h4:=Dj h (show j<ds.length by lia)
 constructor
 ·intro e
  obtain⟨v,hv,_,hd⟩:=Cc h (show j<ds.length by lia) (by lia);obtain rfl:v=k:=by lia
  exact hd
 ·intro e
  rw[e,h3] at h4;exact(de h4).symm
theorem O9 {ds:Za4}(h:Dok ds){k j:Nat}(hk:k<ds.length)(hj:j<ds.length)(e:eld ds j=(k:Int)):k<j/\j<Ao ds k:=by
 have hlt:=Fx h hj;refine⟨by lia,?_⟩
 by_cases h2:j<Ao ds k
 ·exact h2
 ·rcases Xh h hk (by lia) hj with h3|h3
  ·lia
  ·have:=(Ax (ds:=ds) hk).1
   lia
def Cd (ds:Za4)(k:Nat):Za4:=(ed (Ao ds k-(k+1))).map λi=>dAt ds (k+1+i)-(dAt ds k+1)
theorem Dh (ds:Za4)(k:Nat):(Cd ds k).length=Ao ds k-(k+1):=by unfold Cd;rw[c8,fj]
theorem T2 {ds:Za4}{k i:Nat}(h:i<Ao ds k-(k+1)):dAt (Cd ds k) i=dAt ds (k+1+i)-(dAt ds k+1):=by
 unfold dAt Cd eh;rw[dg,ia h];rfl
theorem Hk {ds:Za4}(h:Dok ds){k:Nat}(hk:k<ds.length):Dok (Cd ds k):=λi hi=>by
 obtain⟨a,b,c,d⟩:=Ax (ds:=ds) hk;rw[Dh] at hi;rw[T2 hi];have h1:=h (k+1+i) (by lia)
 cases i with
 |zero=>
  have h1:dAt ds (k+1+0)<=dAt ds k+1:=h1;show _<=0;lia
 |succ i=>
  show _<=dAt (Cd ds k) i+1;rw[T2 (by lia)];have h1:dAt ds (k+1+(i+1))<=dAt ds (k+1+i)+1:=h1;have:=Jc h hk (k+1+i) (by lia) (by lia);lia
theorem iM {ds:Za4}{a b:Nat}(h1:a<=b)(h2:b<=ds.length):ds=ds.take a++((ds.drop a).take (b-a)++ds.drop b):=by
 have e1:=(ir a ds).symm;have e2:=(ir (b-a) (ds.drop a)).symm;rw[vg,show a+(b-a)=b by lia] at e2;rw[e2] at e1;exact e1
theorem uM {ds es:Za4}{a b off:Nat}(h1:a<=b)(h2:b<=ds.length)(hl:es.length=b-a)(he:∀i,i<b-a->dAt ds (a+i)=dAt es i+off):(ds.drop a).take (b-a)=es.map (·+off):=by
 refine jt λi=>?_
 by_cases hi:i<b-a
 ·have e:=he i hi
  unfold dAt eh at e;rw[c7 (show a+i<ds.length by lia),c7 (show i<es.length by lia)] at e;rw[d7 hi,jb,dg,c7 (show a+i<ds.length by lia),c7 (show i<es.length by lia)];exact congrArg some e
 ·rw[eg (by rw[dh];lia),eg (by rw[c8];lia)]
theorem Vm {ds:Za4}(h:Dok ds){k:Nat}(hk:k<ds.length):ds=ds.take k++((Df ds k).map (·+dAt ds k)++ds.drop (Ao ds k)):=by
 obtain⟨a,b,c,d⟩:=Ax (ds:=ds) hk;have:=iM (ds:=ds) (a:=k) (b:=Ao ds k) (by lia) b;rw[uM (es:=Df ds k) (off:=dAt ds k) (by lia) b (Dt _ _) λi hi=>?_] at this
 ·exact this
 ·rw[Nt hi]
  cases i with
  |zero=>show _=dAt ds (k+0)-dAt ds k+dAt ds k;rw[iw];lia
  |succ i=>
   have:=Jc h hk (k+(i+1)) (by lia) (by lia);lia
theorem Ru {ds:Za4}{a off:Nat}(h:a<ds.length->dAt ds a<=off):Pl (ds.drop a) off:=by
 intro d C e
 by_cases ha:a<ds.length
 ·rw[iB ha] at e
  rw[<-(j8 e).1];exact h ha
 ·rw[gg (by lia)] at e
  cases e
theorem Ow {ds:Za4}{a:Nat}(ha:a<=ds.length):Kw 0 (ds.take a)=opn ds a:=by
 rw[To,dh,gn ha]
 cases a with
 |zero=>rfl
 |succ a=>
  show dAt (ds.take (a+1)) a+1=dAt ds a+1;unfold dAt eh;rw[d7 (by lia)]
theorem Op {ds:Za4}:∀{a b:Nat},a<=b->b<=ds.length->way (ds.take b) a=way ds a
 |0,_,_,_=>rfl
 |a+1,b,h1,h2=>by
  have ih:=Op (ds:=ds) (a:=a) (b:=b) (by lia) h2;show(way (ds.take b) a).take (dAt (ds.take b) a+1)++_=(way ds a).take (dAt ds a+1)++_;have e:dAt (ds.take b) a=dAt ds a:=by
   unfold dAt eh;rw[d7 (by lia)]
  rw[ih,e]
theorem Pw {ds:Za4}{a:Nat}(ha:a<=ds.length):Bh (ds.take a)=(Bh ds).take a:=by
 refine jt λi=>?_
 by_cases hi:i<a
 ·rw[Cy (by rw[dh];lia),d7 hi,Cy (by lia)]
  unfold eld;rw[Op (by lia) ha];unfold dAt eh;rw[d7 hi]
 ·rw[eg (by rw[Au,dh];lia),eg (by rw[dh];lia)]
def X6 (ds:Za4)(k:Nat):Za4:=ds.take k++ds.drop (Ao ds k)
def Km (ds es:Za4)(a off:Nat):Za4:=ds.take a++(es.map (·+off)++ds.drop a)
theorem Xr {ds:Za4}(h:Dok ds){k:Nat}(hk:k<ds.length):Dok (X6 ds k)/\∃P S:Za5,P.length+dAt ds k=2*k/\P.count true=k/\Av ds=P++(Av (Df ds k)++S)/\Av (X6 ds k)=P++S:=by
 obtain⟨a,b,c,d⟩:=Ax (ds:=ds) hk;have hs:=Vm h hk;have hd:=F0.mp h;have ho:dAt ds k<=Kw 0 (ds.take k):=by rw[Ow (by lia)];exact h k hk
 have hB:Pl (ds.drop (Ao ds k)) (dAt ds k):=Ru λhe=>M1 h hk he;rw[hs] at hd;obtain⟨P,S,p1,p2,p3,p4⟩:=X1 ((Jb _ _ _).mp hd).1 (F0.mp (Ir h hk)) ho hB;rw[dh,gn (by lia)] at p1 p2;rw[<-hs] at p3;exact⟨F0.mpr (pS hd ho hB),P,S,p1,p2,p3,p4⟩
theorem oM {ds:Za4}(h:Dok ds){k:Nat}(hk:k<ds.length):Bh (X6 ds k)=(Bh ds).take k++((Bh ds).drop (Ao ds k)).map λx=>if(k:Int)<=x then x-(Ao ds k:Int)+(k:Int) else x:=by
 obtain⟨a,b,c,d⟩:=Ax (ds:=ds) hk;have hs:=Vm h hk;have hd:=F0.mp h;have ho:dAt ds k<=Kw 0 (ds.take k):=by rw[Ow (by lia)];exact h k hk
 have hB:Pl (ds.drop (Ao ds k)) (dAt ds k):=Ru λhe=>M1 h hk he;rw[hs] at hd;have hl:(ds.take k).length=k:=by rw[dh];lia
 obtain⟨e1,e2⟩:=Z4 (pS hd ho hB) (F0.mp (Ir h hk)) ho hB (top:=eld ds k) (by
  rw[hl,Op (db _) (by lia)];exact Dj h hk)
 rw[<-hs,hl,Dt] at e1;rw[hl] at e2;show Bh (ds.take k++ds.drop (Ao ds k))=_;rw[e2,Pw (by lia)];congr 1;have hl2:((Bh ds).take k).length=k:=by rw[dh,Au];lia
 have hdr:(Bh ds).drop (Ao ds k)=(els (way (ds.take k) k) k (ds.drop (Ao ds k))).map λx=>if(k:Int)<=x then x+((Ao ds k-k:Nat):Int) else x:=by
  rw[e1,Pw (by lia),<-d9,la (by rw[c9,c8,Au,Dt,hl2];lia),gg (by rw[c9,c8,Au,Dt,hl2];lia)];rfl
 rw[hdr,jm];refine(xy _).symm.trans (i5 λx hx=>?_);show x=(λx:Int=>if(k:Int)<=x then x-(Ao ds k:Int)+(k:Int) else x) ((λx:Int=>if(k:Int)<=x then x+((Ao ds k-k:Nat):Int) else x) x);dsimp only
 by_cases hkx:(k:Int)<=x
 ·rw[if_pos hkx,if_pos (by lia)]
  lia
 ·rw[if_neg hkx,if_neg hkx]
theorem Vr {ds es:Za4}(h:Dok ds)(he:Dok es){a off:Nat}(ha:a<=ds.length)(ho:off<=opn ds a)(hB:a<ds.length->dAt ds a<=off):Dok (Km ds es a off)/\∃P S:Za5,P.length+off=2*a/\Av ds=P++S/\Av (Km ds es a off)=P++(Av es++S):=by
 have hd:=F0.mp h;have ho:off<=Kw 0 (ds.take a):=by rw[Ow ha];exact ho
 have hB:=Ru hB;rw[<-ir a ds] at hd;obtain⟨P,S,p1,p2,p3,p4⟩:=X1 ((Jb _ _ _).mp hd).1 (F0.mp he) ho hB;rw[dh,gn ha] at p1;rw[ir] at p4;exact⟨F0.mpr (Aac hd (F0.mp he) ho hB),P,S,p1,p4,p3⟩
theorem fQ {ds es:Za4}(h:Dok ds)(he:Dok es){a off:Nat}(ha:a<=ds.length)(ho:off<=opn ds a)(hB:a<ds.length->dAt ds a<=off){top:Int}(ht:(way ds a)[off]?=some top) :
  Bh (Km ds es a off)=(Bh ds).take a++(((Bh es).map λe=>if e<0 then top else e+(a:Int))++((Bh ds).drop a).map λx=>if(a:Int)<=x then x+(es.length:Int) else x):=by
 have hd:=F0.mp h;have ho:off<=Kw 0 (ds.take a):=by rw[Ow ha];exact ho
 have hB:=Ru hB;rw[<-ir a ds] at hd;have hl:(ds.take a).length=a:=by rw[dh];lia
 obtain⟨e1,e2⟩:=Z4 hd (F0.mp he) ho hB (top:=top) (by rw[hl,Op (db _) ha];exact ht);rw[hl] at e1 e2;rw[ir] at e2;have hl2:(Bh (ds.take a)).length=a:=by rw[Au,hl]
 have hdr:(Bh ds).drop a=els (way (ds.take a) a) a (ds.drop a):=by
  rw[e2,la (by lia),gg (by lia)];rfl
 show Bh (ds.take a++_)=_;rw[e1,hdr,Pw ha]
def hg (l:Za5)(i:Nat):Int:=2*((l.take i).count true:Int)-i
theorem Mx (b:Bool)(l:Za5)(i:Nat):hg (b::l) (i+1)=(if b then 1 else -1)+hg l i:=by
 unfold hg;rw[oz,kb];cases b<;>simp<;>lia
theorem Pb {P X:Za5}(i:Nat):hg (P++X) (P.length+i)=hg P P.length+hg X i:=by
 unfold hg;rw[zq,d5 (show P.length<=P.length+i by lia),lx,gu,fq];lia
theorem Yr {P X:Za5}{i:Nat}(h:i<=P.length):hg (P++X) i=hg P i:=by
 unfold hg;rw[oj h]
theorem sE:∀(l:Za5) (h:Nat),Vs h l->(∀i,i<=l.length->0<=(h:Int)+hg l i)/\(h:Int)+hg l l.length=0
 |[],h,hv=>by
  have hv:h=0:=hv;subst hv;refine⟨λi hi=>?_,rfl⟩;obtain rfl:i=0:=by simpa using hi
  exact qz _
 |true::l,h,hv=>by
  obtain⟨h1,h2⟩:=sE l (h+1) hv;refine⟨λi hi=>?_,?_⟩
  ·cases i with
   |zero=>show(0:Int)<=h+(2*0-0);lia
   |succ i=>
    have:=h1 i (by simp at hi;lia);rw[Mx];simp only[if_true];lia
  ·rw[d8,Mx]
   simp only[if_true];lia
 |false::l,h,hv=>by
  obtain⟨h0,hv⟩:=hv;obtain⟨g,rfl⟩:∃g,h=g+1:=⟨h-1,by lia⟩;obtain⟨h1,h2⟩:=sE l g hv;refine⟨λi hi=>?_,?_⟩
  ·cases i with
   |zero=>show(0:Int)<=_+(2*0-0);lia
   |succ i=>
    have:=h1 i (by simp at hi;lia);rw[Mx];simp only[lj,if_false];lia
  ·rw[d8,Mx]
   simp only[lj,if_false];lia
theorem Np {ds:Za4}(h:Dok ds):(∀i,i<=2*ds.length->0<=hg (Av ds) i)/\hg (Av ds) (2*ds.length)=0:=by
 have:=sE _ _ (Xn h);rw[Bq h] at this;exact⟨λi hi=>by have:=this.1 i hi;lia,by have:=this.2;lia⟩
theorem xL {P:Za5}{a off:Nat}(h1:P.length+off=2*a)(h2:P.count true=a):hg P P.length=off:=by
 unfold hg;rw[lx,h2];lia
theorem tQ {ds:Za4}(h:Dok ds){k:Nat}(hk:k<ds.length):Av (Df ds k)=true::(Av (Cd ds k)++[false]):=by
 obtain⟨a,b,c,d⟩:=Ax (ds:=ds) hk;have hu:=Hk h hk;have e:Df ds k=[0]++((Cd ds k).map (·+1)++[]):=by
  rw[iz];refine jt λi=>?_
  by_cases hi:i<Ao ds k-k
  ·have e1:=Nt hi
   unfold dAt eh at e1;rw[c7 (show i<(Df ds k).length by rw[Dt];exact hi)] at e1;rw[c7 (show i<(Df ds k).length by rw[Dt];exact hi)];have e1:(Df ds k)[i]'(by rw[Dt];exact hi)=dAt ds (k+i)-dAt ds k:=e1;rw[e1]
   cases i with
   |zero=>rw[iw,fv];rfl
   |succ i=>
    have e2:=T2 (ds:=ds) (k:=k) (i:=i) (by lia);unfold dAt eh at e2;rw[c7 (show i<(Cd ds k).length by rw[Dh];lia)] at e2;have e2:(Cd ds k)[i]'(by rw[Dh];lia)=dAt ds (k+1+i)-(dAt ds k+1):=e2;show _=((Cd ds k).map (·+1))[i]?;rw[dg,c7 (show i<(Cd ds k).length by rw[Dh];lia),e2];have:=Jc h hk (k+1+i) (by lia) (by lia);show some _=some (dAt ds (k+1+i)-(dAt ds k+1)+1);rw[show k+(i+1)=k+1+i by lia];congr 1;lia
  ·rw[eg (by rw[Dt];lia),eg (by rw[c9,c8,Dh];simp only[d8,f6];lia)]
 obtain⟨P,S,p1,p2,p3,p4⟩:=X1 (A:=[0]) (B:=[]) (off:=1) (show dk 0 [0] from⟨db _,trivial⟩) (F0.mp hu) (db _) (λd C e=>by cases e);rw[e,p3];have p5:P++S=[true,false]:=p4.symm;have p1:P.length=1:=by simp only[d8,f6] at p1;lia
 match P,p1 with
 |[x],_=>
  have e1:x=true:=(j8 p5).1;have e2:S=[false]:=(j8 p5).2;rw[e1,e2];rfl
theorem Tf {ds:Za4}(h:Dok ds){k:Nat}(hk:k<ds.length):∃P S:Za5,P.length+dAt ds k=2*k/\P.count true=k/\Av ds=P++(true::(Av (Cd ds k)++false::S))/\Av (X6 ds k)=P++S:=by
 obtain⟨_,P,S,p1,p2,p3,p4⟩:=Xr h hk;refine⟨P,S,p1,p2,?_,p4⟩;rw[p3,tQ h hk];show P++(true::((Av (Cd ds k)++[false])++S))=_;rw[d9];rfl
theorem Lp {l:Za5}{p q:Nat}(h1:l[p]?=some true)(h2:p<q):(l.take p).count true<(l.take q).count true:=by
 have e:l.take q=l.take p++(true::(l.drop (p+1)).take (q-(p+1))):=by
  have h3:=(d6.mp h1).1;have e1:l.drop p=true::l.drop (p+1):=by
   rw[jq h3];rw[c7 h3] at h1;rw[de h1]
  rw[show q=p+(q-p) by lia,oh,e1,show p+(q-p)-(p+1)=q-(p+1) by lia,show q-p=(q-(p+1))+1 by lia,oz]
 rw[e,gu,kb];simp
theorem mU {l:Za5}{p q:Nat}(h1:l[p]?=some true)(h2:l[q]?=some true)(h3:(l.take p).count true=(l.take q).count true):p=q:=by
 rcases qa p q with h|h|h
 ·have:=Lp h1 h;lia
 ·exact h
 ·have:=Lp h2 h;lia
theorem E7 {ds:Za4}(h:Dok ds){k:Nat}(hk:k<ds.length):dAt ds k<=2*k/\(Av ds)[2*k-dAt ds k]?=some true/\((Av ds).take (2*k-dAt ds k)).count true=k:=by
 obtain⟨P,S,p1,p2,p3,_⟩:=Tf h hk;have e:2*k-dAt ds k=P.length:=by lia
 refine⟨by lia,?_,?_⟩
 ·rw[p3,e,di (db _),fv]
  rfl
 ·rw[p3,e,ph,p2]
theorem jK {ds:Za4}(h:Dok ds){k p:Nat}(hk:k<ds.length)(h1:(Av ds)[p]?=some true)(h2:((Av ds).take p).count true=k):p+dAt ds k=2*k:=by
 obtain⟨a,b,c⟩:=E7 h hk;have:=mU h1 b (by rw[h2,c]);lia
theorem mH {ds:Za4}(h:Dok ds):(Av ds).count true=ds.length:=by
 have h1:=(Np h).2;unfold hg at h1;rw[d5 (by rw[Bq h];exact db _)] at h1;lia
theorem Xi {ds:Za4}(h:Dok ds){p:Nat}(hp:p<2*ds.length):hg (Av ds) p=0↔∃j,j<ds.length/\eld ds j=-1/\p=2*j:=by
 constructor
 ·intro e
  have hl:=Bq h;obtain⟨c,hc⟩:∃c,((Av ds).take p).count true=c:=⟨_,rfl⟩;have hp2:p=2*c:=by unfold hg at e;rw[hc] at e;lia
  have hpl:p<(Av ds).length:=by lia
  have hb:(Av ds)[p]?=some true:=by
   rw[c7 hpl]
   cases hx:(Av ds)[p] with
   |true=>rfl
   |false=>
    exfalso;have h1:=(Np h).1 (p+1) (by lia);unfold hg at h1 e;rw[gj,c7 hpl,hx,gu] at h1;simp at h1;lia
  have hcl:c<ds.length:=by lia
  have:=jK h hcl hb hc;refine⟨c,hcl,?_,hp2⟩;have hd:dAt ds c=0:=by lia
  have:=Dj h hcl;rw[hd,Cu h c (by lia)] at this;exact(de this).symm
 ·rintro⟨j,hj,he,rfl⟩
  have hd:=Ho h hj he;obtain⟨a,b,c⟩:=E7 h hj;rw[hd,l4] at c;unfold hg;rw[c];lia
theorem vB {ds:Za4}(h:Dok ds){t:Nat}(ht:t<=ds.length):((ed (2*t)).filter λi=>decide (hg (Av ds) i=0)).length=(As ds t (-1)).length:=by
 have e:((ed (2*t)).filter λi=>decide (hg (Av ds) i=0))=(As ds t (-1)).map (2 * ·):=by
  refine kD (mi _ m8) ?_ λx=>?_
  ·unfold As
   rw[List.pairwise_map];exact(mi _ m8).imp λhab=>by lia
  ·rw[ql,ja,lh]
   constructor
   ·rintro⟨h1,h2⟩
    obtain⟨j,hj,he,rfl⟩:=(Xi h (by lia)).mp (of_decide_eq_true h2);exact⟨j,Cm.mpr ⟨by lia,he⟩,rfl⟩
   ·rintro⟨j,hj,rfl⟩
    obtain⟨h1,h2⟩:=Cm.mp hj;exact⟨by lia,decide_eq_true ((Xi h (by lia)).mpr ⟨j,by lia,h2,rfl⟩)⟩
 rw[e,c8]
theorem Uh {ds:Za4}(h:Dok ds){k:Nat}(hk:k<ds.length):∀t,t<=Ao ds k-(k+1)->(As (Cd ds k) t (-1)).length=(As ds (k+1+t) k).length
 |0,_=>by
  rw[iw,mM h (k:=k+1) (v:=k) (by lia) (db _)];rfl
 |t+1,ht=>by
  have ih:=Uh h hk t (by lia);obtain⟨a,b,c,d⟩:=Ax (ds:=ds) hk;have hu:=Hk h hk;have hkd:=Oo h hk (j:=k+1+t) (by lia) (by lia);have hdi:=Jc h hk (k+1+t) (by lia) (by lia);have hua:=T2 (ds:=ds) (k:=k) (i:=t) (by lia);have htl:t<(Cd ds k).length:=by rw[Dh];lia
  show _=(As ds (k+1+t+1) k).length
  by_cases e:eld ds (k+1+t)=(k:Int)
  ·have e2:eld (Cd ds k) t=-1:=by
    have:=Dj hu htl;rw[hua,hkd.mp e,fv,Cu hu _ (by lia)] at this;exact(de this).symm
   rw[C3 e,C3 e2,c9,c9,ih];rfl
  ·have e2:eld (Cd ds k) t≠-1:=λz=>e (hkd.mpr (by
    have:=Ho hu htl z;lia))
   rw[Gs e,Gs e2,ih]
theorem Os {ds:Za4}(h:Dok ds){k:Nat}(hk:k<ds.length):∃A B:Za5,A.length=2*k-dAt ds k+1/\Av ds=A++(Av (Cd ds k)++B)/\dAt ds k<=2*k/\hg (Av ds) (2*k-dAt ds k)=dAt ds k/\(∀j,j<=2*(Cd ds k).length->hg (Av ds) (A.length+j)=dAt ds k+1+hg (Av (Cd ds k)) j)/\hg (Av ds) (A.length+2*(Cd ds k).length+1)=dAt ds k:=by
 obtain⟨P,S,p1,p2,p3,_⟩:=Tf h hk;have hu:=Hk h hk;have hl:=Bq hu;have hP:=xL p1 p2;have hA:hg (P++[true]) (P++[true]).length=dAt ds k+1:=by
  rw[c9,Pb,hP];show(dAt ds k:Int)+hg [true] 1=_;rw[Mx];simp[hg]
 have e:Av ds=(P++[true])++(Av (Cd ds k)++false::S):=by rw[p3,d9];rfl
 refine⟨P++[true],false::S,by rw[c9];show P.length+1=_;lia,e,by lia,?_,λj hj=>?_,?_⟩
 ·rw[p3,show 2*k-dAt ds k=P.length by lia,Yr (db _),hP]
 ·rw[e,Pb,hA,Yr (by lia)]
 ·rw[e,qd,Pb,hA,<-hl,Pb]
  have e1:=(Np hu).2;rw[<-hl] at e1;rw[e1,Mx];simp[hg];lia
def GAt (ds:Za4)(ko:Option Nat)(place a off:Nat)(top:Int):Prop:=match ko with
 |some k=>k<ds.length/\off=dAt ds k+1/\top=(k:Int)/\k<a/\a<=Ao ds k/\(As ds a k).length=place/\(a=Ao ds k\/a<Ao ds k/\eld ds a=(k:Int))
 |none=>off=0/\top=-1/\a<=ds.length/\(As ds a (-1)).length=place/\(a=ds.length\/a<ds.length/\eld ds a=-1)
theorem GAt.ok {ds:Za4}(h:Dok ds){ko:Option Nat}{place a off:Nat}{top:Int}(g:GAt ds ko place a off top):a<=ds.length/\off<=opn ds a/\(a<ds.length->dAt ds a<=off)/\(way ds a)[off]?=some top:=by
 cases ko with
 |none=>
  obtain⟨rfl,rfl,h3,h4,h5⟩:=g;refine⟨h3,e9 _,λhlt=>?_,Cu h a h3⟩;rcases h5 with h5|h5
  ·lia
  ·rw[Ho h hlt h5.2]
   exact db _
 |some k=>
  obtain⟨hk,rfl,rfl,h3,h4,h5,h6⟩:=g;obtain⟨e1,e2,_⟩:=Ax (ds:=ds) hk;have hw:=Yi h hk (a-(k+1)) (by lia);rw[show k+1+(a-(k+1))=a by lia] at hw;have hl:=Ci h a (by lia);have hlt:=(d6.mp hw).1;refine⟨by lia,by lia,λhlt=>?_,hw⟩;rcases h6 with h6|h6
  ·have:=M1 h hk (by lia)
   rw[<-h6] at this;lia
  ·exact ll ((Oo h hk h3 h6.1).mp h6.2)
theorem Sr {ds:Za4}(h:Dok ds){k:Nat}(hk:k<ds.length):As ds ds.length k=As ds (Ao ds k) k:=by
 obtain⟨e1,e2,_⟩:=Ax (ds:=ds) hk;have:=Mw (ds:=ds) (v:=(k:Int)) (ds.length-Ao ds k) (Ao ds k) λi h1 h2 he=>by
  have:=O9 h hk (show i<ds.length by lia) he;lia
 rw[show Ao ds k+(ds.length-Ao ds k)=ds.length by lia] at this;exact this
theorem Tz {ds:Za4}{v:Int}{a b:Nat}(h:a<=b):(As ds a v).length<=(As ds b v).length:=by
 have:=Pj (ds:=ds) (v:=v) (b-a) a;rw[show a+(b-a)=b by lia] at this;exact this
theorem N7 {ds:Za4}{v:Int}{i a:Nat}:∀{n:Nat},(As ds n v)[i]?=some a->(As ds a v).length=i/\a<n/\eld ds a=v
 |0,h=>by cases h
 |n+1,h=>by
  by_cases e:eld ds n=v
  ·rw[C3 e] at h
   by_cases hi:i<(As ds n v).length
   ·rw[dv hi] at h
    obtain⟨h1,h2,h3⟩:=N7 h;exact⟨h1,by lia,h3⟩
   ·have hl:=(d6.mp h).1
    rw[c9] at hl;obtain rfl:i=(As ds n v).length:=by simp only[d8,f6] at hl;lia
    rw[di (db _),fv] at h;obtain rfl:n=a:=de h;exact⟨rfl,n9 _,e⟩
  ·rw[Gs e] at h
   obtain⟨h1,h2,h3⟩:=N7 h;exact⟨h1,by lia,h3⟩
def kI:Option Nat->Int
 |some k=>(k:Int)
 |none=>-1
theorem nH {ds:Za4}{v:Int}{a b:Nat}(h:a<b)(e:eld ds a=v):(As ds a v).length<(As ds b v).length:=by
 have h1:=Tz (ds:=ds) (v:=v) (show a+1<=b by lia);rw[C3 e,c9] at h1;exact h1
end TW
end
section
namespace L2
open PySem PySem.Spec PyProof.Rows
variable {C CS Pt dx i1 i2 it kl l1 l2 pa z:df} {params:kj} {A:gt} {CX:CXT} {op:rf} {X:Cx} {env:Env} {tg:gd} {fd:io} {base h h' h1:gv} {H H' H1 H2:Hp} {J:It} {pins:Za1} {as fp:List df} {outer:List Env} {elts:List gd} {ns:List Int} {ix:Za4} {N ps:Za6} {ts:List Tb} {xs ys:List V} {us vs:Za3} {M:qr} {off t':Nat} {oT:Obj} {od:Option df} {pos:Pos} {scope:kr} {pl:Sem Bool} {s s2:d4} {sp:Sp} {st:gm} {qual:Str} {tk:TA} {te:TE} {wi:TI} {y:V} {pm:d0} {w:ge}
section
variable {prog:fc} {w:ge} {A:gt} {E:Za0} {s:d4}
def dE (v:d0):List (Str×d0):=[(ke "start",v)]
def Lf (v:d0)(n:Int):Obj:={ cls:=.type "enumerate",data:=.fields #[.none,.bool false,v,rawInt n,.none,.none] }
theorem qZ (a v:d0):checkTypeCall "enumerate" ⟨[a],dE v⟩=pure ():=by kernel_rfl
theorem tN (a v:d0):checkBuiltinCall "enumerate.__new__" ⟨[.type "enumerate",a],dE v⟩=pure ():=by kernel_rfl
theorem rO (o a v:d0):argsOk "object.__init__" ⟨[o,a],dE v⟩:=by
 unfold argsOk;rw[signature?_of (id:="object.__init__") (n:=['_','_','t','i','n','i','_','_']) (o:=['t','c','e','j','b','o']) (by kernel_rfl) F.owner_object];kernel_rfl
theorem pM (x:d0)(n:Int)(u:Tok)(hf:iu n=true) :
  MeetsIn prog w (ra.«enumerate.__new__» ⟨[.type "enumerate",x],dE (.int n u)⟩) (λA R s=>wpAny (model prog w) A.in1 (pyIter x) (λv s1=>R (.ok (.ret (.ref s1.heap.objs.size))) { s1 with heap:=s1.heap.push (Lf v n) }) (λe s1=>R (.error e) s1) s):=
 .of_wp λA R s h=>by
  have e0:=sub_enumerate
  wp_walk
  refine wpAny_stack_any λst=>em ?_;have go:wpAny (model prog w) A.in1 (pyIter x >>= λv=>zx (.type "enumerate") (zw++[v,rawInt n,.none,.none]) >>= λr=>ret r) (λfin s'=>∃v,fin=Fin.done (.ret v)/\R (.ok (.ret v)) s') (λe s'=>R (.error e) s') s:=by
   refine wpAny_bind (ip h (λv s1 h1=>?_) λ_ _ z=>z)
   wp_walk
   exact⟨_,rfl,h1⟩
  have fin:wpAny (model prog w) A.in1 (zy "enumerate.__new__" (.int n u)) (λv s1=>v=.int n u/\s1=s) (λe s'=>R (.error e) s') s:=by
   show wpAny _ _ (pure (l7 n u)) _ _ _;exact em ⟨rfl,rfl⟩
  split
  ·rename_i c _ _ _ _ _
   cases(c==ij "enumerate")
   ·refine wpAny_bind ?_
    refine' o9 (a:=(x,some (.int n u))) ?eqA ?eqB
    case eqA=>kernel_rfl
    case eqB=>
     refine wpAny_bind (ip fin (λv s1 hv=>?_) λ_ _ z=>z);obtain⟨rfl,rfl⟩:=hv;refine wpAny_bind (em ?_);show wpAny _ _ (if(!iu n)=true then _ else _) _ _ _;rw[hf];exact go
   ·refine wpAny_bind ?_
    refine' o9 (a:=(x,some (.int n u))) ?eqC ?eqD
    case eqC=>kernel_rfl
    case eqD=>
     refine wpAny_bind (ip fin (λv s1 hv=>?_) λ_ _ z=>z);obtain⟨rfl,rfl⟩:=hv;refine wpAny_bind (em ?_);show wpAny _ _ (if(!iu n)=true then _ else _) _ _ _;rw[hf];exact go
  ·refine wpAny_bind ?_
   refine' o9 (a:=(x,some (.int n u))) ?eqF ?eqG
   case eqF=>kernel_rfl
   case eqG=>
    refine wpAny_bind (ip fin (λv s1 hv=>?_) λ_ _ z=>z);obtain⟨rfl,rfl⟩:=hv;refine wpAny_bind (em ?_);show wpAny _ _ (if(!iu n)=true then _ else _) _ _ _;rw[hf];exact go
theorem oA {o a v:d0}:Meets (ra.«object.__init__» ⟨[o,a],dE v⟩) (λ_ R s=>s.TypeIs o "enumerate"/\R (.ok (.ret .none)) s):=by
 have l1:=tm.init.lookup;have l2:=tm.made;refine Meets.of_wp λprog w A R s ⟨hT,hq⟩=>?_
 repeat (any_goals (first|assumption|wp_step))
 exact⟨_,rfl,hq⟩
theorem dQ {x:d0}{n:Int}{u:Tok}{Q:Za0}(hf:iu n=true)
  (h:wpAny (model prog w) A.in1.in1 (pyIter x) (λv s1=>Q (.ref s1.heap.objs.size) { s1 with heap:=s1.heap.push (Lf v n) }) E s):wpAny (model prog w) A (call (.type "enumerate") [x] (dE (.int n u))) Q E s:=by
 have ft:=tm;obtain⟨c,tl,m0⟩:=ft.mro;have m1:=ft.made;have m2:=ft.sub;have m3:=ft.notType;have m4:=ft.canCreate;have m5:=qZ x (.int n u);refine oy (codeAny_of_tree ?_);show wpAny _ _ (callAny (.type "enumerate") _) _ _ _;refine em ⟨yy _ (by decide +kernel),ki F.entry_type_call ?_⟩;rw[Around.under_plain (weight_type_call_type "enumerate" [x] (dE (.int n u))) (units_type_call_type "enumerate" [x] (dE (.int n u)))]
 repeat (any_goals (first|assumption|wp_step))
 have g:=pM (prog:=prog) (w:=w) x n u hf A.in1 (wants (λobj s1=>s1.TypeIs obj "enumerate"/\Q obj s1) E) s (ip h (λv s1 hv=>⟨⟨_,fi _ rfl,rfl⟩,hv⟩) λ_ _ z=>z);refine lq (pb ft.plain F.entry_enumerate_new (o9 (tN x (.int n u)) g)) λr s1 hr=>?_
 cases r with
 |error e=>exact hr
 |ok fl=>
  cases fl with
  |ret obj=>
   obtain⟨hT,hq⟩:=hr;have m6:=ft.init.lookup;have m7:=ft.init.bind obj
   repeat (any_goals (first|assumption|wp_step))
   have gi:=oA (o:=obj) (a:=x) (v:=.int n u) prog w A.in1 (wants (λr s2=>r=.none/\Q obj s2) E) s1 ⟨hT,rfl,hq⟩;refine lq (pb ft.init.plain F.entry_object_init (ft.init.check _ _ _ _ _ _ _ _ hT (rO obj x _) gi)) λr2 s2 hr2=>?_
   cases r2 with
   |error e=>exact hr2
   |ok f2=>
    cases f2 with
    |ret r=>
     obtain⟨rfl,hq2⟩:=hr2
     repeat (any_goals (first|assumption|wp_step))
    |_=>exact hr2.elim
  |_=>exact hr.elim
end
theorem Kj {prog:fc}{n:Nat}{P:Nat->d0->Prop}{St:Nat->gv->Prop}(D:BQ prog w A it fp n P St)(k:Nat) :
  BQ prog w A it fp (k+n) (λi v=>k<=i/\P (i-k) v) (λi h=>k<=i/\St (i-k) h) where
 live:=λi h st=>D.live _ _ st.2
 frame:=λi h h' st f=>⟨st.1,D.frame _ _ _ st.2 f⟩
 item:=λi s Q E hi st hQ=>D.item (i-k) s Q E (by have:=st.1;lia) st.2 λx h' tk hP hS hB=>hQ x h' tk ⟨st.1,hP⟩ ⟨sy st.1,by rw[show i+1-k=i-k+1 by have:=st.1;lia];exact hS⟩ hB
 done:=λs Q E st hE=>D.done s Q E (by have:=st.2;rwa [fq] at this) hE
def jE (k:Nat)(z:Str):It:=
 ⟨λi _=>i<z.cps.size,λi H v H'=>∃t c,H t=none/\v=.ref t/\z.cps[i]?=some c/\H'=upd H t (.tup [.int ((k+i:Nat):Int),.str (sgn c)]),λi _=>i=z.cps.size⟩
def vH (k:Nat)(K:da)(a:df):It:=
 ⟨λi H=>∃xs x,SqL K H a xs/\xs[i]?=some x,
  λi H v H'=>∃t x,H t=none/\v=.ref t/\(∀xs,SqL K H a xs->xs[i]?=some x)/\H'=upd H t (.tup [.int ((k+i:Nat):Int),x]),
  λi H=>∃xs,SqL K H a xs/\i=xs.length⟩
theorem Y9 {P:fc}{K:da}{m k:Nat}{e:df}{z:Str}{ty:String}{t:Tok}(hne:e≠it)
  (D:∀A':gt,A'.handled=none->BQ P w A' it [it] z.cps.size (λi v=>∃c u,z.cps[i]?=some c/\v=.str ⟨#[c]⟩ u) (λi h=>h.IsStrIter it ty z t i)) :
  No P w K (.Tuple elts m pos) (jE k z) [e,it] e (λi h=>(∃old,zh h e it ((k+i:Nat):Int) old)/\h.IsStrIter it ty z t i) where
 mem:=by simp
 obj:=λi h st c hc=>by
  obtain⟨⟨old,he⟩,⟨o1,e1,c1,d1⟩⟩:=st;rcases fu.mp hc with rfl|hc
  ·exact⟨_,he,λv z=>by cases z⟩
  ·obtain rfl:=ie.mp hc
   exact⟨_,e1,λv z=>by rw[d1] at z;cases z⟩
 keep:=λi h h' st kk=>⟨st.1.imp λold he=>kk _ (by simp) _ he,st.2.imp λo r=>⟨kk _ (by simp) o r.1,r.2⟩⟩
 item:=by
  intro X hP hw hK hc i pins s G H E I hf st hg;subst hP hw hK;have W:=lm (Kj (D X.A.in1 (I.ok.hd hc)) k) e hne (by simpa using hne) (by simp);refine W.item (k+i) s _ _ (yu hg k) ⟨st.1,j0 _ _,by rw[fq];exact st.2⟩ λT vals h' tk hv hT hTu mid kk=>?_;obtain⟨t1,x,⟨_,c,u,hc',rfl⟩,rfl⟩:=hv;rw[fq] at hc';have nT:=W.apart (k+i) T h' mid;refine⟨.ref T,rfl,W.go elts m pos (k+i) T { s with heap:=h',toks:=tk } _ _ mid λh'' st'' kk2=>?_⟩;have tu:h''.IsTuple T ([l7 ((k+i:Nat):Int) t1,qu ⟨#[c]⟩ u]:Za3).toArray:=hTu.imp λo r=>⟨kk2 T o nT r.1,r.2⟩;have I2:Inv X pins G (upd H T (.tup [.int ((k+i:Nat):Int),.str (sgn c)])) { s with heap:=h'',toks:=tk }:=I.turnT (t':=tk) (λb o hb e=>kk2 b o hb (kk b o hb e)) (λb hb=>hf b hb) hT tu (.cons ⟨t1,rfl⟩ (.cons ⟨u,rfl⟩ .nil)) (show 2<=sizeLine by decide);refine⟨.ref T,_,I2,rfl,⟨T,c,I.hok.fresh hT,rfl,hc',rfl⟩,⟨by rw[qd] at st'';exact st''.1,by have:=st''.2.2;rwa [show k+i+1-k=i+1 by lia] at this⟩,λb hb=>?_⟩;have hlt:b<s.heap.objs.size:=by
   obtain⟨⟨old,s1⟩,⟨o5,s5,_⟩⟩:=id st;rcases fu.mp hb with rfl|hb
   ·exact d3 s1
   ·obtain rfl:=ie.mp hb
    exact d3 s5
  rw[Ai (fk (dw hlt hT))];exact(hf b hb).1
 done:=by
  intro X hP hw hK hc i pins s G H E I hf st hg;subst hP hw hK;have W:=lm (Kj (D X.A.in1 (I.ok.hd hc)) k) e hne (by simpa using hne) (by simp);obtain rfl:i=z.cps.size:=hg;exact W.done s _ _ ⟨st.1,j0 _ _,by rw[fq];exact st.2⟩ λh' tk kk=>⟨rfl,I.turnW (t':=tk) kk λb hb=>hf b hb⟩
 self:=λ_ _ _ _ _ st h=>jv (ml st.1) h
theorem Yz {P:fc}{K:da}{m k:Nat}(e it a:df)(hne:e≠it) :
  No P w K (.Tuple elts m pos) (vH k K a) [e,it] e (λi h=>(∃old,zh h e it ((k+i:Nat):Int) old)/\h.IsListIter it a i) where
 mem:=by simp
 obj:=λi h st c hc=>by
  obtain⟨⟨old,he⟩,⟨o1,e1,c1,d1⟩⟩:=st;rcases fu.mp hc with rfl|hc
  ·exact⟨_,he,λv z=>by cases z⟩
  ·obtain rfl:=ie.mp hc
   exact⟨_,e1,λv z=>by rw[d1] at z;cases z⟩
 keep:=λi h h' st kk=>⟨st.1.imp λold he=>kk _ (by simp) _ he,st.2.at λo e=>kk _ (by simp) o e⟩
 item:=by
  intro X hP hw hK hc i pins s G H E I hf st hg;subst hP hw hK;obtain⟨xs,x,ha,hx⟩:=hg;obtain⟨its,rv,p,hz⟩:=I.list ha;obtain⟨⟨old,s1⟩,s2⟩:=id st;have n1:a≠e:=by obtain⟨oa,ea,ca,_⟩:=p.isList;exact Eu ea s1 (by rw[ca];exact show ij "list"≠ij "enumerate" by decide)
  have n2:a≠it:=by obtain⟨oa,ea,ca,_⟩:=p.isList;obtain⟨o1,e1,c1,_⟩:=s2;exact Eu ea e1 (by rw[ca,c1];decide)
  have W:=lm (Kj (CT (prog:=X.prog) (w:=X.w) (A:=X.A.in1) (I.ok.hd hc) it a n2 its.toArray) k) e hne (by simp;exact⟨hne,λz=>n1 z.symm⟩) (by simp);obtain⟨u1,hu1,ru1⟩:=rv.get hx;have l1:=(d6.mp hu1).1;refine W.item (k+i) s _ _ (yu (by simpa using l1) k) ⟨⟨old,s1⟩,j0 _ _,by rw[fq];exact⟨s2,p.isList⟩⟩ λT vals h' tk hv hT hTu mid kk=>?_;obtain⟨t,v1,⟨_,e1⟩,rfl⟩:=hv;obtain rfl:v1=u1:=by rw[fq] at e1;simp only[ni] at e1;rw[hu1] at e1;exact(de e1).symm
  have nT:=W.apart (k+i) T h' mid;refine⟨.ref T,rfl,W.go elts m pos (k+i) T { s with heap:=h',toks:=tk } _ _ mid λh'' st'' kk2=>?_⟩;have tu:h''.IsTuple T ([l7 ((k+i:Nat):Int) t,v1]:Za3).toArray:=hTu.imp λo r=>⟨kk2 T o nT r.1,r.2⟩;have I2:Inv X pins G (upd H T (.tup [.int ((k+i:Nat):Int),x])) { s with heap:=h'',toks:=tk }:=I.turnT (t':=tk) (λb o hb e=>kk2 b o hb (kk b o hb e)) (λb hb=>hf b hb) hT tu (.cons ⟨t,rfl⟩ (.cons ru1 .nil)) (show 2<=sizeLine by decide);refine⟨.ref T,_,I2,rfl,⟨T,x,I.hok.fresh hT,rfl,λxs' h=>by rw[I.list_inj h ha];exact hx,rfl⟩,⟨by rw[qd] at st'';exact st''.1,by have:=st''.2.2.1;rwa [show k+i+1-k=i+1 by lia] at this⟩,λc hc'=>?_⟩;have hlt:c<s.heap.objs.size:=by
   obtain⟨o5,s5,_⟩:=s2;rcases fu.mp hc' with rfl|hc'
   ·exact d3 s1
   ·obtain rfl:=ie.mp hc'
    exact d3 s5
  rw[Ai (fk (dw hlt hT))];exact(hf c hc').1
 done:=by
  intro X hP hw hK hc i pins s G H E I hf st hg;subst hP hw hK;obtain⟨xs,ha,hi⟩:=hg;obtain⟨its,rv,p,hz⟩:=I.list ha;obtain⟨⟨old,s1⟩,s2⟩:=id st;have n1:a≠e:=by obtain⟨oa,ea,ca,_⟩:=p.isList;exact Eu ea s1 (by rw[ca];exact show ij "list"≠ij "enumerate" by decide)
  have n2:a≠it:=by obtain⟨oa,ea,ca,_⟩:=p.isList;obtain⟨o1,e1,c1,_⟩:=s2;exact Eu ea e1 (by rw[ca,c1];decide)
  have W:=lm (Kj (CT (prog:=X.prog) (w:=X.w) (A:=X.A.in1) (I.ok.hd hc) it a n2 its.toArray) k) e hne (by simp;exact⟨hne,λz=>n1 z.symm⟩) (by simp);have hi2:i=its.toArray.size:=by rw[hi,rv.length];simp
  refine W.done s _ _ ?_ λh' tk kk=>⟨rfl,I.turnW (t':=tk) kk λb hb=>hf b hb⟩;rw[<-hi2];exact⟨⟨old,s1⟩,j0 _ _,by rw[fq];exact⟨s2,p.isList⟩⟩
 self:=λ_ _ _ _ _ st h=>jv (ml st.1) h
theorem Zw {n:Nat}(h:n<=100000):iu (n:Int)=true:=by
 unfold iu;simp;lia
section
variable {M:qr} {A:gt} {E:Za0} {s:d4} {env:Env}
theorem Lc {T:String}{e:gd}{rest:List gd}{kws:List xb}{Q:Za0}
  (h:wpAny M A (spliced (backTo pos (starEach (e::rest) env))) (λvs s1=>wpAny M A (evalAll ((backToKw pos (keywordEach kws env)).map (·.2))) (λkvs s2=>wpAny M A (call (.type T) vs (((backToKw pos (keywordEach kws env)).filterMap (·.1)).zip kvs)) Q E s2) E s1) E s)
  (e1:backTo pos (starEach (e::rest) env)=(false,eval e env)::backTo pos (starEach rest env))(e2:(backTo pos (starEach (e::rest) env)).any (·.1)=false)
  (e3:(backToKw pos (keywordEach kws env)).all (·.1.isSome)=true)(e4:(backToKw pos (keywordEach kws env)).any (·.1.isNone)=false) :
  wpAny M A (callWith pos (.type T) [] (backTo pos (starEach (e::rest) env)) (backToKw pos (keywordEach kws env))) Q E s:=by
 unfold callWith;have h5:wpAny M A (evalArgs (.type T) true (backTo pos (starEach (e::rest) env)) (backToKw pos (keywordEach kws env))) (λa s1=>wpAny M A (call (.type T) ([]++a.pos) a.kw) Q E s1) E s:=by
  rw[e1] at h ⊢;exact evalArgs_kwB e3 h
 refine wpAny_bind (wpAny_holding (ip h5 (λa s1 h6=>wpAny_bind (o8 ?_)) λ_ _ z=>z));simp only[e2,e4,Bool.or_self];exact wpAny_bind (em (wpAny_bind (ip h6 (λr s2 h7=>wpAny_bind (wpAny_holding (wpAny_point (em h7)))) λ_ _ z=>z)))
end
section
variable {X:Cx} {elts:List gd} {m:Nat} {tpos:Pos}
def xF (ta tk:TA):TI:=λG H R=>ta G H λvs H1=>tk G H1 λzs H2=>∃(z:Str) (k:Nat),vs=[.str z]/\zs=[.int k]/\k<=100000/\R (jE k z) H2
def xD (K:da)(ta tk:TA):TI:=λG H R=>ta G H λvs H1=>tk G H1 λzs H2=>∃(a:df) (k:Nat),vs=[.ref a]/\zs=[.int k]/\k<=100000/\(∃xs,SqL K H2 a xs)/\R (vH k K a) H2
theorem mG {a:gd}{ta:TA}{p kp:Pos}{e:gd}(hg:Gl X "enumerate")(hm:X.mg "enumerate"=none)(ha:PA X [a] ta)(hk:PK X [⟨some "start",e,kp⟩] tk)(e1:autoParam (backTo pos (starEach [a] X.env)=(false,eval a X.env)::backTo pos (starEach [] X.env)) QD)(e2:autoParam ((backTo pos (starEach [a] X.env)).any (·.1)=false) QD) :
  PI X (.Tuple elts m tpos) (.Call (.Name "enumerate" p) [a] [⟨some "start",e,kp⟩] pos) (xF ta tk):=by
 intro pins s G H R I h;refine wpAny_Call_Name_kw (Fg I hg hm Io ?_ (by decide) (by decide));refine Lc (thA ha I h λus s0 vs H0 I0 r0 q0=>?_) e1 e2 rfl rfl;refine thn (hk pos pins s0 G H0 _ I0 q0) λws s1 ⟨zs,H1,I1,r1,q1⟩=>?_;obtain⟨z,k,e3,e4,hk1,q⟩:=q1;subst e3 e4;obtain⟨u,rfl,⟨t,rfl⟩⟩:=Fj r0;obtain⟨u2,rfl,⟨t2,rfl⟩⟩:=Fj r1;refine dQ (Zw hk1) (wpAny_pyIter_strU ?_);have hz:(s1.heap.push { cls:=.type (strIterType z),data:=.fields #[.str z t,.int 0 0] }).objs.size=s1.heap.objs.size+1:=ky ..;have kk:∀b o,s1.heap.get? b=some o->((s1.heap.push { cls:=.type (strIterType z),data:=.fields #[.str z t,.int 0 0] }).push (Lf (.ref s1.heap.objs.size) k)).get? b=some o:=λb o y=>dq _ (dq _ y);have g1:zh ((s1.heap.push { cls:=.type (strIterType z),data:=.fields #[.str z t,.int 0 0] }).push (Lf (.ref s1.heap.objs.size) k)) (s1.heap.objs.size+1) s1.heap.objs.size (k:Int) .none:=by
  have:=fi (s1.heap.push { cls:=.type (strIterType z),data:=.fields #[.str z t,.int 0 0] }) (o:=Lf (.ref s1.heap.objs.size) k) rfl;rw[hz] at this;exact this
 have g2:((s1.heap.push { cls:=.type (strIterType z),data:=.fields #[.str z t,.int 0 0] }).push (Lf (.ref s1.heap.objs.size) k)).IsStrIter s1.heap.objs.size (strIterType z) z t 0:=⟨_,dq _ (fi _ rfl),rfl,rfl⟩;dsimp only;rw[hz];generalize (s1.heap.push { cls:=.type (strIterType z),data:=.fields #[.str z t,.int 0 0] }).push (Lf (.ref s1.heap.objs.size) k)=h' at *;refine jv (s:={ s1 with heap:=h' }) g1 ?_;have fin:∀ty:String,h'.IsStrIter s1.heap.objs.size ty z t 0->(∀A':gt,A'.handled=none->BQ X.prog X.w A' s1.heap.objs.size [s1.heap.objs.size] z.cps.size (λi v=>∃c u,z.cps[i]?=some c/\v=.str ⟨#[c]⟩ u) (λi h=>h.IsStrIter s1.heap.objs.size ty z t i)) ->
   PIE X pins G (.Tuple elts m tpos) R (.ref (s1.heap.objs.size+1)) { s1 with heap:=h' }:=λty g2 D=>by
  refine⟨s1.heap.objs.size+1,[s1.heap.objs.size+1,s1.heap.objs.size],_,_,H1,rfl,I1.kept (t':=s1.toks) kk,Y9 (lR _) D,⟨⟨_,g1⟩,g2⟩,λc hc=>?_,q⟩;have hle:s1.heap.objs.size<=c:=by
   simp only[fu,je,or_false] at hc;exact kP hc
  exact I1.fpOk hle (I1.hok.fresh hle)
 by_cases ha:z.cps.all (· < 128)=true
 ·have e:strIterType z="str_ascii_iterator":=by unfold strIterType;rw[if_pos ha]
  exact fin _ (e▸g2) λA' hA=>AJ hA _ z t
 ·have e:strIterType z="str_iterator":=by unfold strIterType;rw[if_neg ha]
  exact fin _ (e▸g2) λA' hA=>AV hA _ z t
theorem nJ {a:gd}{ta:TA}{p kp:Pos}{e:gd}(hg:Gl X "enumerate")(hm:X.mg "enumerate"=none)(ha:PA X [a] ta)(hk:PK X [⟨some "start",e,kp⟩] tk)(e1:autoParam (backTo pos (starEach [a] X.env)=(false,eval a X.env)::backTo pos (starEach [] X.env)) QD)(e2:autoParam ((backTo pos (starEach [a] X.env)).any (·.1)=false) QD) :
  PI X (.Tuple elts m tpos) (.Call (.Name "enumerate" p) [a] [⟨some "start",e,kp⟩] pos) (xD X.K ta tk):=by
 intro pins s G H R I h;refine wpAny_Call_Name_kw (Fg I hg hm Io ?_ (by decide) (by decide));refine Lc (thA ha I h λus s0 vs H0 I0 r0 q0=>?_) e1 e2 rfl rfl;refine thn (hk pos pins s0 G H0 _ I0 q0) λws s1 ⟨zs,H1,I1,r1,q1⟩=>?_;obtain⟨a,k,e3,e4,hk1,⟨xs,hx⟩,q⟩:=q1;subst e3 e4;obtain⟨u,rfl,ru⟩:=Fj r0;cases ru;obtain⟨u2,rfl,⟨t2,rfl⟩⟩:=Fj r1;obtain⟨its,rv,p,_⟩:=I1.list hx;refine dQ (Zw hk1) (BH p.isList ?_);have hz:(s1.heap.push { cls:=.type "list_iterator",data:=.fields #[.ref a,.int 0 0] }).objs.size=s1.heap.objs.size+1:=ky ..;have kk:∀b o,s1.heap.get? b=some o->((s1.heap.push { cls:=.type "list_iterator",data:=.fields #[.ref a,.int 0 0] }).push (Lf (.ref s1.heap.objs.size) k)).get? b=some o:=λb o y=>dq _ (dq _ y);have g1:zh ((s1.heap.push { cls:=.type "list_iterator",data:=.fields #[.ref a,.int 0 0] }).push (Lf (.ref s1.heap.objs.size) k)) (s1.heap.objs.size+1) s1.heap.objs.size (k:Int) .none:=by
  have:=fi (s1.heap.push { cls:=.type "list_iterator",data:=.fields #[.ref a,.int 0 0] }) (o:=Lf (.ref s1.heap.objs.size) k) rfl;rw[hz] at this;exact this
 have g2:((s1.heap.push { cls:=.type "list_iterator",data:=.fields #[.ref a,.int 0 0] }).push (Lf (.ref s1.heap.objs.size) k)).IsListIter s1.heap.objs.size a 0:=⟨_,dq _ (fi _ rfl),rfl,rfl⟩;dsimp only;rw[hz];generalize (s1.heap.push { cls:=.type "list_iterator",data:=.fields #[.ref a,.int 0 0] }).push (Lf (.ref s1.heap.objs.size) k)=h' at *;refine jv (s:={ s1 with heap:=h' }) g1 ?_;refine⟨s1.heap.objs.size+1,[s1.heap.objs.size+1,s1.heap.objs.size],_,_,H1,rfl,I1.kept (t':=s1.toks) kk,Yz _ _ a (lR _),⟨⟨_,g1⟩,g2⟩,λc hc=>?_,q⟩;have hle:s1.heap.objs.size<=c:=by
  simp only[fu,je,or_false] at hc;exact kP hc
 exact I1.fpOk hle (I1.hok.fresh hle)
end
theorem tZ {tA:TA}{G:St}{R:It->Hp->Prop}(h:tA G H λvs H1=>tk G H1 λzs H2=>∃(z:Str) (k:Nat),vs=[.str z]/\zs=[.int k]/\k<=100000/\R (jE k z) H2):xF tA tk G H R:=h
theorem uK {K:da}{tA:TA}{G:St}{R:It->Hp->Prop}(h:tA G H λvs H1=>tk G H1 λzs H2=>∃(a:df) (k:Nat),vs=[.ref a]/\zs=[.int k]/\k<=100000/\(∃xs,SqL K H2 a xs)/\R (vH k K a) H2):xD K tA tk G H R:=h
theorem oB {K:da}{k:Nat}{z:Str}{fr:St}{tc:TT}{Q:VK}(acc:Nat->List V)(h0:acc 0=[])(hz:∀i,i<z.cps.size->(acc i).length<sizeLine)
  (turn:∀(i:Nat) c H (R:Hp->Prop) (A:VK),z.cps[i]?=some c->Aj H1 H->(acc (i+1)=acc i->∀H',Aj H H'->R H')->(∀y H',acc (i+1)=acc i++[y]->Aj H H'->A y H') ->
   tc (some (.int ((k+i:Nat):Int))::some (.str (sgn c))::fr) H λb H3=>if b=true then te (some (.int ((k+i:Nat):Int))::some (.str (sgn c))::fr) H3 A else R H3)
  (fin:∀D H,H1 D=none->Aj H1 H->H D=some (.lst (acc z.cps.size))->Q (.ref D) H):Lg K (jE k z) H1 fr tc te Q:=by
 refine Te z.cps.size (λi=>.int ((k+i:Nat):Int)) (λi=>.str (sgn (z.cps.getD i 0))) acc h0 hz (λi H hi sm=>hi) (λi H v H' hi sm h=>?_)
  (λH sm=>rfl) (λi H R A hi sm=>turn i _ H R A (by simp[hi]) sm) fin
 obtain⟨t,c,hn,rfl,hc,rfl⟩:=h;refine⟨t,rfl,?_,An hn⟩;obtain rfl:z.cps.getD i 0=c:=by simp[Array.getD,hi] at hc ⊢;exact hc
 exact SqT.of Ac
theorem oH {K:da}{k:Nat}{a:df}{fr:St}{tc:TT}{Q:VK}(ha:H1 a=some (.lst xs))(acc:Nat->List V)(h0:acc 0=[])(hz:∀i,i<xs.length->(acc i).length<sizeLine)
  (turn:∀(i:Nat) x H (R:Hp->Prop) (A:VK),xs[i]?=some x->Aj H1 H->(acc (i+1)=acc i->∀H',Aj H H'->R H')->(∀y H',acc (i+1)=acc i++[y]->Aj H H'->A y H') ->
   tc (some (.int ((k+i:Nat):Int))::some x::fr) H λb H3=>if b=true then te (some (.int ((k+i:Nat):Int))::some x::fr) H3 A else R H3)
  (fin:∀D H,H1 D=none->Aj H1 H->H D=some (.lst (acc xs.length))->Q (.ref D) H):Lg K (vH k K a) H1 fr tc te Q:=by
 refine Te xs.length (λi=>.int ((k+i:Nat):Int)) (λi=>xs.getD i .non) acc h0 hz (λi H hi sm=>⟨xs,xs[i],SqL.of (sm _ _ ha),c7 hi⟩) (λi H v H' hi sm h=>?_)
  (λH sm=>⟨xs,SqL.of (sm _ _ ha),rfl⟩) (λi H R A hi sm=>turn i _ H R A (by simp[hi]) sm) fin
 obtain⟨t,x,hn,rfl,hx,rfl⟩:=h;refine⟨t,rfl,?_,An hn⟩;have hx:=hx xs (SqL.of (sm _ _ ha));obtain rfl:xs.getD i .non=x:=by rw[ve,hx];rfl
 exact SqT.of Ac
section
variable {X:Cx} {e a b o value:gd} {es:List gd} {te ta tb tv:TE} {t:TA} {pos pos':Pos} {x f:Str}
theorem tpa (ha:PE X e te)(hr:PA X es t)(hs:autoParam (iN e=true) QD):PA X (e::es) (Vq te t):=Acj ha hr hs
theorem tix {r:R2}(hr:IxR X r)(ha:PE X a ta)(hb:PE X b tb)(hs:jQ b:=by exact λ_ _=>rfl):PE X (.Subscript a b pos) (tOp r ta tb):=Abg hr ha hb hs
theorem tpc {r:R2}(ho:OpR X (compareOp op) r)(ha:PE X a ta)(hb:PE X b tb)(hm:behindInMarks op b=false:=by exact qT _):PE X (.Compare a [op] [b] pos) (tOp r ta tb):=vR ho ha hb hm
theorem ttc {r:R2}(ho:OpR X (compareOp op) r)(ha:PE X a ta)(hb:PE X b tb)(hm:behindInMarks op b=false:=by exact qT _):PT X (.Compare a [op] [b] pos) (rP (tOp r ta tb)):=R6 ho ha hb hm
theorem tfl (he:PE X e ta)(hb:autoParam (attributeBase e f X.env (eval e X.env)=eval e X.env) QD):PE X (.Attribute e f pos) (vV X.K ta f):=rZ he hb
theorem tsf (ha:PE X o ta)(hv:PE X value tv)(hs:autoParam (swapsWith value (some (.Attribute o f pos')) pos.line X.env=pure false) QD):PS X (.Assign [.Attribute o f pos'] value pos) (xK X.K ta tv f):=xM ha hv hs
theorem tst (i:Nat)(hN:X.N.Nodup)(he:PE X e te)(hi:autoParam (X.N[i]?=some x) QD)(hx:Loc X.env.scope x:=by exact zn rfl)(hs:autoParam (swapsWith e (some (.Name x pos')) pos.line X.env=pure false) QD)(hf:autoParam (X.fn x=true\/X.env.scope.names.lookup x=some .local) QH) :
  PS X (.Assign [.Name x pos'] e pos) (oE te (Es i)):=Nf hN hi hx he hs hf
theorem tgn (i:Nat)(hN:X.N.Nodup)(hi:autoParam (X.N[i]?=some x) QD)(hx:Loc X.env.scope x:=by exact zn rfl)(hf:autoParam (X.fn x=true\/X.env.scope.names.lookup x=some .local) QH):PG X (.Name x pos) (Es i):=Mu hN hi hx hf
theorem tau (i:Nat){op:AB}{ti:TIp}(hN:X.N.Nodup)(he:PE X e te)(ho:PIp X op ti)(hi:autoParam (X.N[i]?=some x) QD)(hx:Loc X.env.scope x:=by exact zn rfl)(hf:autoParam (X.fn x=true\/X.env.scope.names.lookup x=some .local) QH) :
  PS X (.AugAssign (.Name x pos') op e pos) (yP i te ti):=zE hN hi hx he ho hf
end
end L2
end
section
namespace TW
def oP (ds:Za4)(k:Nat):Nat:=2*k-dAt ds k
def cP (ds:Za4)(k:Nat):Nat:=2*k-dAt ds k+2*(Cd ds k).length+1
theorem Xb {ds:Za4}(h:Dok ds){k:Nat}(hk:k<ds.length):cP ds k+dAt ds k+1=2*Ao ds k:=by
 have:=Ia h hk;have he:=Ax hk;unfold cP;rw[Dh];lia
theorem Tm {ds:Za4}(h:Dok ds){k:Nat}(hk:k+1<ds.length):dAt ds (k+1)<=dAt ds k+1:=h (k+1) hk
theorem wN {ds:Za4}(h:Dok ds){i:Nat}:∀d,i+d+1<ds.length->oP ds i<oP ds (i+d+1)
 |0,hj=>by
  have:=Tm h (k:=i) hj;have h1:=Ia h (k:=i) (by lia);have h2:=Ia h (k:=i+1) hj;unfold oP;show 2*i-dAt ds i<2*(i+1)-dAt ds (i+1);lia
 |d+1,hj=>by
  have ih:=wN h (i:=i) d (by lia);have:=Tm h (k:=i+d+1) hj;have h1:=Ia h (k:=i+d+1) (by lia);have h2:=Ia h (k:=i+d+1+1) hj;unfold oP at *;show 2*i-dAt ds i<2*(i+d+1+1)-dAt ds (i+d+1+1);lia
theorem R0 {ds:Za4}(h:Dok ds){i j:Nat}(hij:i<=j)(hj:j<ds.length):oP ds i<=oP ds j:=by
 rcases pj hij with e|e
 ·rw[e];exact db _
 ·have:=wN h (i:=i) (j-i-1) (by lia)
  rw[show i+(j-i-1)+1=j by lia] at this;lia
theorem lH {ds:Za4}(h:Dok ds){p:Nat}(hp:p<2*ds.length)(hno:∀j,j<ds.length->p≠oP ds j):(Av ds)[p]?=some false:=by
 have hl:=Bq h;have hb:(Av ds)[p]?=some ((Av ds)[p]'(by lia)):=c7 _;generalize (Av ds)[p]'(by lia)=b at hb
 cases b with
 |false=>exact hb
 |true=>
  exfalso;have hc:=mH h;have h1:=Lp hb (q:=(Av ds).length) (by lia);rw[lx,hc] at h1;have:=jK h h1 hb rfl;refine hno _ h1 ?_;unfold oP;lia
theorem yV {ds:Za4}(h:Dok ds){p k:Nat}(hk:k<ds.length)(hp:p<2*ds.length)(h1:oP ds k<p)(h2:k+1<ds.length->p<oP ds (k+1)):(Av ds)[p]?=some false:=by
 refine lH h hp λj hj e=>?_;rcases CL k j with z|z
 ·have:=R0 h (show k+1<=j from z) hj
  have:=h2 (by lia);lia
 ·have:=R0 h z hk
  lia
theorem G2 {ds:Za4}(h:Dok ds){k:Nat}(hk:k<ds.length):(Av ds)[oP ds k]?=some true/\((Av ds).take (oP ds k)).count true=k:=(E7 h hk).2
theorem R5 {ds:Za4}(h:Dok ds){k j:Nat}(hj:j<ds.length)(e:eld ds j=(k:Int)):dAt ds j=dAt ds k+1:=by
 obtain⟨v,hv,_,hd⟩:=Cc h hj (by lia);obtain rfl:v=k:=by lia
 exact hd
theorem jI {ds:Za4}(h:Dok ds){i j:Nat}(hi:i<ds.length)(hj:j<ds.length)(e:eld ds i=eld ds j):dAt ds i=dAt ds j:=by
 by_cases z:eld ds i=-1
 ·rw[Ho h hi z,Ho h hj (by rw[<-e];exact z)]
 ·obtain⟨v,hv,_,hd⟩:=Cc h hi z
  rw[hd,R5 h hj (by rw[<-e];exact hv)]
theorem Ub {ds:Za4}(h:Dok ds){k:Nat}(hk:k<ds.length)(h1:k+1<Ao ds k):eld ds (k+1)=(k:Int):=by
 have he:=Ax hk;have:=Jc h hk (k+1) (by lia) h1;have:=Tm h (k:=k) (by lia);exact(Oo h hk (by lia) h1).mpr (by lia)
theorem lS {ds:Za4}(h:Dok ds){k:Nat}(hk:k<ds.length):oP ds k+1<2*ds.length/\(Av ds)[oP ds k+1]?=some (Sb ds k).isSome:=by
 have hd:=Ia h hk;have hp:oP ds k+1<2*ds.length:=by unfold oP;lia
 refine⟨hp,?_⟩
 cases e:Sb ds k with
 |some j=>
  obtain⟨rfl,hj,hel⟩:=Td h e;have:=R5 h hj hel;have:oP ds (k+1)=oP ds k+1:=by unfold oP;lia
  rw[<-this];exact(G2 h hj).1
 |none=>
  have hno:=Zn e;refine yV h hk hp (by lia) λhk1=>?_;have hend:=Ax hk;have:Ao ds k=k+1:=by
   by_cases z:k+1<Ao ds k
   ·exact absurd (Ub h hk z) (hno _ hk1)
   ·lia
  have:=M1 h hk (by lia);rw[‹Ao ds k=k+1›] at this;unfold oP;lia
theorem M0 {ds:Za4}(h:Dok ds){k:Nat}(hk:k<ds.length):cP ds k<2*ds.length/\(Av ds)[cP ds k]?=some false:=by
 have he:=Ax hk;have hc:=Xb h hk;refine⟨by lia,?_⟩;obtain⟨P,S,p1,p2,p3,_⟩:=Tf h hk;have hl:=Bq (Hk h hk);rw[p3,show cP ds k=P.length+(1+(Av (Cd ds k)).length) by unfold cP;lia,di (j0 _ _),fq,qk 1,wt,di (db _),fv];rfl
theorem nU {ds:Za4}(h:Dok ds){k:Nat}(hk:k<ds.length)(e:(As ds ds.length k).getLast?=none):cP ds k=oP ds k+1:=by
 have hno:∀j,j<ds.length->eld ds j≠k:=λj hj z=>by
  have:=Cm.mpr ⟨hj,z⟩;rw[vy.mp e] at this;cases this
 have he:=Ax hk;have:Ao ds k=k+1:=by
  by_cases z:k+1<Ao ds k
  ·exact absurd (Ub h hk z) (hno _ (by lia))
  ·lia
 have:=Xb h hk;have:=Ia h hk;unfold oP;lia
theorem oK {ds:Za4}(h:Dok ds){k j:Nat}(hk:k<ds.length)(e:(As ds ds.length k).getLast?=some j):j<ds.length/\eld ds j=k/\cP ds j+1=cP ds k:=by
 have hm:=xx e;obtain⟨hj,hel⟩:=Cm.mp hm;have hr:Dr ds j=none:=by
  cases r:Dr ds j with
  |none=>rfl
  |some i=>
   obtain⟨r1,r2,r3⟩:=Ki r;have hi:i∈As ds ds.length k:=Cm.mpr ⟨r2,by rw[r3,hel]⟩;have he:=Ax hj;have:i<=j:=by
    obtain⟨l,hl⟩:=List.getLast?_eq_some_iff.mp e;have hp:(As ds ds.length k).Pairwise (· < ·):=mi _ m8;rw[hl] at hp hi;rcases ju.mp hi with z|z
    ·exact fb ((List.pairwise_append.mp hp).2.2 i z j (by simp))
    ·exact ll (ie.mp z)
   lia
 have hu:=yF h hj hr hel;have h1:=Xb h hj;have h2:=Xb h hk;have h3:=R5 h hj hel;exact⟨hj,hel,by lia⟩
theorem vX {ds:Za4}(h:Dok ds){k:Nat}(hk:k<ds.length)(he:Ao ds k<ds.length)(hd:dAt ds (Ao ds k)=dAt ds k):eld ds (Ao ds k)=eld ds k:=by
 have hk1:=Ax hk
 by_cases z:eld ds k=-1
 ·have h0:=Ho h hk z
  rw[z];have:=Dj h he;rw[hd,h0,Cu h _ (by lia)] at this;exact(de this).symm
 ·obtain⟨v,hv,hvk,hdv⟩:=Cc h hk z
  have hvl:v<ds.length:=by lia
  have hin:=O9 h hvl hk hv;have hle:Ao ds k<=Ao ds v:=by
   by_cases q:Ao ds k<=Ao ds v
   ·exact q
   ·exfalso
    have a:=hk1.2.2.1 (Ao ds v) (by lia) (by lia);have b:=(Ax hvl).2.2.2 (by lia);lia
  have hlt:Ao ds k<Ao ds v:=by
   rcases pj hle with q|q
   ·have:=M1 h hvl (by lia)
    rw[<-q] at this;lia
   ·exact q
  rw[hv];exact(Oo h hvl (by lia) hlt).mpr (by lia)
theorem mF {ds:Za4}(h:Dok ds){k:Nat}(hk:k<ds.length):(∀j,Dr ds k=some j->j<ds.length/\cP ds k+1=oP ds j)/\(Dr ds k=none->cP ds k+1<2*ds.length->(Av ds)[cP ds k+1]?=some false):=by
 have he:=Ax hk;have hc:=Xb h hk;have hdk:=Ia h hk
 constructor
 ·intro j e
  obtain⟨rfl,h2,h3⟩:=Ki e;have:=jI h h2 hk h3;exact⟨h2,by unfold oP;lia⟩
 ·intro e hp
  refine lH h hp λj hj z=>?_;rcases CL j (Ao ds k) with q|q
  ·have h1:=R0 h (show j<=Ao ds k-1 by lia) (by lia)
   have hdl:dAt ds k<=dAt ds (Ao ds k-1):=by
    rcases pj (show k<=Ao ds k-1 by lia) with w|w
    ·rw[<-w];exact db _
    ·exact fb (Jc h hk _ w (by lia))
   unfold oP at h1 z;lia
  ·have hel:Ao ds k<ds.length:=by lia
   have hde:=M1 h hk hel;have h1:=R0 h q hj;have hd2:=Ia h hel;have:dAt ds (Ao ds k)=dAt ds k:=by unfold oP at h1 z;lia
   have hs:=vX h hk hel this;unfold Dr at e;rw[if_pos ⟨hel,hs⟩] at e;cases e
theorem nQ {ds:Za4}(h:Dok ds)(h0:0<ds.length):eld ds 0=-1:=by
 have:=Fx h h0;have:=Ph h h0;lia
theorem pY {ds:Za4}(h:Dok ds){k:Nat}(hk:k<ds.length)(h0:0<oP ds k):(∀j,(As ds k (eld ds k)).getLast?=some j->j<ds.length/\cP ds j+1=oP ds k)/\((As ds k (eld ds k)).getLast?=none->(Av ds)[oP ds k-1]?=some true):=by
 have hdk:=Ia h hk;have hk0:0<k:=by unfold oP at h0;lia
 constructor
 ·intro j e
  obtain⟨l1,l2,l3,_⟩:=oG h hk e;have hj:j<ds.length:=by lia
  have:=jI h hj hk l2;have:=Xb h hj;exact⟨hj,by unfold oP;lia⟩
 ·intro e
  have hno:∀j,j<k->eld ds j≠eld ds k:=λj hj z=>by
   have:=Cm.mpr ⟨hj,z⟩;rw[vy.mp e] at this;cases this
  by_cases z:eld ds k=-1
  ·exact absurd (by rw[z];exact nQ h (by lia)) (hno 0 hk0)
  ·obtain⟨v,hv,hvk,hdv⟩:=Cc h hk z
   have hin:=O9 h (by lia) hk hv;have hv1:v+1=k:=by
    rcases pj (show v+1<=k by lia) with q|q
    ·exact q
    ·exact absurd (by rw[hv];exact Ub h (by lia) (by lia)) (hno (v+1) q)
   have:oP ds k-1=oP ds v:=by unfold oP;lia
   rw[this];exact(G2 h (by lia)).1
end TW
end
namespace TK
open PySem L2 TW
variable {C CS Pt dx i1 i2 it kl l1 l2 pa z:df} {params:kj} {A:gt} {CX:CXT} {op:rf} {X:Cx} {env:Env} {tg:gd} {fd:io} {base h h' h1:gv} {H H' H1 H2:Hp} {J:It} {pins:Za1} {as fp:List df} {outer:List Env} {elts:List gd} {ns:List Int} {ix:Za4} {N ps:Za6} {ts:List Tb} {xs ys:List V} {us vs:Za3} {M:qr} {off t':Nat} {oT:Obj} {od:Option df} {pos:Pos} {scope:kr} {pl:Sem Bool} {s s2:d4} {sp:Sp} {st:gm} {qual:Str} {tk:TA} {te:TE} {wi:TI} {y:V} {pm:d0} {w:ge}
def top (i:Nat):gm:=f7.main.body.getD i (.Pass ⟨0,0,0,0⟩)
abbrev Nh:gm:=top 11
theorem Zd:Al ["thing"] ["thing"] (Ae Nh):=by k_cls
abbrev Lv:gm:=top 12
theorem X2:Al ["thing","low","high"] ["thing","low","high"] (Ae Lv):=by k_cls
abbrev Jf:gm:=top 13
theorem Uf:Al ["place","greatest"] ["place","greatest"] (Ae Jf):=by k_cls
abbrev Kr:gm:=top 15
theorem Ut:Al ["k","many_knots"] ["k","many_knots"] (Ae Kr):=by k_cls
abbrev Ib:gm:=top 21
theorem Rt:Al ["height"] ["height"] (Ae Ib):=by k_cls
abbrev Ew:gm:=top 14
theorem Mh:Al ["number"] ["number"] (Ae Ew):=by k_cls
abbrev K5:gm:=top 17
theorem Gu:Al ["low","high","holds","middle"] ["low","high","holds"] (Ae K5):=by k_cls
abbrev Id:gm:=top 18
theorem Ha:Al ["numbers","sums","number"] ["numbers"] (Ae Id):=by k_cls
abbrev K8:gm:=top 20
theorem E4:Al ["text","begin","height","heights","sign"] ["text","begin"] (Ae K8):=by k_cls
abbrev O1:gm:=top 39
theorem Sd:Al ["text","heights"] ["text"] (Ae O1):=by k_cls
abbrev Hs:gm:=Aw (top 22) 0
theorem Rm:Al ["self","length","table","often_least"] ["self","length","table","often_least"] (Ae Hs):=by k_cls
abbrev Ic:gm:=Aw (top 22) 7
theorem Rn:Al ["self"] ["self"] (Ae Ic):=by k_cls
abbrev Lq:gm:=top 25
theorem Fw:Al ["text","height","place","sign"] ["text"] (Ae Lq):=by k_cls
abbrev Pn:gm:=top 29
theorem Lb:Al ["elders","path","k","elder"] ["elders"] (Ae Pn):=by k_cls
abbrev Mg:gm:=top 32
theorem Kf:Al ["elders","depths","elder"] ["elders"] (Ae Mg):=by k_cls
abbrev T9:gm:=top 30
theorem Jw:Al ["elders","signs","still_opened","depth"] ["elders"] (Ae T9):=by k_cls
abbrev Mb:gm:=top 31
theorem Hi:Al ["text","elders","path","sign"] ["text"] (Ae Mb):=by k_cls
abbrev Hb:gm:=Aw (top 35) 0
theorem Po:Al ["self","pairs"] ["self","pairs"] (Ae Hb):=by k_cls
abbrev Dy:gm:=Aw (top 35) 1
theorem Kq:Al ["self"] ["self"] (Ae Dy):=by k_cls
abbrev Kl:gm:=Aw (top 41) 0
theorem Nd:Al ["self","signs","heights"] ["self","signs"] (Ae Kl):=by k_cls
abbrev Gz:gm:=top 40
theorem Kv:Al ["text","many","cuts"] ["text"] (Ae Gz):=by k_cls
theorem Ss:B4 ["text","many","cuts"] (Ae Gz) { kind:=.function,names:=[(".0",.local),("number",.local),("len",.globalImplicit),("many",.free),("text",.free)],isGenerator:=false,isCoroutine:=false,more:=[] } "number" ["number","many","text"] [1,0]:=by k_cls
theorem Ty:E5 ["text","many","cuts"] (Ae Gz) { kind:=.function,names:=[(".0",.local),("low",.local),("high",.local),("Piece",.globalImplicit),("text",.free)],isGenerator:=false,isCoroutine:=false,more:=[] } "low" "high" ["low","high","text"] [0]:=by k_cls
abbrev B3:gm:=Aw (top 42) 0
theorem Fy:Al ["self","pieces","heights","table"] ["self","pieces"] (Ae B3):=by k_cls
theorem M2:E5 ["self","pieces","heights","table"] (Ae B3) { kind:=.function,names:=[(".0",.local),("knots",.local),("begin",.local)],isGenerator:=false,isCoroutine:=false,more:=[] } "knots" "begin" ["knots","begin"] []:=by k_cls
theorem Nb:E5 ["self","pieces","heights","table"] (Ae B3) { kind:=.function,names:=[(".0",.local),("height",.local),("piece",.local)],isGenerator:=false,isCoroutine:=false,more:=[] } "height" "piece" ["height","piece"] []:=by k_cls
theorem M7:B4 ["self","pieces","heights","table"] (Ae B3) { kind:=.function,names:=[(".0",.local),("piece",.local),("len",.globalImplicit)],isGenerator:=false,isCoroutine:=false,more:=[] } "piece" ["piece"] []:=by k_cls
theorem M5:B4 ["self","pieces","heights","table"] (Ae B3) { kind:=.function,names:=[(".0",.local),("piece",.local)],isGenerator:=false,isCoroutine:=false,more:=[] } "piece" ["piece"] []:=by k_cls
theorem M4:B4 ["self","pieces","heights","table"] (Ae B3) { kind:=.function,names:=[(".0",.local),("piece",.local)],isGenerator:=false,isCoroutine:=false,more:=[] } "piece" ["piece"] []:=by k_cls
abbrev Br:gm:=Aw (top 42) 5
theorem J5:Al ["self","place"] ["self","place"] (Ae Br):=by k_cls
theorem Ie:B4 ["self","place"] (Ae Br) { kind:=.function,names:=[("number",.local),("place",.free),("self",.free)],isGenerator:=false,isCoroutine:=false,more:=[] } "number" ["number","place","self"] [1,0]:=by k_cls
abbrev Bv:gm:=Aw (top 42) 7
theorem K4:Al ["self","place"] ["self","place"] (Ae Bv):=by k_cls
theorem Il:B4 ["self","place"] (Ae Bv) { kind:=.function,names:=[("number",.local),("place",.free),("self",.free)],isGenerator:=false,isCoroutine:=false,more:=[] } "number" ["number","place","self"] [1,0]:=by k_cls
abbrev C6:gm:=Aw (top 42) 1
theorem Cw:Al ["self","low","high","first","signs","begin"] ["self","low","high"] (Ae C6):=by k_cls
theorem K2:B4 ["self","low","high","first","signs","begin"] (Ae C6) { kind:=.function,names:=[(".0",.local),("piece",.local)],isGenerator:=false,isCoroutine:=false,more:=[] } "piece" ["piece"] []:=by k_cls
abbrev Ig:gm:=Aw (top 22) 8
theorem Rp:Al ["self"] ["self"] (Ae Ig):=by k_cls
abbrev Dc:gm:=Aw (top 42) 3
theorem E6:Al ["self","place","number"] ["self","place"] (Ae Dc):=by k_cls
abbrev Gf:gm:=Aw (top 22) 9
theorem N2:Al ["self","place"] ["self","place"] (Ae Gf):=by k_cls
abbrev Dk:gm:=Aw (top 42) 2
theorem Jq:Al ["self","place"] ["self","place"] (Ae Dk):=by k_cls
abbrev Ei:gm:=Aw (top 42) 6
theorem Lk:Al ["self","number"] ["self","number"] (Ae Ei):=by k_cls
abbrev Bt:gm:=Aw (top 42) 4
theorem Ct:Al ["self","number","piece","signs","places"] ["self","number"] (Ae Bt):=by k_cls
theorem K1:E5 ["self","number","piece","signs","places"] (Ae Bt) { kind:=.function,names:=[(".0",.local),("place",.local),("sign",.local)],isGenerator:=false,isCoroutine:=false,more:=[] } "place" "sign" ["place","sign"] []:=by k_cls
theorem Jp:B4 ["self","number","piece","signs","places"] (Ae Bt) { kind:=.function,names:=[("one",.local),("number",.free),("self",.free)],isGenerator:=false,isCoroutine:=false,more:=[] } "one" ["one","number","self"] [1,0]:=by k_cls
abbrev E8:gm:=Aw (top 22) 18
theorem Kc:Al ["self","low","high","cuts"] ["self","low","high"] (Ae E8):=by k_cls
theorem Ny:B4 ["self","low","high","cuts"] (Ae E8) { kind:=.function,names:=[(".0",.local),("number",.local),("self",.free)],isGenerator:=false,isCoroutine:=false,more:=[] } "number" ["number","self"] [0]:=by k_cls
abbrev Fd:gm:=Aw (top 22) 19
theorem Hg:Al ["self","low","height","row"] ["self","low","height"] (Ae Fd):=by k_cls
abbrev C5:gm:=Aw (top 22) 21
theorem Ik:Al ["self","low","high"] ["self","low","high"] (Ae C5):=by k_cls
abbrev Ea:gm:=Aw (top 22) 22
theorem Fu:Al ["self","low","high","height","heights"] ["self","low","high","height"] (Ae Ea):=by k_cls
abbrev Fz:gm:=Aw (top 22) 13
theorem Dn:Al ["self","place","height","low","high","found"] ["self","place","height"] (Ae Fz):=by k_cls
abbrev Dz:gm:=Aw (top 22) 23
theorem F2:Al ["self","low","high","height","heights"] ["self","low","high","height"] (Ae Dz):=by k_cls
abbrev Ft:gm:=Aw (top 22) 14
theorem Dq:Al ["self","place","height","low","high","found"] ["self","place","height"] (Ae Ft):=by k_cls
abbrev F4:gm:=Aw (top 22) 10
theorem Nu:Al ["self","place"] ["self","place"] (Ae F4):=by k_cls
abbrev Ef:gm:=Aw (top 22) 20
theorem Ga:Al ["self","low","high","number"] ["self","low","high"] (Ae Ef):=by k_cls
abbrev Du:gm:=Aw (top 22) 26
theorem Fq:Al ["self","low","high","height","number"] ["self","low","high","height"] (Ae Du):=by k_cls
abbrev Cv:gm:=Aw (top 22) 24
theorem Gd:Al ["self","low","high","height","nth","heights"] ["self","low","high","height","nth"] (Ae Cv):=by k_cls
theorem Jl:E5 ["self","low","high","height","nth","heights"] (Ae Cv) { kind:=.function,names:=[(".0",.local),("place",.local),("one",.local),("height",.free)],isGenerator:=false,isCoroutine:=false,more:=[] } "place" "one" ["place","one","height"] [3]:=by k_cls
abbrev Cs:gm:=Aw (top 22) 16
theorem F9:Al ["self","low","high","height"] ["self","low","high"] (Ae Cs):=by k_cls
theorem Jj:E5 ["self","low","high","height"] (Ae Cs) { kind:=.function,names:=[(".0",.local),("begin",.local),("end",.local),("height",.free),("self",.free)],isGenerator:=false,isCoroutine:=false,more:=[] } "begin" "end" ["begin","end","height","self"] [3,0]:=by k_cls
abbrev Ex:gm:=Aw (top 22) 17
theorem B1:Al ["self","low","nth","height","begin","end","often"] ["self","low","nth"] (Ae Ex):=by k_cls
abbrev Ih:gm:=Aw (top 35) 3
theorem Rl:Al ["self"] ["self"] (Ae Ih):=by k_cls
abbrev F6:gm:=Aw (top 35) 2
theorem Nx:Al ["self"] ["self"] (Ae F6):=by k_cls
abbrev Fc:gm:=Aw (top 35) 4
theorem M6:Al ["self","k"] ["self","k"] (Ae Fc):=by k_cls
abbrev Fi:gm:=Aw (top 35) 5
theorem Na:Al ["self","k"] ["self","k"] (Ae Fi):=by k_cls
abbrev G5:gm:=Aw (top 35) 12
theorem O3:Al ["self","k"] ["self","k"] (Ae G5):=by k_cls
abbrev Ej:gm:=Aw (top 35) 20
theorem Lj:Al ["self"] ["self"] (Ae Ej):=by k_cls
abbrev Fa:gm:=Aw (top 35) 6
theorem M8:Al ["self","place"] ["self","place"] (Ae Fa):=by k_cls
abbrev Gi:gm:=Aw (top 35) 15
theorem Oq:Al ["self","k"] ["self","k"] (Ae Gi):=by k_cls
abbrev Jh:gm:=Aw (top 35) 16
theorem Ln:Al ["self","k","many","depth"] ["self","k","many"] (Ae Jh):=by k_cls
abbrev Gm:gm:=Aw (top 35) 7
theorem Oe:Al ["self","k"] ["self","k"] (Ae Gm):=by k_cls
abbrev Fe:gm:=Aw (top 35) 14
theorem M3:Al ["self","k"] ["self","k"] (Ae Fe):=by k_cls
abbrev Gj:gm:=Aw (top 35) 8
theorem N4:Al ["self","k"] ["self","k"] (Ae Gj):=by k_cls
abbrev G9:gm:=Aw (top 35) 9
theorem Jm:Al ["self","k","place"] ["self","k"] (Ae G9):=by k_cls
abbrev Gp:gm:=Aw (top 35) 10
theorem Iv:Al ["self","k","place"] ["self","k"] (Ae Gp):=by k_cls
abbrev G7:gm:=Aw (top 35) 11
theorem Ji:Al ["self","k","place"] ["self","k"] (Ae G7):=by k_cls
abbrev Gn:gm:=Aw (top 35) 13
theorem N0:Al ["self","k","i"] ["self","k","i"] (Ae Gn):=by k_cls
abbrev Nq:gm:=Aw (top 33) 10
theorem Rf:Al ["self","k","i","many"] ["self","k","i"] (Ae Nq):=by k_cls
abbrev Ek:gm:=Aw (top 42) 8
theorem Bu:Al ["self","low","high","text","first","behind","left_over","middle"] ["self","low","high","text"] (Ae Ek):=by k_cls
abbrev Jd:gm:=Aw (top 44) 0
theorem Tk:Al ["self","elders"] ["self","elders"] (Ae Jd):=by k_cls
abbrev Di:gm:=Aw (top 44) 6
theorem J1:Al ["self","low","high","text"] ["self","low","high","text"] (Ae Di):=by k_cls
abbrev Kx:gm:=Aw (top 44) 3
theorem Gx:Al ["self","k","low","high","taken"] ["self","k"] (Ae Kx):=by k_cls
abbrev Ht:gm:=Aw (top 44) 4
theorem Dv:Al ["self","k","place","elders","many","row","within","low"] ["self","k","place","elders"] (Ae Ht):=by k_cls
abbrev Fb:gm:=Aw (top 44) 5
theorem M9:Al ["self"] ["self"] (Ae Fb):=by k_cls
abbrev Je:gm:=top 46
theorem Ud:Al ["_law_script","_law_k"] ["_law_script","_law_k"] (Ae Je):=by k_cls
abbrev Ml:gm:=top 48
theorem N6:Al ["_law_cell","_law_k","_law_once"] ["_law_cell","_law_k"] (Ae Ml):=by k_cls
abbrev Ko:gm:=top 49
theorem E3:Al ["_law_script","_law_at","_law_many","_law_left","_law_found","_law_k"] ["_law_script","_law_at","_law_many"] (Ae Ko):=by k_cls
abbrev Ni:gm:=top 50
theorem Fn:Al ["_law_digits_here","_law_elders","_law_path","_law_k"] ["_law_digits_here"] (Ae Ni):=by k_cls
abbrev Oz:gm:=top 51
theorem Gg:Al ["_law_elders","_law_found","_law_path","_law_k"] ["_law_elders"] (Ae Oz):=by k_cls
abbrev Pz:gm:=top 54
theorem Nj:Al ["_law_elders","_law_k","_law_end_here"] ["_law_elders","_law_k"] (Ae Pz):=by k_cls
abbrev Kn:gm:=top 55
theorem eN:Al ["_law_elders","_law_k"] ["_law_elders","_law_k"] (Ae Kn):=by k_cls
theorem Uz:B4 ["_law_elders","_law_k"] (Ae Kn) { kind:=.function,names:=[(".0",.local),("_law_elder",.local),("max",.globalImplicit),("_law_k",.free)],isGenerator:=false,isCoroutine:=false,more:=[] } "_law_elder" ["_law_elder","_law_k"] [1]:=by k_cls
abbrev Gy:gm:=top 56
theorem L4:Al ["_law_elders","_law_k","_law_end_here"] ["_law_elders","_law_k"] (Ae Gy):=by k_cls
theorem Ox:B4 ["_law_elders","_law_k","_law_end_here"] (Ae Gy) { kind:=.function,names:=[(".0",.local),("_law_elder",.local),("int",.globalImplicit),("_law_end_here",.free),("_law_k",.free)],isGenerator:=false,isCoroutine:=false,more:=[] } "_law_elder" ["_law_elder","_law_end_here","_law_k"] [2,1]:=by k_cls
abbrev Kz:gm:=top 57
theorem Rj:Al ["_law_elders","_law_k","_law_place","_law_some"] ["_law_elders","_law_k","_law_place"] (Ae Kz):=by k_cls
theorem Um:B4 ["_law_elders","_law_k","_law_place","_law_some"] (Ae Kz) { kind:=.function,names:=[(".0",.local),("_law_other",.local),("_law_elders",.free),("_law_k",.free)],isGenerator:=false,isCoroutine:=false,more:=[] } "_law_other" ["_law_other","_law_elders","_law_k"] [0,1]:=by k_cls
abbrev Hx:gm:=top 58
theorem Lx:Al ["_law_elders","_law_k","_law_place","_law_wood_here","_law_at","_law_amid"] ["_law_elders","_law_k","_law_place","_law_wood_here"] (Ae Hx):=by k_cls
theorem U0:B4 ["_law_elders","_law_k","_law_place","_law_wood_here","_law_at","_law_amid"] (Ae Hx) { kind:=.function,names:=[(".0",.local),("_law_elder",.local),("int",.globalImplicit),("_law_at",.free),("_law_k",.free)],isGenerator:=false,isCoroutine:=false,more:=[] } "_law_elder" ["_law_elder","_law_at","_law_k"] [4,1]:=by k_cls
theorem Us:B4 ["_law_elders","_law_k","_law_place","_law_wood_here","_law_at","_law_amid"] (Ae Hx) { kind:=.function,names:=[(".0",.local),("_law_elder",.local),("len",.globalImplicit),("int",.globalImplicit),("_law_at",.free),("_law_wood_here",.free)],isGenerator:=false,isCoroutine:=false,more:=[] } "_law_elder" ["_law_elder","_law_at","_law_wood_here"] [4,3]:=by k_cls
abbrev Gw:gm:=top 52
theorem Bg:Al ["_law_elders","_law_many","_law_k","_law_children","_law_tops","_law_beneath","_law_depths","_law_found","_law_beside","_law_at","_law_ends","_law_sides","_law_elder"] ["_law_elders"] (Ae Gw):=by k_cls
theorem P2:B4 ["_law_elders","_law_many","_law_k","_law_children","_law_tops","_law_beneath","_law_depths","_law_found","_law_beside","_law_at","_law_ends","_law_sides","_law_elder"] (Ae Gw) { kind:=.function,names:=[(".0",.local),("_law_k",.local)],isGenerator:=false,isCoroutine:=false,more:=[] } "_law_k" ["_law_k"] []:=by k_cls
abbrev Nr:gm:=top 53
theorem Ra:Al ["_law_wood_here","_law_k","_law_ends"] ["_law_wood_here","_law_k"] (Ae Nr):=by k_cls
abbrev Nl:gm:=top 59
theorem L6:Al ["_law_wood_here","_law_elders","_law_number","_law_k","_law_due"] ["_law_wood_here","_law_elders","_law_number"] (Ae Nl):=by k_cls
abbrev O4:gm:=top 61
theorem K3:Al ["_law_cell","_law_found","_law_k"] ["_law_cell"] (Ae O4):=by k_cls
abbrev He:gm:=top 62
theorem En:Al ["_law_left","_law_digits_here","_law_k"] ["_law_left"] (Ae He):=by k_cls
abbrev Hf:gm:=top 60
theorem Ka:Al ["_law_wood_here","e"] ["_law_wood_here"] (Ae Hf):=by k_cls
abbrev K9:gm:=top 63
theorem Cj:Al ["_law_wood_here","_law_past","_law_kept","_law_number","_law_elders","_law_way","_law_left","_law_k","_law_place","_law_other"] ["_law_wood_here","_law_past","_law_kept","_law_number"] (Ae K9):=by k_cls
theorem Uu:B4 ["_law_wood_here","_law_past","_law_kept","_law_number","_law_elders","_law_way","_law_left","_law_k","_law_place","_law_other"] (Ae K9) { kind:=.function,names:=[(".0",.local),("_law_one",.local),("_law_k",.free)],isGenerator:=false,isCoroutine:=false,more:=[] } "_law_one" ["_law_one","_law_k"] [7]:=by k_cls
abbrev U9:gm:=top 64
theorem Nk:Al ["_law_script","_law_many","_law_past","_law_wood_here","_law_kept","_law_k","_law_number"] ["_law_script"] (Ae U9):=by k_cls
abbrev F7:Pos:=⟨406,53,406,99⟩
abbrev Ez:Pos:=⟨412,52,412,98⟩
abbrev Fl:Pos:=⟨418,52,418,95⟩
def Az (l:Za5):Str:=⟨(l.map λb=>if b then 49 else 48).toArray⟩
theorem Bc (l:Za5):(Az l).length=l.length:=by
 show(l.map _).toArray.size=_;rw[ez,c8]
theorem Pq (b:Bool)(k:Nat):Ti (sgn (if b then 49 else 48)) k=Az (dn k b):=by
 refine Kg ?_;show(dn k [if b then 49 else 48]).flatten.toArray.toList=((dn k b).map _).toArray.toList;rw[ku,ku,List.map_replicate]
 induction k with
 |zero=>rfl
 |succ k ih=>
  rw[gk,il,ih,gk];rfl
theorem Gr (l:Za5):(Az l).cps.toList=l.map λb=>if b then 49 else 48:=by
 show(l.map _).toArray.toList=_;rw[ku]
theorem Ep (a b:Za5):Az a++Az b=Az (a++b):=by
 refine Kg ?_;show((Az a).cps++(Az b).cps).toList=_;rw[rb,Gr,Gr,Gr,dj]
theorem U4 {α:Type}(l:List α)(a b:Nat):(l.drop (min a l.length)).take (min b l.length-min a l.length)=(l.drop a).take (b-a):=by
 by_cases h:a<=l.length
 ·rw[gn h]
  by_cases h2:b<=l.length
  ·rw[gn h2]
  ·rw[l5 (by lia),d5 (by rw[fh];lia),d5 (by rw[fh];lia)]
 ·have e:min a l.length=l.length:=by lia
  rw[e,gg (db _),gg (by lia)];simp
theorem Vb (l:Za5)(a b:Nat):qA (Az l) (some (a:Int)) (some (b:Int))=Az ((l.drop a).take (b-a)):=by
 refine Kg ?_;show(EK _ (EL _ _)).toArray.toList=_;rw[ku,HT.sIx_nat,HT.sIx_nat];have e:(Az l).cps.size=l.length:=Bc l;rw[e,Gr,Gr,jx,rl];have:=U4 (l.map λb=>if b=true then 49 else 48) a b;rw[c8] at this;exact this
theorem Vj (l:Za5):fM (Az l) 49=l.count true/\fM (Az l) 48+fM (Az l) 49=l.length:=by
 unfold fM;rw[Gr]
 induction l with
 |nil=>exact⟨rfl,rfl⟩
 |cons b r ih=>cases b<;>simp[kb]<;>lia
abbrev nV (ns:Za4):List V:=ns.map λn:Nat=>V.int n
theorem tO (ns:Za4):nV ns=(ns.map λn:Nat=>(n:Int)).map V.int:=by rw[jm];rfl
theorem Ui (f:Nat->Nat)(i:Nat):nV ((ed (i+1)).map f)=nV ((ed i).map f)++[V.int (f i:Nat)]:=by
 unfold nV;rw[ic,dj,dj];rfl
theorem few {n:Nat}(h:n<=1000):n<=sizeLine:=fb (Pc h)
theorem Ah {n:Nat}(h:n<=100000):n<sizeLine:=sd h (by decide)
theorem Rw {l:Za5}{i c:Nat}(h:(Az l).cps[i]?=some c):∃b,l[i]?=some b/\c=if b then 49 else 48:=by
 have e:(Az l).cps.toList[i]?=some c:=by rw[nh];exact h
 rw[Gr,dg] at e
 cases hb:l[i]? with
 |none=>rw[hb] at e;cases e
 |some b=>
  rw[hb] at e;exact⟨b,rfl,(de e).symm⟩
theorem Bl {α:Type}{l:List α}{i:Nat}{b:α}(h:l[i]?=some b):i<l.length:=(d6.mp h).1
def KL (K : da)(c : df) : List (d0 × Bool)->Prop
  | [] => True
  | (v, b) :: l => kitOne K (.ref c) v = some b/\KL K c l
theorem KL.d {K:da}{c:df}:∀(n:Nat) {l:List (d0×Bool)},KL K c l->KL K c (l.drop n)
 |0,_,h=>h
 |_+1,[],h=>h
 |n+1,_::_,h=>KL.d n h.2
def isI:V->Bool
 |.int _=>true
 |_=>false
theorem Ca (l:Za4):(nV l).length=l.length:=by unfold nV;rw[c8]
theorem Abe {l:Za4}{i:Nat}{n:Nat}(h:l[i]?=some n):(nV l)[i]?=some (.int (n:Nat)):=by
 unfold nV;rw[dg,h];rfl
theorem Yp (l m:Za4):nV l++nV m=nV (l++m):=by unfold nV;rw[dj]
theorem Bw {a:df}{o:HO}(s:Aj H H1)(h:H a=none):Aj H (upd H1 a o):=λb u e=>by
 rw[Ai (Af e h)];exact s _ _ e
theorem U5 {K:da}:kitOne K (.type "list") (.type "list")=some true:=by rfl
theorem P6 {l:List Int}{i:Nat}{n:Int}(h:l[i]?=some n):(l.map V.int)[i]?=some (.int n):=by
 rw[dg,h];rfl
theorem O5 {l:List Int}{i:Nat}{x:V}(h:(l.map V.int)[i]?=some x):∃n,l[i]?=some n/\x=.int n:=by
 rw[dg] at h
 cases e:l[i]? with
 |none=>rw[e] at h;cases h
 |some n=>
  rw[e] at h;exact⟨n,rfl,(de h).symm⟩
theorem Jx {l:List Int}{m:Nat}{x:Int}(h0:0<m)(h:l[m-1]?=some x):atI ((l.take m).map V.int) (-1)=some (.int x):=by
 have hm:=Bl h;have e:l.take m=l.take (m-1)++[x]:=by
  rw[show m=m-1+1 by lia,gj,h];rfl
 rw[e,dj];exact F1 _ _
theorem G1 {l:List Int}{m:Nat}(h:m<=l.length):((l.take m).map V.int).length=m:=by rw[c8,dh];lia
theorem Pe {l:List Int}{m:Nat}(h:m<=l.length):((l.take m).map V.int).dropLast=(l.take (m-1)).map V.int:=by
 rw[<-List.map_dropLast,List.dropLast_eq_take,mz,dh];congr 2;lia
def Zx (H:Hp)(p:df):Nat:=match H p with|some (.lst xs)=>xs.length|_=>0
theorem J3 {p:df}(h:H p=some (.lst xs)):Zx H p=xs.length:=by unfold Zx;rw[h]
theorem Z2 {K:da}{Q:VK}{p:df}{ls:List (Za5)}(hl:H1 p=some (.lst (ls.map λl=>.str (Az l))))(hz:ls.flatten.length<=100000)(q:Q (.str (Az ls.flatten)) H1):wB K (.str "") [.ref p] H1 Q:=by
 refine⟨"",p,ls.map Az,rfl,rfl,SqL.of ?_,?_,?_⟩
 ·rw[hl,jm]
  rfl
 ·have e:((ls.map Az).map (·.length)).sum=ls.flatten.length:=by
   rw[yl,jm];congr 1;refine i5 λl _=>?_;exact Bc l
  rw[e];show ls.flatten.length+_*0<=_;lia
 ·have e:yf ("":Str) (ls.map Az)=Az ls.flatten:=by
   refine Kg ?_;rw[fK,jm];show((ls.map λl=>(l.map λb=>if b then 49 else 48).toArray.toList)).flatten=(ls.flatten.map _).toArray.toList;simp only[ku];rw[List.map_flatten]
  rw[e];exact q
theorem Mj {ds:Za4}(h:Dok ds):∀k,k<=ds.length->opn ds k<=k
 |0,_=>db _
 |k+1,hk=>by
  show dAt ds k+1<=k+1;have:=h k (by lia);have:=Mj h k (by lia);lia
theorem Lr {ds:Za4}{d j:Nat}(h:j<ds.length):dAt (ds++[d]) j=dAt ds j:=by
 unfold dAt eh;rw[dv h]
theorem Ot (ds:Za4)(d:Nat):dAt (ds++[d]) ds.length=d:=by
 unfold dAt eh;rw[di (db _),fv];rfl
theorem Oa {ds:Za4}{d:Nat}:∀k,k<=ds.length->opn (ds++[d]) k=opn ds k
 |0,_=>rfl
 |k+1,h=>by
  show dAt (ds++[d]) k+1=dAt ds k+1;rw[Lr (by lia)]
theorem N1 {ds:Za4}{d:Nat}:∀k,k<=ds.length->way (ds++[d]) k=way ds k
 |0,_=>rfl
 |k+1,h=>by
  show(way (ds++[d]) k).take (dAt (ds++[d]) k+1)++[(k:Int)]=_;rw[N1 k (by lia),Lr (by lia)];rfl
theorem eE {ds:Za4}{d:Nat}(h:Dok ds)(hd:d<=opn ds ds.length):Dok (ds++[d]):=λk hk=>by
 rw[c9] at hk;simp only[d8,f6] at hk
 by_cases e:k=ds.length
 ·subst e
  rw[Ot,Oa _ (db _)];exact hd
 ·rw[Lr (by lia),Oa k (by lia)]
  exact h k (by lia)
theorem W6 (ds:Za4)(d:Nat):Bh (ds++[d])=Bh ds++[(way ds ds.length).getD d 0]:=by
 unfold Bh;rw[c9];show(ed (ds.length+1)).map _=_;rw[ic,dj];congr 1
 ·refine i5 λk hk=>?_
  have hk:=ja.mp hk;unfold eld;rw[N1 k (by lia),Lr hk]
 ·show[eld (ds++[d]) ds.length]=_
  unfold eld;rw[N1 _ (db _),Ot]
theorem Y4 (ds:Za4)(d:Nat):way (ds++[d]) (ds.length+1)=(way ds ds.length).take (d+1)++[(ds.length:Int)]:=by
 show(way (ds++[d]) ds.length).take (dAt (ds++[d]) ds.length+1)++_=_;rw[N1 _ (db _),Ot]
theorem Zy {ds:Za4}(h:Dok ds){k:Nat}(hk:k<=ds.length):way ds k=-1::(way ds k).tail:=by
 have e:=Cu h k hk
 cases hw:way ds k with
 |nil=>rw[hw] at e;cases e
 |cons x r=>
  rw[hw] at e;obtain rfl:=de e;rfl
structure Lh (H H':Hp):Prop where
 keep:∀b u,(∀ps,u≠.tbl ps)->H b=some u->H' b=some u
 tb:∀b ps,H b=some (.tbl ps)->∃ps',H' b=some (.tbl ps')
theorem Lh.refl (H:Hp):Lh H H:=⟨λ_ _ _ e=>e,λ_ ps e=>⟨ps,e⟩⟩
theorem Lh.trans (a:Lh H H1)(b:Lh H1 H2):Lh H H2:=⟨λc u n e=>b.keep c u n (a.keep c u n e),λc ps e=>let ⟨ps',e'⟩:=a.tb c ps e;b.tb c ps' e'⟩
theorem sK (s:Aj H H'):Lh H H':=⟨λb u _ e=>s b u e,λb ps e=>⟨ps,s b _ e⟩⟩
theorem Lh.free (s:Lh H H'){l:df}(e:H' l=none):H l=none:=by
 cases q:H l with
 |none=>rfl
 |some o=>
  by_cases ho:∃ps,o=.tbl ps
  ·obtain⟨ps,rfl⟩:=ho
   obtain⟨ps',e2⟩:=s.tb l ps q;rw[e2] at e;cases e
  ·rw[s.keep l o (λps z=>ho ⟨ps,z⟩) q] at e;cases e
structure Tb where
 P:df
 pos:Pos
 qual:Str
def Tb.ok (t:Tb)(H:Hp):Prop:=Sk H t.P t.pos t.qual
theorem Tb.same {t:Tb}(s:Aj H H')(h:t.ok H):t.ok H':=by
 obtain⟨ps,e1,e2,e3⟩:=h;exact⟨ps,s _ _ e1,e2,e3.imp id λ⟨c,oc,a1,a2,a3⟩=>⟨c,oc,a1,s _ _ a2,a3⟩⟩
theorem Tb.sameX {t:Tb}{P:df}(s:Ri P H H')(hP:∃ps,H P=some (.tbl ps))(n:t.P≠P)(h:t.ok H):t.ok H':=by
 obtain⟨ps,e1,e2,e3⟩:=h;obtain⟨ps',hP⟩:=hP;exact⟨ps,s _ _ n e1,e2,e3.imp id λ⟨c,oc,a1,a2,a3⟩=>⟨c,oc,a1,s _ _ (λz=>by rw[z,hP] at a2;cases a2) a2,a3⟩⟩
theorem vG {P:df}(s:Ri P H H')(hP:∃ps,H P=some (.tbl ps))(hP':∃ps,H' P=some (.tbl ps)):Lh H H':=by
 refine⟨λb u n e=>s b u (λz=>?_) e,λb ps e=>?_⟩
 ·obtain⟨ps,hP⟩:=hP
  rw[z,hP] at e;cases e;exact n ps rfl
 ·by_cases hb:b=P
  ·rw[hb];exact hP'
  ·exact⟨ps,s b _ hb e⟩
theorem Tb.tbl {t:Tb}(h:t.ok H):∃ps,H t.P=some (.tbl ps):=let ⟨ps,e,_⟩:=h;⟨ps,e⟩
def Tbs (ts:List Tb)(H:Hp):Prop:=(∀t∈ts,t.ok H)/\(ts.map (·.P)).Nodup
structure SmT (ts:List Tb) (H H':Hp):Prop where
 sm:Lh H H'
 ok:Tbs ts H'
theorem Tbs.same (h:Tbs ts H)(s:Aj H H'):Tbs ts H':=⟨λt ht=>Tb.same s (h.1 t ht),h.2⟩
theorem SmT.of (h:Tbs ts H)(s:Aj H H'):SmT ts H H':=⟨sK s,h.same s⟩
theorem SmT.refl (h:Tbs ts H):SmT ts H H:=⟨Lh.refl _,h⟩
theorem SmT.trans (a:SmT ts H H1)(b:SmT ts H1 H2):SmT ts H H2:=⟨a.sm.trans b.sm,b.ok⟩
theorem SmT.then (a:SmT ts H H1)(b:Aj H1 H2):SmT ts H H2:=a.trans (.of a.ok b)
theorem SmT.k (s:SmT ts H H'){b:df}{u:HO}(h:H b=some u)(n:∀ps,u≠.tbl ps:=by intro ps e;cases e):H' b=some u:=s.sm.keep _ _ n h
theorem qI:∀{ts:List Tb} {t u:Tb},(ts.map (·.P)).Nodup->t∈ts->u∈ts->t.P=u.P->t=u
 |[],_,_,_,h,_,_=>nomatch h
 |x::r,t,u,hn,ht,hu,e=>by
  rw[jd,ow] at hn;rcases fu.mp ht with rfl|ht'<;>rcases fu.mp hu with rfl|hu'
  ·rfl
  ·exact absurd (l6 (f:=(·.P)) hu') (by rw[<-e];exact hn.1)
  ·exact absurd (l6 (f:=(·.P)) ht') (by rw[e];exact hn.1)
  ·exact qI hn.2 ht' hu' e
theorem qB {t:Tb}(h:Tbs ts H)(ht:t∈ts)(s:Ri t.P H H')(ok:t.ok H'):SmT ts H H':=by
 have hP:=Tb.tbl (h.1 t ht);refine⟨vG s hP (Tb.tbl ok),λu hu=>?_,h.2⟩
 by_cases e:u.P=t.P
 ·have:u=t:=qI h.2 hu ht e
  rw[this];exact ok
 ·exact Tb.sameX s hP e (h.1 u hu)
def bgn (ls:List (Za5))(j:Nat):Nat:=(ls.take j).flatten.length
theorem Tr (ls:List (Za5)):bgn ls 0=0:=rfl
theorem Hj (ls:List (Za5)):bgn ls ls.length=ls.flatten.length:=by unfold bgn;rw[lx]
theorem Eg {ls:List (Za5)}{j:Nat}{x:Za5}(h:ls[j]?=some x):bgn ls (j+1)=bgn ls j+x.length:=by
 unfold bgn;rw[gj,h,i6,c9];simp
theorem E2 {ls:List (Za5)}{i j:Nat}(h:i<=j):bgn ls i<=bgn ls j:=by
 unfold bgn;have e:ls.take i=(ls.take j).take i:=by rw[mz,gn h]
 have e2:=congrArg jg (congrArg si (ir i (ls.take j)));rw[<-e,i6,c9] at e2;lia
theorem fA (ls:List (Za5))(j:Nat):bgn ls j<=ls.flatten.length:=by
 by_cases h:j<=ls.length
 ·rw[<-Hj];exact E2 h
 ·unfold bgn
  rw[d5 (by lia)];exact db _
theorem pF (ls:List (Za5))(j:Nat):((ls.map jg).take j).sum=bgn ls j:=by
 unfold bgn;rw[yl,jx]
theorem Mt (ls:List (Za5))(j:Nat):(ls.drop j).flatten=ls.flatten.drop (bgn ls j):=by
 have e:=congrArg si (ir j ls);rw[i6] at e;rw[<-e];unfold bgn;rw[vf]
theorem Pd (ls:List (Za5))(j:Nat):(ls.take j).flatten=ls.flatten.take (bgn ls j):=by
 have e:=congrArg si (ir j ls);rw[i6] at e;rw[<-e];unfold bgn;rw[ph]
theorem sI (ls:List (Za5))(i j:Nat):bgn (ls.drop i) j=bgn ls (i+j)-bgn ls i:=by
 have e:ls.take (i+j)=ls.take i++(ls.drop i).take j:=by rw[oh]
 unfold bgn;rw[e,i6,c9];lia
theorem dJ (ls:List (Za5)){i j:Nat}(h:i<=j):((ls.drop i).take (j-i)).flatten=(ls.flatten.drop (bgn ls i)).take (bgn ls j-bgn ls i):=by
 rw[Pd,Mt,sI,show i+(j-i)=j by lia]
theorem tS (l:Za5){b e lo hi:Nat}(h1:b<=lo)(h2:lo<=hi)(h3:hi<=e):(((l.drop b).take (e-b)).drop (lo-b)).take (hi-lo)=(l.drop lo).take (hi-lo):=by
 rw[AR,mz,vg,show b+(lo-b)=lo by lia,gn (by lia)]
def pcM (L:Nat):Nat:=(L+127)/128
def Cg (L k:Nat):Nat:=k*L/pcM L
def pcs (l:Za5):List (Za5):=(ed (pcM l.length)).map λk=>(l.drop (Cg l.length k)).take (Cg l.length (k+1)-Cg l.length k)
theorem Vi (L:Nat):Cg L 0=0:=by unfold Cg;rw[Nat.zero_mul,xk]
theorem T4 {L:Nat}(h:0<L):Cg L (pcM L)=L:=by
 unfold Cg;exact kz L (by unfold pcM;lia)
theorem Mv {L i j:Nat}(h:i<=j):Cg L i<=Cg L j:=ou (Nat.mul_le_mul_right L h)
theorem uS {L k:Nat}(h:k<=pcM L):Cg L k<=L:=by
 by_cases h0:L=0
 ·subst h0;unfold Cg;rw[CH,xk];exact e9 _
 ·have:=Mv (L:=L) h
  rw[T4 (by lia)] at this;exact this
theorem O6 {L k:Nat}(h:0<L):Cg L k+1<=Cg L (k+1)/\Cg L (k+1)<=Cg L k+128:=by
 have hm:0<pcM L:=by unfold pcM;lia
 have h1:pcM L<=L:=by unfold pcM;lia
 have h2:L<=pcM L*128:=by unfold pcM;lia
 unfold Cg
 constructor
 ·rw[Nat.le_div_iff_mul_le hm,yi,DZ,xl]
  have:=Nat.div_mul_le_self (k*L) (pcM L);lia
 ·have h3:(k+1)*L<=k*L+128*pcM L:=by rw[xl];lia
  have:=ou (c:=pcM L) h3;rw[qq _ _ hm] at this;exact this
theorem qD {L k:Nat}(h:2<=pcM L):Cg L k+64<Cg L (k+2):=by
 have hm:0<pcM L:=by lia
 have h2:66*pcM L<=2*L:=by unfold pcM at h ⊢;lia
 have e:(k+2)*L=k*L+2*L:=by rw[yi]
 have h3:k*L+65*pcM L<=(k+2)*L:=by lia
 unfold Cg;have:=ou (c:=pcM L) h3;rw[qq _ _ hm] at this;lia
theorem E9 (l:Za5):(pcs l).length=pcM l.length:=by unfold pcs;rw[c8,fj]
theorem Pu {l:Za5}{k:Nat}(h:k<pcM l.length):(pcs l)[k]?=some ((l.drop (Cg l.length k)).take (Cg l.length (k+1)-Cg l.length k)):=by
 unfold pcs;rw[dg,ia h];rfl
theorem Mi {l:Za5}{k:Nat}(h:k<pcM l.length):((l.drop (Cg l.length k)).take (Cg l.length (k+1)-Cg l.length k)).length=Cg l.length (k+1)-Cg l.length k:=by
 have:=uS (L:=l.length) (k:=k+1) h;rw[dh,fh];lia
def Fk (ls:List (Za5)):Prop:=∀(k:Nat) (x:Za5),ls[k]?=some x->0<x.length/\x.length<=128
theorem jN {L k:Nat}(h:k<pcM L):0<L:=by unfold pcM at h;lia
theorem W5 (l:Za5):Fk (pcs l):=λk x h=>by
 have hk:=(d6.mp h).1;rw[E9] at hk;rw[Pu hk] at h;obtain rfl:=de h;rw[Mi hk];have:=O6 (k:=k) (jN hk);lia
theorem jY (l:Za5):∀k,k<=pcM l.length->((pcs l).take k).flatten=l.take (Cg l.length k)
 |0,_=>by rw[Vi];rfl
 |k+1,h=>by
  rw[gj,Pu (by lia),i6,jY l k (by lia)];have hm:=Mv (L:=l.length) (show k<=k+1 by lia);show _++([_]:List (Za5)).flatten=_;rw[xa];have:Cg l.length (k+1)=Cg l.length k+(Cg l.length (k+1)-Cg l.length k):=by lia
  conv=>rhs;rw[this,oh]
theorem Uk (l:Za5):(pcs l).flatten=l:=by
 have:=jY l (pcM l.length) (db _);rw[d5 (by rw[E9];exact db _)] at this;rw[this]
 by_cases h:l.length=0
 ·rw[gp h];rfl
 ·rw[T4 (by lia),lx]
def Gb (ls:List (Za5)):Prop:=∀(k:Nat) (x y:Za5),ls[k]?=some x->ls[k+1]?=some y->64<x.length+y.length
theorem dX (l:Za5):Gb (pcs l):=λk x y h1 h2=>by
 have hk:=(d6.mp h2).1;rw[E9] at hk;rw[Pu (by lia)] at h1;rw[Pu hk] at h2;obtain rfl:=de h1;obtain rfl:=de h2;rw[Mi (by lia),Mi hk];have:=qD (L:=l.length) (k:=k) (by lia);have:=Mv (L:=l.length) (show k<=k+1 by lia);have:=Mv (L:=l.length) (show k+1<=k+1+1 by lia);rw[show k+1+1=k+2 by lia] at *;lia
def Kp (H H':Hp):Prop:=∀b u,(∀ps,u≠HO.tbl ps)->H b=some u->H' b=some u
theorem Aj.kp (s:Aj H H'):Kp H H':=λb u _ e=>s b u e
theorem SmT.kp (s:SmT ts H H'):Kp H H':=λb u n e=>s.sm.keep b u n e
theorem Kp.k (s:Kp H H'){b:df}{u:HO}(h:H b=some u)(n:∀ps,u≠.tbl ps:=by intro ps e;cases e):H' b=some u:=s b u n h
inductive lN (K:da)(ts:List Tb)(vs:List V)(H:Hp)(Q:VK)(E:XK):Prop|mk(a:df)(ns:List Int)(_:vs=[.ref a])(_:SqL K H a (ns.map V.int))(_:ns.length<=63)(_:Tbs ts H)(_:∀H',Q (.bl true) H')
abbrev tz:List Tb:=[⟨771,F7,"PiecedRow.opening.<locals>.<lambda>"⟩,⟨776,Ez,"PiecedRow.stretch_at.<locals>.<lambda>"⟩,⟨790,Fl,"PiecedRow.pieces_to.<locals>.<lambda>"⟩]
abbrev AllMk:Prop:=∀{l:sx} {w:ge} {K:da} {h:gv} {mg:Za2} {fa:df} (X:K.In h) (G:h.Ns mainGlobals mg) (hfa:mg "law"=some (.ref fa))
  {ac:df}
  {aa:df}
  {ad:df}
  {bj:df}
  {bn:df}
  {f22:df} {od22 an22:Option df} {sl22:Array (Za7)} {oc22 kV22 dc22 pm22 ct22:d0}
  {oo22:Obj}
  {f23:df} {od23 an23:Option df} {sl23:Array (Za7)} {oc23 kV23 dc23 pm23 ct23:d0}
  {oo23:Obj}
  {f30:df} {od30 an30:Option df} {sl30:Array (Za7)} {oc30 kV30 dc30 pm30 ct30:d0}
  {oo30:Obj}
  {t_MOST_KNOTS:Tok}
  {t_MOST_SIGNS_pairs:Tok}
  {t_MOST_SIGNS_woods:Tok}
  {t_PIECE_SIGNS:Tok}
  {t_ENOUGH_SIGNS:Tok}
  {ah:df}
  (cd_Piece:CD K ac "Piece")
  (fd_Piece:FD K ac ["signs","kept_sums","greatest","often_least"])
  (cd_PiecedRow:CD K aa "PiecedRow")
  (fd_PiecedRow:FD K aa ["kept_pieces","begins","knots_ahead","length","kept_table","often_least"])
  (cd_Shaped:CD K ad "Shaped")
  (fd_Shaped:FD K ad ["pairs","earlier"])
  (bc_Heights:BC K bj "Heights")
  (bc_Openings:BC K bn "Openings")
  (g0:GD K "is_whole" Nh)
  (g1:GD K "is_within" Lv)
  (g2:GD K "check_place" Jf)
  (g3:GD K "check_knot" Kr)
  (g4:GD K "check_height" Ib)
  (g5:GD K "check_from_nought" Ew)
  (g6:GD K "first_that" K5)
  (g7:GD K "running_sums" Id)
  (g8:GD K "heights_of" K8)
  (g9:GD K "sums_of" O1)
  (g10:BD K bj "__init__" "Heights.__init__" Hs)
  (g11:MD K aa "size" "Heights.size" Ic)
  (g12:GD K "check_row" Lq)
  (g13:GD K "look_at" Pn)
  (g14:GD K "depths_of" Mg)
  (g15:GD K "row_of" T9)
  (g16:GD K "elders_of" Mb)
  (g17:BD K bn "__init__" "Openings.__init__" Hb)
  (g18:MD K ad "many_knots" "Openings.many_knots" Dy)
  (g19:MD K ac "__init__" "Piece.__init__" Kl)
  (g20:GD K "pieces_of" Gz)
  (g21:MD K aa "__init__" "PiecedRow.__init__" B3)
  (i22:oq K (.ref f22)=true)
  (a22:i8 K (.ref aa) "stretch_at"=some (some (.ref f22))) (l22:K.lookup f22=some ⟨oc22,od22,.func (jh "stretch_at" "PiecedRow.stretch_at" (C7 Br) (Ch Br) (Ae Br) .none kV22 dc22 pm22 an22 (.ref 780) ct22),sl22⟩) (c22:kg K (.ref 780) "PiecedRow.stretch_at"=true) (k22:jf K (.ref f22)=true)
  (lc22:K.lookup 780=some oo22) (hc22:Kh oo22 780 776)
  (i23:oq K (.ref f23)=true)
  (a23:i8 K (.ref aa) "pieces_to"=some (some (.ref f23))) (l23:K.lookup f23=some ⟨oc23,od23,.func (jh "pieces_to" "PiecedRow.pieces_to" (C7 Bv) (Ch Bv) (Ae Bv) .none kV23 dc23 pm23 an23 (.ref 794) ct23),sl23⟩) (c23:kg K (.ref 794) "PiecedRow.pieces_to"=true) (k23:jf K (.ref f23)=true)
  (lc23:K.lookup 794=some oo23) (hc23:Kh oo23 794 790)
  (g24:MD K aa "stretch" "PiecedRow.stretch" C6)
  (g25:MD K aa "text" "Heights.text" Ig)
  (g26:MD K aa "opens_ahead" "PiecedRow.opens_ahead" Dc)
  (g27:MD K aa "height" "Heights.height" Gf)
  (g28:MD K aa "is_opening" "PiecedRow.is_opening" Dk)
  (g29:MD K aa "begin_of" "PiecedRow.begin_of" Ei)
  (i30:oq K (.ref f30)=true)
  (a30:i8 K (.ref aa) "opening"=some (some (.ref f30))) (l30:K.lookup f30=some ⟨oc30,od30,.func (jh "opening" "PiecedRow.opening" (C7 Bt) (Ch Bt) (Ae Bt) .none kV30 dc30 pm30 an30 (.ref 773) ct30),sl30⟩) (c30:kg K (.ref 773) "PiecedRow.opening"=true) (k30:jf K (.ref f30)=true)
  (lc30:K.lookup 773=some oo30) (hc30:Kh oo30 773 771)
  (g31:MD K aa "parts" "Heights.parts" E8)
  (g32:MD K aa "may_meet" "Heights.may_meet" Fd)
  (g33:MD K aa "heights_within" "Heights.heights_within" C5)
  (g34:MD K aa "next_within" "Heights.next_within" Ea)
  (g35:MD K aa "next_at" "Heights.next_at" Fz)
  (g36:MD K aa "last_within" "Heights.last_within" Dz)
  (g37:MD K aa "last_at" "Heights.last_at" Ft)
  (g38:MD K aa "partner" "Heights.partner" F4)
  (g39:MD K aa "is_stretch" "Heights.is_stretch" Ef)
  (g40:MD K aa "often_within" "Heights.often_within" Du)
  (g41:MD K aa "nth_within" "Heights.nth_within" Cv)
  (g42:MD K aa "many_level" "Heights.many_level" Cs)
  (g43:MD K aa "nth_level" "Heights.nth_level" Ex)
  (g44:MD K ad "row" "Openings.row" Ih)
  (g45:MD K ad "elders" "Openings.elders" F6)
  (g46:MD K ad "opening" "Openings.opening" Fc)
  (g47:MD K ad "closing" "Openings.closing" Fi)
  (g48:MD K ad "many" "Openings.many" G5)
  (g49:MD K ad "many_tops" "Openings.many_tops" Ej)
  (g50:MD K ad "knot_at" "Openings.knot_at" Fa)
  (g51:MD K ad "depth" "Openings.depth" Gi)
  (g52:MD K ad "up" "Openings.up" Jh)
  (g53:MD K ad "elder" "Openings.elder" Gm)
  (g54:MD K ad "beneath" "Openings.beneath" Fe)
  (g55:MD K ad "first" "Openings.first" Gj)
  (g56:MD K ad "last" "Openings.last" G9)
  (g57:MD K ad "right" "Openings.right" Gp)
  (g58:MD K ad "left" "Openings.left" G7)
  (g59:MD K ad "child" "Openings.child" Gn)
  (g60:MD K ad "nth" "Wood.nth" Nq)
  (g61:MD K aa "replaced" "PiecedRow.replaced" Ek)
  (g62:MD K ad "__init__" "Shaped.__init__" Jd)
  (g63:MD K ad "replace_signs" "Shaped.replace_signs" Di)
  (g64:MD K ad "cut" "Shaped.cut" Kx)
  (g65:MD K ad "graft" "Shaped.graft" Ht)
  (g66:MD K ad "take_back" "Shaped.take_back" Fb)
  (g67:GD K "_law_cell_at" Je)
  (g68:GD K "_law_mixed" Ml)
  (g69:GD K "_law_digits" Ko)
  (g70:GD K "_law_wood" Ni)
  (g71:GD K "_law_row" Oz)
  (g72:GD K "_law_end" Pz)
  (g73:GD K "_law_part" Kn)
  (g74:GD K "_law_without" Gy)
  (g75:GD K "_law_spot" Kz)
  (g76:GD K "_law_with" Hx)
  (g77:GD K "_law_answers" Gw)
  (g78:GD K "_law_told" Nr)
  (g79:GD K "_law_same" Nl)
  (g80:GD K "_law_own" O4)
  (g81:GD K "_law_by_number" He)
  (g82:GD K "_law_none_left" Hf)
  (g83:GD K "_law_deed" K9)
  (g84:GD K "law" U9)
  (cx:gz K mainGlobals "MOST_KNOTS"=some (some (.int 4000 t_MOST_KNOTS)))
  (cB:gz K mainGlobals "MOST_SIGNS_pairs"=some (some (.int 8192 t_MOST_SIGNS_pairs)))
  (cD:gz K mainGlobals "MOST_SIGNS_woods"=some (some (.int 8000 t_MOST_SIGNS_woods)))
  (cy:gz K mainGlobals "PIECE_SIGNS"=some (some (.int 128 t_PIECE_SIGNS)))
  (cC:gz K mainGlobals "ENOUGH_SIGNS"=some (some (.int 64 t_ENOUGH_SIGNS)))
  (z_range:gz K mainGlobals "range"=some none)
  (z_len:gz K mainGlobals "len"=some none)
  (z_int:gz K mainGlobals "int"=some none)
  (z_bool:gz K mainGlobals "bool"=some none)
  (z_str:gz K mainGlobals "str"=some none)
  (z_isinstance:gz K mainGlobals "isinstance"=some none)
  (z_list:gz K mainGlobals "list"=some none)
  (z_tuple:gz K mainGlobals "tuple"=some none)
  (z_zip:gz K mainGlobals "zip"=some none)
  (z_enumerate:gz K mainGlobals "enumerate"=some none)
  (z_abs:gz K mainGlobals "abs"=some none)
  (z_max:gz K mainGlobals "max"=some none)
  (z_min:gz K mainGlobals "min"=some none)
  (z_sum:gz K mainGlobals "sum"=some none)
  (z_reversed:gz K mainGlobals "reversed"=some none)
  (z_ValueError:gz K mainGlobals "ValueError"=some none)
  (eg_NoDeed:gz K mainGlobals "NoDeed"=some (some (.ref ah)))
  (ex_NoDeed:excIn K ah tG "ValueError.__new__"=true)
  (xk_NoDeed:Zk K ah)
  (cF:ui K (.ref ah) (.ref ah)=some true)
  (cE:KL K ah [(.type "ValueError",true)]),
   ∃fd:io,(∀(s:d4) (v:d0),xg s fd ⟨[v],[]⟩ [("_law_script",v)])/\∀base:gv,K.In base->base.Ns mainGlobals mg->(∀q∈([(773,771),(780,776),(794,790)]:List (df×df)),base.BuiltinsAt mg q.2)->Ba l.prog w K mg base CX0 17 fa fd ["_law_script"] (lN K tz)
theorem walk {l:sx}{q:fc}{loose:Za6}{XP:(Za2)->gv->Prop}{YP:ge->gv->Prop}{d:EN}{K:vt->da}(hn:l.most=some 63)(hdf:d.params.defaults=[])
  (hY:∀(w:ge) (h:gv),YP w h->(K w.params).In h)(hTb:∀(w:ge) (h:gv),YP w h->uj [(773,771),(780,776),(794,790)] h)(hTK:∀w:ge,∀p∈([(773,771),(780,776),(794,790)]:List (df×df)),(K w.params).lookup p.2=none)
  (F:∀(w:ge) (mg:Za2) (fa:df) (h:gv),(K w.params).In h->h.Ns mainGlobals mg->mg d.name=some (.ref fa) ->
   ∃fd:io,(∀(s:d4) (u:d0),xg s fd ⟨[u],[]⟩ [("_law_script",u)])/\∀base:gv,(K w.params).In base->base.Ns mainGlobals mg->(∀q∈([(773,771),(780,776),(794,790)]:List (df×df)),base.BuiltinsAt mg q.2)->Ba l.prog w (K w.params) mg base CX0 17 fa fd ["_law_script"] (lN (K w.params) tz)) :
  zm q loose XP YP l.row.toRowW d [] (λf vs=>yg f vs):=
 L2.mX (n:=63) (k:=17) (x:="_law_script") (tabs:=[(773,771),(780,776),(794,790)]) (CX:=λ_=>CX0) (sp:=λw=>(lN (K w.params) tz)) hn (by decide) hdf ⟨rfl,by decide,by decide⟩ hY hTb hTK F (λ_ _ a ns hl hO hS=>⟨a,ns,rfl,hS,hl,⟨jc.mpr ⟨⟨#[],hO (773,771) (by simp),trivial,.inl rfl⟩,jc.mpr ⟨⟨#[],hO (780,776) (by simp),trivial,.inl rfl⟩,jc.mpr ⟨⟨#[],hO (794,790) (by simp),trivial,.inl rfl⟩,λ_ h=>nomatch h⟩⟩⟩,by decide⟩,λ_=>rfl⟩) λ_ _ _ _ _ z=>z
end TK
end
section
noncomputable def PySem.W.Fast.tw1298593609850625163:AL:=f7
theorem PySem.W.Fast.te1298593609850625163:f7=PySem.W.Fast.tw1298593609850625163:=rfl
noncomputable def HD.loose:List ze:=[du "_wall",du "WoodError",du "NoPlace",du "NoRow",du "NoWood",du "NoKnot",du "NoGraft",du "TooLarge",du "NoDeed",du "is_whole",du "is_within",du "check_place",du "check_from_nought",du "check_knot",du "first_that",du "running_sums",du "heights_of",du "check_height",du "Heights",du "MOST_SIGNS_pairs",du "check_row",du "MOST_KNOTS",du "MOST_SIGNS_woods",du "look_at",du "row_of",du "elders_of",du "depths_of",du "Wood",du "Openings",du "PIECE_SIGNS",du "ENOUGH_SIGNS",du "sums_of",du "pieces_of",du "Piece",du "PiecedRow",du "Shaped",du "_law_cell_at",du "_law_whole",du "_law_mixed",du "_law_digits",du "_law_wood",du "_law_row",du "_law_answers",du "_law_told",du "_law_end",du "_law_part",du "_law_without",du "_law_spot",du "_law_with",du "_law_same",du "_law_none_left",du "_law_own",du "_law_by_number",du "_law_deed"]
def HD.LD:PySem.DefRec:=HD.recOf (f7.main.body.getD 64 (.Pass ⟨0,0,0,0⟩))
def HD.VQ:AL:=PySem.W.view f7 [64]
theorem HD.A_ok (w:BL):(λos=>HD.oneA (HD.bootT w os) (PySem.W.boot_heap w.params) HD.bootSize f7 100000 w)=(λ_=>some true):=by rw[HD.oneA_eq];kernel_rfl
theorem HD.B_ok (w:BL):(λos=>HD.oneB (HD.bootT w os) HD.bootSize f7 HD.VQ HD.loose 100000 w)=(λ_=>some (PySem.W.openGood HD.VQ HD.loose)):=by rw[HD.oneB_eq];kernel_rfl
set_option hygiene false in
local macro_rules | `(tactic| o_head $H)=>`(tactic| (refine PySem.W.holds_open (q:=HD.VQ) (loose:=HD.loose) (d:=HD.LD) (kwd:=[]) (Xt:=λ_=>true) (XP:=λ_ _=>True) (Yf:=we $H) (Ya:=wc $H) (YP:=DE $H) (N:=100000) (HD.left_of3 (p:=f7) (q:=HD.VQ) (loose:=HD.loose) (Yf:=we $H) (Ya:=wc $H) (N:=100000) (M:=100000) (by kernel_rfl) (λ_=>by kernel_rfl) (by kernel_rfl) (by kernel_rfl) HD.A_ok HD.B_ok (HD.hC_km (λw=>by rw [HD.oneP_eq];kernel_rfl))) (DF $H) (DG $H) (λ_ _=>trivial) (λ_ _ _ _ _=>trivial) (by kernel_rfl) (by kernel_rfl) (by kernel_rfl) (λ_ _=>PySem.W.recFacts_nil rfl) rfl (by assumption) (by decide +kernel) ⟨rfl,rfl,rfl,rfl,rfl,by decide +kernel⟩ ?_ ?_))
open PySem PySem.W PyProof.Rows
set_option maxRecDepth 100000 in
set_option maxHeartbeats 0 in
theorem TK.HEAD (AM:TK.AllMk):j5.Holds:=by
 w_on;o_law;k_head
 ·w_witness2
 k_fill
 refine TK.walk (l:=j5) rfl (by kernel_rfl) (λw h Y=>xi Y) (λw h Y=>jc.mpr ⟨⟨qp (c:=773) (P:=771) (xi Y) (by kernel_rfl),qy Y 771 (by simp)⟩,jc.mpr ⟨⟨qp (c:=780) (P:=776) (xi Y) (by kernel_rfl),qy Y 776 (by simp)⟩,jc.mpr ⟨⟨qp (c:=794) (P:=790) (xi Y) (by kernel_rfl),qy Y 790 (by simp)⟩,λ_ h=>nomatch h⟩⟩⟩) (λw=>jc.mpr ⟨by kernel_rfl,jc.mpr ⟨by kernel_rfl,jc.mpr ⟨by kernel_rfl,λ_ h=>nomatch h⟩⟩⟩) ?F
 case F=>
  intro w mg fa h KX G hmg;refine' AM KX G hmg ?cd_Piece ?fd_Piece ?cd_PiecedRow ?fd_PiecedRow ?cd_Shaped ?fd_Shaped ?bc_Heights ?bc_Openings ?g0 ?g1 ?g2 ?g3 ?g4 ?g5 ?g6 ?g7 ?g8 ?g9 ?g10 ?g11 ?g12 ?g13 ?g14 ?g15 ?g16 ?g17 ?g18 ?g19 ?g20 ?g21 ?i22 ?a22 ?l22 ?c22 ?k22 ?lc22 ?hc22 ?i23 ?a23 ?l23 ?c23 ?k23 ?lc23 ?hc23 ?g24 ?g25 ?g26 ?g27 ?g28 ?g29 ?i30 ?a30 ?l30 ?c30 ?k30 ?lc30 ?hc30 ?g31 ?g32 ?g33 ?g34 ?g35 ?g36 ?g37 ?g38 ?g39 ?g40 ?g41 ?g42 ?g43 ?g44 ?g45 ?g46 ?g47 ?g48 ?g49 ?g50 ?g51 ?g52 ?g53 ?g54 ?g55 ?g56 ?g57 ?g58 ?g59 ?g60 ?g61 ?g62 ?g63 ?g64 ?g65 ?g66 ?g67 ?g68 ?g69 ?g70 ?g71 ?g72 ?g73 ?g74 ?g75 ?g76 ?g77 ?g78 ?g79 ?g80 ?g81 ?g82 ?g83 ?g84 ?cx ?cB ?cD ?cy ?cC ?z_range ?z_len ?z_int ?z_bool ?z_str ?z_isinstance ?z_list ?z_tuple ?z_zip ?z_enumerate ?z_abs ?z_max ?z_min ?z_sum ?z_reversed ?z_ValueError ?eg_NoDeed ?ex_NoDeed ?xk_NoDeed ?cF ?cE
  (case eg_NoDeed=>k_is)
  (case cd_Piece|cd_PiecedRow|cd_Shaped|bc_Heights|bc_Openings=>refine' ⟨?_,?_,?_⟩<;>try k_is)
  (case fd_Piece|fd_PiecedRow|fd_Shaped=>refine' L2.fD ?_ ?_ ?_ ?_ ?_<;>try first|k_is|kernel_rfl)
  (case g0|g1|g2|g3|g4|g5|g6|g7|g8|g9|g12|g13|g14|g15|g16|g20|g67|g68|g69|g70|g71|g72|g73|g74|g75|g76|g77|g78|g79|g80|g81|g82|g83|g84=>refine' L2.gD ?_ ?_ ?_ ?_<;>try k_is)
  (case g11|g18|g19|g21|g24|g25|g26|g27|g28|g29|g31|g32|g33|g34|g35|g36|g37|g38|g39|g40|g41|g42|g43|g44|g45|g46|g47|g48|g49|g50|g51|g52|g53|g54|g55|g56|g57|g58|g59|g60|g61|g62|g63|g64|g65|g66=>refine' L2.mD ?_ ?_ ?_ ?_ ?_<;>try k_is)
  (case g10|g17=>refine' L2.bD ?_ ?_ ?_ ?_<;>try k_is)
  (case xk_NoDeed=>refine' ⟨?_,?_,?_,?_,?_,?_,?_⟩<;>k_is)
  (case cE=>(repeat' refine And.intro ?_ ?_)<;>first|kit_is|exact trivial)
  (case ex_NoDeed=>k_exc)
  (case cF=>kts_exm)
  (case cx|cB|cD|cy|cC|z_range|z_len|z_int|z_bool|z_str|z_isinstance|z_list|z_tuple|z_zip|z_enumerate|z_abs|z_max|z_min|z_sum|z_reversed|z_ValueError|a22|l22|c22|k22|i22|lc22=>k_is)
  (case hc22=>exact⟨_,_,_,_,_,_,_,_,rfl,rfl,rfl,rfl,rfl,rfl,rfl,rfl,by decide⟩)
  (case a23|l23|c23|k23|i23|lc23=>k_is)
  (case hc23=>exact⟨_,_,_,_,_,_,_,_,rfl,rfl,rfl,rfl,rfl,rfl,rfl,rfl,by decide⟩)
  (case a30|l30|c30|k30|i30|lc30=>k_is)
  (case hc30=>exact⟨_,_,_,_,_,_,_,_,rfl,rfl,rfl,rfl,rfl,rfl,rfl,rfl,by decide⟩)
end
section
set_option hygiene false in
local macro_rules | `(tactic| exists $x)=>`(tactic| (refine $x (λvs H Q E h=>?_) (λcdv A outer s H vs Q E hr h=>?_);focus(first|(cases h;subst_vars;rfl)|(obtain⟨_,h⟩:=h;cases h;subst_vars;rfl))))
set_option hygiene false in
local macro_rules | `(tactic| walk_at "rd")=>`(tactic| repeat (first | (with_reducible first|refine Abz ?_|refine yU ?_|refine Abi ?_|refine tP ?_|refine Aax ?_|refine r_retN ?_|refine yA ?_|refine Abf ?_|refine yI ?_|refine Adb ?_|refine Ab3 ?_|refine Aa1 ?_|refine Acs ?_|refine Acf ?_|refine yE ?_|refine Acq ?_|refine Ac8 ?_|refine Ach ?_|refine r_c ?_|refine Abv ?_|refine Abs ?_|refine Ac6 ?_|refine Aas ?_|refine Aa3 ?_|refine Aaa ?_|refine xS ?_|refine Ac1 ?_|refine Aar ?_|refine Ab8 ?_|refine Ac5 ?_|refine Aap ?_|refine Act ?_|refine pK ?_|refine zX ?_|refine Abj ?_|refine zG ?_|refine zH ?_|refine r_rng3 ?_|refine tU ?_|refine r_itup ?_|refine zJ ?_|refine Ac2 ?_|refine Acb ?_|refine Aau ?_|refine uY ?_|refine yX ?_|refine r_orV ?_|refine zU ?_|refine Abk ?_|refine yZ ?_|refine zS ?_|refine zA ?_|refine r_rev ?_|refine Ab2 ?_|refine yL ?_|refine uL ?_|refine Abt ?_|refine rW ?_|refine zO ?_|refine uC ?_|refine Abp ?_|refine yK ?_|refine yT ?_|refine zN ?_|refine tZ ?_|refine uK ?_|refine xG (by decide) ?_|refine r_shr (by decide) ?_|refine wS (by decide) (by decide) ?_|refine Ue (by decide) (by decide) ?_|refine fR (by decide) (by decide) ?_|refine Aby rfl ?_|refine Aaw rfl ?_|refine Aco ?_|refine Acm ?_|refine Aa0 ?_|refine Ab0 ?_) | refine Aa8 rfl ?_ | refine Ab4 rfl ?_ | dsimp only))
namespace TK
open PySem L2 TW
variable {C CS Pt dx i1 i2 it kl l1 l2 pa z:df} {params:kj} {A:gt} {CX:CXT} {op:rf} {X:Cx} {env:Env} {tg:gd} {fd:io} {base h h' h1:gv} {H H' H1 H2:Hp} {J:It} {pins:Za1} {as fp:List df} {outer:List Env} {elts:List gd} {ns:List Int} {ix:Za4} {N ps:Za6} {ts:List Tb} {xs ys:List V} {us vs:Za3} {M:qr} {off t':Nat} {oT:Obj} {od:Option df} {pos:Pos} {scope:kr} {pl:Sem Bool} {s s2:d4} {sp:Sp} {st:gm} {qual:Str} {tk:TA} {te:TE} {wi:TI} {y:V} {pm:d0} {w:ge}
local macro_rules | `(tactic| k_is)=>`(tactic| walk_at "rd")
local macro_rules | `(tactic| apply $t)=>`(tactic| (k_is;refine $t))
structure Qc (K:da) (C:df):Prop where
 cl:Cls K C
 cN:Cn K C "signs"
 cQ:Cn K C "kept_sums"
 cU:Cn K C "greatest"
 cI:Cn K C "often_least"
structure Qa (K:da) (C:df):Prop where
 cl:Cls K C
 cw:Cn K C "kept_pieces"
 cr:Cn K C "begins"
 cH:Cn K C "knots_ahead"
 cz:Cn K C "length"
 cS:Cn K C "kept_table"
 cI:Cn K C "often_least"
structure Qb (K:da) (C:df):Prop where
 cl:Cls K C
 cq:Cn K C "pairs"
 cL:Cn K C "earlier"
structure Txt (P:fc) (w:ge) (base:gv) (ts:List Tb) (K:da) (mg:Za2) (ah:df):Prop where
 cV:mg "NoDeed"=some (.ref ah)
 c6:Exc K mg "NoDeed" ah
 cX:Zk K ah
 cF:ui K (.ref ah) (.ref ah)=some true
 cE:KL K ah [(.type "ValueError",true)]
 cx:∃t,mg "MOST_KNOTS"=some (.int 4000 t)
 cB:∃t,mg "MOST_SIGNS_pairs"=some (.int 8192 t)
 cD:∃t,mg "MOST_SIGNS_woods"=some (.int 8000 t)
 cy:∃t,mg "PIECE_SIGNS"=some (.int 128 t)
 cC:∃t,mg "ENOUGH_SIGNS"=some (.int 64 t)
 cu:mg "range"=none
 cp:mg "len"=none
 cA:mg "int"=none
 cY:mg "bool"=none
 n_str:mg "str"=none
 cJ:mg "isinstance"=none
 cG:mg "list"=none
 n_tuple:mg "tuple"=none
 cM:mg "zip"=none
 cO:mg "enumerate"=none
 cR:mg "abs"=none
 cT:mg "max"=none
 cK:mg "min"=none
 n_sum:mg "sum"=none
 cW:mg "reversed"=none
 cZ:mg "ValueError"=none
section
variable {P:fc} {w:ge} {K:da} {mg:Za2} {base:gv} {ac aa ad ah:df} {f:df} {fd:io} {ts:List Tb}
seal PE PA PT PW PS PSs PI PG
inductive dF(vs:List V)(H:Hp)(Q:VK)(E:XK):Prop|mk(i:Int)(_:vs=[.int i])(_:Q (.bl true) H)
variable (T:Txt P w base ts K mg ah)
include T in
theorem Y3 (F:Fun K "is_whole" "is_whole" Nh f fd):Ba P w K mg base CX0 1 f fd ["thing"] dF:=by
 exists F.ok Zd
 obtain⟨i,rfl,q⟩:=h;refine⟨_,(Ad (Am (Uj (Ar Iw (by rfl) T.cJ F5 (tpa (pv 0) (tpa (Ol (v:=.ty "int") rfl T.cA Ts rfl) Aa))) (T6 (Aaf (Ar Iw (by rfl) T.cJ F5 (tpa (pv 0) (tpa (Ol (v:=.ty "bool") rfl T.cY xT rfl) Aa)))))))),?_⟩;apply⟨_,_,_,_,rfl,.int _,Yx,?_⟩;apply⟨_,_,_,_,rfl,.int _,Xp,?_⟩;k_is;exact q
inductive W7(vs:List V)(H:Hp)(Q:VK)(E:XK):Prop|mk(x lo hi:Int)(_:vs=[.int x,.int lo,.int hi])(_:lo<=x)(_:x<=hi)(_:Q (.bl true) H)
variable (av:Cal P w K mg base "is_whole" 1 ["thing"] dF)
include T av in
theorem X0 (F:Fun K "is_within" "is_within" Lv f fd):Ba P w K mg base CX0 2 f fd ["thing","low","high"] W7:=by
 exists F.ok X2
 obtain⟨x,lo,hi,rfl,h1,h2,q⟩:=h;refine⟨_,(Ad (Am (Uj (Bn av hr.m (tpa (pv 0) Aa)) (T6 (Z5 Y1 Y1 (pv 1) (pv 0) (pv 2)))))),?_⟩;apply⟨x,rfl,?_⟩;apply B0 (λ_=>?_) (λh=>absurd h1 h);k_is;rw[decide_eq_true h2];exact q
inductive eF(vs:List V)(H:Hp)(Q:VK)(E:XK):Prop|mk(n g:Int)(_:vs=[.int n,.int g])(_:0<=n)(_:n<=g)(_:Q .non H)
variable (az:Cal P w K mg base "is_within" 2 ["thing","low","high"] W7)
include T az in
theorem Su (F:Fun K "check_place" "check_place" Jf f fd):Ba P w K mg base CX0 3 f fd ["place","greatest"] eF:=by
 exists F.ok Uf
 obtain⟨n,g,rfl,h0,h1,q⟩:=h;refine⟨_,(Ad (B2 (Hw (C4 (Bn az hr.m (tpa (pv 0) (tpa Ag (tpa (pv 1) Aa)))))) (Ad C8)
  Bf)),?_⟩
 apply⟨n,0,g,rfl,h0,h1,?_⟩;k_is;exact q
inductive jZ(vs:List V)(H:Hp)(Q:VK)(E:XK):Prop|mk(n g:Int)(_:vs=[.int n,.int g])(_:0<=n)(_:n<g)(_:Q .non H)
include T az in
theorem Uq (F:Fun K "check_knot" "check_knot" Kr f fd):Ba P w K mg base CX0 3 f fd ["k","many_knots"] jZ:=by
 exists F.ok Ut
 obtain⟨n,g,rfl,h0,h1,q⟩:=h;refine⟨_,(Ad (B2 (Hw (C4 (Bn az hr.m (tpa (pv 0) (tpa Ag (tpa (Ak B7 (pv 1) Ag) Aa)))))) (Ad C8)
  Bf)),?_⟩
 apply⟨n,0,g-1,rfl,h0,by lia,?_⟩;k_is;exact q
inductive tI(vs:List V)(H:Hp)(Q:VK)(E:XK):Prop|mk(i:Int)(_:vs=[.int i])(_:Q .non H)
include T av in
theorem Rs (F:Fun K "check_height" "check_height" Ib f fd):Ba P w K mg base CX0 3 f fd ["height"] tI:=by
 exists F.ok Rt
 obtain⟨i,rfl,q⟩:=h;refine⟨_,(Ad (B2 (Hw (C4 (Bn av hr.m (tpa (pv 0) Aa)))) (Ad C8)
  Bf)),?_⟩
 apply⟨i,rfl,?_⟩;k_is;exact q
inductive iZ(vs:List V)(H:Hp)(Q:VK)(E:XK):Prop|mk(n:Int)(_:vs=[.int n])(_:0<=n)(_:Q .non H)
include T av in
theorem Mc (F:Fun K "check_from_nought" "check_from_nought" Ew f fd):Ba P w K mg base CX0 3 f fd ["number"] iZ:=by
 exists F.ok Mh
 obtain⟨n,rfl,h0,q⟩:=h;refine⟨_,(Ad (B2 (PW.pt (Om (Hw (C4 (Bn av hr.m (tpa (pv 0) Aa)))) (Px (ttc Gc (pv 0) Ag)))) (Ad C8)
  Bf)),?_⟩
 apply⟨n,rfl,?_⟩;apply B0 (λh=>absurd h (by lia)) (λ_=>?_);k_is;exact q
include T in
theorem U3 (F:Fun K "first_that" "first_that" K5 f fd):Ba P w K mg base CX0 3 f fd ["low","high","holds"] (Rx P w K mg base 2):=by
 exists F.ok Gu
 obtain⟨lo,hi,g,p,rfl,hle,hA,q⟩:=h;refine⟨_,(Ab (Mm f8 (ttc Gc (pv 0) (pv 1)) (Ab (tst 3 Gu.nd (Ak F3 (Ak Ay (pv 0) (pv 1)) Ag)) (Ad (B2 (C4 (xP (k:=2) hr.m (i:=2) rfl rfl (pv 3))) (Ad (tst 1 Gu.nd (pv 3))) (Ad (tst 0 Gu.nd (Ak Ay (pv 3) Ag))))))) (Ad (Am (pv 0)))),?_⟩
 apply L8 (λG H'=>Aj H H'/\∃(x y:Int) (v:Option V),G=[some (.int x),some (.int y),some (.ref g),v]/\lo<=x/\x<=y/\y<=hi/\(lo<x->p (x-1)=false)/\(y<hi->p y=true)) (λG _=>match G with | [some (.int x),some (.int y),_,_]=>(y-x).toNat|_=>0) ⟨Aj.refl _,lo,hi,none,rfl,qz _,hle,qz _,λz=>absurd z (BN _),λz=>absurd z (BN _)⟩ ?_;rintro μ G H' ⟨sm,x,y,v,rfl,h1,h2,h3,h4,h5⟩ HV;apply B0 (λhw=>?_) (λhw=>?_)
 ·refine Se ?_
  apply⟨g,_,p,rfl,hA.same sm,?_⟩;k_is;have ht1:x<=(x+y)/2:=by lia
  have ht2:(x+y)/2<y:=by lia
  refine⟨_,rfl,Aj.refl _,⟨tj h1 ht1,Int.lt_of_lt_of_le ht2 h3⟩,λH2 s2=>?_⟩;k_is;have hμ':y-x=(μ:Int):=by
   have:(y-x).toNat=μ:=HV;lia
  cases hp:p ((x+y)/2) with
  |true=>
   apply⟨⟨sm.trans s2,x,(x+y)/2,_,rfl,h1,ht1,tj (CP ht2) h3,h4,λ_=>hp⟩,?_⟩;show((x+y)/2-x).toNat<μ;generalize (x+y)/2=t at *;lia
  |false=>
   apply⟨⟨sm.trans s2,(x+y)/2+1,y,_,rfl,tj h1 (tj ht1 (CP (Int.lt_succ _))),ht2,h3,λ_=>by rw[Int.add_sub_cancel];exact hp,h5⟩,?_⟩;show(y-((x+y)/2+1)).toNat<μ;generalize (x+y)/2=t at *;lia
 ·k_is
  obtain rfl:x=y:=by lia
  exact q x H' h1 h3 h4 h5 sm
inductive xC(vs:List V)(H:Hp)(Q:VK)(E:XK):Prop|mk(a:df)(xs:Za4)(_:vs=[.ref a])(_:H a=some (.lst (nV xs)))(_:xs.length<=1000)(_:∀p H',Aj H H'->H p=none->H' p=some (.lst (nV ((ed (xs.length+1)).map λi=>(xs.take i).sum)))->Q (.ref p) H')
include T in
theorem Rr (F:Fun K "running_sums" "running_sums" Id f fd):Ba P w K mg base CX0 1 f fd ["numbers"] xC:=by
 exists F.ok Ha
 obtain⟨a,xs,rfl,ha,hn,q⟩:=h;refine⟨_,(Ab (tst 1 Ha.nd (Bo (tpa Ag Aa))) (Ab (Dm f8 rfl (Do (pv 0)) (tgn 2 Ha.nd) (Ad (Bi (Cl dy et en Bm (pv 1) (tpa (Ak Ay (tix Ap (pv 1) (Dg Cf Ag)) (pv 2)) Aa))))) (Ad (Am (pv 1))))),?_⟩
 apply⟨few (by simp),λp hp=>?_⟩;have t0:=An (o:=.lst [V.int 0]) hp;apply⟨a,rfl,⟨_,SqL.of (t0 _ _ ha)⟩,?_⟩;refine So (xs:=nV xs) (λi G H1=>(∃v:Option V,G=[some (.ref a),some (.ref p),v])/\H1 p=some (.lst (nV ((ed (i+1)).map λi=>(xs.take i).sum)))/\Aj H H1) ⟨⟨_,rfl⟩,Ac,t0⟩ (λi G H1 _ h=>SqL.of (h.2.2 _ _ ha)) ?_ ?_
 ·rintro i x G H1 hx ⟨⟨v,rfl⟩,hp1,s1⟩
  have hi:=Bl hx;rw[show(nV xs).length=xs.length by unfold nV;rw[c8]] at hi;obtain rfl:x=.int (xs[i]:Nat):=by
   unfold nV at hx;rw[dg,c7 hi] at hx;exact(de hx).symm
  apply⟨.inl ⟨rfl,_,SqL.of hp1⟩,?_⟩;apply Bb (SqL.of hp1) (v:=.int ((xs.take i).sum:Nat)) ?_ ?_
  ·rw[Ui]
   exact F1 _ _
  apply Bs hp1 ?_ ?_
  ·unfold nV
   rw[c8,c8,fj];exact Ah (by lia)
  apply⟨⟨_,rfl⟩,?_,λb u e=>?_⟩
  ·rw[Ac,Ui _ (i+1),gj,c7 hi,AE]
   show some (HO.lst (_++[V.int (((xs.take i).sum:Nat)+(xs[i]:Nat):Int)]))=some (HO.lst (_++[V.int (((xs.take i).sum+[xs[i]].sum:Nat):Int)]));rw[yv,l9]
  ·rw[Ai (Af e hp)]
   exact s1 _ _ e
 ·rintro G H1 ⟨⟨v,rfl⟩,hp1,s1⟩
  rw[show(nV xs).length=xs.length by unfold nV;rw[c8]] at hp1;k_is;exact q p H1 s1 hp hp1
def hgt (l:Za5)(i:Nat):Int:=2*((l.take i).count true:Int)-i
def hts (l:Za5)(i:Nat):List Int:=(ed i).map λj=>hgt l (j+1)
theorem Zf (l:Za5)(i:Nat):hts l (i+1)=hts l i++[hgt l (i+1)]:=by
 unfold hts;rw[ic,dj];rfl
theorem Og {l:Za5}{i:Nat}{b:Bool}(h:l[i]?=some b):hgt l (i+1)=hgt l i+if b then 1 else -1:=by
 unfold hgt;rw[gj,h,gu];cases b<;>simp<;>lia
def htB (l:Za5)(b:Int)(i:Nat):List Int:=(hts l i).map (b + ·)
inductive T8(vs:List V)(H:Hp)(Q:VK)(E:XK):Prop|mk(l:Za5)(bg:Int)(_:vs=[.str (Az l),.int bg])(_:l.length<=1000)(_:∀p H',Aj H H'->H p=none->H' p=some (.lst ((htB l bg l.length).map V.int))->Q (.ref p) H')
include T in
theorem Ul (F:Fun K "heights_of" "heights_of" K8 f fd):Ba P w K mg base CX0 1 f fd ["text","begin"] T8:=by
 exists F.ok E4
 obtain⟨l,bg,rfl,hl,q⟩:=h;refine⟨_,(Ab (tst 2 E4.nd (pv 1)) (Ab (tst 3 E4.nd (Bo Aa)) (Ab (Dm f8 rfl (rS (pv 0)) (tgn 4 E4.nd) (Ab (tau 2 E4.nd (Cb (ttc Et (pv 4) Dp) Ag (Dg Cf Ag)) oQ) (Ad (Bi (Cl dy et en Bm (pv 3) (tpa (pv 2) Aa)))))) (Ad (Am (pv 3)))))),?_⟩
 apply⟨e9 _,λp hp=>?_⟩;apply⟨_,rfl,?_⟩;refine jW (λi G H1=>∃v:Option V,G=[some (.str (Az l)),some (.int bg),some (.int (bg+hgt l i)),some (.ref p),v]/\H1 p=some (.lst ((htB l bg i).map V.int))/\Aj H H1) ⟨_,by rw[show bg+hgt l 0=bg by unfold hgt;simp];rfl,Ac,An hp⟩ ?_ ?_
 ·rintro i c G H1 hc ⟨v,rfl,hp1,sm⟩
  obtain⟨b,hb,rfl⟩:=Rw hc;have hi:=Bl hb;have hh:=Og hb;have hz1:((htB l bg i).map V.int).length<sizeLine:=by
   rw[c8];unfold htB hts;rw[c8,c8,fj];exact Pc (by lia)
  have fin:∀d:Int,hgt l (i+1)=hgt l i+d->∃v:Option V,[some (V.str (Az l)),some (V.int bg),some (V.int (bg+hgt l i+d)),some (V.ref p),some (V.str (sgn (if b then 49 else 48)))]=[some (V.str (Az l)),some (V.int bg),some (V.int (bg+hgt l (i+1))),some (V.ref p),v] /\
    (upd H1 p (.lst ((htB l bg i).map V.int++[V.int (bg+hgt l i+d)]))) p=some (.lst ((htB l bg (i+1)).map V.int))/\Aj H (upd H1 p (.lst ((htB l bg i).map V.int++[V.int (bg+hgt l i+d)]))):=λd hd=>by
   refine⟨_,by rw[hd,BO],?_,λb' u e=>?_⟩
   ·unfold htB
    rw[Ac,Zf,hd,dj,dj,BO];rfl
   ·rw[Ai (Af e hp)]
    exact sm _ _ e
  apply B0 (λh1=>?_) (λh1=>?_)
  ·have hd:hgt l (i+1)=hgt l i+1:=by cases b with|true=>exact hh|false=>exact absurd h1 (by decide)
   apply⟨.inl ⟨rfl,_,SqL.of hp1⟩,?_⟩;k_is;exact Bs hp1 hz1 (fin 1 hd)
  ·have hd:hgt l (i+1)=hgt l i + -1:=by cases b with|false=>exact hh|true=>exact absurd rfl h1
   apply⟨.inl ⟨rfl,_,SqL.of hp1⟩,?_⟩;k_is;exact Bs hp1 hz1 (fin (-1) hd)
 ·rintro G H1 ⟨v,rfl,hp1,sm⟩
  rw[show(Az l).cps.size=l.length from Bc l] at *;k_is;exact q p H1 sm hp hp1
theorem Zc (l:Za5)(i:Nat):htB l 0 i=hts l i:=by
 unfold htB;refine(i5 λx _=>?_).trans (xy _);exact td x
def Ma (l:Za5)(m:Int):Prop:=(l=[]/\m=0)\/Hn (hts l l.length) m
def lI (l:Za5)(m:Int):List V:=[.int (l.count true:Nat),.int (hgt l l.length),.int m]
inductive pI (K:da)(vs:List V)(H:Hp)(Q:VK)(E:XK):Prop|mk(l:Za5)(_:vs=[.str (Az l)])(_:l.length<=1000)(_:∀m t H',Ma l m->Aj H H'->H t=none->H' t=some (.tup (lI l m))->Q (.ref t) H')
variable (aA:Cal P w K mg base "heights_of" 1 ["text","begin"] T8)
include T aA in
theorem fN (F:Fun K "sums_of" "sums_of" O1 f fd):Ba P w K mg base CX0 2 f fd ["text"] (pI K):=by
 exists F.ok Sd
 obtain⟨l,rfl,hl,q⟩:=h;refine⟨_,(Ab (tst 1 Sd.nd (Bn aA hr.m (tpa (pv 0) (tpa Ag Aa)))) (Ad (Am (Mn (tpa (Cl md vo vm Y7 (pv 0) (tpa Dp Aa)) (tpa (Cb (ttc Jr (Ar Aq (by rfl) T.cp B9 (tpa (pv 1) Aa)) Ag) (tix Ap (pv 1) (Dg Cf Ag)) Ag) (tpa (nA (mI rfl) (by rfl) T.cK lQ (tpa (pv 1) Aa) (Yk Ag gH)) Aa))))))),?_⟩
 apply⟨l,0,rfl,hl,λp H1 sm hp hp1=>?_⟩;rw[Zc] at hp1;apply⟨rfl,?_⟩;apply⟨Az l,49,rfl,rfl,?_⟩;k_is;rw[(Vj l).1];have hlen:((hts l l.length).map V.int).length=l.length:=by rw[c8];unfold hts;rw[c8,fj]
 refine⟨p,_,rfl,.inl (SqL.of hp1),?_⟩;rw[hlen];k_is;have fin:∀m,Ma l m->∀t,H1 t=none->Q (.ref t) (upd H1 t (.tup (lI l m))):=λm hm t ht=>q m t _ hm (sm.trans (An ht)) (sm.free ht) Ac;have fin2:∃(a:df) (ns:List Int) (d:V),([V.ref p]:List V)=[.ref a]/\([V.int 0]:List V)=[d]/\SqL K H1 a (ns.map V.int)/\(ns=[]->[V.int (l.count true:Nat),V.int (hgt l l.length),d].length<=sizeLine/\∀t,H1 t=none->Q (.ref t) (upd H1 t (.tup [V.int (l.count true:Nat),V.int (hgt l l.length),d]))) /\
   (∀m,Hn ns m->[V.int (l.count true:Nat),V.int (hgt l l.length),V.int m].length<=sizeLine/\∀t,H1 t=none->Q (.ref t) (upd H1 t (.tup [V.int (l.count true:Nat),V.int (hgt l l.length),V.int m]))):=by
  refine⟨p,hts l l.length,.int 0,rfl,rfl,SqL.of hp1,λe=>?_,λm hm=>?_⟩
  ·refine⟨few (by simp),λt ht=>fin 0 (.inl ⟨?_,rfl⟩) t ht⟩
   cases l with
   |nil=>rfl
   |cons b r=>exact absurd e (by simp[hts,ic])
  ·exact⟨few (by simp),λt ht=>fin m (.inr hm) t ht⟩
 refine B0 (λh1=>?_) (λh1=>?_)
 ·apply Bb (SqL.of hp1) (v:=.int (hgt l l.length)) ?_ ?_
  ·obtain⟨n,hn⟩:∃n,l.length=n+1:=⟨l.length-1,by lia⟩
   rw[hn,Zf,dj];exact F1 _ _
  k_is;exact fin2
 ·have e0:l=[]:=List.length_eq_zero_iff.mp (by lia)
  have e1:hgt l l.length=0:=by rw[e0];rfl
  rw[e1] at fin2;k_is;exact fin2
theorem kU {row:Za5}{i:Nat}{b:Bool}(h:row[i]?=some b):row.drop i=b::row.drop (i+1):=by
 have hi:=Bl h;rw[jq hi];rw[c7 hi] at h;rw[de h]
theorem Y6 {row:Za5}(hv:Vs 0 row):∀i,i<=row.length->∃h:Nat,hgt row i=(h:Int)/\Vs h (row.drop i)/\True
 |0,_=>⟨0,rfl,hv,trivial⟩
 |i+1,hi=>by
  obtain⟨h,h1,h2,_⟩:=Y6 hv i (by lia);obtain⟨b,hb⟩:∃b,row[i]?=some b:=⟨row[i],c7 (by lia)⟩;have hs:=Og hb;rw[kU hb] at h2
  cases b with
  |false=>
   obtain⟨g,rfl⟩:∃g,h=g+1:=⟨h-1,by have:=h2.1;lia⟩;have hs:hgt row (i+1)=hgt row i + -1:=hs;exact⟨g,by lia,h2.2,trivial⟩
  |true=>
   have hs:hgt row (i+1)=hgt row i+1:=hs;exact⟨h+1,by lia,h2,trivial⟩
theorem Jz {x:df}(hx:H1 x=none)(hd:H1 dx=none)(s:SameBut x (upd (upd H1 dx (.own x)) x (.ins C dx [])) H2):Aj H1 H2:=λb u e=>s b u (Af e hx) (by rw[Ai (Af e hx),Ai (Af e hd)];exact e)
theorem Oh {x:df}{o o':HO}(hx:H1 x=none)(hd:H1 dx=none):Aj H1 (upd (upd H1 dx o) x o'):=λb u e=>by rw[Ai (Af e hx),Ai (Af e hd)];exact e
def pFs (s t g o:V):List (Str×V):=[("signs",s),("kept_sums",t),("greatest",g),("often_least",o)]
def Acy (x:Za5)(m g:Int)(o:V):Prop:=Ma x m/\Yg (hts x x.length) g/\o=.int ((hts x x.length).count m:Nat)
def Im (C:df)(H:Hp)(a:df)(x:Za5):Prop:=∃(dx t:df) (m g:Int) (o:V),H a=some (.ins C dx (pFs (.str (Az x)) (.ref t) (.int g) o))/\H t=some (.tup (lI x m))/\Acy x m g o
theorem Im.kp {a:df}{x:Za5}(h:Im C H a x)(s:Kp H H'):Im C H' a x:=by
 obtain⟨dx,t,m,g,o,h1,h2,h3⟩:=h;exact⟨dx,t,m,g,o,s.k h1,s.k h2,h3⟩
def Pcs (C:df)(H:Hp)(as:List df)(ls:List (Za5)):Prop:=as.length=ls.length/\∀(k:Nat) (a:df) (x:Za5),as[k]?=some a->ls[k]?=some x->Im C H a x
theorem Pcs.kp {ls:List (Za5)}(h:Pcs C H as ls)(s:Kp H H'):Pcs C H' as ls:=⟨h.1,λk a x e1 e2=>(h.2 k a x e1 e2).kp s⟩
theorem Pcs.get {ls:List (Za5)}(h:Pcs C H as ls){k:Nat}{v:V}(e:(as.map V.ref)[k]?=some v):∃a x,v=.ref a/\as[k]?=some a/\ls[k]?=some x/\Im C H a x:=by
 rw[dg] at e
 cases ea:as[k]? with
 |none=>rw[ea] at e;cases e
 |some a=>
  rw[ea] at e;have hk:=(d6.mp ea).1;have hx:ls[k]?=some (ls[k]'(by rw[<-h.1];exact hk)):=c7 _;exact⟨a,_,(de e).symm,rfl,hx,h.2 k a _ ea hx⟩
theorem Pcs.but {C' x:df}{ls:List (Za5)}{fs:List (Str×V)}(h:Pcs C H as ls)(s:SameBut x H H')(hx:H x=some (.ins C' dx fs))(hne:∀a∈as,a≠x):Pcs C H' as ls:=⟨h.1,λk a y e1 e2=>by
 obtain⟨d,t,m,g,o,h1,h2,h3⟩:=h.2 k a y e1 e2;refine⟨d,t,m,g,o,s _ _ (hne a (gw e1)) h1,s _ _ (λe=>?_) h2,h3⟩;rw[e,hx] at h2;cases h2⟩
def iR (p:V):List (Str×V):=[("kept_pieces",p)]
def kT (p b:V):List (Str×V):=[("kept_pieces",p),("begins",b)]
def jG (p b k:V):List (Str×V):=[("kept_pieces",p),("begins",b),("knots_ahead",k)]
def fC (p b k n t o:V):List (Str×V):=[("kept_pieces",p),("begins",b),("knots_ahead",k),("length",n),("kept_table",t),("often_least",o)]
def bgs (ls:List (Za5)):List V:=nV ((ed (ls.length+1)).map λj=>bgn ls j)
theorem iV (ls:List (Za5)):(bgs ls).length=ls.length+1:=by unfold bgs nV;rw[c8,c8,fj]
theorem Hu {ls:List (Za5)}{j:Nat}(h:j<=ls.length):(bgs ls)[j]?=some (.int (bgn ls j:Nat)):=by
 unfold bgs nV;rw[dg,dg,ia (by lia)];rfl
structure tT (C:df) (H:Hp) (p b:df) (ls:List (Za5)):Prop where
 pcs:∃as:List df,H p=some (.lst (as.map V.ref))/\Pcs C H as ls
 bg:H b=some (.lst (bgs ls))
 sz:Fk ls
 fw:ls.length<=400
def kns (ls:List (Za5)):Za4:=ls.map λx=>x.count true
def hBg (ls:List (Za5))(j:Nat):Int:=2*(((kns ls).take j).sum:Int)-(bgn ls j:Int)
def Abq (H:Hp)(ls:List (Za5))(r:df)(j:Nat):Prop:=∀x,ls[j]?=some x->∃m g:Int,H r=some (.tup [.int (hBg ls j),.int (hBg ls j+m),.int (hBg ls j+g)])/\Ma x m/\Yg (hts x x.length) g
structure gO (H:Hp) (k t o:V) (ls:List (Za5)):Prop where
 kn:∃a:df,k=.ref a/\H a=some (.lst (nV ((ed (ls.length+1)).map λi=>((kns ls).take i).sum)))
 tb:∃(a:df) (rs:List df),t=.ref a/\H a=some (.lst (rs.map V.ref))/\rs.length=ls.length/\∀(j:Nat) (r:df),rs[j]?=some r->Abq H ls r j
 ol:∃(a:df) (os:List V),o=.ref a/\H a=some (.lst os)/\os.length=ls.length/\∀(j:Nat) (v:V) (x:Za5) (m:Int),os[j]?=some v->ls[j]?=some x->Ma x m->v=.int ((hts x x.length).count m:Nat)
theorem gO.keep {k t o:V}{ls:List (Za5)}(h:gO H k t o ls)(s:∀b xs,(H b=some (.lst xs)->H' b=some (.lst xs))/\(H b=some (.tup xs)->H' b=some (.tup xs))):gO H' k t o ls:=by
 obtain⟨a,k1,k2⟩:=h.kn;obtain⟨b,rs,t1,t2,t3,t4⟩:=h.tb;obtain⟨c,os,o1,o2,o3⟩:=h.ol;exact⟨⟨a,k1,(s _ _).1 k2⟩,⟨b,rs,t1,(s _ _).1 t2,t3,λj r e x ex=>let ⟨m,g,r1,r2⟩:=t4 j r e x ex;⟨m,g,(s _ _).2 r1,r2⟩⟩,⟨c,os,o1,(s _ _).1 o2,o3⟩⟩
def Bp (C CR:df)(H:Hp)(x:df)(ls:List (Za5)):Prop:=∃(dx p b:df) (k t o:V),H x=some (.ins CR dx (fC (.ref p) (.ref b) k (.int (ls.flatten.length:Nat)) t o))/\tT C H p b ls/\gO H k t o ls
theorem tT.kp {p b:df}{ls:List (Za5)}(h:tT C H p b ls)(s:Kp H H'):tT C H' p b ls:=by
 obtain⟨as,h1,h2⟩:=h.pcs;exact⟨⟨as,s.k h1,h2.kp s⟩,s.k h.bg,h.sz,h.fw⟩
theorem gO.kp {k t o:V}{ls:List (Za5)}(h:gO H k t o ls)(s:Kp H H'):gO H' k t o ls:=h.keep λb xs=>⟨λe=>s.k e,λe=>s.k e⟩
theorem Bp.kp {CR x:df}{ls:List (Za5)}(h:Bp C CR H x ls)(s:Kp H H'):Bp C CR H' x ls:=by
 obtain⟨dx,p,b,k,t,o,h1,h2,h3⟩:=h;exact⟨dx,p,b,k,t,o,s.k h1,h2.kp s,h3.kp s⟩
def Ll (p e:V):List (Str×V):=[("pairs",p),("earlier",e)]
def Bz (C CR CS:df)(H:Hp)(x:df)(ls:List (Za5)):Prop:=∃(dx r:df) (e:V),H x=some (.ins CS dx (Ll (.ref r) e))/\Bp C CR H r ls
theorem Bz.kp {CR x:df}{ls:List (Za5)}(h:Bz C CR CS H x ls)(s:Kp H H'):Bz C CR CS H' x ls:=by
 obtain⟨dx,r,e,h1,h2⟩:=h;exact⟨dx,r,e,s.k h1,h2.kp s⟩
inductive Zq (CR:df)(vs:List V)(H:Hp)(Q:VK)(E:XK):Prop|mk(x dx:df)(p b k n t o:V)(_:vs=[.ref x,n,t,o])(_:H x=some (.ins CR dx (jG p b k)))(_:Q .non (upd H x (.ins CR dx (fC p b k n t o))))
variable (ae:Qa K aa)
include T ae in
theorem Wj (F:Fun K "__init__" "Heights.__init__" Hs f fd):Ba P w K mg base CX0 1 f fd ["self","length","table","often_least"] (Zq aa):=by
 exists F.ok Rm
 obtain⟨x,dx,p,b,k,n,t,o,rfl,hx,q⟩:=h;refine⟨_,(Ab (tsf (pv 0) (pv 1)) (Ab (tsf (pv 0) (pv 2)) (Ad (tsf (pv 0) (pv 3))))),?_⟩
 apply Eb hx ae.cl ae.cz (show 3<1000 by decide) ?_;apply Eb Ac ae.cl ae.cS (show 4<1000 by decide) ?_;rw[X5];apply Eb Ac ae.cl ae.cI (show 5<1000 by decide) ?_;rw[X5];exact q
inductive Ym (C CR:df)(vs:List V)(H:Hp)(Q:VK)(E:XK):Prop|mk(x:df)(ls:List (Za5))(_:vs=[.ref x])(_:Bp C CR H x ls)(_:Q (.int (ls.flatten.length:Nat)) H)
include T ae in
theorem Wk (F:Fun K "size" "Heights.size" Ic f fd):Ba P w K mg base CX0 1 f fd ["self"] (Ym ac aa):=by
 exists F.ok Rn
 obtain⟨x,ls,rfl,⟨dx,p,b,k,t,o,hx,_⟩,q⟩:=h;refine⟨_,(Ad (Am (tfl (pv 0)))),?_⟩;k_is;exact⟨x,aa,dx,_,_,rfl,hx,ae.cl,ae.cz,rfl,q⟩
inductive lB(vs:List V)(H:Hp)(Q:VK)(E:XK):Prop|mk(l:Za5)(_:vs=[.str (Az l)])(_:Vs 0 l)(_:l.length<=8000)(_:∀H',Aj H H'->Q .non H')
include T in
theorem Xg (F:Fun K "check_row" "check_row" Lq f fd):Ba P w K mg base CX0 1 f fd ["text"] lB:=by
 exists F.ok Fw
 obtain⟨l,rfl,hv,hn,q⟩:=h;refine⟨_,(Ab (B2 (Hw (C4 (Ar Iw (by rfl) T.cJ F5 (tpa (pv 0) (tpa (Ol (v:=.ty "str") rfl T.n_str Aa5 rfl) Aa))))) (Ad C8)
  Bf) (Ab (tst 1 Fw.nd Ag) (Ab (Dm f8 rfl (qW rfl T.cO (tpa (pv 0) Aa)) (O7 rfl (Dw (tgn 2 Fw.nd) (Dw (tgn 3 Fw.nd) Mr))) (Ab (tau 1 Fw.nd (Cb (ttc Et (pv 3) Dp) Ag (Dg Cf Ag)) oQ) (Ad (B2 (PW.pt (Om (R6 Yo (pv 3) Dp rfl) (Om (ttc Gc (pv 1) Ag) (Px (ttc Et (pv 2) (Ii rfl T.cB)))))) (Ad C8)
  Bf)))) (Ad (B2 (ttc Jr (pv 1) Ag) (Ad C8)
  Bf))))),?_⟩
 apply⟨_,_,_,_,rfl,.str _,Zr,?_⟩;apply⟨_,rfl,?_⟩;refine nE (λi G H1=>(∃v2 v3:Option V,G=[some (.str (Az l)),some (.int (hgt l i)),v2,v3])/\Aj H H1) ⟨⟨_,_,rfl⟩,Aj.refl _⟩ ?_ ?_
 ·rintro i c G H1 t hc ⟨⟨v2,v3,rfl⟩,s1⟩ ht
  obtain⟨b,hb,rfl⟩:=Rw hc;have hi:=Bl hb;have hs:=Og hb;obtain⟨h,hh,_⟩:=Y6 hv (i+1) (by lia);have s2:=s1.trans (An (o:=.tup [.int i,.str (sgn (if b then 49 else 48))]) ht);generalize upd H1 t _=H2 at *;k_is
  cases b with
  |true=>
   refine B0 (λ_=>?_) (λh=>absurd rfl h);apply⟨_,_,rfl,rfl,?_⟩;k_is;have hs:hgt l (i+1)=hgt l i+1:=hs;rw[<-hs,hh];rw[show(!(!(pd ("01":Str) (sgn (if true=true then 49 else 48)) 0 ("01":Str).length 1).isEmpty))=false by decide +kernel];apply B0 (λh=>by lia) (λ_=>?_);apply B0 (λh=>?_) (λ_=>?_)
   ·have:=V.int.inj h
    lia
   k_is;exact⟨⟨_,_,rfl⟩,s2⟩
  |false=>
   refine B0 (λh=>absurd h (by decide)) (λ_=>?_);apply⟨_,_,rfl,rfl,?_⟩;k_is;have hs:hgt l (i+1)=hgt l i + -1:=hs;rw[<-hs,hh];rw[show(!(!(pd ("01":Str) (sgn (if false=true then 49 else 48)) 0 ("01":Str).length 1).isEmpty))=false by decide +kernel];apply B0 (λh=>by lia) (λ_=>?_);apply B0 (λh=>?_) (λ_=>?_)
   ·have:=V.int.inj h
    lia
   k_is;exact⟨⟨_,_,rfl⟩,s2⟩
 ·rintro G H1 ⟨⟨v2,v3,rfl⟩,s1⟩
  rw[show(Az l).cps.size=l.length from Bc l];obtain⟨h,hh,hv2,_⟩:=Y6 hv l.length (db _);rw[gg (db _)] at hv2;have hv2:h=0:=hv2;apply B0 (λh=>by lia) (λ_=>?_);k_is;exact q H1 s1
inductive sG(vs:List V)(H:Hp)(Q:VK)(E:XK):Prop|mk(a:df)(ds:Za4)(_:vs=[.ref a])(_:H a=some (.lst ((Bh ds).map V.int)))(_:Dok ds)(_:ds.length<4000)(_:∀l H',Aj H H'->H' l=some (.lst ((Bh ds).map V.int))->Q (.ref l) H')
include T av in
theorem gB (F:Fun K "look_at" "look_at" Pn f fd):Ba P w K mg base CX0 2 f fd ["elders"] sG:=by
 exists F.ok Lb
 obtain⟨a,ds,rfl,ha,hD,hn,q⟩:=h;refine⟨_,(Ab (B2 (Hw (C4 (Ar Iw (by rfl) T.cJ F5 (tpa (pv 0) (tpa (Ol (v:=.ty "list") rfl T.cG Si rfl) Aa))))) (Ad C8)
  Bf) (Ab (tst 1 Lb.nd (Bo (tpa (Dg Cf Ag) Aa))) (Ab (Dm f8 rfl (vP rfl T.cO (tpa (pv 0) Aa)) (O7 rfl (Dw (tgn 2 Lb.nd) (Dw (tgn 3 Lb.nd) Mr))) (Ab (B2 (PW.pt (Om (ttc Et (pv 2) (Ii rfl T.cx)) (Om (Hw (C4 (Bn av hr.m (tpa (pv 3) Aa)))) (Px (ttc Gc (pv 3) (Dg Cf Ag)))))) (Ad C8)
  Bf) (Ab (Mm f8 (ttc Jr (tix Ap (pv 1) (Dg Cf Ag)) (pv 3)) (Ad (Bi (Pk dy jz jy Pp (pv 1))))) (Ab (B2 (ttc dB (tix Ap (pv 1) (Dg Cf Ag)) (pv 3)) (Ad C8)
  Bf) (Ad (Bi (Cl dy et en Bm (pv 1) (tpa (pv 2) Aa)))))))) (Ad (Am (Em Ky (by rfl) T.cG Si (tpa (pv 0) Aa))))))),?_⟩
 apply⟨_,_,_,_,rfl,.lst ha,U5,?_⟩;apply⟨few (by simp),λp hp=>?_⟩;k_is;have t0:=An (o:=.lst [V.int (-1)]) hp;refine⟨a,rfl,⟨_,SqL.of (t0 _ _ ha)⟩,?_⟩;refine sY (xs:=(Bh ds).map V.int) (λk G H1=>(∃v2 v3:Option V,G=[some (.ref a),some (.ref p),v2,v3])/\H1 p=some (.lst ((way ds k).map V.int))/\Aj H H1) ⟨⟨_,_,rfl⟩,Ac,t0⟩ (λk G H1 _ h=>SqL.of (h.2.2 _ _ ha)) ?_ ?_
 ·rintro k x G H1 t hx ⟨⟨v2,v3,rfl⟩,hp1,s1⟩ ht
  have hk:=Bl hx;rw[c8,Au] at hk;obtain⟨e,he,rfl⟩:=O5 hx;rw[Cy hk] at he;obtain rfl:=de he;have st:=An (o:=.tup [.int k,.int (eld ds k)]) ht;have hp2:=st _ _ hp1;have s2:=s1.trans st;generalize upd H1 t _=H2 at *;apply B0 (λh=>?_) (λ_=>?_)
  ·have:=V.int.inj h
   lia
  apply⟨_,rfl,?_⟩;k_is;have hge:=Ph hD hk;refine B0 (λh=>by lia) (λ_=>?_);k_is;have hl:=Ci hD k (by lia);have hd:=hD k hk;refine L8 (λG H3=>G=[some (.ref a),some (.ref p),some (.int k),some (.int (eld ds k))]/\Aj H H3/\∃m,dAt ds k+1<=m/\m<=(way ds k).length/\H3 p=some (.lst (((way ds k).take m).map V.int))) (λ_ H3=>Zx H3 p)
   ⟨rfl,s2,(way ds k).length,by lia,db _,by rw[d5 (db _)];exact hp2⟩ ?_
  rintro z G H3 ⟨rfl,s3,m,hm1,hm2,hp3⟩ hz;rw[J3 hp3,G1 hm2] at hz;k_is;have hx1:(way ds k)[m-1]?=some ((way ds k)[m-1]'(by lia)):=c7 _;generalize (way ds k)[m-1]'(by lia)=y at hx1;refine Bb (SqL.of hp3) (Jx (by lia) hx1) ?_;k_is;have hea:=Dj hD hk;refine B0 (λh=>?_) (λh=>?_)
  ·have hne:m-1≠dAt ds k:=λe=>by
    rw[e,hea] at hx1;have:=de hx1;lia
   refine Se ?_;apply⟨.inl ⟨rfl,_,SqL.of hp3⟩,?_⟩;refine⟨p,_,.int y,rfl,rfl,hp3,?_,?_⟩
   ·rw[G1 hm2,P6 (n:=y)]
    rw[d7 (by lia)];exact hx1
   k_is;rw[Pe hm2];refine⟨⟨rfl,Bw s3 hp,m-1,by lia,by lia,Ac⟩,?_⟩;rw[J3 Ac,G1 (by lia)];lia
  ·have hme:m=dAt ds k+1:=by
    by_cases e:m-1=dAt ds k
    ·lia
    ·have:=Sl hD k (dAt ds k) (m-1) _ _ (by lia) (by lia) hea hx1
     lia
   subst hme;have hy:y=eld ds k:=by
    rw[show dAt ds k+1-1=dAt ds k by lia,hea] at hx1;exact(de hx1).symm
   apply Bb (SqL.of hp3) (Jx (by lia) hx1) ?_;apply nY (λh1=>absurd (congrArg V.int hy) h1) (λ_=>?_);apply⟨.inl ⟨rfl,_,SqL.of hp3⟩,?_⟩;apply Bs hp3 ?_ ?_
   ·rw[G1 hm2]
    exact Ah (by have:=Mj hD k (by lia);lia)
   apply⟨⟨_,_,rfl⟩,?_,Bw s3 hp⟩;rw[Ac];show _=some (HO.lst (((way ds k).take (dAt ds k+1)++[(k:Int)]).map V.int));rw[dj];rfl
 ·rintro G H1 ⟨⟨v2,v3,rfl⟩,hp1,s1⟩
  apply⟨a,_,rfl,.inl (SqL.of (s1 _ _ ha)),λl hl=>?_⟩;exact q l _ (s1.trans (An hl)) Ac
inductive dM(vs:List V)(H:Hp)(Q:VK)(E:XK):Prop|mk(a:df)(ds:Za4)(_:vs=[.ref a])(_:H a=some (.lst ((Bh ds).map V.int)))(_:Dok ds)(_:ds.length<4000)(_:∀l H',Aj H H'->H' l=some (.lst (nV ds))->Q (.ref l) H')
theorem Vv {ds:Za4}{k:Nat}(hk:k<ds.length):nV (ds.take k)++[V.int (dAt ds k:Nat)]=nV (ds.take (k+1)):=by
 rw[gj,c7 hk,<-Yp];unfold dAt eh;rw[c7 hk];rfl
include T in
theorem Xk (F:Fun K "depths_of" "depths_of" Mg f fd):Ba P w K mg base CX0 1 f fd ["elders"] dM:=by
 exists F.ok Kf
 obtain⟨a,ds,rfl,ha,hD,hn,q⟩:=h;refine⟨_,(Ab (tst 1 Kf.nd (Bo Aa)) (Ab (Dm f8 rfl (Do (pv 0)) (tgn 2 Kf.nd) (Ad (Bi (Cl dy et en Bm (pv 1) (tpa (Cb (ttc Et (pv 2) (Dg Cf Ag)) Ag (Ak Ay (tix Ap (pv 1) (pv 2)) Ag)) Aa))))) (Ad (Am (pv 1))))),?_⟩
 apply⟨e9 _,λp hp=>?_⟩;k_is;have t0:=An (o:=.lst []) hp;refine⟨a,rfl,⟨_,SqL.of (t0 _ _ ha)⟩,?_⟩;refine So (xs:=(Bh ds).map V.int) (λk G H1=>(∃v2:Option V,G=[some (.ref a),some (.ref p),v2])/\H1 p=some (.lst (nV (ds.take k)))/\Aj H H1) ⟨⟨_,rfl⟩,Ac,t0⟩ (λk G H1 _ h=>SqL.of (h.2.2 _ _ ha)) ?_ ?_
 ·rintro k x G H1 hx ⟨⟨v2,rfl⟩,hp1,s1⟩
  have hk:=Bl hx;rw[c8,Au] at hk;obtain⟨e,he,rfl⟩:=O5 hx;rw[Cy hk] at he;obtain rfl:=de he;have hz:(nV (ds.take k)).length<sizeLine:=by
   rw[Ca,dh];exact Ah (by lia)
  apply⟨.inl ⟨rfl,_,SqL.of hp1⟩,?_⟩;apply B0 (λh=>?_) (λh=>?_)
  ·have hd:=Ho hD hk (V.int.inj h)
   apply Bs hp1 hz ?_;apply⟨⟨_,rfl⟩,?_,Bw s1 hp⟩;rw[Ac,<-Vv hk,hd];rfl
  ·obtain⟨v,hv,hlt,hd⟩:=Cc hD hk (λe=>h (congrArg V.int e))
   k_is;rw[hv];refine Bb (SqL.of hp1) (v:=.int (dAt ds v:Nat)) ?_ ?_
   ·refine Bd (Abe ?_)
    rw[d7 hlt,c7 (by lia)];unfold dAt eh;rw[c7 (by lia)];rfl
   apply Bs hp1 hz ?_;apply⟨⟨_,rfl⟩,?_,Bw s1 hp⟩;rw[Ac,<-Vv hk,hd];rfl
 ·rintro G H1 ⟨⟨v2,rfl⟩,hp1,s1⟩
  rw[c8,Au,d5 (db _)] at hp1;k_is;exact q p H1 s1 hp1
inductive jB(vs:List V)(H:Hp)(Q:VK)(E:XK):Prop|mk(a:df)(ds:Za4)(_:vs=[.ref a])(_:H a=some (.lst ((Bh ds).map V.int)))(_:Dok ds)(_:ds.length<4000)(_:∀H',Aj H H'->Q (.str (Az (Av ds))) H')
theorem K6 {l:Za4}{i:Nat}{x:V}(h:(nV l)[i]?=some x):∃n,l[i]?=some n/\x=.int (n:Nat):=by
 unfold nV at h;rw[dg] at h
 cases e:l[i]? with
 |none=>rw[e] at h;cases h
 |some n=>
  rw[e] at h;exact⟨n,rfl,(de h).symm⟩
theorem xW {ds:Za4}{k n:Nat}(h:ds[k]?=some n):n=dAt ds k:=by
 unfold dAt eh;rw[h];rfl
include T in
theorem lU (F:Fun K "row_of" "row_of" T9 f fd)(bu:Cal P w K mg base "depths_of" 1 ["elders"] dM)(bv:Cal P w K mg base "look_at" 2 ["elders"] sG):Ba P w K mg base CX0 3 f fd ["elders"] jB:=by
 exists F.ok Jw
 obtain⟨a,ds,rfl,ha,hD,hn,q⟩:=h;refine⟨_,(Ab (tst 1 Jw.nd (Bo Aa)) (Ab (tst 2 Jw.nd Ag) (Ab (Dm f8 rfl (Do (Bn bu hr.m (tpa (Bn bv hr.m (tpa (pv 0) Aa)) Aa))) (tgn 3 Jw.nd) (Ab (Bi (Cl dy et en Bm (pv 1) (tpa (Ak Gq (Ak Xl Dp (Ak B7 (pv 2) (pv 3))) Dp) Aa))) (Ad (tst 2 Jw.nd (Ak Ay (pv 3) Ag))))) (Ab (Bi (Cl dy et en Bm (pv 1) (tpa (Ak Xl Dp (pv 2)) Aa))) (Ad (Am (Cl md wg wf jT Dp (tpa (pv 1) Aa)))))))),?_⟩
 apply⟨e9 _,λp hp=>?_⟩;k_is;have t0:=An (o:=.lst []) hp;refine⟨a,ds,rfl,t0 _ _ ha,hD,hn,λl1 H1 s1 hl1=>?_⟩;apply⟨l1,ds,rfl,hl1,hD,hn,λl2 H2 s2 hl2=>?_⟩;apply⟨l2,rfl,⟨_,SqL.of hl2⟩,?_⟩;have s12:=s1.trans s2;have hp2:=s12 _ _ (Ac (H:=H) (a:=p) (o:=.lst []));have npl:l2≠p\/ds=[]:=by
  by_cases e:l2=p
  ·subst e
   rw[hp2] at hl2;have:=HO.lst.inj (de hl2)
   cases ds with
   |nil=>exact .inr rfl
   |cons d r=>cases this
  ·exact .inl e
 refine So (xs:=nV ds) (λk G H3=>(∃v3:Option V,G=[some (.ref a),some (.ref p),some (.int (opn ds k:Nat)),v3])/\H3 p=some (.lst ((ed k).map λi=>V.str (Az (Bx ds i))))/\Aj H H3/\H3 l2=some (.lst (nV ds))) ⟨⟨_,rfl⟩,hp2,t0.trans s12,hl2⟩ (λk G H3 _ h=>SqL.of h.2.2.2) ?_ ?_
 ·rintro k x G H3 hx ⟨⟨v3,rfl⟩,hp3,s3,hl3⟩
  have hk:=Bl hx;rw[Ca] at hk;have nlp:l2≠p:=by
   rcases npl with h|h
   ·exact h
   ·rw[h] at hk;cases hk
  obtain⟨d,hd,rfl⟩:=K6 hx;obtain rfl:=xW hd;have hop:=Mj hD k (by lia);have hdk:=hD k hk;apply⟨.inl ⟨rfl,_,SqL.of hp3⟩,?_⟩;apply⟨"0",(opn ds k:Int)-(dAt ds k:Int),rfl,rfl,by lia,by lia,?_,few (by decide),?_⟩
  ·exact fb (Ah (by rw[show("0":Str).length=1 by rfl];lia))
  have e0:Ti ("0":Str) ((opn ds k:Int)-(dAt ds k:Int)).toNat=Az (dn (opn ds k-dAt ds k) false):=by
   rw[show((opn ds k:Int)-(dAt ds k:Int)).toNat=opn ds k-dAt ds k by lia];exact Pq false _
  rw[e0];k_is;have e1:Az (dn (opn ds k-dAt ds k) false)++("1":Str)=Az (Bx ds k):=Ep (dn (opn ds k-dAt ds k) false) [true];refine⟨_,"1",rfl,rfl,?_,?_⟩
  ·rw[Bc,ii]
   exact fb (Ah (by rw[show("1":Str).length=1 by rfl];lia))
  rw[e1];apply Bs hp3 (by rw[c8,fj];exact Ah (by lia)) ?_;apply⟨⟨_,rfl⟩,?_,Bw s3 hp,?_⟩
  ·rw[Ac,ic,dj]
   rfl
  ·rw[Ai nlp]
   exact hl3
 ·rintro G H3 ⟨⟨v3,rfl⟩,hp3,s3,hl3⟩
  rw[Ca] at *;have hop:=Mj hD ds.length (db _);apply⟨.inl ⟨rfl,_,SqL.of hp3⟩,?_⟩;apply⟨"0",(opn ds ds.length:Int),rfl,rfl,by lia,by lia,?_,few (by decide),?_⟩
  ·exact fb (Ah (by rw[show("0":Str).length=1 by rfl];lia))
  have e0:Ti ("0":Str) ((opn ds ds.length:Int)).toNat=Az (dn (opn ds ds.length) false):=by
   rw[f9];exact Pq false _
  rw[e0];apply Bs hp3 (by rw[c8,fj];exact Ah (by lia)) ?_;apply⟨rfl,?_⟩;k_is;have ef:((ed ds.length).map (Bx ds)++[dn (opn ds ds.length) false]).flatten=Av ds:=by
   rw[i6,xa];rfl
  refine Z2 (ls:=(ed ds.length).map (Bx ds)++[dn (opn ds ds.length) false]) ?_ ?_ ?_
  ·rw[Ac,dj,jm]
   rfl
  ·rw[ef,Bq hD]
   lia
  ·rw[ef]
   exact q _ (Bw s3 hp)
inductive Sx(vs:List V)(H:Hp)(Q:VK)(E:XK):Prop|mk(l:Za5)(_:vs=[.str (Az l)])(_:Vs 0 l)(_:l.length<=8000)(_:∀p (ds:Za4) H',Aj H H'->H p=none->H' p=some (.lst ((Bh ds).map V.int))->Dok ds->Av ds=l->Q (.ref p) H')
theorem Vo {ds:Za4}{d:Nat}:∀k,k<=ds.length->Li (ds++[d]) k=Li ds k
 |0,_=>rfl
 |k+1,h=>by
  rw[Jn,Jn,Vo k (by lia)];unfold Bx;rw[Oa k (by lia),Lr (by lia)]
include T in
theorem Yh (F:Fun K "elders_of" "elders_of" Mb f fd)(bw:Cal P w K mg base "check_row" 1 ["text"] lB):Ba P w K mg base CX0 2 f fd ["text"] Sx:=by
 exists F.ok Hi
 obtain⟨l,rfl,hv,hn,q⟩:=h;refine⟨_,(Ab (Bi (Bn bw hr.m (tpa (pv 0) Aa))) (Ab (B2 (ttc Jr (Ar Er (by rfl) T.cp B9 (tpa (pv 0) Aa)) (Ii rfl T.cD)) (Ad C8)
  Bf) (Ab (tst 1 Hi.nd (Bo Aa)) (Ab (tst 2 Hi.nd (Bo (tpa (Dg Cf Ag) Aa))) (Ab (Dm f8 rfl (rS (pv 0)) (tgn 3 Hi.nd) (Ad (B2 (ttc Et (pv 3) Dp) (Ab (Bi (Cl dy et en Bm (pv 1) (tpa (tix Ap (pv 2) (Dg Cf Ag)) Aa))) (Ad (Bi (Cl dy et en Bm (pv 2) (tpa (Ak B7 (Ar Aq (by rfl) T.cp B9 (tpa (pv 1) Aa)) Ag) Aa))))) (Ad (Bi (Pk dy jz jy Pp (pv 2))))))) (Ad (Am (pv 1)))))))),?_⟩
 apply⟨l,rfl,hv,hn,λH1 s1=>?_⟩;apply⟨_,rfl,by rw[Bc];exact fb (Ah (by lia)),?_⟩;k_is;rw[Bc];refine B0 (λh=>by lia) (λ_=>?_);apply⟨e9 _,λp hp1=>?_⟩;have hp:H p=none:=s1.free hp1;have t1:=An (o:=.lst []) hp1;apply⟨few (by simp),λy hy=>?_⟩;have t2:=An (o:=.lst [V.int (-1)]) hy;have hyH:H y=none:=(s1.trans t1).free hy;apply⟨_,rfl,?_⟩;refine jW (λi G H2=>(∃(ds:Za4) (h:Nat) (v:Option V),G=[some (.str (Az l)),some (.ref p),some (.ref y),v]/\Dok ds/\ds.length<=i/\hgt l i=(h:Int)/\h<=opn ds ds.length/\l.take i=Li ds ds.length++dn (opn ds ds.length-h) false /\
   H2 p=some (.lst ((Bh ds).map V.int))/\H2 y=some (.lst (((way ds ds.length).take (h+1)).map V.int)))/\Aj H H2) ⟨⟨[],0,_,rfl,(λk hk=>by cases hk),db _,rfl,db _,rfl,t2 _ _ Ac,Ac⟩,(s1.trans t1).trans t2⟩ ?_ ?_
 ·have hpy:p≠y:=Af Ac hy
  rintro i c G H2 hc ⟨⟨ds,h,v,rfl,hD,hdl,hh,hop,htk,hp2,hy2⟩,s2⟩;obtain⟨b,hb,rfl⟩:=Rw hc;have hi:=Bl hb;have hs:=Og hb;have hw:=Ci hD ds.length (db _);obtain⟨h',hh',hvs,_⟩:=Y6 hv i (by lia);have e:h'=h:=by lia
  subst e;have tk1:l.take (i+1)=l.take i++[b]:=by rw[gj,hb];rfl
  have hx:(way ds ds.length)[h'+1-1]?=some ((way ds ds.length).getD h' 0):=by
   rw[se];unfold eh;rw[c7 (by lia)];rfl
  k_is
  cases b with
  |true=>
   refine B0 (λ_=>?_) (λh=>absurd rfl h);have hs:hgt l (i+1)=hgt l i+1:=hs;apply⟨.inl ⟨rfl,_,SqL.of hp2⟩,?_⟩;apply Bb (SqL.of hy2) (Jx (by lia) hx) ?_;apply Bs hp2 ?_ ?_
   ·rw[c8,Au]
    exact Ah (by lia)
   k_is;have hy3:upd H2 p (.lst ((Bh ds).map V.int++[V.int ((way ds ds.length).getD h' 0)])) y=some (.lst (((way ds ds.length).take (h'+1)).map V.int)):=by rw[Ai hpy.symm];exact hy2
   have hp3:=@Ac H2 p (.lst ((Bh ds).map V.int++[V.int ((way ds ds.length).getD h' 0)]));have s3:=Bw (o:=.lst ((Bh ds).map V.int++[V.int ((way ds ds.length).getD h' 0)])) s2 hp;generalize upd H2 p _=H3 at *;refine⟨.inl ⟨rfl,_,SqL.of hy3⟩,?_⟩;apply⟨p,_,rfl,.inl (SqL.of hp3),?_⟩;k_is;rw[c9,c8,Au];refine Bs hy3 ?_ ?_
   ·rw[G1 (by lia)]
    exact Ah (by have:=Mj hD ds.length (db _);lia)
   k_is;have hD2:=eE (d:=h') hD hop;have hl2:(ds++[h']).length=ds.length+1:=by rw[c9];rfl
   have ho2:opn (ds++[h']) (ds.length+1)=h'+1:=by
    show dAt (ds++[h']) ds.length+1=_;rw[Ot]
   refine⟨⟨ds++[h'],h'+1,_,rfl,hD2,by lia,by lia,by rw[hl2,ho2];exact db _,?_,?_,?_⟩,Bw s3 hyH⟩
   ·rw[tk1,htk,hl2,ho2,fv,yj,iz,Jn,Vo _ (db _),d9]
    unfold Bx;rw[Oa _ (db _),Ot]
   ·rw[Ai hpy,hp3,W6,dj]
    rfl
   ·have hwl:=Ci hD2 (ds.length+1) (by lia)
    have ew:(way (ds++[h']) (ds.length+1)).take (h'+1+1)=(way ds ds.length).take (h'+1)++[(ds.length:Int)]:=by
     rw[d5 (by lia),Y4]
    have ei:(((ds.length+[V.int ((way ds ds.length).getD h' 0)].length:Nat):Int)-1)=(ds.length:Int):=by
     simp only[d8,f6];lia
    rw[Ac,hl2,ew,dj,ei];rfl
  |false=>
   refine B0 (λh=>absurd h (by decide)) (λ_=>?_);have hs:hgt l (i+1)=hgt l i + -1:=hs;rw[kU hb] at hvs;have hpos:=hvs.1;apply⟨.inl ⟨rfl,_,SqL.of hy2⟩,?_⟩;refine⟨y,_,.int ((way ds ds.length).getD h' 0),rfl,rfl,hy2,?_,?_⟩
   ·rw[G1 (by lia),P6]
    rw[d7 (by lia)];exact hx
   k_is;rw[Pe (by lia)];refine⟨⟨ds,h'-1,_,rfl,hD,by lia,by lia,by lia,?_,?_,?_⟩,Bw s2 hyH⟩
   ·rw[tk1,htk,d9,show opn ds ds.length-(h'-1)=opn ds ds.length-h'+1 by lia,xu]
   ·rw[Ai hpy]
    exact hp2
   ·rw[Ac,show h'-1+1=h'+1-1 by lia]
 ·rintro G H2 ⟨⟨ds,h,v,rfl,hD,hdl,hh,hop,htk,hp2,hy2⟩,s2⟩
  rw[show(Az l).cps.size=l.length from Bc l] at *;obtain⟨h',hh',hvs,_⟩:=Y6 hv l.length (db _);rw[gg (db _)] at hvs;have hvs:h'=0:=hvs;have e:h=0:=by lia
  subst e;rw[d5 (db _),l4] at htk;k_is;exact q p ds H2 s2 hp hp2 hD htk.symm
inductive Zz (CS:df)(vs:List V)(H:Hp)(Q:VK)(E:XK):Prop|mk(x dx:df)(p:V)(_:vs=[.ref x,p])(_:H x=some (.ins CS dx []))(_:Q .non (upd H x (.ins CS dx [("pairs",p)])))
variable (ag:Qb K ad)
include T ag in
theorem We (F:Fun K "__init__" "Openings.__init__" Hb f fd):Ba P w K mg base CX0 1 f fd ["self","pairs"] (Zz ad):=by
 exists F.ok Po
 obtain⟨x,dx,p,rfl,hx,q⟩:=h;refine⟨_,(Ad (tsf (pv 0) (pv 1))),?_⟩;k_is;exact Eb hx ag.cl ag.cq (show 0<1000 by decide) q
inductive dC (C CR CS:df)(vs:List V)(H:Hp)(Q:VK)(E:XK):Prop|mk(x:df)(ls:List (Za5))(_:vs=[.ref x])(_:Bz C CR CS H x ls)(_:Q (.int (ls.flatten.length/2:Nat)) H)
variable (aB:Mth P w K mg base aa "size" 1 ["self"] (Ym ac aa))
include T ag aB in
theorem Ql (F:Fun K "many_knots" "Openings.many_knots" Dy f fd):Ba P w K mg base CX0 2 f fd ["self"] (dC ac aa ad):=by
 exists F.ok Kq
 obtain⟨x,ls,rfl,⟨dx,r,e,hx,hR⟩,q⟩:=h;refine⟨_,(Ad (Am (Ak F3 (G6 aB hr.m (tfl (pv 0))) Ag))),?_⟩;apply⟨x,ad,dx,_,_,rfl,hx,ag.cl,ag.cq,rfl,?_⟩;obtain⟨dp,p,b,k,t,o,hp,_⟩:=id hR;apply⟨r,dp,_,rfl,hp,rfl,?_⟩;apply⟨r,ls,rfl,hR,?_⟩;k_is;exact q
theorem Lz (ns:List Int)(m:Int):(ns.map V.int).countP (λz=>eqV z (.int m))=ns.count m:=by
 induction ns with
 |nil=>rfl
 |cons n r ih=>
  rw[jd,ub,kb,ih]
  by_cases h:n=m<;>simp[eqV,h]
inductive Yw (C:df)(vs:List V)(H:Hp)(Q:VK)(E:XK):Prop|mk(x dx:df)(l:Za5)(_:vs=[.ref x,.str (Az l)])(_:H x=some (.ins C dx []))(_:0<l.length)(_:l.length<=128)(_:∀H',SameBut x H H'->Im C H' x l->Q .non H')
include T aA in
theorem Wr (F:Fun K "__init__" "Piece.__init__" Kl f fd)(Z:Qc K ac)(bx:Cal P w K mg base "sums_of" 2 ["text"] (pI K)):Ba P w K mg base CX0 3 f fd ["self","signs"] (Yw ac):=by
 exists F.ok Nd
 obtain⟨x,dx,l,rfl,hx,h0,h1,q⟩:=h;refine⟨_,(Ab (tst 2 Nd.nd (Bn aA hr.m (tpa (pv 1) (tpa Ag Aa)))) (Ab (tsf (pv 0) (pv 1)) (Ab (tsf (pv 0) (Bn bx hr.m (tpa (pv 1) Aa))) (Ab (tsf (pv 0) (Ar (nM rfl) (by rfl) T.cT pV (tpa (pv 2) Aa))) (Ad (tsf (pv 0) (Cl dy vb va Vc (pv 2) (tpa (Ar (nX rfl) (by rfl) T.cK lQ (tpa (pv 2) Aa)) Aa)))))))),?_⟩
 apply⟨l,0,rfl,by lia,λp H1 s1 hp0 hp=>?_⟩;rw[Zc] at hp;have hx1:=s1 _ _ hx;apply Eb hx1 Z.cl Z.cN (show 0<1000 by decide) ?_;have hpx:p≠x:=(Af hx hp0).symm;have hp2:upd H1 x (.ins ac dx (De "signs" (V.str (Az l)) [])) p=some (.lst ((hts l l.length).map V.int)):=by rw[Ai hpx];exact hp
 have b2:SameBut x H1 (upd H1 x (.ins ac dx (De "signs" (V.str (Az l)) []))):=Ce;have hx2:=@Ac H1 x (.ins ac dx (De "signs" (V.str (Az l)) []));generalize upd H1 x _=H2 at *;apply⟨l,rfl,by lia,λm t H3 hm s3 ht0 ht=>?_⟩;have hx3:=s3 _ _ hx2;have hp3:=s3 _ _ hp2;have htx:t≠x:=(Af hx2 ht0).symm;apply Eb hx3 Z.cl Z.cQ (show 1<1000 by decide) ?_;have hp4:upd H3 x (.ins ac dx (De "kept_sums" (V.ref t) (De "signs" (V.str (Az l)) []))) p=some (.lst ((hts l l.length).map V.int)):=by rw[Ai hpx];exact hp3
 have ht4:upd H3 x (.ins ac dx (De "kept_sums" (V.ref t) (De "signs" (V.str (Az l)) []))) t=some (.tup (lI l m)):=by rw[Ai htx];exact ht
 have b4:SameBut x H3 (upd H3 x (.ins ac dx (De "kept_sums" (V.ref t) (De "signs" (V.str (Az l)) [])))):=Ce;have hx4:=@Ac H3 x (.ins ac dx (De "kept_sums" (V.ref t) (De "signs" (V.str (Az l)) [])));have but4:SameBut x H (upd H3 x (.ins ac dx (De "kept_sums" (V.ref t) (De "signs" (V.str (Az l)) [])))):=((s1.but.trans b2).trans s3.but).trans b4;generalize upd H3 x _=H4 at *;have hne:hts l l.length≠[]:=λe=>by
  have:=congrArg jg e;unfold hts at this;rw[c8,fj,f6] at this;lia
 apply⟨p,hts l l.length,rfl,SqL.of hp4,hne,λg hg=>?_⟩;apply Eb hx4 Z.cl Z.cU (show 2<1000 by decide) ?_;have hp5:upd H4 x (.ins ac dx (De "greatest" (V.int g) (De "kept_sums" (V.ref t) (De "signs" (V.str (Az l)) [])))) p=some (.lst ((hts l l.length).map V.int)):=by rw[Ai hpx];exact hp4
 apply⟨.inl ⟨rfl,_,SqL.of hp5⟩,?_⟩;apply⟨p,hts l l.length,rfl,SqL.of hp5,hne,λmn hmn=>?_⟩;apply⟨p,_,_,rfl,rfl,hp5,Cr _,rfl,?_⟩;apply Eb Ac Z.cl Z.cI (show 3<1000 by decide) ?_;rw[X5];refine q _ (but4.trans Ce) ⟨dx,t,m,g,_,Ac,?_,hm,hg,?_⟩
 ·rw[Ai htx]
  exact ht4
 ·obtain rfl:mn=m:=by
   rcases hm with⟨e,_⟩|hm
   ·rw[e] at h0
    exact absurd h0 (i4 _)
   ·exact hmn.uniq hm
  rw[Lz]
inductive Tl (C:df)(vs:List V)(H:Hp)(Q:VK)(E:XK):Prop|mk(l:Za5)(_:vs=[.str (Az l)])(_:l.length<=20000)(_:∀p (as:List df) H',Aj H H'->H p=none->H' p=some (.lst (as.map V.ref))->Pcs C H' as (pcs l)->Q (.ref p) H')
include T in
theorem Xu (F:Fun K "pieces_of" "pieces_of" Gz f fd)(bz:Mkr P w K mg base "Piece" ac 3 ["self","signs"] (Yw ac)):Ba P w K mg base CX0 5 f fd ["text"] (Tl ac):=by
 exists F.ok Kv
 obtain⟨l,rfl,hl,q⟩:=h;refine⟨_,(Ab (Nf (i:=1) Kv.nd rfl (sg rfl) (Ak F3 (Ak B7 (Ak Ay (Ar Er (by rfl) T.cp B9 (tpa (pv 0) Aa)) (Ii rfl T.cy)) Ag) (Ii rfl T.cy))) (Ab (Me (i:=2) rfl Ss Kv.nd rfl rfl (P1 rfl T.cu (tpa Ag (tpa (pv 1) Aa))) (λ_ _ _ _=>Ed) (λ_ _ _ _=>(Ak F3 (Ak Hd (pv 0) (Ar Er (by rfl) T.cp B9 (tpa (pv 2) Aa))) (pv 1)))) (Ad (Am (gM rfl Ty (iK rfl T.cM (tpa (Ak Ev (Bo (tpa Ag Aa)) (pv 2)) (tpa (Ak Ev (pv 2) (Bo (tpa (Ar Er (by rfl) T.cp B9 (tpa (pv 0) Aa)) Aa))) Aa))) (λ_ _ _ _=>N8 (ttc Gc (pv 0) (pv 1))) (λ_ _ _ _=>(dU bz hr.m (tpa (El qQ (pv 2) (Dl (pv 0)) (Dl (pv 1))) Aa)))))))),?_⟩
 have hs:(Az l).length=l.length:=Bc l;apply⟨_,rfl,fb (Ah (by rw[Bc];lia)),?_⟩;rw[Bc];k_is;have hm:((l.length:Nat):Int)+128-1=((l.length+127:Nat):Int):=by lia
 have hm2:(((l.length:Nat):Int)+128-1)/128=((pcM l.length:Nat):Int):=by rw[hm];unfold pcM;lia
 rw[hm2];have hM:pcM l.length<=200:=by unfold pcM;lia
 obtain⟨n,hn⟩:∃n,n=pcM l.length-1:=⟨_,rfl⟩;have hn2:(((pcM l.length:Nat):Int)-1).toNat=n:=by lia
 have hx:∀i,(((i+1)*l.length/pcM l.length:Nat):Int)=(1+(i:Int))*(l.length:Int)/(pcM l.length:Int):=λi=>by rw[Int.natCast_ediv,AT,l9,Int.add_comm];rfl
 refine⟨1,(pcM l.length:Nat),rfl,⟨by decide,by decide,by lia,by lia⟩,?_⟩;rw[hn2];refine Sq (λi=>(ed i).map λk:Nat=>V.int (Cg l.length (k+1):Nat)) rfl (λi hi=>?_) (λi H1 R A hi s1 _ hA=>?_) (λD H1 hD s1 h1=>?_)
 ·rw[c8,fj]
  exact Ah (by lia)
 ·apply⟨_,rfl,fb (Ah (by rw[Bc];lia)),?_⟩;rw[Bc];apply Ue (by lia) (by lia) ?_;apply wS (by lia) (by lia) ?_;apply hA _ _ ?_ (Aj.refl _);rw[ic,dj,<-hx i];rfl
 ·have hcl:((ed n).map λk:Nat=>V.int (Cg l.length (k+1):Nat)).length=n:=by rw[c8,fj]
  apply⟨few (by simp),λz1 hz1=>?_⟩;have u1:=An (o:=.lst [V.int 0]) hz1;apply⟨z1,D,_,_,rfl,rfl,Ac,u1 _ _ h1,?_,λp1 hp1=>?_⟩
  ·rw[hcl]
   exact few (by simp only[d8,f6];lia)
  have u2:=An (o:=.lst ([V.int 0]++(ed n).map λk:Nat=>V.int (Cg l.length (k+1):Nat))) hp1;have hq1:upd (upd H1 z1 (.lst [V.int 0])) p1 (.lst ([V.int 0]++(ed n).map λk:Nat=>V.int (Cg l.length (k+1):Nat))) p1=_:=Ac;have s2:=(s1.trans u1).trans u2;have h2:=u2 _ _ (u1 _ _ h1);generalize upd (upd H1 z1 (.lst [V.int 0])) p1 (.lst ([V.int 0]++(ed n).map λk:Nat=>V.int (Cg l.length (k+1):Nat)))=H2 at *;apply⟨_,rfl,fb (Ah (by rw[Bc];lia)),?_⟩;rw[Bc];apply⟨few (by simp),λz2 hz2=>?_⟩;have u3:=An (o:=.lst [V.int (l.length:Nat)]) hz2;apply⟨D,z2,_,_,rfl,rfl,u3 _ _ h2,Ac,?_,λp2 hp2=>?_⟩
  ·rw[hcl]
   exact few (by simp only[d8,f6];lia)
  have u4:=An (o:=.lst (((ed n).map λk:Nat=>V.int (Cg l.length (k+1):Nat))++[V.int (l.length:Nat)])) hp2;have hq2:upd (upd H2 z2 (.lst [V.int (l.length:Nat)])) p2 (.lst (((ed n).map λk:Nat=>V.int (Cg l.length (k+1):Nat))++[V.int (l.length:Nat)])) p2=_:=Ac;have s4:=(s2.trans u3).trans u4;have hq14:=u4 _ _ (u3 _ _ hq1);generalize upd (upd H2 z2 (.lst [V.int (l.length:Nat)])) p2 (.lst (((ed n).map λk:Nat=>V.int (Cg l.length (k+1):Nat))++[V.int (l.length:Nat)]))=H4 at *;have hl1:([V.int 0]++(ed n).map λk:Nat=>V.int (Cg l.length (k+1):Nat)).length=n+1:=by rw[c9,hcl];simp only[d8,f6];lia
  have hl2:(((ed n).map λk:Nat=>V.int (Cg l.length (k+1):Nat))++[V.int (l.length:Nat)]).length=n+1:=by rw[c9,hcl];rfl
  have ha1:∀i,i<=n->([V.int 0]++(ed n).map λk:Nat=>V.int (Cg l.length (k+1):Nat))[i]?=some (V.int (Cg l.length i:Nat)):=λi hi=>by
   cases i with
   |zero=>rw[Vi];rfl
   |succ i=>
    show((ed n).map λk:Nat=>V.int (Cg l.length (k+1):Nat))[i]?=_;rw[dg,ia (by lia)];rfl
  have hL:l.length=Cg l.length (n+1):=by
   by_cases h0:l.length=0
   ·rw[h0];unfold Cg;rw[CH,xk]
   ·have:n+1=pcM l.length:=by unfold pcM at hn ⊢;lia
    rw[this,T4 (by lia)]
  have ha2:∀i,i<=n->(((ed n).map λk:Nat=>V.int (Cg l.length (k+1):Nat))++[V.int (l.length:Nat)])[i]?=some (V.int (Cg l.length (i+1):Nat)):=λi hi=>by
   by_cases h:i<n
   ·rw[dv (by rw[hcl];exact h),dg,ia h]
    rfl
   ·obtain rfl:i=n:=by lia
    rw[di (by rw[hcl];exact db _),hcl,fv,<-hL];rfl
  apply⟨p1,p2,rfl,⟨_,SqL.of hq14⟩,⟨_,SqL.of hq2⟩,?_⟩;refine oS (SqL.of hq14) (SqL.of hq2) (λD i zs H'=>∃as:List df,zs=as.map V.ref/\as.length=min i (pcM l.length)/\∀(k:Nat) a x,as[k]?=some a->(pcs l)[k]?=some x->Im ac H' a x) (λD H' _ _=>⟨[],rfl,by rw[Nat.zero_min];rfl,λk a x e=>by cases e⟩) ?_ ?_ ?_ ?_ ?_
  ·rintro D i zs H' us o hD ⟨as,e1,e2,e3⟩
   refine⟨as,e1,e2,λk a x k1 k2=>?_⟩;obtain⟨d,t,m,g,o',x1,x2,x3⟩:=e3 k a x k1 k2;exact⟨d,t,m,g,o',by rw[Ai (λe=>by rw[e,hD] at x1;cases x1)];exact x1,by rw[Ai (λe=>by rw[e,hD] at x2;cases x2)];exact x2,x3⟩
  ·rintro D i zs H' hi ⟨as,rfl,e2,e3⟩
   rw[c8,e2];exact Ah (by lia)
  ·rintro D i zs H' H'' s ⟨as,e1,e2,e3⟩
   exact⟨as,e1,e2,λk a x k1 k2=>(e3 k a x k1 k2).kp (Aj.kp s)⟩
  ·intro D i zs y y2 H5 A R hy hy2 s5 hD0 hD5 hPv hR hA
   obtain⟨as,rfl,e2,e3⟩:=hPv;have hi:i<=n:=by have:=Bl hy;rw[hl1] at this;lia
   rw[ha1 i hi] at hy;rw[ha2 i hi] at hy2;obtain rfl:=de hy;obtain rfl:=de hy2;apply B0 (λhlt=>?_) (λhlt=>?_)
   ·have hlt:Cg l.length i<Cg l.length (i+1):=by lia
    have hiM:i<pcM l.length:=by
     by_cases h0:pcM l.length=0
     ·unfold Cg at hlt
      rw[h0,CM,CM] at hlt;lia
     ·lia
    have hsz:=Mi hiM;have hst:=O6 (k:=i) (jN hiM);apply⟨_,rfl,fb (Ah (by rw[Bc];lia)),?_⟩;rw[Vb];k_is;intro x dx hx0 hdx hxd;refine⟨x,dx,_,rfl,Ac,by rw[hsz];lia,by rw[hsz];lia,λH6 s6 hP6=>⟨rfl,?_⟩⟩;have s6:=Jz hx0 hdx s6;refine hA _ _ s6 ⟨as++[x],by rw[dj];rfl,by rw[c9,e2];simp only[d8,f6];lia,λk a y k1 k2=>?_⟩;rw[gn (by lia)] at e2
    by_cases hk:k<as.length
    ·rw[dv hk] at k1
     exact(e3 k a y k1 k2).kp (Aj.kp s6)
    ·have hk2:=Bl k1
     rw[c9] at hk2;obtain rfl:k=as.length:=by simp only[d8,f6] at hk2;lia
     rw[di (db _),fv] at k1;obtain rfl:x=a:=de k1;rw[e2,Pu hiM] at k2;obtain rfl:=de k2;exact hP6
   ·refine hR _ (Aj.refl _) ⟨as,rfl,?_,e3⟩
    have hM0:pcM l.length=0:=by
     by_cases h0:l.length=0
     ·rw[h0];rfl
     ·exfalso
      have:=O6 (k:=i) (show 0<l.length by lia);lia
    rw[e2,hM0,CJ,CJ]
  ·intro D5 zs H5 hD5 s5 hPv h5
   obtain⟨as,rfl,e2,e3⟩:=hPv;rw[hl1,hl2,CK] at e2;refine q D5 as H5 (s4.trans s5) (s4.free hD5) h5 ⟨?_,e3⟩;rw[e2,E9];lia
theorem fI {x:Za5}{m m':Int}(hx:0<x.length)(h1:Ma x m)(h2:Ma x m'):m=m':=by
 rcases h1 with⟨e,_⟩|h1
 ·rw[e] at hx
  exact absurd hx (i4 _)
 ·rcases h2 with⟨e,_⟩|h2
  ·rw[e] at hx
   exact absurd hx (i4 _)
  ·exact h1.uniq h2
theorem L5 {x b:df}(s:SameBut x H H')(hb:b≠x)(h:H' b=none):H b=none:=by
 cases e:H b with
 |none=>rfl
 |some u=>
  rw[s b u hb e] at h;cases h
def Fr4 (CR:df)(H H':Hp)(x p:df):Prop:=∃(dr b k t o:df) (n:V),H' x=some (.ins CR dr (fC (.ref p) (.ref b) (.ref k) n (.ref t) (.ref o)))/\H b=none/\H k=none/\H t=none/\H o=none
inductive Z8 (C CR:df)(vs:List V)(H:Hp)(Q:VK)(E:XK):Prop|mk(x dx p:df)(as:List df)(ls:List (Za5))(_:vs=[.ref x,.ref p])(_:H x=some (.ins CR dx []))(_:H p=some (.lst (as.map V.ref)))(_:Pcs C H as ls)(_:Fk ls)(_:ls.length<=400)(_:∀H',SameBut x H H'->Bp C CR H' x ls->Fr4 CR H H' x p->Q .non H')
variable (Y:Qc K ac)
include T ae Y in
theorem Wc (F:Fun K "__init__" "PiecedRow.__init__" B3 f fd)(bo:Cal P w K mg base "running_sums" 1 ["numbers"] xC)(Wo:vU P w K mg base "Heights" "__init__" 1 ["self","length","table","often_least"] (Zq aa)):Ba P w K mg base CX0 2 f fd ["self","pieces"] (Z8 ac aa):=by
 exists F.ok Fy
 obtain⟨x,dx,p,as,ls,rfl,hx,hp,hP,hZ,hn,q⟩:=h;refine⟨_,(Ab (tsf (pv 0) (pv 1)) (Ab (tsf (pv 0) (Bn bo hr.m (tpa (P4 rfl M7 (Do (pv 1)) (λ_ _ _ _=>Ed) (λ_ _ _ _=>(Ar Er (by rfl) T.cp B9 (tpa (Hm K (pv 0)) Aa)))) Aa))) (Ab (tsf (pv 0) (Bn bo hr.m (tpa (P4 rfl M5 (Do (pv 1)) (λ_ _ _ _=>Ed) (λ_ _ _ _=>(tix (jJ K) (Hm K (pv 0)) Ag))) Aa))) (Ab (Pa (i:=2) rfl M2 Fy.nd rfl rfl (iK rfl T.cM (tpa (tfl (pv 0)) (tpa (tfl (pv 0)) Aa))) (λ_ _ _ _=>Ed) (λ_ _ _ _=>(Ak B7 (Ak Hd Ag (pv 0)) (pv 1)))) (Ab (Pa (i:=3) rfl Nb Fy.nd rfl rfl (iK rfl T.cM (tpa (pv 2) (tpa (pv 1) Aa))) (λ_ _ _ _=>Ed) (λ_ _ _ _=>(Mn (tpa (pv 0) (tpa (Ak Ay (pv 0) (tix (jJ K) (Hm K (pv 1)) Ag)) (tpa (Ak Ay (pv 0) (Hm K (pv 1))) Aa)))))) (Ad (Bi (wQ Wo hr.m rfl (tpa (pv 0) (tpa (tix Ap (tfl (pv 0)) (Dg Cf Ag)) (tpa (pv 3) (tpa (P4 rfl M4 (Do (pv 1)) (λ_ _ _ _=>Ed) (λ_ _ _ _=>(Hm K (pv 0)))) Aa)))))))))))),?_⟩
 have hne:∀a∈as,a≠x:=λa ha e=>by
  obtain⟨k,hk⟩:=kd ha;have hk1:=(d6.mp hk).1;have hx2:ls[k]?=some (ls[k]'(by rw[<-hP.1];exact hk1)):=c7 _;obtain⟨d,t,m,g,o,h1,_⟩:=hP.2 k a _ hk hx2;rw[e,hx] at h1;cases h1
 have hpx:p≠x:=λe=>by rw[e,hx] at hp;cases hp
 have hal:(as.map V.ref).length=ls.length:=by rw[c8,hP.1]
 apply Eb hx ae.cl ae.cw (show 0<1000 by decide) ?_;rw[show De ("kept_pieces":Str) (V.ref p) []=iR (.ref p) from rfl];have hx1:=@Ac H x (.ins aa dx (iR (.ref p)));have b1:SameBut x H (upd H x (.ins aa dx (iR (.ref p)))):=Ce;have hP1:=hP.but b1 hx hne;have hp1:=b1 _ _ hpx hp;generalize upd H x _=H1 at *;apply⟨p,rfl,⟨_,SqL.of hp1⟩,?_⟩;refine Iy (SqL.of hp1) (λi=>nV ((ls.map jg).take i)) rfl (λi hi=>?_) (λi v H2 R A hv s2 _ hA=>?_) (λD2 H2 hD2 s2 h2=>?_)
 ·unfold nV
  rw[c8,dh];exact Ah (by lia)
 ·obtain⟨a,y,rfl,ea,ey,hy⟩:=hP1.get hv
  obtain⟨d,t,m,g,o,y1,y2,y3⟩:=hy;apply⟨a,ac,d,_,_,rfl,s2 _ _ y1,Y.cl,Y.cN,rfl,?_⟩;k_is;have:=hZ i y ey;refine⟨_,rfl,fb (Ah (by rw[Bc];lia)),?_⟩;rw[Bc];refine hA _ _ ?_ (Aj.refl _);rw[gj,dg,ey];unfold nV;rw[dj];rfl
 rw[hal,d5 (by rw[c8];exact db _)] at h2;apply⟨D2,ls.map jg,rfl,h2,by rw[c8];lia,λbg H3 s3 hb3 hbg=>?_⟩;have hbe:nV ((ed ((ls.map jg).length+1)).map λi=>((ls.map jg).take i).sum)=bgs ls:=by
  unfold bgs;rw[c8];exact congrArg nV (i5 λj _=>pF ls j)
 rw[hbe] at hbg;have s13:=s2.trans s3;have hbx:bg≠x:=(Af (s2 _ _ hx1) hb3).symm;have hx3:=s13 _ _ hx1;have hp3:=s13 _ _ hp1;have hP3:=hP1.kp (Aj.kp s13);have but3:=b1.trans s13.but;apply Eb hx3 ae.cl ae.cr (show 1<1000 by decide) ?_;rw[show De ("begins":Str) (V.ref bg) (iR (.ref p))=kT (.ref p) (.ref bg) from rfl];have hx4:=@Ac H3 x (.ins aa dx (kT (.ref p) (.ref bg)));have b4:SameBut x H3 (upd H3 x (.ins aa dx (kT (.ref p) (.ref bg)))):=Ce;have hP4:=hP3.but b4 hx3 hne;have hp4:=b4 _ _ hpx hp3;have hbg4:=b4 _ _ hbx hbg;have but4:=but3.trans b4;generalize upd H3 x _=H4 at *;apply⟨p,rfl,⟨_,SqL.of hp4⟩,?_⟩;refine Iy (SqL.of hp4) (λi=>nV ((kns ls).take i)) rfl (λi hi=>?_) (λi v H5 R A hv s5 _ hA=>?_) (λD5 H5 hD5 s5 h5=>?_)
 ·unfold nV
  rw[c8,dh];exact Ah (by lia)
 ·obtain⟨a,y,rfl,ea,ey,hy⟩:=hP4.get hv
  obtain⟨d,t,m,g,o,y1,y2,y3⟩:=hy;apply⟨a,ac,d,_,_,rfl,s5 _ _ y1,Y.cl,Y.cQ,rfl,?_⟩;apply Of (SqT.of (s5 _ _ y2)) (v:=.int (y.count true:Nat)) rfl ?_;refine hA _ _ ?_ (Aj.refl _);unfold kns;rw[gj,dg,ey];unfold nV;rw[dj];rfl
 rw[hal,d5 (by unfold kns;rw[c8];exact db _)] at h5;apply⟨D5,kns ls,rfl,h5,by unfold kns;rw[c8];lia,λkn H6 s6 hk6 hkn=>?_⟩;have hkl:(kns ls).length=ls.length:=by unfold kns;rw[c8]
 rw[hkl] at hkn;have s46:=s5.trans s6;have hkx:kn≠x:=(Af (s5 _ _ hx4) hk6).symm;have hx6:=s46 _ _ hx4;have hp6:=s46 _ _ hp4;have hbg6:=s46 _ _ hbg4;have hP6:=hP4.kp (Aj.kp s46);have but6:=but4.trans s46.but;apply Eb hx6 ae.cl ae.cH (show 2<1000 by decide) ?_;rw[show De ("knots_ahead":Str) (V.ref kn) (kT (.ref p) (.ref bg))=jG (.ref p) (.ref bg) (.ref kn) from rfl];have hx7:=@Ac H6 x (.ins aa dx (jG (.ref p) (.ref bg) (.ref kn)));have b7:SameBut x H6 (upd H6 x (.ins aa dx (jG (.ref p) (.ref bg) (.ref kn)))):=Ce;have hP7:=hP6.but b7 hx6 hne;have hp7:=b7 _ _ hpx hp6;have hbg7:=b7 _ _ hbx hbg6;have hkn7:=b7 _ _ hkx hkn;have but7:=but6.trans b7;generalize upd H6 x _=H7 at *;apply⟨x,aa,dx,_,.ref kn,rfl,hx7,ae.cl,ae.cH,rfl,?_⟩;apply⟨x,aa,dx,_,.ref bg,rfl,hx7,ae.cl,ae.cr,rfl,?_⟩;apply⟨kn,bg,rfl,⟨_,SqL.of hkn7⟩,⟨_,SqL.of hbg7⟩,?_⟩;have hkl2:(nV ((ed (ls.length+1)).map λi=>((kns ls).take i).sum)).length=ls.length+1:=by unfold nV;rw[c8,c8,fj]
 have kat:∀{i:Nat} {v:V},(nV ((ed (ls.length+1)).map λi=>((kns ls).take i).sum))[i]?=some v->v=.int (((kns ls).take i).sum:Nat):=λ{i v} e=>by
  have hi:=Bl e;rw[hkl2] at hi;unfold nV at e;rw[dg,dg,ia hi] at e;exact(de e).symm
 refine zC (SqL.of hkn7) (SqL.of hbg7) (λi=>((ed i).map λj=>2*(((kns ls).take j).sum:Int)-(bgn ls j:Int)).map V.int) rfl (λi hi=>?_) (λi v v2 H8 R A hv hv2 s8 _ hA=>?_) (λD8 H8 hD8 s8 h8=>?_)
 ·rw[hkl2,iV] at hi
  rw[c8,c8,fj];exact Ah (by lia)
 ·have hi:=Bl hv
  rw[hkl2] at hi;rw[Hu (by lia)] at hv2;obtain rfl:=kat hv;obtain rfl:=de hv2;apply hA _ _ ?_ (Aj.refl _);rw[ic,dj,dj];rfl
 rw[hkl2,iV,CK] at h8;have hx8:=s8 _ _ hx7;have hp8:=s8 _ _ hp7;have hbg8:=s8 _ _ hbg7;have hP8:=hP7.kp (Aj.kp s8);have but8:=but7.trans s8.but;have hll:(((ed (ls.length+1)).map λj=>2*(((kns ls).take j).sum:Int)-(bgn ls j:Int)).map V.int).length=ls.length+1:=by rw[c8,c8,fj]
 apply⟨D8,p,rfl,⟨_,SqL.of h8⟩,⟨_,SqL.of hp8⟩,?_⟩;refine vW (SqL.of h8) (SqL.of hp8) (λD i zs H'=>∃rs:List df,zs=rs.map V.ref/\rs.length=i/\∀(j:Nat) (r:df),rs[j]?=some r->Abq H' ls r j) (λD H' _ _=>⟨[],rfl,rfl,λj r e=>by cases e⟩) (λD i zs H' us o hD ⟨rs,e1,e2,e3⟩=>⟨rs,e1,e2,λj r e x ex=>let ⟨m,g,r1,r2⟩:=e3 j r e x ex;⟨m,g,by rw[Ai (Jy r1 hD (by intro z;cases z))];exact r1,r2⟩⟩) ?_ (λD i zs H' H'' s ⟨rs,e1,e2,e3⟩=>⟨rs,e1,e2,λj r e x ex=>let ⟨m,g,r1,r2⟩:=e3 j r e x ex;⟨m,g,s _ _ r1,r2⟩⟩) ?_ ?_
 ·rintro D i zs H' hi ⟨rs,rfl,h,_⟩
  rw[c8,h];rw[hll,hal] at hi;exact Ah (by lia)
 ·rintro D i zs y y2 H9 A R hy hy2 s9 _ _ ⟨rs,rfl,hPv,hTR⟩ hA
  obtain⟨z,hz,rfl⟩:=O5 hy;have hil:=Bl hz;rw[c8,fj] at hil;rw[dg,ia hil] at hz;obtain rfl:hBg ls i=z:=de hz;obtain⟨a,c,rfl,ea,ec,hc⟩:=hP8.get hy2;obtain⟨d,t,m,g,o,y1,y2,y3⟩:=hc;apply⟨a,ac,d,_,_,rfl,s9 _ _ y1,Y.cl,Y.cQ,rfl,?_⟩;apply Of (SqT.of (s9 _ _ y2)) (v:=.int m) rfl ?_;apply⟨a,ac,d,_,_,rfl,s9 _ _ y1,Y.cl,Y.cU,rfl,?_⟩;apply⟨few (by simp),λtp htp=>?_⟩;refine hA _ _ (An htp) ⟨rs++[tp],by rw[dj];rfl,by rw[c9,hPv];rfl,λj r e x ex=>?_⟩
  by_cases hj:j<rs.length
  ·rw[dv hj] at e
   obtain⟨m',g',r1,r2⟩:=hTR j r e x ex;exact⟨m',g',An htp _ _ r1,r2⟩
  ·rw[di (by lia)] at e
   have hj1:j-rs.length=0:=by
    have:=Bl e;simp at this;lia
   rw[hj1] at e;obtain rfl:tp=r:=de e;obtain rfl:j=i:=by lia
   rw[ec] at ex;obtain rfl:=de ex;exact⟨m,g,Ac,y3.1,y3.2.1⟩
 ·rintro D9 zs H9 hD9 s9 ⟨rs,rfl,hPv,hTR⟩ h9
  rw[hll,hal,l5 (by lia)] at hPv;have hkn9:=s9 _ _ (s8 _ _ hkn7);have hD9x:D9≠x:=(Af hx8 hD9).symm;have hx9:=s9 _ _ hx8;have hp9:=s9 _ _ hp8;have hbg9:=s9 _ _ hbg8;have hP9:=hP8.kp (Aj.kp s9);have but9:=but8.trans s9.but;apply⟨x,aa,dx,_,.ref bg,rfl,hx9,ae.cl,ae.cr,rfl,?_⟩;apply Bb (SqL.of hbg9) (v:=.int (ls.flatten.length:Nat)) ?_ ?_
  ·unfold bgs
   rw[Ui,Hj];exact F1 _ _
  apply⟨p,rfl,⟨_,SqL.of hp9⟩,?_⟩;refine oY (SqL.of hp9) (λi ys H'=>ys.length=i/\∀(j:Nat) (v:V) (x:Za5) (m:Int),ys[j]?=some v->ls[j]?=some x->Ma x m->v=.int ((hts x x.length).count m:Nat)) (λ_ _=>⟨rfl,λj v x m e=>by cases e⟩) (λi ys H' D zs o _ h=>h) (λi ys H' hi h=>?_) ?_ ?_
  ·rw[h.1]
   rw[hal] at hi;exact Ah (by lia)
  ·intro i ys y H10 A R hy s10 hPv2 hA
   obtain⟨a,c,rfl,ea,ec,hc⟩:=hP9.get hy;obtain⟨d,t,m,g,o,y1,y2,y3⟩:=hc;apply⟨a,ac,d,_,_,rfl,s10 _ _ y1,Y.cl,Y.cI,rfl,?_⟩;refine hA _ _ (Aj.refl _) ⟨by rw[c9,hPv2.1];rfl,λj v x m' e ex hm'=>?_⟩
   by_cases hj:j<ys.length
   ·rw[dv hj] at e
    exact hPv2.2 j v x m' e ex hm'
   ·rw[di (by lia)] at e
    have hj1:j-ys.length=0:=by
     have:=Bl e;simp at this;lia
    rw[hj1] at e;have hPv3:=hPv2.1;obtain rfl:j=i:=by lia
    rw[ec] at ex;obtain rfl:=de ex;rw[<-de e,y3.2.2];obtain rfl:m=m':=fI (hZ _ _ ec).1 y3.1 hm';rfl
  ·intro D10 ys H10 hD10 s10 hPv2 h10
   have hx10:=s10 _ _ hx9;apply⟨x,dx,.ref p,.ref bg,.ref kn,_,_,_,rfl,hx10,?_⟩;have b11:SameBut x H10 (upd H10 x (.ins aa dx (fC (.ref p) (.ref bg) (.ref kn) (.int (ls.flatten.length:Nat)) (.ref D9) (.ref D10)))):=Ce;have hD10x:D10≠x:=(Af hx9 hD10).symm;have kt:∀{b:df} {xs:List V},H10 b=some (.tup xs)->upd H10 x (.ins aa dx (fC (.ref p) (.ref bg) (.ref kn) (.int (ls.flatten.length:Nat)) (.ref D9) (.ref D10))) b=some (.tup xs):=λ{b xs} e=>b11 _ _ (Jy e hx10 (by intro z;cases z)) e;refine q _ ((but9.trans s10.but).trans b11) ⟨dx,p,bg,_,_,_,Ac,⟨⟨as,b11 _ _ hpx (s10 _ _ hp9),(hP9.kp (Aj.kp s10)).but b11 hx10 hne⟩,b11 _ _ hbx (s10 _ _ hbg9),hZ,hn⟩,⟨kn,rfl,b11 _ _ hkx (s10 _ _ hkn9)⟩,⟨D9,rs,rfl,b11 _ _ hD9x (s10 _ _ h9),hPv,λj r e x' ex=>let ⟨m,g,r1,r2⟩:=hTR j r e x' ex;⟨m,g,kt (s10 _ _ r1),r2⟩⟩,⟨D10,ys,rfl,b11 _ _ hD10x h10,by rw[hPv2.1,hal],hPv2.2⟩⟩ ⟨dx,bg,kn,D9,D10,_,Ac,L5 (b1.trans s2.but) hbx hb3,L5 (but4.trans s5.but) hkx hk6,L5 but8 hD9x hD9,L5 but9 hD10x hD10⟩
inductive qG (C CR:df)(ts:List Tb)(vs:List V)(H:Hp)(Q:VK)(E:XK):Prop|mk(x:df)(ls:List (Za5))(n:Nat)(_:vs=[.ref x,.int n])(_:Bp C CR H x ls)(_:Tbs ts H)(_:∀(k:Nat) H',k<=ls.length->bgn ls k<=n->(k<ls.length->n<bgn ls (k+1))->SmT ts H H'->Q (.int k) H')
variable (hK:K.In base) (hB:base.BuiltinsAt mg Pt) (aC:Cal P w K mg base "first_that" 3 ["low","high","holds"] (Rx P w K mg base 2))
include T ae hK hB aC in
theorem Qh {f c:df}(F:Uy K "stretch_at" "PiecedRow.stretch_at" Br f fd c Pt)(hts:(⟨Pt,Ez,"PiecedRow.stretch_at.<locals>.<lambda>"⟩:Tb)∈ts):Ba P w K mg base CX0 4 f fd ["self","place"] (qG ac aa ts):=by
 refine F.ok J5 (λvs H Q E h=>?_) (λA outer s H vs Q E hr h=>?_)
 ·obtain⟨x,ls,n,rfl,_⟩:=h
  rfl
 ·obtain⟨x,ls,n,rfl,hR,hT,q⟩:=h
  obtain⟨dx,p,b,k,t,o,hx,hW,_⟩:=id hR;obtain⟨as,hp,hP⟩:=hW.pcs;refine⟨_,(Ad (Am (fB (qual:="PiecedRow.stretch_at.<locals>.<lambda>") (k:=1) aC hr.m Ag (Ar Aq (by rfl) T.cp B9 (tpa (tfl (pv 0)) Aa)) (F.code hK) hB rfl (by kernel_rfl) Ie (λ_ _ _ _ _ _ _ hr=>(tpc Jr (tix (Hv K) (Hm K (pv 2)) (Ak Ay (pv 0) Ag)) (pv 1)))))),?_⟩;apply⟨x,aa,dx,_,_,rfl,hx,ae.cl,ae.cw,rfl,?_⟩;apply⟨p,_,rfl,.inl (SqL.of hp),?_⟩;rw[show(as.map V.ref).length=ls.length by rw[c8,hP.1]];k_is;have hk:=hT.1 _ hts;refine⟨0,(ls.length:Nat),λi=>decide (n<bgn ls (i.toNat+1)),rfl,rfl,by lia,hk,λi H3 hi1 hi2 s3=>?_,λm H' hm1 hm2 hm3 hm4 s' t'=>?_⟩
  ·obtain⟨pt,hpt⟩:=Tb.tbl hk
   have kp:∀{b:df} {u:HO},(∀ps,u≠.tbl ps)->H b=some u->H3 b=some u:=λ{b u} nt e=>s3 b u (λz=>by rw[z,hpt] at e;cases e;exact nt pt rfl) e;have hx3:=kp (by intro ps e;cases e) hx;have hb3:=kp (by intro ps e;cases e) hW.bg;apply⟨x,aa,dx,_,_,rfl,hx3,ae.cl,ae.cr,rfl,?_⟩;k_is;obtain⟨k,rfl⟩:=jk hi1;refine Bb (SqL.of hb3) (v:=.int (bgn ls (k+1):Nat)) (Bd (j:=k+1) (Hu (show k+1<=ls.length by lia))) ?_;apply⟨?_,Aj.refl _⟩;rw[f9];exact congrArg V.bl (decide_eq_decide.mpr (by lia))
  ·obtain⟨k,rfl⟩:=jk hm1
   refine q k H' (by lia) ?_ (λhlt=>?_) (qB hT hts s' t')
   ·rcases mf k with rfl|hk0
    ·rw[Tr];exact e9 _
    ·have:=hm3 (by lia)
     dsimp only at this;rw[show(((k:Int)-1).toNat+1)=k by lia] at this;have:=of_decide_eq_false this;lia
   ·have:=hm4 (by lia)
    dsimp only at this;rw[f9] at this;exact of_decide_eq_true this
inductive pP (C CR:df)(ts:List Tb)(vs:List V)(H:Hp)(Q:VK)(E:XK):Prop|mk(x:df)(ls:List (Za5))(n:Nat)(_:vs=[.ref x,.int n])(_:Bp C CR H x ls)(_:Tbs ts H)(_:∀(k:Nat) H',k<=ls.length->(0<k->bgn ls (k-1)<n)->(k<ls.length->n<=bgn ls k)->SmT ts H H'->Q (.int k) H')
include T ae hK hB aC in
theorem Qm {f c:df}(F:Uy K "pieces_to" "PiecedRow.pieces_to" Bv f fd c Pt)(hts:(⟨Pt,Fl,"PiecedRow.pieces_to.<locals>.<lambda>"⟩:Tb)∈ts):Ba P w K mg base CX0 4 f fd ["self","place"] (pP ac aa ts):=by
 refine F.ok K4 (λvs H Q E h=>?_) (λA outer s H vs Q E hr h=>?_)
 ·obtain⟨x,ls,n,rfl,_⟩:=h
  rfl
 ·obtain⟨x,ls,n,rfl,hR,hT,q⟩:=h
  obtain⟨dx,p,b,k,t,o,hx,hW,_⟩:=id hR;obtain⟨as,hp,hP⟩:=hW.pcs;refine⟨_,(Ad (Am (fB (qual:="PiecedRow.pieces_to.<locals>.<lambda>") (k:=1) aC hr.m Ag (Ar Aq (by rfl) T.cp B9 (tpa (tfl (pv 0)) Aa)) (F.code hK) hB rfl (by kernel_rfl) Il (λ_ _ _ _ _ _ _ hr=>(tpc Oi (tix (Hv K) (Hm K (pv 2)) (pv 0)) (pv 1)))))),?_⟩;apply⟨x,aa,dx,_,_,rfl,hx,ae.cl,ae.cw,rfl,?_⟩;apply⟨p,_,rfl,.inl (SqL.of hp),?_⟩;rw[show(as.map V.ref).length=ls.length by rw[c8,hP.1]];k_is;have hk:=hT.1 _ hts;refine⟨0,(ls.length:Nat),λi=>decide (n<=bgn ls i.toNat),rfl,rfl,by lia,hk,λi H3 hi1 hi2 s3=>?_,λm H' hm1 hm2 hm3 hm4 s' t'=>?_⟩
  ·obtain⟨pt,hpt⟩:=Tb.tbl hk
   have kp:∀{b:df} {u:HO},(∀ps,u≠.tbl ps)->H b=some u->H3 b=some u:=λ{b u} nt e=>s3 b u (λz=>by rw[z,hpt] at e;cases e;exact nt pt rfl) e;have hx3:=kp (by intro ps e;cases e) hx;have hb3:=kp (by intro ps e;cases e) hW.bg;apply⟨x,aa,dx,_,_,rfl,hx3,ae.cl,ae.cr,rfl,?_⟩;k_is;obtain⟨k,rfl⟩:=jk hi1;refine Bb (SqL.of hb3) (v:=.int (bgn ls k:Nat)) (Bd (j:=k) (Hu (show k<=ls.length by lia))) ?_;apply⟨?_,Aj.refl _⟩;rw[f9];exact congrArg V.bl (decide_eq_decide.mpr (by lia))
  ·obtain⟨k,rfl⟩:=jk hm1
   refine q k H' (by lia) (λhk0=>?_) (λhlt=>?_) (qB hT hts s' t')
   ·have:=hm3 (by lia)
    dsimp only at this;rw[show((k:Int)-1).toNat=k-1 by lia] at this;have:=of_decide_eq_false this;lia
   ·have:=hm4 (by lia)
    dsimp only at this;rw[f9] at this;exact of_decide_eq_true this
inductive Rc (C CR:df)(ts:List Tb)(vs:List V)(H:Hp)(Q:VK)(E:XK):Prop|mk(x:df)(ls:List (Za5))(lo hi:Nat)(_:vs=[.ref x,.int lo,.int hi])(_:Bp C CR H x ls)(_:Tbs ts H)(_:lo<=hi)(_:hi<=ls.flatten.length)(_:∀H',SmT ts H H'->Q (.str (Az ((ls.flatten.drop lo).take (hi-lo)))) H')
theorem Zv (xs:List V){a b:Nat}(h:b<=xs.length):Ro xs (some (a:Int)) (some (b:Int))=(xs.drop a).take (b-a):=by
 unfold Ro;rw[HT.sIx_nat,HT.sIx_nat,gn h]
 by_cases ha:a<=xs.length
 ·rw[gn ha]
 ·rw[l5 (by lia),gg (db _),gg (by lia),wj,wj]
theorem gR {ls:List (Za5)}(hZ:Fk ls){i j:Nat}(h:i<j)(hj:j<=ls.length):bgn ls i<bgn ls j:=by
 have hi:i<ls.length:=by lia
 have:=Eg (c7 hi);have h1:=(hZ i _ (c7 hi)).1;have h2:=E2 (ls:=ls) (show i+1<=j by lia);lia
theorem Yd {ls:List (Za5)}(hZ:Fk ls):∀j,j<=ls.length->bgn ls j<=128*j
 |0,_=>by rw[Tr];exact e9 _
 |j+1,h=>by
  have h1:=Yd hZ j (by lia);have h2:=(hZ j _ (c7 (show j<ls.length by lia))).2;rw[Eg (c7 (show j<ls.length by lia))];lia
variable (aj:Mth P w K mg base aa "stretch_at" 4 ["self","place"] (qG ac aa ts)) (aM:Mth P w K mg base aa "pieces_to" 4 ["self","place"] (pP ac aa ts))
include T ae Y aj aM in
theorem Qv (F:Fun K "stretch" "PiecedRow.stretch" C6 f fd):Ba P w K mg base CX0 5 f fd ["self","low","high"] (Rc ac aa ts):=by
 exists F.ok Cw
 obtain⟨x,ls,lo,hi,rfl,hR,hT,hlh,hhi,q⟩:=h;obtain⟨dx,p,b,k,t,o,hx,hW,_⟩:=id hR;obtain⟨as,hp,hP⟩:=id hW.pcs;refine⟨_,(Ab (tst 3 Cw.nd (At aj hr.m (pv 0) (tpa (pv 1) Aa))) (Ab (tst 4 Cw.nd (Cl md wg wf jT Dp (tpa (P4 rfl K2 (Do (El Hq (tfl (pv 0)) (Dl (pv 3)) (Dl (At aM hr.m (pv 0) (tpa (pv 2) Aa))))) (λ_ _ _ _=>Ed) (λ_ _ _ _=>(Hm K (pv 0)))) Aa))) (Ab (tst 5 Cw.nd (tix Ap (tfl (pv 0)) (pv 3))) (Ad (Am (El qQ (pv 4) (Dl (Ak B7 (pv 1) (pv 5))) (Dl (Ak B7 (pv 2) (pv 5))))))))),?_⟩
 apply⟨x,dx,_,rfl,hx,rfl,?_⟩;apply⟨x,ls,lo,rfl,hR,hT,λk1 H1 hk1 ha1 hb1 s1=>?_⟩;have hx1:=s1.k hx;have hR1:=hR.kp s1.kp;apply⟨rfl,?_⟩;apply⟨x,aa,dx,_,_,rfl,hx1,ae.cl,ae.cw,rfl,?_⟩;apply⟨x,dx,_,rfl,hx1,rfl,?_⟩;apply⟨x,ls,hi,rfl,hR1,s1.ok,λk2 H2 hk2 ha2 hb2 s2=>?_⟩;have s12:=s1.trans s2;have hx2:=s12.k hx;have hp2:=s12.k hp;have hW2:=hW.kp s12.kp;have hP2:=hP.kp s12.kp;have hkk:k1<=k2:=by
  by_cases h:k1<=k2
  ·exact h
  ·exfalso
   have h1:=hb2 (by lia);have h2:=gR hW.sz (show k2<k1 by lia) hk1;lia
 have hend:hi<=bgn ls k2:=by
  by_cases h:k2<ls.length
  ·exact hb2 h
  ·rw[show k2=ls.length by lia,Hj];exact hhi
 have hal:(as.map V.ref).length=ls.length:=by rw[c8,hP.1]
 apply⟨p,_,rfl,SqL.of hp2,λD hD=>?_⟩;rw[Zv _ (by rw[hal];exact hk2)] at *;obtain⟨uD,hD2⟩:=Be (o:=.lst (((as.map V.ref).drop k1).take (k2-k1))) hD;have hP3:=hP2.kp (Aj.kp uD);have hx3:=uD _ _ hx2;have hbg3:=uD _ _ hW2.bg;have s3:=s12.then uD;generalize upd H2 D _=H3 at *;have hcl:(((as.map V.ref).drop k1).take (k2-k1)).length=k2-k1:=by rw[dh,fh,hal];lia
 have hfw:=hW.fw;apply⟨D,rfl,⟨_,SqL.of hD2⟩,?_⟩;refine Iy (SqL.of hD2) (λi=>(((ls.drop k1).take (k2-k1)).take i).map λl=>V.str (Az l)) rfl (λi hi=>?_) (λi v H4 R A hv s4 _ hA=>?_) (λD4 H4 hD4 s4 h4=>?_)
 ·rw[c8,dh,dh,fh]
  exact Ah (by lia)
 ·have hi:=Bl hv
  rw[hcl] at hi;rw[d7 hi,jb] at hv;obtain⟨a,y,rfl,ea,ey,hy⟩:=hP3.get hv;obtain⟨d,t,m,g,o,y1,y2,y3⟩:=hy;apply⟨a,ac,d,_,_,rfl,s4 _ _ y1,Y.cl,Y.cN,rfl,?_⟩;refine hA _ _ ?_ (Aj.refl _);rw[gj,d7 hi,jb,ey,dj];rfl
 rw[hcl,d5 (by rw[dh];lia)] at h4;have hfl:ls.flatten.length<=60000:=by
  have:=Yd hW.sz ls.length (db _);rw[Hj] at this;lia
 apply Z2 (ls:=(ls.drop k1).take (k2-k1)) h4 ?_ ?_
 ·rw[dJ ls hkk,dh,fh]
  lia
 rw[dJ ls hkk];apply⟨x,aa,dx,_,_,rfl,s4 _ _ hx3,ae.cl,ae.cr,rfl,?_⟩;apply Bb (SqL.of (s4 _ _ hbg3)) (v:=.int (bgn ls k1:Nat)) (Bd (j:=k1) (Hu hk1)) ?_;apply⟨_,rfl,fb (Ah (by rw[Bc,dh,fh];lia)),?_⟩;rw[show(lo:Int)-(bgn ls k1:Nat)=((lo-bgn ls k1:Nat):Int) by lia,show(hi:Int)-(bgn ls k1:Nat)=((hi-bgn ls k1:Nat):Int) by lia,Vb,show hi-bgn ls k1-(lo-bgn ls k1)=hi-lo by lia,tS ls.flatten ha1 hlh hend];exact q _ (s3.then s4)
inductive kM (C CR:df)(ts:List Tb)(vs:List V)(H:Hp)(Q:VK)(E:XK):Prop|mk(x:df)(ls:List (Za5))(_:vs=[.ref x])(_:Bp C CR H x ls)(_:Tbs ts H)(_:∀H',SmT ts H H'->Q (.str (Az ls.flatten)) H')
variable (am:Mth P w K mg base aa "stretch" 5 ["self","low","high"] (Rc ac aa ts))
include T ae am in
theorem Wl (F:Fun K "text" "Heights.text" Ig f fd):Ba P w K mg base CX0 6 f fd ["self"] (kM ac aa ts):=by
 exists F.ok Rp
 obtain⟨x,ls,rfl,hR,hT,q⟩:=h;obtain⟨dx,p,b,k,t,o,hx,hW,_⟩:=id hR;refine⟨_,(Ad (Am (At am hr.m (pv 0) (tpa Ag (tpa (tfl (pv 0)) Aa))))),?_⟩;apply⟨x,dx,_,rfl,hx,rfl,?_⟩;apply⟨x,aa,dx,_,_,rfl,hx,ae.cl,ae.cz,rfl,?_⟩;apply⟨x,ls,0,ls.flatten.length,rfl,hR,hT,e9 _,db _,λH' s'=>?_⟩;rw[qw,l4,lx];exact q H' s'
theorem dP (l:Za5):hgt l 0=0:=by unfold hgt;simp
theorem kQ (ls:List (Za5))(j:Nat):((kns ls).take j).sum=(ls.flatten.take (bgn ls j)).count true:=by
 unfold kns;rw[<-Pd,List.count_flatten,<-jx]
theorem zD (ls:List (Za5))(j:Nat):hBg ls j=hgt ls.flatten (bgn ls j):=by
 unfold hBg hgt;rw[kQ]
def knV (ls:List (Za5)):List V:=nV ((ed (ls.length+1)).map λi=>((kns ls).take i).sum)
theorem iL {ls:List (Za5)}{j:Nat}(h:j<=ls.length):(knV ls)[j]?=some (.int ((ls.flatten.take (bgn ls j)).count true:Nat)):=by
 unfold knV nV;rw[dg,dg,ia (by lia),<-kQ];rfl
theorem My (l:Za5){a n:Nat}(h:a<=n):(l.take n).count true=(l.take a).count true+((l.drop a).take (n-a)).count true:=by
 rw[<-gu,<-oh,kv h]
inductive Zg (C CR:df)(ts:List Tb)(vs:List V)(H:Hp)(Q:VK)(E:XK):Prop|mk(x:df)(ls:List (Za5))(n:Nat)(_:vs=[.ref x,.int n])(_:Bp C CR H x ls)(_:Tbs ts H)(_:n<=ls.flatten.length)(_:∀H',SmT ts H H'->Q (.int ((ls.flatten.take n).count true:Nat)) H')
include T ae aj am in
theorem Qe (F:Fun K "opens_ahead" "PiecedRow.opens_ahead" Dc f fd):Ba P w K mg base CX0 6 f fd ["self","place"] (Zg ac aa ts):=by
 exists F.ok E6
 obtain⟨x,ls,n,rfl,hR,hT,hn,q⟩:=h;obtain⟨dx,p,b,k,t,o,hx,hW,hTb⟩:=id hR;obtain⟨ka,rfl,hka⟩:=hTb.kn;refine⟨_,(Ab (tst 2 E6.nd (At aj hr.m (pv 0) (tpa (pv 1) Aa))) (Ad (Am (Ak Ay (tix Ap (tfl (pv 0)) (pv 2)) (Cl md vo vm Y7 (At am hr.m (pv 0) (tpa (tix Ap (tfl (pv 0)) (pv 2)) (tpa (pv 1) Aa))) (tpa Dp Aa)))))),?_⟩
 apply⟨x,dx,_,rfl,hx,rfl,?_⟩;apply⟨x,ls,n,rfl,hR,hT,λk1 H1 hk1 ha1 hb1 s1=>?_⟩;have hx1:=s1.k hx;have hR1:=hR.kp s1.kp;apply⟨x,aa,dx,_,_,rfl,hx1,ae.cl,ae.cH,rfl,?_⟩;apply Bb (SqL.of (s1.k hka)) (v:=.int ((ls.flatten.take (bgn ls k1)).count true:Nat)) (Bd (j:=k1) (iL hk1)) ?_;apply⟨x,dx,_,rfl,hx1,rfl,?_⟩;apply⟨x,aa,dx,_,_,rfl,hx1,ae.cl,ae.cr,rfl,?_⟩;apply Bb (SqL.of (s1.k hW.bg)) (v:=.int (bgn ls k1:Nat)) (Bd (j:=k1) (Hu hk1)) ?_;apply⟨x,ls,bgn ls k1,n,rfl,hR1,s1.ok,ha1,hn,λH2 s2=>?_⟩;apply⟨rfl,?_⟩;apply⟨Az _,49,rfl,rfl,?_⟩;rw[(Vj _).1];k_is;have e:=My ls.flatten ha1;have:=q H2 (s1.trans s2);rw[e] at this;exact this
inductive W9 (C CR:df)(ts:List Tb)(vs:List V)(H:Hp)(Q:VK)(E:XK):Prop|mk(x:df)(ls:List (Za5))(n:Nat)(_:vs=[.ref x,.int n])(_:Bp C CR H x ls)(_:Tbs ts H)(_:n<=ls.flatten.length)(_:∀H',SmT ts H H'->Q (.int (hgt ls.flatten n)) H')
variable (aN:Mth P w K mg base aa "opens_ahead" 6 ["self","place"] (Zg ac aa ts))
include T ae aN in
theorem Q6 (F:Fun K "height" "Heights.height" Gf f fd):Ba P w K mg base CX0 7 f fd ["self","place"] (W9 ac aa ts):=by
 exists F.ok N2
 obtain⟨x,ls,n,rfl,hR,hT,hn,q⟩:=h;obtain⟨dx,p,b,k,t,o,hx,hW,hTb⟩:=id hR;refine⟨_,(Ad (Am (Ak B7 (Ak Hd Ag (At aN hr.m (pv 0) (tpa (pv 1) Aa))) (pv 1)))),?_⟩;apply⟨x,dx,_,rfl,hx,rfl,?_⟩;apply⟨x,ls,n,rfl,hR,hT,hn,λH1 s1=>?_⟩;k_is;exact q H1 s1
inductive kZ (C CR:df)(ts:List Tb)(vs:List V)(H:Hp)(Q:VK)(E:XK):Prop|mk(x:df)(ls:List (Za5))(n:Nat)(_:vs=[.ref x,.int n])(_:Bp C CR H x ls)(_:Tbs ts H)(_:n<ls.flatten.length)(_:∀H',SmT ts H H'->Q (.bl (ls.flatten.getD n false)) H')
theorem oW {l:Za5}{n:Nat}(h:n<l.length):(l.drop n).take (n+1-n)=[l.getD n false]:=by
 rw[fq,jq h,oz,List.take_zero];unfold eh;rw[c7 h];rfl
include T ae am in
theorem Qg (F:Fun K "is_opening" "PiecedRow.is_opening" Dk f fd):Ba P w K mg base CX0 6 f fd ["self","place"] (kZ ac aa ts):=by
 exists F.ok Jq
 obtain⟨x,ls,n,rfl,hR,hT,hn,q⟩:=h;obtain⟨dx,p,b,k,t,o,hx,hW,hTb⟩:=id hR;refine⟨_,(Ad (Am (tpc Et (At am hr.m (pv 0) (tpa (pv 1) (tpa (Ak Ay (pv 1) Ag) Aa))) Dp))),?_⟩;apply⟨x,dx,_,rfl,hx,rfl,?_⟩;apply⟨x,ls,n,n+1,by rw[show((n+1:Nat):Int)=(n:Int)+1 by lia];rfl,hR,hT,by lia,hn,λH1 s1=>?_⟩;rw[oW hn];k_is;have:=q H1 s1
 cases hg:ls.flatten.getD n false with
 |true=>rw[hg] at this;exact this
 |false=>rw[hg] at this;exact this
inductive Tx (C CR:df)(vs:List V)(H:Hp)(Q:VK)(E:XK):Prop|mk(x:df)(ls:List (Za5))(k:Nat)(_:vs=[.ref x,.int k])(_:Bp C CR H x ls)(_:k<=ls.length)(_:Q (.int (bgn ls k:Nat)) H)
include T ae in
theorem Qr (F:Fun K "begin_of" "PiecedRow.begin_of" Ei f fd):Ba P w K mg base CX0 1 f fd ["self","number"] (Tx ac aa):=by
 exists F.ok Lk
 obtain⟨x,ls,k,rfl,hR,hk,q⟩:=h;obtain⟨dx,p,b,kk,t,o,hx,hW,hTb⟩:=id hR;refine⟨_,(Ad (Am (tix Ap (tfl (pv 0)) (pv 1)))),?_⟩;apply⟨x,aa,dx,_,_,rfl,hx,ae.cl,ae.cr,rfl,?_⟩;apply Bb (SqL.of hW.bg) (v:=.int (bgn ls k:Nat)) (Bd (j:=k) (Hu hk)) ?_;k_is;exact q
theorem xR {y:Za5}{q:Nat}(h:y[q]?=some true):(occ true y y.length)[(y.take q).count true]?=some q:=by
 have hq:=Bl h;have hc:(occ true y q).length=(y.take q).count true:=by
  rw[(R1 y q).1];rfl
 have e:occ true y (q+1)=occ true y q++[q]:=by
  rw[J2];unfold eh;rw[h];rfl
 have e2:(occ true y (q+1))[(y.take q).count true]?=some q:=by
  rw[e,<-hc,di (db _),fv];rfl
 rw[<-e2];exact vE (by lia) (by rw[e,c9,hc];exact n9 _)
inductive Nm (C CR:df)(ts:List Tb)(vs:List V)(H:Hp)(Q:VK)(E:XK):Prop|mk(x:df)(ls:List (Za5))(n p:Nat)(_:vs=[.ref x,.int n])(_:Bp C CR H x ls)(_:Tbs ts H)(_:ls.flatten[p]?=some true)(_:(ls.flatten.take p).count true=n)(_:∀H',SmT ts H H'->Q (.int (p:Nat)) H')
theorem sF {ls:List (Za5)}{k p:Nat}{y:Za5}(hy:ls[k]?=some y)(h1:bgn ls k<=p)(h2:p<bgn ls (k+1)):ls.flatten[p]?=y[p-bgn ls k]?:=by
 have e:=Mt ls k;have hk:=Bl hy;have hd:ls.drop k=y::ls.drop (k+1):=by
  rw[jq hk];rw[c7 hk] at hy;rw[de hy]
 rw[hd,il] at e;have hb:=Eg hy;have:(ls.flatten.drop (bgn ls k))[p-bgn ls k]?=ls.flatten[p]?:=by rw[jb,kv h1]
 rw[<-this,<-e,dv (by lia)]
theorem Tt {ls:List (Za5)}{k p:Nat}{y:Za5}(hy:ls[k]?=some y)(h1:bgn ls k<=p)(h2:p<=bgn ls (k+1)):(ls.flatten.drop (bgn ls k)).take (p-bgn ls k)=y.take (p-bgn ls k):=by
 have e:=Mt ls k;have hk:=Bl hy;have hd:ls.drop k=y::ls.drop (k+1):=by
  rw[jq hk];rw[c7 hk] at hy;rw[de hy]
 rw[hd,il] at e;have hb:=Eg hy;rw[<-e,oj (by lia)]
include T ae Y hK hB aC in
theorem Qu {f c:df}(F:Uy K "opening" "PiecedRow.opening" Bt f fd c Pt)(hts:(⟨Pt,F7,"PiecedRow.opening.<locals>.<lambda>"⟩:Tb)∈ts):Ba P w K mg base CX0 4 f fd ["self","number"] (Nm ac aa ts):=by
 refine F.ok Ct (λvs H Q E h=>?_) (λA outer s H vs Q E hr h=>?_)
 ·obtain⟨x,ls,n,p,rfl,_⟩:=h
  rfl
 ·obtain⟨x,ls,n,pp,rfl,hR,hT,hpp,hcn,q⟩:=h
  obtain⟨dx,p,b,k,t,o,hx,hW,hTb⟩:=id hR;obtain⟨ka,rfl,hka⟩:=hTb.kn;obtain⟨as,hp,hP⟩:=hW.pcs;refine⟨_,(Ab (tst 2 Ct.nd (fB (qual:="PiecedRow.opening.<locals>.<lambda>") (k:=1) aC hr.m Ag (Ar Aq (by rfl) T.cp B9 (tpa (tfl (pv 0)) Aa)) (F.code hK) hB rfl (by kernel_rfl) Jp (λ_ _ _ _ _ _ _ hr=>(tpc Jr (tix (Hv K) (Hm K (pv 2)) (Ak Ay (pv 0) Ag)) (pv 1))))) (Ab (tst 3 Ct.nd (tfl (tix Ap (tfl (pv 0)) (pv 2)))) (Ab (Pa (i:=4) rfl K1 Ct.nd rfl rfl (mG rfl T.cO (tpa (pv 3) Aa) (Yk (tix Ap (tfl (pv 0)) (pv 2)) gH)) (λ_ _ _ _=>N8 (ttc Et (pv 1) Dp)) (λ_ _ _ _=>(pv 0))) (Ad (Am (tix Ap (pv 4) (Ak B7 (pv 1) (tix Ap (tfl (pv 0)) (pv 2))))))))),?_⟩
  apply⟨x,aa,dx,_,_,rfl,hx,ae.cl,ae.cw,rfl,?_⟩;apply⟨p,_,rfl,.inl (SqL.of hp),?_⟩;rw[show(as.map V.ref).length=ls.length by rw[c8,hP.1]];k_is;have hk:=hT.1 _ hts;refine⟨0,(ls.length:Nat),λi=>decide (n<(ls.flatten.take (bgn ls (i.toNat+1))).count true),rfl,rfl,by lia,hk,λi H3 hi1 hi2 s3=>?_,λm H' hm1 hm2 hm3 hm4 s' t'=>?_⟩
  ·obtain⟨pt,hpt⟩:=Tb.tbl hk
   have kp:∀{b:df} {u:HO},(∀ps,u≠.tbl ps)->H b=some u->H3 b=some u:=λ{b u} nt e=>s3 b u (λz=>by rw[z,hpt] at e;cases e;exact nt pt rfl) e;have hx3:=kp (by intro ps e;cases e) hx;have hk3:=kp (by intro ps e;cases e) hka;apply⟨x,aa,dx,_,_,rfl,hx3,ae.cl,ae.cH,rfl,?_⟩;k_is;obtain⟨k,rfl⟩:=jk hi1;refine Bb (SqL.of hk3) (v:=.int ((ls.flatten.take (bgn ls (k+1))).count true:Nat)) (Bd (j:=k+1) (iL (show k+1<=ls.length by lia))) ?_;apply⟨?_,Aj.refl _⟩;rw[f9];exact congrArg V.bl (decide_eq_decide.mpr (by lia))
  ·obtain⟨m,rfl⟩:=jk hm1
   have sm:=qB hT hts s' t';have hlt:=Bl hpp;have hup:n<(ls.flatten.take ls.flatten.length).count true:=by
    rw[<-hcn];exact Lp hpp hlt
   have hml:m<ls.length:=by
    by_cases h:m<ls.length
    ·exact h
    ·exfalso
     by_cases h0:m=0
     ·have e0:ls=[]:=gp (by lia)
      rw[e0] at hlt;exact absurd hlt (AO _)
     ·have:=hm3 (by lia)
      dsimp only at this;rw[show((m:Int)-1).toNat+1=ls.length by lia,Hj] at this;exact of_decide_eq_false this hup
   have hlo:(ls.flatten.take (bgn ls m)).count true<=n:=by
    rcases mf m with rfl|h0
    ·rw[Tr];exact e9 _
    ·have:=hm3 (by lia)
     dsimp only at this;rw[show((m:Int)-1).toNat+1=m by lia] at this;exact AD (of_decide_eq_false this)
   have hhi:n<(ls.flatten.take (bgn ls (m+1))).count true:=by
    have:=hm4 (by lia);dsimp only at this;rw[f9] at this;exact of_decide_eq_true this
   have hp1:bgn ls m<=pp:=by
    by_cases h:bgn ls m<=pp
    ·exact h
    ·have:=Lp hpp (show pp<bgn ls m by lia)
     lia
   have hp2:pp<bgn ls (m+1):=by
    by_cases h:pp<bgn ls (m+1)
    ·exact h
    ·have e:=My ls.flatten (show bgn ls (m+1)<=pp by lia)
     lia
   obtain⟨a,y,ea,ey,hy⟩:∃a y,as[m]?=some a/\ls[m]?=some y/\Im ac H a y:=by
    have e2:as[m]?=some (as[m]'(by rw[hP.1];exact hml)):=c7 _;exact⟨_,_,e2,c7 hml,hP.2 m _ _ e2 (c7 hml)⟩
   obtain⟨d,t',m',g,o,y1,y2,y3⟩:=hy;apply⟨x,aa,dx,_,_,rfl,sm.k hx,ae.cl,ae.cw,rfl,?_⟩;apply Bb (SqL.of (sm.k hp)) (v:=.ref a) (Bd (j:=m) (by rw[dg,ea];rfl)) ?_;apply⟨a,ac,d,_,_,rfl,sm.k y1,Y.cl,Y.cN,rfl,?_⟩;apply⟨x,aa,dx,_,_,rfl,sm.k hx,ae.cl,ae.cr,rfl,?_⟩;apply Bb (SqL.of (sm.k hW.bg)) (v:=.int (bgn ls m:Nat)) (Bd (j:=m) (Hu (fb hml))) ?_;k_is;have hsz:=hW.sz m y ey;have hfw:=hW.fw;have hbl:=Yd hW.sz m (fb hml);refine⟨_,_,rfl,rfl,by lia,?_⟩;refine oB (λi=>(occ true y i).map λq=>V.int ((bgn ls m+q:Nat):Int)) rfl (λi hi=>?_) (λi c H4 R A hc s4 hR4 hA4=>?_) (λD H4 hD s4 h4=>?_)
   ·rw[c8]
    refine Ah ?_;have e1:=(R1 y i).1;have e2:=(R1 y i).2;rw[show(Az y).cps.size=y.length from Bc y] at hi;lia
   ·obtain⟨bb,hb,rfl⟩:=Rw hc
    apply B0 (λh1=>?_) (λh1=>?_)
    ·have e:bb=true:=by cases bb with|true=>rfl|false=>exact absurd h1 (by decide)
     subst e;apply hA4 _ _ ?_ (Aj.refl _);rw[J2];unfold eh;rw[hb,dj];rfl
    ·have e:bb=false:=by cases bb with|false=>rfl|true=>exact absurd rfl h1
     subst e;refine hR4 ?_ _ (Aj.refl _);rw[J2];unfold eh;rw[hb,dj];exact iz _
   ·rw[show(Az y).cps.size=y.length from Bc y] at h4
    have hqq:y[pp-bgn ls m]?=some true:=by rw[<-sF ey hp1 hp2];exact hpp
    have hoc:=xR hqq;have hcc:(y.take (pp-bgn ls m)).count true+(ls.flatten.take (bgn ls m)).count true=n:=by
     rw[<-Tt ey hp1 (fb hp2),qk,<-My _ hp1,hcn]
    have sm4:=sm.then s4;apply⟨x,aa,dx,_,_,rfl,sm4.k hx,ae.cl,ae.cH,rfl,?_⟩;apply Bb (SqL.of (sm4.k hka)) (v:=.int ((ls.flatten.take (bgn ls m)).count true:Nat)) (Bd (j:=m) (iL (fb hml))) ?_;k_is;rw[show(n:Int)-((ls.flatten.take (bgn ls m)).count true:Nat)=((y.take (pp-bgn ls m)).count true:Nat) by lia];refine Bb (SqL.of h4) (v:=.int (pp:Nat)) (Bd (by rw[dg,hoc];show some (V.int ((bgn ls m+(pp-bgn ls m):Nat):Int))=_;rw[kv hp1])) ?_;k_is;exact q H4 sm4
theorem Tbs.keepN {p:df}{o o':HO}(h:Tbs ts H)(hp:H p=some o')(nt:∀ps,o'≠.tbl ps:=by intro ps e;cases e)(nf:∀a b,o'≠.frz a b:=by intro a b e;cases e):Tbs ts (upd H p o):=by
 refine⟨λt ht=>?_,h.2⟩;obtain⟨ps,e1,e2,e3⟩:=h.1 t ht;exact⟨ps,by rw[Ai (λz=>by rw[z,hp] at e1;exact nt _ (de e1))];exact e1,e2,e3.imp id λ⟨c,oc,a1,a2,a3⟩=>⟨c,oc,a1,by rw[Ai (λz=>by rw[z,hp] at a2;exact nf _ _ (de a2))];exact a2,a3⟩⟩
theorem SmT.push {p:df}{o:HO}(s:SmT ts H H1)(hp:H p=none)(hl:H1 p=some (.lst xs)):SmT ts H (upd H1 p o):=by
 refine⟨⟨λb u n e=>?_,λb ps e=>?_⟩,s.ok.keepN hl⟩
 ·rw[Ai (Af e hp)]
  exact s.sm.keep b u n e
 ·rw[Ai (Af e hp)]
  exact s.sm.tb b ps e
theorem uH (l:Za5)(a m j:Nat)(hj:j<=m):hgt l a+hgt ((l.drop a).take m) j=hgt l (a+j):=by
 unfold hgt;rw[oh,gu,mz,gn hj];lia
def hw (l:Za5)(lo hi:Nat):List Int:=(ed (hi-lo)).map λj=>hgt l (lo+j+1)
theorem Gh (l:Za5)(lo hi:Nat):(hw l lo hi).length=hi-lo:=by unfold hw;rw[c8,fj]
theorem Rk {l:Za5}{lo hi j:Nat}(h:j<hi-lo):(hw l lo hi)[j]?=some (hgt l (lo+j+1)):=by unfold hw;rw[dg,ia h];rfl
theorem Aa7 {l:Za5}{lo hi:Nat}{x:Int}(h:x∈hw l lo hi):∃i,lo<i/\i<=hi/\hgt l i=x:=by
 unfold hw at h;obtain⟨j,hj,e⟩:=lh.mp h;have:=ja.mp hj;exact⟨lo+j+1,by lia,by lia,e⟩
theorem gA {l:Za5}{lo hi i:Nat}(h1:lo<i)(h2:i<=hi):hgt l i∈hw l lo hi:=by
 unfold hw;exact lh.mpr ⟨i-lo-1,ja.mpr (by lia),by rw[show lo+(i-lo-1)+1=i by lia]⟩
theorem xN {l:Za5}{lo hi:Nat}(h1:lo<=hi)(h2:hi<=l.length):htB ((l.drop lo).take (hi-lo)) (hgt l lo) ((l.drop lo).take (hi-lo)).length=hw l lo hi:=by
 have e:((l.drop lo).take (hi-lo)).length=hi-lo:=by rw[dh,fh];lia
 rw[e];unfold htB hts hw;rw[jm];refine i5 λj hj=>?_;have:=ja.mp hj;show hgt l lo+hgt ((l.drop lo).take (hi-lo)) (j+1)=_;rw[uH l lo (hi-lo) (j+1) (by lia)];rfl
theorem Py {l:Za5}{a b c:Nat}(h1:a<=b)(h2:b<=c):hw l a c=hw l a b++hw l b c:=by
 refine jt λi=>?_
 by_cases hi:i<b-a
 ·rw[Rk (by lia),dv (by rw[Gh];exact hi),Rk hi]
 ·by_cases hi2:i<c-a
  ·rw[Rk hi2,di (by rw[Gh];lia),Gh,Rk (by lia),show b+(i-(b-a))+1=a+i+1 by lia]
  ·rw[eg (by rw[Gh];lia),eg (by rw[c9,Gh,Gh];lia)]
structure pJ (ls:List (Za5)) (lo hi:Nat) (los his:Za4):Prop where
 ln:los.length=his.length
 nil:¬ lo<hi->los.length=0
 fst:lo<hi->los[0]?=some lo
 nxt:∀(i b:Nat),his[i]?=some b->b=los.getD (i+1) hi
 at':∀(i a b:Nat),los[i]?=some a->his[i]?=some b->a<b/\lo<=a/\b<=hi/\∃k,k<ls.length/\bgn ls k<=a/\b<=bgn ls (k+1)
inductive Zj (C CR:df)(ts:List Tb)(vs:List V)(H:Hp)(Q:VK)(E:XK):Prop|mk(x:df)(ls:List (Za5))(lo:Nat)(hi:Int)(_:vs=[.ref x,.int lo,.int hi])(_:Bp C CR H x ls)(_:Tbs ts H)(_:hi<=(ls.flatten.length:Int))(_:∀p as los his H',SmT ts H H'->H p=none->H' p=some (.lst (as.map V.ref))->zT H H' as (nV los) (nV his)->pJ ls lo hi.toNat los his->los.length<=401->Q (.ref p) H')
variable (aL:Mth P w K mg base aa "begin_of" 1 ["self","number"] (Tx ac aa))
include T ae aj aL in
theorem Wd (F:Fun K "parts" "Heights.parts" E8 f fd):Ba P w K mg base CX0 5 f fd ["self","low","high"] (Zj ac aa ts):=by
 exists F.ok Kc
 obtain⟨x,ls,lo,hi,rfl,hR,hT,hl,q⟩:=h;obtain⟨dx,p,b,k,t,o,hx,hW,hTb⟩:=id hR;have hfw:=hW.fw;refine⟨_,(Ab (B2 (ttc Oi (pv 1) (pv 2)) (Ad (Am (Bo Aa)))
  Bf) (Ab (Me (i:=3) rfl Ny Kc.nd rfl rfl (P1 rfl T.cu (tpa (Ak Ay (At aj hr.m (pv 0) (tpa (pv 1) Aa)) Ag) (tpa (Ak Ay (At aj hr.m (pv 0) (tpa (Ak B7 (pv 2) Ag) Aa)) Ag) Aa))) (λ_ _ _ _=>Ed) (λ_ _ _ _=>(At aL hr.m (pv 1) (tpa (pv 0) Aa)))) (Ad (Am (uQ rfl rfl T.cG rfl T.cM (tpa (Ak Ev (Bo (tpa (pv 1) Aa)) (pv 3)) (tpa (Ak Ev (pv 3) (Bo (tpa (pv 2) Aa))) Aa))))))),?_⟩
 apply B0 (λh0=>?_) (λh0=>?_)
 ·apply⟨e9 _,λp hp=>?_⟩;exact q p [] [] [] _ (SmT.of hT (An hp)) hp Ac ⟨rfl,λi t x y e=>by cases e⟩ ⟨rfl,λ_=>rfl,λh=>absurd h (by lia),λi b e=>(by cases e),λi a b e=>(by cases e)⟩ (e9 _)
 ·obtain⟨hn,rfl⟩:∃hn:Nat,hi=(hn:Int):=⟨hi.toNat,by lia⟩
  rw[f9] at q;have hlt:lo<hn:=by lia
  apply⟨x,dx,_,rfl,hx,rfl,?_⟩;apply⟨x,ls,lo,rfl,hR,hT,λk1 H1 hk1 ha1 hb1 s1=>?_⟩;apply⟨x,dx,_,rfl,s1.k hx,rfl,?_⟩;apply⟨x,ls,hn-1,by rw[show((hn-1:Nat):Int)=(hn:Int)-1 by lia];rfl,hR.kp s1.kp,s1.ok,λk2 H2 hk2 ha2 hb2 s2=>?_⟩;have s12:=s1.trans s2;have hR2:=hR.kp s12.kp;have hx2:=s12.k hx;have hk2l:k2<ls.length:=by
   by_cases h:k2<ls.length
   ·exact h
   ·obtain rfl:k2=ls.length:=by lia
    rw[Hj] at ha2;lia
  have hb2:=hb2 hk2l;have hk12:k1<=k2:=by
   by_cases h:k1<=k2
   ·exact h
   ·have:=E2 (ls:=ls) (show k2+1<=k1 by lia)
    lia
  apply⟨_,_,rfl,⟨by lia,by lia,by lia,by lia⟩,?_⟩;rw[show((k2:Int)+1-((k1:Int)+1)).toNat=k2-k1 by lia];refine Sq (λi=>nV ((ed i).map λj=>bgn ls (k1+1+j))) rfl (λi hi=>?_) (λi H3 R A hi s3 _ hA=>?_) (λD1 H3 hD1 s3 h1=>?_)
  ·rw[Ca,c8,fj]
   exact Ah (by lia)
  ·apply⟨x,dx,_,rfl,s3 _ _ hx2,rfl,?_⟩;apply⟨x,ls,k1+1+i,by rw[show((k1+1+i:Nat):Int)=(k1:Int)+1+(i:Int) by lia];rfl,hR2.kp (Aj.kp s3),by lia,?_⟩;refine hA _ _ ?_ (Aj.refl _);rw[ic,dj];unfold nV;rw[dj];rfl
  have t3:=s12.then s3;obtain⟨cs,hcs⟩:∃cs,cs=(ed (k2-k1)).map λj=>bgn ls (k1+1+j):=⟨_,rfl⟩;have hcl:cs.length=k2-k1:=by rw[hcs,c8,fj]
  rw[<-hcs] at h1;apply⟨few (by simp),λa1 hf1=>?_⟩;obtain⟨u1,e1⟩:=Be (o:=.lst [V.int (lo:Int)]) hf1;have h12:=u1 _ _ h1;have t4:=t3.then u1;generalize upd H3 a1 _=H4 at *;apply⟨a1,D1,_,_,rfl,rfl,e1,h12,fb (Ah (by rw[Ca,hcl,ig];lia)),λa2 hf2=>?_⟩;have u2:=An (o:=.lst ([V.int (lo:Int)]++nV cs)) hf2;have e2:upd H4 a2 (.lst ([V.int (lo:Int)]++nV cs)) a2=some (.lst (nV (lo::cs))):=Ac;have h13:=u2 _ _ h12;have t5:=t4.then u2;generalize upd H4 a2 _=H5 at *;apply⟨few (by simp),λa3 hf3=>?_⟩;obtain⟨u3,e3⟩:=Be (o:=.lst [V.int (hn:Int)]) hf3;have h14:=u3 _ _ h13;have e23:=u3 _ _ e2;have t6:=t5.then u3;generalize upd H5 a3 _=H6 at *;apply⟨D1,a3,_,_,rfl,rfl,h14,e3,fb (Ah (by rw[Ca,hcl,ig];lia)),λa4 hf4=>?_⟩;have u4:=An (o:=.lst (nV cs++[V.int (hn:Int)])) hf4;have e4:upd H6 a4 (.lst (nV cs++[V.int (hn:Int)])) a4=some (.lst (nV (cs++[hn]))):=by rw[Ac,<-Yp];rfl
  have e24:=u4 _ _ e23;have t7:=t6.then u4;generalize upd H6 a4 _=H7 at *;k_is;have hll:(lo::cs).length=(cs++[hn]).length:=by rw[d8,c9];rfl
  refine⟨a2,a4,_,_,rfl,SqL.of e24,SqL.of e4,by rw[Ca,Ca,hll],λp as H8 s8 hp0 hp hN=>?_⟩;have t8:=t7.then s8;have cat:∀i,i<k2-k1->cs[i]?=some (bgn ls (k1+1+i)):=λi hi=>by rw[hcs,dg,ia hi];rfl
  refine q p as (lo::cs) (cs++[hn]) H8 t8 (t7.sm.free hp0) hp ⟨hN.1,λi t' x' y' g1 g2 g3=>?_⟩ ⟨hll,λh=>absurd hlt h,λ_=>rfl,λi b e=>?_,λi a b ea eb=>?_⟩ (by rw[d8,hcl];lia)
  ·obtain⟨n1,n2⟩:=hN.2 i t' x' y' g1 g2 g3
   exact⟨t7.sm.free n1,n2⟩
  ·show b=cs.getD i hn
   by_cases hi:i<k2-k1
   ·rw[dv (by lia)] at e
    unfold eh;rw[e];rfl
   ·have hi2:=Bl e
    rw[c9,hcl] at hi2;obtain rfl:i=cs.length:=by simp only[d8,f6] at hi2;lia
    rw[di (db _),fv] at e;unfold eh;rw[eg (db _)];exact(de e).symm
  ·have hi2:=Bl eb
   rw[c9,hcl] at hi2;have hi3:i<=k2-k1:=by simp only[d8,f6] at hi2;lia
   have ga:bgn ls (k1+i)<=a/\lo<=a/\a<bgn ls (k1+i+1)/\a<hn:=by
    cases i with
    |zero=>
     obtain rfl:lo=a:=de ea;exact⟨ha1,db _,hb1 (by lia),hlt⟩
    |succ i=>
     have ea:cs[i]?=some a:=ea;rw[cat i (by lia)] at ea;obtain rfl:=de ea;have m1:=E2 (ls:=ls) (show k1+1<=k1+1+i by lia);have m2:=E2 (ls:=ls) (show k1+1+i<=k2 by lia);have m3:=gR hW.sz (show k1+1+i<k1+(i+1)+1 by lia) (by lia);have m4:=hb1 (by lia);rw[show k1+(i+1)=k1+1+i by lia] at m3 ⊢;exact⟨db _,by lia,m3,by lia⟩
   have gb:b<=bgn ls (k1+i+1)/\b<=hn/\a<b:=by
    by_cases hi:i<k2-k1
    ·rw[dv (by lia),cat i hi] at eb
     obtain rfl:=de eb;have m2:=E2 (ls:=ls) (show k1+1+i<=k2 by lia);rw[show k1+i+1=k1+1+i by lia] at ga ⊢;exact⟨db _,by lia,ga.2.2.1⟩
    ·obtain rfl:i=cs.length:=by lia
     rw[di (db _),fv] at eb;obtain rfl:hn=b:=de eb;rw[show k1+cs.length+1=k2+1 by lia];exact⟨by lia,db _,ga.2.2.2⟩
   exact⟨gb.2.2,ga.2.1,gb.2.1,k1+i,by lia,ga.1,gb.1⟩
theorem Vz {ls:List (Za5)}{k i:Nat}{y:Za5}(hy:ls[k]?=some y)(hi:i<=y.length):hgt ls.flatten (bgn ls k+i)=hBg ls k+hgt y i:=by
 have hb:=Eg hy;have e:=Tt hy (p:=bgn ls k+i) (by lia) (by lia);rw[fq] at e;have e2:=My ls.flatten (show bgn ls k<=bgn ls k+i by lia);rw[fq,e] at e2;rw[zD];unfold hgt;rw[e2];lia
theorem iT {y:Za5}{i:Nat}(h0:0<i)(h:i<=y.length):hgt y i∈hts y y.length:=by
 unfold hts;exact lh.mpr ⟨i-1,ja.mpr (by lia),by rw[show i-1+1=i by lia]⟩
theorem Yq {ls:List (Za5)}{n k k':Nat}(h1:bgn ls k<=n)(h2:n<bgn ls (k+1))(h3:bgn ls k'<=n)(h4:n<bgn ls (k'+1)):k=k':=by
 rcases qa k k' with h|h|h
 ·have:=E2 (ls:=ls) (show k+1<=k' by lia);lia
 ·exact h
 ·have:=E2 (ls:=ls) (show k'+1<=k by lia);lia
theorem zF {ls:List (Za5)}{n k:Nat}(hn:n<ls.flatten.length)(hk:k<=ls.length)(h1:bgn ls k<=n):k<ls.length:=by
 by_cases h:k<ls.length
 ·exact h
 ·obtain rfl:k=ls.length:=by lia
  rw[Hj] at h1;lia
inductive sS (C CR:df)(ts:List Tb)(vs:List V)(H:Hp)(Q:VK)(E:XK):Prop|mk(x:df)(ls:List (Za5))(lo:Nat)(h:Int)(_:vs=[.ref x,.int lo,.int h])(_:Bp C CR H x ls)(_:Tbs ts H)(_:lo<ls.flatten.length)(_:∀(b:Bool) H',(b=false->∀k,k<ls.length->bgn ls k<=lo->lo<bgn ls (k+1)->∀i,bgn ls k<i->i<=bgn ls (k+1)->hgt ls.flatten i≠h)->SmT ts H H'->Q (.bl b) H')
include T ae aj in
theorem Qw (F:Fun K "may_meet" "Heights.may_meet" Fd f fd):Ba P w K mg base CX0 5 f fd ["self","low","height"] (sS ac aa ts):=by
 exists F.ok Hg
 obtain⟨x,ls,lo,h,rfl,hR,hT,hl,q⟩:=h;obtain⟨dx,p,b,k,t,o,hx,hW,hTb⟩:=id hR;obtain⟨ta,rs,rfl,ht,hrl,hrs⟩:=hTb.tb;refine⟨_,(Ab (tst 3 Hg.nd (tix Ap (tfl (pv 0)) (At aj hr.m (pv 0) (tpa (pv 1) Aa)))) (Ad (Am (Z5 Y1 Y1 (tix Mp (pv 3) Ag) (pv 2) (tix Mp (pv 3) Ag))))),?_⟩
 apply⟨x,aa,dx,_,_,rfl,hx,ae.cl,ae.cS,rfl,?_⟩;apply⟨x,dx,_,rfl,hx,rfl,?_⟩;apply⟨x,ls,lo,rfl,hR,hT,λk1 H1 hk1 ha1 hb1 s1=>?_⟩;have hkl:=zF hl hk1 ha1;have hb1:=hb1 hkl;have hj:k1<rs.length:=by lia
 have ey:ls[k1]?=some (ls[k1]):=c7 hkl;obtain⟨mn,mx,hr1,hmn,hmx⟩:=hrs _ _ (c7 hj) _ ey;have hbs:=Eg ey;have hin:∀i,bgn ls k1<i->i<=bgn ls (k1+1)->∃j,0<j/\j<=(ls[k1]).length/\hgt ls.flatten i=hBg ls k1+hgt (ls[k1]) j:=λi h1 h2=>⟨i-bgn ls k1,by lia,by lia,by rw[<-Vz ey (by lia),kv (fb h1)]⟩;have hmn:Hn (hts (ls[k1]) (ls[k1]).length) mn:=by
  rcases hmn with⟨e,_⟩|h
  ·have:=(hW.sz _ _ ey).1
   rw[e] at this;exact absurd this (i4 _)
  ·exact h
 have hr1:=s1.k hr1;apply Bb (SqL.of (s1.k ht)) (Bd (by rw[dg,c7 hj];rfl)) ?_;apply Of (SqT.of hr1) (v:=.int (hBg ls k1+mn)) rfl ?_;k_is
 by_cases h1:hBg ls k1+mn<=h
 ·rw[decide_eq_true h1]
  apply Of (SqT.of hr1) (v:=.int (hBg ls k1+mx)) rfl ?_;apply q _ H1 (λhb k' hk' g1 g2 i hi1 hi2 he=>?_) s1;obtain rfl:=Yq ha1 hb1 g1 g2;obtain⟨j,j1,j2,j3⟩:=hin i hi1 hi2;have:=hmx.2 _ (iT j1 j2);rw[decide_eq_true (show h<=hBg ls k1+mx by lia)] at hb;cases hb
 ·rw[decide_eq_false h1]
  apply q false H1 (λ_ k' hk' g1 g2 i hi1 hi2 he=>?_) s1;obtain rfl:=Yq ha1 hb1 g1 g2;obtain⟨j,j1,j2,j3⟩:=hin i hi1 hi2;have:=hmn.2 _ (iT j1 j2);lia
inductive vZ (C CR:df)(ts:List Tb)(vs:List V)(H:Hp)(Q:VK)(E:XK):Prop|mk(x:df)(ls:List (Za5))(lo hi:Nat)(_:vs=[.ref x,.int lo,.int hi])(_:Bp C CR H x ls)(_:Tbs ts H)(_:lo<=hi)(_:hi<=ls.flatten.length)(_:hi-lo<=1000)(_:∀p H',SmT ts H H'->H p=none->H' p=some (.lst ((hw ls.flatten lo hi).map V.int))->Q (.ref p) H')
variable (aq:Mth P w K mg base aa "height" 7 ["self","place"] (W9 ac aa ts))
include T aA ae am aq in
theorem Qd (F:Fun K "heights_within" "Heights.heights_within" C5 f fd):Ba P w K mg base CX0 8 f fd ["self","low","high"] (vZ ac aa ts):=by
 exists F.ok Ik
 obtain⟨x,ls,lo,hi,rfl,hR,hT,h1,h2,h3,q⟩:=h;obtain⟨dx,p,b,k,t,o,hx,hW,hTb⟩:=id hR;refine⟨_,(Ad (Am (Bn aA hr.m (tpa (At am hr.m (pv 0) (tpa (pv 1) (tpa (pv 2) Aa))) (tpa (At aq hr.m (pv 0) (tpa (pv 1) Aa)) Aa))))),?_⟩;apply⟨x,dx,_,rfl,hx,rfl,?_⟩;apply⟨x,ls,lo,hi,rfl,hR,hT,h1,h2,λH1 s1=>?_⟩;apply⟨x,dx,_,rfl,s1.k hx,rfl,?_⟩;apply⟨x,ls,lo,rfl,hR.kp s1.kp,s1.ok,by lia,λH2 s2=>?_⟩;apply⟨(ls.flatten.drop lo).take (hi-lo),hgt ls.flatten lo,rfl,by rw[dh];lia,λp H3 s3 hp0 hp=>?_⟩;rw[xN h1 h2] at hp;have s12:=s1.trans s2;exact q p H3 (s12.then s3) (s12.sm.free hp0) hp
def W8 (l:Za5)(lo hi:Nat)(h:Int):Option Nat->Prop
 |some j=>lo<j/\j<=hi/\hgt l j=h/\∀i,lo<i->i<j->hgt l i≠h
 |none=>∀i,lo<i->i<=hi->hgt l i≠h
def Hl:Option Nat->V
 |some j=>.int (j:Nat)
 |none=>.non
theorem Th:∀{ns:List Int} {x:Int},x∈ns->∃j:Nat,ns[j]?=some x/\∀i:Nat,i<j->ns[i]?≠some x
 |y::ns,x,h=>by
  by_cases e:y=x
  ·exact⟨0,by rw[e];rfl,λi hi=>absurd hi (AO _)⟩
  ·obtain⟨j,h1,h2⟩:=Th (List.mem_of_ne_of_mem (λz=>e z.symm) h)
   refine⟨j+1,h1,λi hi=>?_⟩
   cases i with
   |zero=>exact λz=>e (de z)
   |succ i=>exact h2 i (by lia)
theorem kR {w:List Int}{e:Int}:inV (.int e) (w.map V.int)=decide (e∈w):=by
 unfold inV;rw[List.any_map]
 by_cases h:e∈w
 ·rw[decide_eq_true h,zu]
  exact⟨e,h,by simp[eqV]⟩
 ·rw[decide_eq_false h]
  refine sr.mpr λhc=>?_;obtain⟨x,hx,hxe⟩:=zu.mp hc;have:x=e:=by simpa [eqV] using hxe
  exact h (this▸hx)
inductive Zt (C CR:df)(ts:List Tb)(vs:List V)(H:Hp)(Q:VK)(E:XK):Prop|mk(x:df)(ls:List (Za5))(lo hi:Nat)(h:Int)(_:vs=[.ref x,.int lo,.int hi,.int h])(_:Bp C CR H x ls)(_:Tbs ts H)(_:lo<=hi)(_:hi<=ls.flatten.length)(_:hi-lo<=1000)(_:∀r H',W8 ls.flatten lo hi h r->SmT ts H H'->Q (Hl r) H')
variable (ax:Mth P w K mg base aa "heights_within" 8 ["self","low","high"] (vZ ac aa ts))
include T ae ax in
theorem Qk (F:Fun K "next_within" "Heights.next_within" Ea f fd):Ba P w K mg base CX0 9 f fd ["self","low","high","height"] (Zt ac aa ts):=by
 exists F.ok Fu
 obtain⟨x,ls,lo,hi,h,rfl,hR,hT,h1,h2,h3,q⟩:=h;obtain⟨dx,p,b,k,t,o,hx,hW,hTb⟩:=id hR;refine⟨_,(Ab (tst 4 Fu.nd (At ax hr.m (pv 0) (tpa (pv 1) (tpa (pv 2) Aa)))) (Ad (Am (Cb (R6 Xa (pv 3) (pv 4) rfl) (Ak Ay (Ak Ay (pv 1) Ag) (Cl dy pz pw Tg (pv 4) (tpa (pv 3) Aa))) C9)))),?_⟩
 apply⟨x,dx,_,rfl,hx,rfl,?_⟩;apply⟨x,ls,lo,hi,rfl,hR,hT,h1,h2,h3,λp H1 s1 hp0 hp=>?_⟩;apply⟨p,_,rfl,.inl (SqL.of hp),rfl,Cr _,?_⟩;rw[kR]
 by_cases hm:h∈hw ls.flatten lo hi
 ·rw[decide_eq_true hm,show(if false=true then !true else true)=true by decide]
  obtain⟨j,hj,hno⟩:=Th hm;have hjl:=Bl hj;rw[Gh] at hjl;apply⟨.inl ⟨rfl,_,SqL.of hp⟩,?_⟩;apply⟨p,_,h,j,rfl,rfl,hp,hj,hno,?_⟩;k_is;rw[Rk hjl] at hj;have:=q (some (lo+j+1)) H1 ⟨by lia,by lia,de hj,λi hi1 hi2 he=>?_⟩ s1
  ·rw[show Hl (some (lo+j+1))=V.int ((lo:Int)+1+(j:Int)) by show V.int _=_;congr 1;lia] at this
   exact this
  ·refine hno (i-lo-1) (by lia) ?_
   rw[Rk (by lia),show lo+(i-lo-1)+1=i by lia,he]
 ·rw[decide_eq_false hm,show(if false=true then !false else false)=false by decide]
  k_is;exact q none H1 (λi hi1 hi2 he=>hm (he▸gA hi1 hi2)) s1
theorem pJ.sz {ls:List (Za5)}(hZ:Fk ls){lo hi:Nat}{los his:Za4}(h:pJ ls lo hi los his){i a b:Nat}(ea:los[i]?=some a)(eb:his[i]?=some b):b-a<=128:=by
 obtain⟨_,_,_,k,hk,h1,h2⟩:=h.at' i a b ea eb;have e:=Eg (c7 hk);have:=(hZ k _ (c7 hk)).2;lia
inductive Va (C CR:df)(ts:List Tb)(vs:List V)(H:Hp)(Q:VK)(E:XK):Prop|mk(x:df)(ls:List (Za5))(p:Nat)(h:Int)(_:vs=[.ref x,.int p,.int h])(_:Bp C CR H x ls)(_:Tbs ts H)(_:p<=ls.flatten.length)(_:∀r H',W8 ls.flatten p ls.flatten.length h r->SmT ts H H'->Q (Hl r) H')
variable (aO:Cal P w K mg base "check_place" 3 ["place","greatest"] eF) (aP:Cal P w K mg base "check_height" 3 ["height"] tI) (ay:Mth P w K mg base aa "parts" 5 ["self","low","high"] (Zj ac aa ts)) (aD:Mth P w K mg base aa "may_meet" 5 ["self","low","height"] (sS ac aa ts))
include T ae aO aP ay aD in
theorem Q3 (F:Fun K "next_at" "Heights.next_at" Fz f fd)(bA:Mth P w K mg base aa "next_within" 9 ["self","low","high","height"] (Zt ac aa ts)):Ba P w K mg base CX0 10 f fd ["self","place","height"] (Va ac aa ts):=by
 exists F.ok Dn
 obtain⟨x,ls,p,h,rfl,hR,hT,hp,q⟩:=h;obtain⟨dx,pp,b,kk,t,o,hx,hW,hTb⟩:=id hR;refine⟨_,(Ab (Bi (Bn aO hr.m (tpa (pv 1) (tpa (tfl (pv 0)) Aa)))) (Ab (Bi (Bn aP hr.m (tpa (pv 2) Aa))) (Ab (Dm f8 rfl (Do (At ay hr.m (pv 0) (tpa (pv 1) (tpa (tfl (pv 0)) Aa)))) (O7 rfl (Dw (tgn 3 Dn.nd) (Dw (tgn 4 Dn.nd) Mr))) (Ab (tst 5 Dn.nd (Cb (C4 (At aD hr.m (pv 0) (tpa (pv 3) (tpa (pv 2) Aa)))) (At bA hr.m (pv 0) (tpa (pv 3) (tpa (pv 4) (tpa (pv 2) Aa)))) C9)) (Ad (B2 (Sn (Yb (pv 5))) (Ad (Am (pv 5)))
  Bf)))) (Ad (Am C9))))),?_⟩
 apply⟨x,aa,dx,_,_,rfl,hx,ae.cl,ae.cz,rfl,?_⟩;apply⟨p,_,rfl,by lia,by lia,?_⟩;apply⟨h,rfl,?_⟩;apply⟨x,dx,_,rfl,hx,rfl,?_⟩;apply⟨x,aa,dx,_,_,rfl,hx,ae.cl,ae.cz,rfl,?_⟩;apply⟨x,ls,p,(ls.flatten.length:Int),rfl,hR,hT,qz _,λpa as los his H1 s1 hpa0 hpa hN hO hll=>?_⟩;rw[f9] at hO;have hR1:=hR.kp s1.kp;have hal:as.length=los.length:=by rw[hN.1,Ca]
 refine⟨pa,rfl,⟨_,SqL.of hpa⟩,?_⟩;refine Vd (as:=as) (xs:=nV los) (ys:=nV his) hN.1 (by rw[hal,Ca,hO.ln]) (λi G H2=>(∃v3 v4 v5:Option V,G=[some (.ref x),some (.int (p:Nat)),some (.int h),v3,v4,v5])/\SmT ts H1 H2/\∀k,p<k->k<=los.getD i ls.flatten.length->hgt ls.flatten k≠h) ?_ (λi G H2 _ h=>SqL.of (h.2.1.k hpa)) (λi t x y G H2 e1 e2 e3 h=>h.2.1.k (hN.2 i t x y e1 e2 e3).2) ?_ ?_
 ·refine⟨⟨_,_,_,rfl⟩,SmT.refl s1.ok,λk hk1 hk2=>?_⟩
  by_cases hpl:p<ls.flatten.length
  ·unfold eh at hk2
   rw[hO.fst hpl] at hk2;exact absurd hk2 (by show ¬ k<=p;lia)
  ·have:=hO.nil hpl
   unfold eh at hk2;rw[eg (by lia)] at hk2;exact absurd hk2 (by show ¬ k<=ls.flatten.length;lia)
 ·rintro i y y2 G H2 hy hy2 ⟨⟨v3,v4,v5,rfl⟩,s2,hno⟩
  obtain⟨a,ea,rfl⟩:=K6 hy;obtain⟨c,ec,rfl⟩:=K6 hy2;obtain⟨ok1,ok2,ok3,k0,ok4,ok5,ok6⟩:=hO.at' i a c ea ec;have hsz:=hO.sz hW.sz ea ec;have cv1:los.getD i ls.flatten.length=a:=by unfold eh;rw[ea];rfl
  have cv2:=hO.nxt i c ec;have hR2:=hR1.kp s2.kp;have hx2:=s2.k (s1.k hx);have go:(∀k,a<k->k<=c->hgt ls.flatten k≠h)->∀k,p<k->k<=los.getD (i+1) ls.flatten.length->hgt ls.flatten k≠h:=λhh k k1 k2=>by
   by_cases k3:k<=a
   ·exact hno k k1 (by rw[cv1];exact k3)
   ·exact hh k (by lia) (by rw[cv2];exact k2)
  apply⟨x,dx,_,rfl,hx2,rfl,?_⟩;apply⟨x,ls,a,h,rfl,hR2,s2.ok,by lia,λbb H3 hbb s3=>?_⟩;have s23:=s2.trans s3
  cases bb with
  |true=>
   apply⟨x,dx,_,rfl,s3.k hx2,rfl,?_⟩;apply⟨x,ls,a,c,h,rfl,hR2.kp s3.kp,s3.ok,by lia,ok3,by lia,λr H4 hr3 s4=>?_⟩
   cases r with
   |some j=>
    k_is;obtain⟨j1,j2,j3,j4⟩:=hr3;refine q (some j) H4 ⟨by lia,by lia,j3,λi' i1 i2 he=>?_⟩ ((s1.trans s23).trans s4)
    by_cases k3:i'<=a
    ·exact hno i' i1 (by rw[cv1];exact k3) he
    ·exact j4 i' (by lia) i2 he
   |none=>
    k_is;rw[show(!decide (Hl none=V.non))=false from rfl];k_is;exact⟨⟨_,_,_,rfl⟩,s23.trans s4,go hr3⟩
  |false=>
   k_is;rw[show(!decide (V.non=V.non))=false from rfl];k_is;exact⟨⟨_,_,_,rfl⟩,s23,go λk k1 k2=>hbb rfl k0 ok4 ok5 (by lia) k (by lia) (by lia)⟩
 ·rintro G H2 ⟨⟨v3,v4,v5,rfl⟩,s2,hno⟩
  rw[hal] at hno;apply q none H2 (λi i1 i2=>hno i i1 ?_) (s1.trans s2);unfold eh;rw[eg (db _)];exact i2
def Aat (l:Za5)(lo hi:Nat)(h:Int):Option Nat->Prop
 |some j=>lo<j/\j<=hi/\hgt l j=h/\∀i,j<i->i<=hi->hgt l i≠h
 |none=>∀i,lo<i->i<=hi->hgt l i≠h
inductive dG (C CR:df)(ts:List Tb)(vs:List V)(H:Hp)(Q:VK)(E:XK):Prop|mk(x:df)(ls:List (Za5))(lo hi:Nat)(h:Int)(_:vs=[.ref x,.int lo,.int hi,.int h])(_:Bp C CR H x ls)(_:Tbs ts H)(_:lo<=hi)(_:hi<=ls.flatten.length)(_:hi-lo<=1000)(_:∀r H',Aat ls.flatten lo hi h r->SmT ts H H'->Q (Hl r) H')
include T ae ax in
theorem Qj (F:Fun K "last_within" "Heights.last_within" Dz f fd):Ba P w K mg base CX0 9 f fd ["self","low","high","height"] (dG ac aa ts):=by
 exists F.ok F2
 obtain⟨x,ls,lo,hi,h,rfl,hR,hT,h1,h2,h3,q⟩:=h;obtain⟨dx,p,b,k,t,o,hx,hW,hTb⟩:=id hR;obtain⟨l,hl⟩:∃l,ls.flatten=l:=⟨_,rfl⟩;refine⟨_,(Ab (tst 4 F2.nd (tX (At ax hr.m (pv 0) (tpa (pv 1) (tpa (pv 2) Aa))))) (Ad (Am (Cb (R6 Xa (pv 3) (pv 4) rfl) (Ak B7 (pv 2) (Cl dy pz pw Tg (pv 4) (tpa (pv 3) Aa))) C9)))),?_⟩
 apply⟨x,dx,_,rfl,hx,rfl,?_⟩;apply⟨x,ls,lo,hi,rfl,hR,hT,h1,h2,h3,λp H1 s1 hp0 hp=>?_⟩;rw[hl] at hp q;apply⟨p,_,rfl,SqL.of hp,λp2 hp2=>?_⟩;have t2:=s1.then (An (o:=.lst ((hw l lo hi).map V.int).reverse) hp2);have e2:upd H1 p2 (.lst ((hw l lo hi).map V.int).reverse) p2=some (.lst ((hw l lo hi).reverse.map V.int)):=by rw[Ac,List.map_reverse]
 generalize upd H1 p2 _=H2 at *;apply⟨p2,_,rfl,.inl (SqL.of e2),rfl,Cr _,?_⟩;rw[kR]
 by_cases hm:h∈(hw l lo hi).reverse
 ·rw[decide_eq_true hm,show(if false=true then !true else true)=true by decide]
  obtain⟨j,hj,hno⟩:=Th hm;have hjl:=Bl hj;rw[yk,Gh] at hjl;have rev:∀k,k<hi-lo->(hw l lo hi).reverse[k]?=some (hgt l (hi-k)):=λk hk=>by
   rw[List.getElem?_reverse (by rw[Gh];exact hk),Gh,Rk (by lia),show lo+(hi-lo-1-k)+1=hi-k by lia]
  apply⟨.inl ⟨rfl,_,SqL.of e2⟩,?_⟩;apply⟨p2,_,h,j,rfl,rfl,e2,hj,hno,?_⟩;k_is;rw[rev j hjl] at hj;have:=q (some (hi-j)) H2 ⟨by lia,by lia,de hj,λi hi1 hi2 he=>?_⟩ t2
  ·rw[show Hl (some (hi-j))=V.int ((hi:Int)-(j:Int)) by show V.int _=_;congr 1;lia] at this
   exact this
  ·refine hno (hi-i) (by lia) ?_
   rw[rev _ (by lia),show hi-(hi-i)=i by lia,he]
 ·rw[decide_eq_false hm,show(if false=true then !false else false)=false by decide]
  k_is;exact q none H2 (λi hi1 hi2 he=>hm (List.mem_reverse.mpr (he▸gA hi1 hi2))) t2
def Ms (l:Za5)(p:Nat)(h:Int):Option Nat->Prop
 |some j=>j<p/\hgt l j=h/\∀i,j<i->i<p->hgt l i≠h
 |none=>∀i,i<p->hgt l i≠h
inductive Wx (C CR:df)(ts:List Tb)(vs:List V)(H:Hp)(Q:VK)(E:XK):Prop|mk(x:df)(ls:List (Za5))(p:Nat)(h:Int)(_:vs=[.ref x,.int p,.int h])(_:Bp C CR H x ls)(_:Tbs ts H)(_:p<=ls.flatten.length)(_:∀r H',Ms ls.flatten p h r->SmT ts H H'->Q (Hl r) H')
include T ae aO aP ay aD in
theorem Q2 (F:Fun K "last_at" "Heights.last_at" Ft f fd)(bC:Mth P w K mg base aa "last_within" 9 ["self","low","high","height"] (dG ac aa ts)):Ba P w K mg base CX0 10 f fd ["self","place","height"] (Wx ac aa ts):=by
 exists F.ok Dq
 obtain⟨x,ls,p,h,rfl,hR,hT,hp,q⟩:=h;obtain⟨dx,pp,b,kk,t,o,hx,hW,hTb⟩:=id hR;refine⟨_,(Ab (Bi (Bn aO hr.m (tpa (pv 1) (tpa (tfl (pv 0)) Aa)))) (Ab (Bi (Bn aP hr.m (tpa (pv 2) Aa))) (Ab (Dm f8 rfl (vJ rfl T.cW (At ay hr.m (pv 0) (tpa Ag (tpa (Ak B7 (pv 1) Ag) Aa)))) (O7 rfl (Dw (tgn 3 Dq.nd) (Dw (tgn 4 Dq.nd) Mr))) (Ab (tst 5 Dq.nd (Cb (C4 (At aD hr.m (pv 0) (tpa (pv 3) (tpa (pv 2) Aa)))) (At bC hr.m (pv 0) (tpa (pv 3) (tpa (pv 4) (tpa (pv 2) Aa)))) C9)) (Ad (B2 (Sn (Yb (pv 5))) (Ad (Am (pv 5)))
  Bf)))) (Ad (Am (Cb (PW.pt (Ls (ttc Jr (pv 1) Ag) (Iu (ttc Et (pv 2) Ag)))) Ag C9)))))),?_⟩
 apply⟨x,aa,dx,_,_,rfl,hx,ae.cl,ae.cz,rfl,?_⟩;apply⟨p,_,rfl,by lia,by lia,?_⟩;apply⟨h,rfl,?_⟩;apply⟨x,dx,_,rfl,hx,rfl,?_⟩;apply⟨x,ls,0,(p:Int)-1,rfl,hR,hT,by lia,λpa as los his H1 s1 hpa0 hpa hN hO hll=>?_⟩;rw[show((p:Int)-1).toNat=p-1 by lia] at hO;have hR1:=hR.kp s1.kp;have hal:as.length=los.length:=by rw[hN.1,Ca]
 refine⟨pa,_,rfl,SqL.of hpa,?_⟩;rw[c8];refine eY (as:=as) (xs:=nV los) (ys:=nV his) hN.1 (by rw[hal,Ca,hO.ln]) (λi G H2=>(∃v3 v4 v5:Option V,G=[some (.ref x),some (.int (p:Nat)),some (.int h),v3,v4,v5])/\SmT ts H1 H2/\∀k,los.getD (los.length-i) (p-1)<k->k<p->hgt ls.flatten k≠h) ?_ (λi G H2 _ h=>SqL.of (h.2.1.k hpa)) (λi j t x y G H2 e1 e2 e3 h=>h.2.1.k (hN.2 j t x y e1 e2 e3).2) ?_ ?_
 ·refine⟨⟨_,_,_,rfl⟩,SmT.refl s1.ok,λk hk1 hk2=>?_⟩
  rw[show los.getD (los.length-0) (p-1)=p-1 by unfold eh;rw[eg (by lia)];rfl] at hk1;lia
 ·rintro i y y2 G H2 hlt hy hy2 ⟨⟨v3,v4,v5,rfl⟩,s2,hno⟩
  rw[hal] at hlt hy hy2;obtain⟨a,ea,rfl⟩:=K6 hy;obtain⟨c,ec,rfl⟩:=K6 hy2;obtain⟨ok1,ok2,ok3,k0,ok4,ok5,ok6⟩:=hO.at' _ a c ea ec;have hsz:=hO.sz hW.sz ea ec;have cv1:los.getD (los.length-i) (p-1)=c:=by
   have:=hO.nxt _ c ec;rw[show los.length-1-i+1=los.length-i by lia] at this;exact this.symm
  have cv2:los.getD (los.length-(i+1)) (p-1)=a:=by
   rw[show los.length-(i+1)=los.length-1-i by lia];unfold eh;rw[ea];rfl
  have hR2:=hR1.kp s2.kp;have hx2:=s2.k (s1.k hx);have go:(∀k,a<k->k<=c->hgt ls.flatten k≠h)->∀k,los.getD (los.length-(i+1)) (p-1)<k->k<p->hgt ls.flatten k≠h:=λhh k k1 k2=>by
   rw[cv2] at k1
   by_cases k3:k<=c
   ·exact hh k k1 k3
   ·exact hno k (by rw[cv1];lia) k2
  apply⟨x,dx,_,rfl,hx2,rfl,?_⟩;apply⟨x,ls,a,h,rfl,hR2,s2.ok,by lia,λbb H3 hbb s3=>?_⟩;have s23:=s2.trans s3
  cases bb with
  |true=>
   apply⟨x,dx,_,rfl,s3.k hx2,rfl,?_⟩;apply⟨x,ls,a,c,h,rfl,hR2.kp s3.kp,s3.ok,by lia,by lia,by lia,λr H4 hr3 s4=>?_⟩
   cases r with
   |some m=>
    k_is;obtain⟨j1,j2,j3,j4⟩:=hr3;refine q (some m) H4 ⟨by lia,j3,λi' i1 i2 he=>?_⟩ ((s1.trans s23).trans s4)
    by_cases k3:i'<=c
    ·exact j4 i' i1 k3 he
    ·exact hno i' (by rw[cv1];lia) i2 he
   |none=>
    k_is;rw[show(!decide (Hl none=V.non))=false from rfl];k_is;exact⟨⟨_,_,_,rfl⟩,s23.trans s4,go hr3⟩
  |false=>
   k_is;rw[show(!decide (V.non=V.non))=false from rfl];k_is;exact⟨⟨_,_,_,rfl⟩,s23,go λk k1 k2=>hbb rfl k0 ok4 ok5 (by lia) k (by lia) (by lia)⟩
 ·rintro G H2 ⟨⟨v3,v4,v5,rfl⟩,s2,hno⟩
  rw[hal,fv] at hno;have hno:∀k,0<k->k<p->hgt ls.flatten k≠h:=λk k1 k2=>by
   refine hno k ?_ k2
   by_cases hp1:0<p-1
   ·unfold eh
    rw[hO.fst hp1];exact k1
   ·lia
  apply B0 (λh1=>?_) (λh1=>?_)
  ·apply B0 (λh2=>?_) (λh2=>?_)
   ·k_is
    have h2:=V.int.inj h2;exact q (some 0) H2 ⟨by lia,by rw[dP,h2],hno⟩ (s1.trans s2)
   ·apply q none H2 (λi hi he=>?_) (s1.trans s2)
    by_cases i0:i=0
    ·rw[i0,dP] at he
     exact h2 (by rw[he])
    ·exact hno i (by lia) hi he
  ·k_is
   exact q none H2 (λi hi=>absurd hi (by lia)) (s1.trans s2)
theorem fL {l:Za5}{lo hi j:Nat}{h:Int}{r:Option Nat}(h1:W8 l lo hi h (some j))(h2:W8 l lo hi h r):r=some j:=by
 obtain⟨a1,a2,a3,a4⟩:=h1
 cases r with
 |none=>exact absurd a3 (h2 j a1 a2)
 |some i=>
  obtain⟨b1,b2,b3,b4⟩:=h2;rcases qa i j with h|h|h
  ·exact absurd b3 (a4 i b1 h)
  ·rw[h]
  ·exact absurd a3 (b4 j a1 h)
theorem Re {l:Za5}{p j:Nat}{h:Int}{r:Option Nat}(h1:Ms l p h (some j))(h2:Ms l p h r):r=some j:=by
 obtain⟨a1,a2,a3⟩:=h1
 cases r with
 |none=>exact absurd a2 (h2 j a1)
 |some i=>
  obtain⟨b1,b2,b3⟩:=h2;rcases qa i j with h|h|h
  ·exact absurd a2 (b3 j h a1)
  ·rw[h]
  ·exact absurd b2 (a3 i h b1)
inductive Ua (C CR:df)(ts:List Tb)(vs:List V)(H:Hp)(Q:VK)(E:XK):Prop|mk(x:df)(ls:List (Za5))(p j:Nat)(_:vs=[.ref x,.int p])(_:Bp C CR H x ls)(_:Tbs ts H)(_:((ls.flatten[p]?=some true/\W8 ls.flatten p ls.flatten.length (hgt ls.flatten p) (some (j+1)))\/(ls.flatten[p]?=some false/\Ms ls.flatten (p+1) (hgt ls.flatten (p+1)) (some j))))(_:∀H',SmT ts H H'->Q (.int (j:Nat)) H')
variable (ap:Mth P w K mg base aa "is_opening" 6 ["self","place"] (kZ ac aa ts)) (aQ:Mth P w K mg base aa "last_at" 10 ["self","place","height"] (Wx ac aa ts))
include T ae aq ap aQ in
theorem Q4 (F:Fun K "partner" "Heights.partner" F4 f fd)(bE:Mth P w K mg base aa "next_at" 10 ["self","place","height"] (Va ac aa ts)):Ba P w K mg base CX0 11 f fd ["self","place"] (Ua ac aa ts):=by
 exists F.ok Nu
 obtain⟨x,ls,p,j,rfl,hR,hT,hj,q⟩:=h;obtain⟨dx,pp,b,kk,t,o,hx,hW,hTb⟩:=id hR;have hpl:p<ls.flatten.length:=hj.elim (λz=>Bl z.1) (λz=>Bl z.1);refine⟨_,(Ab (B2 (C4 (At ap hr.m (pv 0) (tpa (pv 1) Aa))) (Ad (Am (Ak B7 (At bE hr.m (pv 0) (tpa (pv 1) (tpa (At aq hr.m (pv 0) (tpa (pv 1) Aa)) Aa))) Ag)))
  Bf) (Ad (Am (At aQ hr.m (pv 0) (tpa (Ak Ay (pv 1) Ag) (tpa (At aq hr.m (pv 0) (tpa (Ak Ay (pv 1) Ag) Aa)) Aa)))))),?_⟩
 apply⟨x,dx,_,rfl,hx,rfl,?_⟩;apply⟨x,ls,p,rfl,hR,hT,hpl,λH1 s1=>?_⟩;rcases hj with⟨hp,hj⟩|⟨hp,hj⟩
 ·rw[show ls.flatten.getD p false=true by unfold eh;rw[hp];rfl]
  apply⟨x,dx,_,rfl,s1.k hx,rfl,?_⟩;apply⟨x,dx,_,rfl,s1.k hx,rfl,?_⟩;apply⟨x,ls,p,rfl,hR.kp s1.kp,s1.ok,by lia,λH2 s2=>?_⟩;have s12:=s1.trans s2;apply⟨x,ls,p,_,rfl,hR.kp s12.kp,s12.ok,by lia,λr H3 hr3 s3=>?_⟩;rw[fL hj hr3,show Hl (some (j+1))=V.int ((j:Int)+1) by show V.int _=_;congr 1];k_is;rw[show((j:Int)+1-1)=(j:Int) by lia];exact q H3 (s12.trans s3)
 ·rw[show ls.flatten.getD p false=false by unfold eh;rw[hp];rfl]
  apply⟨x,dx,_,rfl,s1.k hx,rfl,?_⟩;apply⟨x,dx,_,rfl,s1.k hx,rfl,?_⟩;apply⟨x,ls,p+1,by rw[l9];rfl,hR.kp s1.kp,s1.ok,by lia,λH2 s2=>?_⟩;have s12:=s1.trans s2;apply⟨x,ls,p+1,_,by rw[l9];rfl,hR.kp s12.kp,s12.ok,by lia,λr H3 hr3 s3=>?_⟩;rw[Re hj hr3];exact q H3 (s12.trans s3)
inductive Yy (C CR:df)(ts:List Tb)(vs:List V)(H:Hp)(Q:VK)(E:XK):Prop|mk(x:df)(ls:List (Za5))(lo hi:Nat)(_:vs=[.ref x,.int lo,.int hi])(_:Bp C CR H x ls)(_:Tbs ts H)(_:lo<ls.flatten.length)(_:∀(b:Bool) H',(b=true->∃k,k<ls.length/\lo=bgn ls k/\hi=bgn ls (k+1))->SmT ts H H'->Q (.bl b) H')
include T ae aj aL in
theorem Qn (F:Fun K "is_stretch" "Heights.is_stretch" Ef f fd):Ba P w K mg base CX0 5 f fd ["self","low","high"] (Yy ac aa ts):=by
 exists F.ok Ga
 obtain⟨x,ls,lo,hi,rfl,hR,hT,hl,q⟩:=h;obtain⟨dx,p,b,k,t,o,hx,hW,hTb⟩:=id hR;refine⟨_,(Ab (tst 3 Ga.nd (At aj hr.m (pv 0) (tpa (pv 1) Aa))) (Ad (Am (Uj (tpc Et (pv 1) (At aL hr.m (pv 0) (tpa (pv 3) Aa))) (T6 (tpc Et (pv 2) (At aL hr.m (pv 0) (tpa (Ak Ay (pv 3) Ag) Aa)))))))),?_⟩
 apply⟨x,dx,_,rfl,hx,rfl,?_⟩;apply⟨x,ls,lo,rfl,hR,hT,λk1 H1 hk1 ha1 hb1 s1=>?_⟩;have hkl:=zF hl hk1 ha1;have hR1:=hR.kp s1.kp;apply⟨x,dx,_,rfl,s1.k hx,rfl,?_⟩;apply⟨x,ls,k1,rfl,hR1,hk1,?_⟩;apply B0 (λh1=>?_) (λ_=>q false H1 (λe=>by cases e) s1);have h1:lo=bgn ls k1:=by
  have:=V.int.inj h1;lia
 apply⟨x,dx,_,rfl,s1.k hx,rfl,?_⟩;apply⟨x,ls,k1+1,by rw[show((k1+1:Nat):Int)=(k1:Int)+1 by lia];rfl,hR1,by lia,?_⟩;apply q _ H1 (λhb=>⟨k1,hkl,h1,?_⟩) s1;have:=V.int.inj (of_decide_eq_true hb);lia
theorem rH {ls:List (Za5)}{k:Nat}{y:Za5}(hy:ls[k]?=some y):hw ls.flatten (bgn ls k) (bgn ls (k+1))=(hts y y.length).map (hBg ls k + ·):=by
 have hb:=Eg hy;unfold hw hts;rw[hb,fq,jm];refine i5 λj hj=>?_;have:=ja.mp hj;show _=hBg ls k+hgt y (j+1);rw[qd,Vz hy (by lia)]
theorem Zb (ns:List Int)(a m:Int):(ns.map (a + ·)).count (a+m)=ns.count m:=by
 induction ns with
 |nil=>rfl
 |cons n r ih=>
  rw[jd,kb,kb,ih]
  by_cases h:n=m
  ·simp[h]
  ·simp[h]
theorem iP {l:Za5}{lo hi:Nat}{h:Int}(hn:∀i,lo<i->i<=hi->hgt l i≠h):(hw l lo hi).count h=0:=List.count_eq_zero.mpr λhm=>by
 obtain⟨i,h1,h2,h3⟩:=Aa7 hm;exact hn i h1 h2 h3
inductive Zo (C CR:df)(ts:List Tb)(vs:List V)(H:Hp)(Q:VK)(E:XK):Prop|mk(x:df)(ls:List (Za5))(lo hi k:Nat)(h:Int)(_:vs=[.ref x,.int lo,.int hi,.int h])(_:Bp C CR H x ls)(_:Tbs ts H)(_:lo<hi)(_:k<ls.length)(_:bgn ls k<=lo)(_:hi<=bgn ls (k+1))(_:∀H',SmT ts H H'->Q (.int ((hw ls.flatten lo hi).count h:Nat)) H')
include T ae aj ax aD in
theorem Qf (F:Fun K "often_within" "Heights.often_within" Du f fd)(bF:Mth P w K mg base aa "is_stretch" 5 ["self","low","high"] (Yy ac aa ts)):Ba P w K mg base CX0 9 f fd ["self","low","high","height"] (Zo ac aa ts):=by
 exists F.ok Fq
 obtain⟨x,ls,lo,hi,k0,h,rfl,hR,hT,hlh,hk0,hb0,hb1,q⟩:=h;obtain⟨dx,p,b,k,t,o,hx,hW,hTb⟩:=id hR;obtain⟨ta,rs,rfl,ht,hrl,hrs⟩:=hTb.tb;obtain⟨oa,os,rfl,ho,hol,hos⟩:=hTb.ol;have hle:=fA ls (k0+1);have hl:lo<ls.flatten.length:=by lia
 have ey:ls[k0]?=some (ls[k0]):=c7 hk0;have hbs:=Eg ey;have hsz:=hW.sz _ _ ey;refine⟨_,(Ab (tst 4 Fq.nd (At aj hr.m (pv 0) (tpa (pv 1) Aa))) (Ab (B2 (PW.pt (Ls (ttc Et (pv 3) (tix Mp (tix Ap (tfl (pv 0)) (pv 4)) Ag)) (Iu (C4 (At bF hr.m (pv 0) (tpa (pv 1) (tpa (pv 2) Aa))))))) (Ad (Am (tix Ap (tfl (pv 0)) (pv 4))))
  Bf) (Ad (Am (Cb (C4 (At aD hr.m (pv 0) (tpa (pv 1) (tpa (pv 3) Aa)))) (Cl dy vb va Vc (At ax hr.m (pv 0) (tpa (pv 1) (tpa (pv 2) Aa))) (tpa (pv 3) Aa)) Ag))))),?_⟩
 apply⟨x,dx,_,rfl,hx,rfl,?_⟩;apply⟨x,ls,lo,rfl,hR,hT,λk1 H1 hk1 ha1 hc1 s1=>?_⟩;have hkl:=zF hl hk1 ha1;obtain rfl:k1=k0:=Yq ha1 (hc1 hkl) hb0 (by lia);have hj:k1<rs.length:=by lia
 obtain⟨mn,mx,hr1,hmn,hmx⟩:=hrs _ _ (c7 hj) _ ey;apply⟨x,aa,dx,_,_,rfl,s1.k hx,ae.cl,ae.cS,rfl,?_⟩;apply Bb (SqL.of (s1.k ht)) (Bd (by rw[dg,c7 hj];rfl)) ?_;apply Of (SqT.of (s1.k hr1)) (v:=.int (hBg ls k1+mn)) rfl ?_;apply B0 (λh1=>?_) (λh1=>?_)
 ·have h1:h=hBg ls k1+mn:=V.int.inj h1
  apply⟨x,dx,_,rfl,s1.k hx,rfl,?_⟩;apply⟨x,ls,lo,hi,rfl,hR.kp s1.kp,s1.ok,hl,λbb H2 hbb s2=>?_⟩;have s12:=s1.trans s2
  cases bb with
  |true=>
   obtain⟨k2,hk2,e1,e2⟩:=hbb rfl;obtain rfl:k1=k2:=Yq (n:=lo) hb0 (by lia) (by lia) (by lia);have hjo:k1<os.length:=by lia
   have hv:=hos k1 _ _ _ (c7 hjo) ey hmn;apply⟨x,aa,dx,_,_,rfl,s12.k hx,ae.cl,ae.cI,rfl,?_⟩;apply Bb (SqL.of (s12.k ho)) (v:=os[k1]) (Bd (c7 hjo)) ?_;k_is;have:=q H2 s12;rw[e1,e2,rH ey,h1,Zb] at this;rw[hv];exact this
  |false=>
   apply⟨x,dx,_,rfl,s12.k hx,rfl,?_⟩;apply⟨x,ls,lo,h,rfl,hR.kp s12.kp,s12.ok,hl,λb3 H3 hb3 s3=>?_⟩;have s13:=s12.trans s3
   cases b3 with
   |true=>
    apply⟨x,dx,_,rfl,s13.k hx,rfl,?_⟩;apply⟨x,ls,lo,hi,rfl,hR.kp s13.kp,s13.ok,by lia,by lia,by lia,λp4 H4 s4 hp40 hp4=>?_⟩;apply⟨.inl ⟨rfl,_,SqL.of hp4⟩,?_⟩;apply⟨p4,_,_,rfl,rfl,hp4,Cr _,rfl,?_⟩;rw[Lz];exact q H4 (s13.trans s4)
   |false=>
    k_is;have:=q H3 s13;rw[iP λi h1 h2=>hb3 rfl k1 hkl ha1 (by lia) i (by lia) (by lia)] at this;exact this
 ·apply⟨x,dx,_,rfl,s1.k hx,rfl,?_⟩;apply⟨x,ls,lo,h,rfl,hR.kp s1.kp,s1.ok,hl,λb3 H3 hb3 s3=>?_⟩;have s13:=s1.trans s3
  cases b3 with
  |true=>
   apply⟨x,dx,_,rfl,s13.k hx,rfl,?_⟩;apply⟨x,ls,lo,hi,rfl,hR.kp s13.kp,s13.ok,by lia,by lia,by lia,λp4 H4 s4 hp40 hp4=>?_⟩;apply⟨.inl ⟨rfl,_,SqL.of hp4⟩,?_⟩;apply⟨p4,_,_,rfl,rfl,hp4,Cr _,rfl,?_⟩;rw[Lz];exact q H4 (s13.trans s4)
  |false=>
   k_is;have:=q H3 s13;rw[iP λi h1 h2=>hb3 rfl k1 hkl ha1 (by lia) i (by lia) (by lia)] at this;exact this
def lvP (l:Za5)(h:Int)(lo n:Nat):Za4:=(ed n).filter λq=>decide (hgt l (lo+q+1)=h)
theorem On (l:Za5)(h:Int)(lo n:Nat):lvP l h lo (n+1)=lvP l h lo n++if hgt l (lo+n+1)=h then[n] else[]:=by
 unfold lvP;rw[ic,l8,rL];simp only[decide_eq_true_eq]
theorem lG (l:Za5)(h:Int)(lo n:Nat):∀d,∃r,lvP l h lo (n+d)=lvP l h lo n++r
 |0=>⟨[],(iz _).symm⟩
 |d+1=>by
  obtain⟨r,e⟩:=lG l h lo n d;exact⟨_,by rw[<-qd,On,e,d9]⟩
theorem kJ (l:Za5)(h:Int)(lo n:Nat):(lvP l h lo n).length=(hw l lo (lo+n)).count h:=by
 unfold lvP hw;rw[fq,List.count,List.countP_map,<-List.countP_eq_length_filter];congr 1
theorem yM {l:Za5}{h:Int}{lo n j:Nat}(hj:j<n)(hh:hgt l (lo+j+1)=h):(lvP l h lo n)[(lvP l h lo j).length]?=some j:=by
 obtain⟨r,e⟩:=lG l h lo (j+1) (n-(j+1));rw[show j+1+(n-(j+1))=n by lia,On,if_pos hh] at e;rw[e,d9,di (db _),fv];rfl
inductive jU (C CR:df)(ts:List Tb)(vs:List V)(H:Hp)(Q:VK)(E:XK):Prop|mk(x:df)(ls:List (Za5))(lo hi nth j:Nat)(h:Int)(_:vs=[.ref x,.int lo,.int hi,.int h,.int nth])(_:Bp C CR H x ls)(_:Tbs ts H)(_:lo<j)(_:j<=hi)(_:hi<=ls.flatten.length)(_:hi-lo<=1000)(_:hgt ls.flatten j=h)(_:(hw ls.flatten lo (j-1)).count h=nth)(_:∀H',SmT ts H H'->Q (.int (j:Nat)) H')
include T ae ax in
theorem Qp (F:Fun K "nth_within" "Heights.nth_within" Cv f fd):Ba P w K mg base CX0 9 f fd ["self","low","high","height","nth"] (jU ac aa ts):=by
 exists F.ok Gd
 obtain⟨x,ls,lo,hi,nth,j,h,rfl,hR,hT,h1,h2,h3,h4,h5,h6,q⟩:=h;obtain⟨dx,p,b,k,t,o,hx,hW,hTb⟩:=id hR;have hfl:ls.flatten.length<=60000:=by
  have:=Yd hW.sz ls.length (db _);have hfw:=hW.fw;rw[Hj] at this;lia
 refine⟨_,(Ab (tst 5 Gd.nd (At ax hr.m (pv 0) (tpa (pv 1) (tpa (pv 2) Aa)))) (Ad (Am (tix Ap (gM rfl Jl (nJ rfl T.cO (tpa (pv 5) Aa) (Yk (Ak Ay (pv 1) Ag) gH)) (λ_ _ _ _=>N8 (ttc Et (pv 1) (pv 2))) (λ_ _ _ _=>(pv 0))) (pv 4))))),?_⟩
 apply⟨x,dx,_,rfl,hx,rfl,?_⟩;apply⟨x,ls,lo,hi,rfl,hR,hT,by lia,h3,h4,λp1 H1 s1 hp10 hp1=>?_⟩;apply⟨p1,lo+1,rfl,by rw[show((lo+1:Nat):Int)=(lo:Int)+1 by lia],by lia,⟨_,SqL.of hp1⟩,?_⟩;refine oH hp1 (λi=>(lvP ls.flatten h lo i).map λq=>V.int ((lo+1+q:Nat):Int)) rfl (λi hi=>?_) (λi v H4 R A hv s4 hR4 hA4=>?_) (λD H4 hD s4 hD4=>?_)
 ·rw[c8] at hi ⊢
  rw[Gh] at hi;have e1:(lvP ls.flatten h lo i).length<=i:=by
   unfold lvP;have:=xm (λq=>decide (hgt ls.flatten (lo+q+1)=h)) (ed i);rw[fj] at this;exact this
  exact Ah (by lia)
 ·have hil:=Bl hv
  rw[c8,Gh] at hil;rw[dg,Rk hil] at hv;obtain rfl:V.int (hgt ls.flatten (lo+i+1))=v:=de hv;apply B0 (λe=>?_) (λe=>?_)
  ·apply hA4 _ _ ?_ (Aj.refl _);rw[On,if_pos (V.int.inj e),dj];rfl
  ·refine hR4 ?_ _ (Aj.refl _)
   rw[On,if_neg (λz=>e (congrArg V.int z)),iz]
 ·rw[c8,Gh] at hD4
  have hn:(lvP ls.flatten h lo (j-1-lo)).length=nth:=by rw[kJ,show lo+(j-1-lo)=j-1 by lia,h6]
  have ha:=yM (l:=ls.flatten) (h:=h) (lo:=lo) (n:=hi-lo) (j:=j-1-lo) (by lia) (by rw[show lo+(j-1-lo)+1=j by lia];exact h5);rw[hn] at ha;apply Bb (SqL.of hD4) (v:=.int (j:Nat)) (Bd (by rw[dg,ha];show some (V.int ((lo+1+(j-1-lo):Nat):Int))=_;rw[show lo+1+(j-1-lo)=j by lia])) ?_;k_is;exact q H4 (s1.then s4)
theorem mJ {K:da}{a:df}{fr:St}{tc:TT}{Q:VK}(hx:as.length=xs.length)(hy:as.length=ys.length)(ha:H1 a=some (.lst (as.map V.ref)))(ht:∀(i:Nat) t x y,as[i]?=some t->xs[i]?=some x->ys[i]?=some y->H1 t=some (.tup [x,y]))(hT:Tbs ts H1)(acc:Nat->List V)(h0:acc 0=[])(hz:∀i,i<as.length->(acc i).length<sizeLine)
  (turn:∀(i:Nat) x y H (R:Hp->Prop) (A:VK),xs[i]?=some x->ys[i]?=some y->SmT ts H1 H->(∀v H',acc (i+1)=acc i++[v]->SmT ts H H'->A v H')->tc (some x::some y::fr) H λb H3=>if b=true then te (some x::some y::fr) H3 A else R H3)
  (fin:∀D H,H1 D=none->SmT ts H1 H->H D=some (.lst (acc as.length))->Q (.ref D) H):Lg K (Itl K a) H1 fr tc te Q:=by
 intro D hD;refine⟨λi m H=>i+m=as.length/\SmT ts H1 H/\H D=some (.lst (acc i)),⟨as.length,by lia,SmT.of hT (An hD),by rw[Ac,h0]⟩,?_⟩;rintro i m H ⟨him,sm,hd⟩
 by_cases hi:i<as.length
 ·refine .inr ⟨⟨_,.ref as[i],SqL.of (sm.k ha),by rw[dg,c7 hi];rfl⟩,λv H' h=>?_⟩
  obtain⟨rfl,hv⟩:=h;have hv:=hv _ (SqL.of (sm.k ha));rw[dg,c7 hi] at hv;obtain rfl:=de hv;have e1:xs[i]?=some (xs[i]'(by lia)):=c7 _;have e2:ys[i]?=some (ys[i]'(by lia)):=c7 _;refine⟨as[i],_,_,rfl,SqT.of (sm.k (ht i _ _ _ (c7 hi) e1 e2)),?_⟩;exact turn i _ _ _ _ _ e1 e2 sm λy H'' e s2=>⟨acc i,s2.k hd,hz i hi,m-1,by lia,by lia,(sm.trans s2).push hD (s2.k hd),by rw[Ac,e]⟩
 ·obtain rfl:i=as.length:=by lia
  exact .inl ⟨⟨_,SqL.of (sm.k ha),by rw[c8];exact db _⟩,fin D H hD sm hd⟩
def lvl (l:Za5)(lo hi:Nat):Nat:=if lo<hi then 1+(hw l lo (hi-1)).count (hgt l lo) else 0
theorem pJ.sums {ls:List (Za5)}{lo hi:Nat}{los his:Za4}(h:pJ ls lo hi los his)(hh:Int):∀i,i<=los.length->lo<=los.getD i hi\/hi<=lo->(((ed i).map λj=>(((hw ls.flatten (los.getD j 0) (his.getD j 0)).count hh:Nat):Int)).sum=((hw ls.flatten lo (los.getD i hi)).count hh:Nat)):=by
 intro i
 induction i with
 |zero=>
  intro _ _
  by_cases hlt:lo<hi
  ·have:=h.fst hlt
   unfold eh;rw[this];show(0:Int)=((hw ls.flatten lo lo).count hh:Nat);unfold hw;rw[fv];rfl
  ·have:=h.nil hlt
   unfold eh;rw[eg (by lia)];show(0:Int)=((hw ls.flatten lo hi).count hh:Nat);unfold hw;rw[show hi-lo=0 by lia];rfl
 |succ i ih=>
  intro hi1 _;have ea:los[i]?=some (los[i]'(by lia)):=c7 _;have eb:his[i]?=some (his[i]'(by have:=h.ln;lia)):=c7 _;obtain⟨g1,g2,g3,_⟩:=h.at' i _ _ ea eb;have hn:=h.nxt i _ eb;have ga:los.getD i hi=los[i]'(by lia):=by unfold eh;rw[ea];rfl
  have ih:=ih (by lia) (.inl (by rw[ga];exact g2));rw[ga] at ih;rw[ic,dj,AE,ih,<-hn,Py g2 (fb g1),gu];have ga0:los.getD i 0=los[i]'(by lia):=by unfold eh;rw[ea];rfl
  have gb0:his.getD i 0=his[i]'(by have:=h.ln;lia):=by unfold eh;rw[eb];rfl
  show _+([(((hw ls.flatten (los.getD i 0) (his.getD i 0)).count hh:Nat):Int)]:List Int).sum=_;rw[ga0,gb0,yv];lia
inductive jA (C CR:df)(ts:List Tb)(vs:List V)(H:Hp)(Q:VK)(E:XK):Prop|mk(x:df)(ls:List (Za5))(lo hi:Nat)(_:vs=[.ref x,.int lo,.int hi])(_:Bp C CR H x ls)(_:Tbs ts H)(_:hi<=ls.flatten.length)(_:∀H',SmT ts H H'->Q (.int (lvl ls.flatten lo hi:Nat)) H')
variable (aR:Mth P w K mg base aa "often_within" 9 ["self","low","high","height"] (Zo ac aa ts))
include T ae aq ay aR in
theorem Qo (F:Fun K "many_level" "Heights.many_level" Cs f fd):Ba P w K mg base CX0 10 f fd ["self","low","high"] (jA ac aa ts):=by
 exists F.ok F9
 obtain⟨x,ls,lo,hi,rfl,hR,hT,h2,q⟩:=h;obtain⟨dx,p,b,k,t,o,hx,hW,hTb⟩:=id hR;refine⟨_,(Ab (B2 (ttc Oi (pv 1) (pv 2)) (Ad (Am Ag))
  Bf) (Ab (Nf (i:=3) F9.nd rfl (sg rfl) (At aq hr.m (pv 0) (tpa (pv 1) Aa))) (Ad (Am (Ak Ay Ag (Ar (pC rfl) (by rfl) T.n_sum Aa9 (tpa (gM rfl Jj (Do (At ay hr.m (pv 0) (tpa (pv 1) (tpa (Ak B7 (pv 2) Ag) Aa)))) (λ_ _ _ _=>Ed) (λ_ _ _ _=>(At aR hr.m (pv 3) (tpa (pv 0) (tpa (pv 1) (tpa (pv 2) Aa)))))) Aa))))))),?_⟩
 apply B0 (λh0=>?_) (λh0=>?_)
 ·k_is
  have:=q H (SmT.refl hT);unfold lvl at this;rw[if_neg (by lia)] at this;exact this
 ·have hlt:lo<hi:=by lia
  apply⟨x,dx,_,rfl,hx,rfl,?_⟩;apply⟨x,ls,lo,rfl,hR,hT,by lia,λH1 s1=>?_⟩;apply⟨x,dx,_,rfl,s1.k hx,rfl,?_⟩;apply⟨x,ls,lo,(hi:Int)-1,rfl,hR.kp s1.kp,s1.ok,by lia,λpa as los his H2 s2 hpa0 hpa hN hO hll=>?_⟩;rw[show((hi:Int)-1).toNat=hi-1 by lia] at hO;have s12:=s1.trans s2;have hal:as.length=los.length:=by rw[hN.1,Ca]
  refine⟨pa,rfl,⟨_,SqL.of hpa⟩,?_⟩;refine mJ (xs:=nV los) (ys:=nV his) hN.1 (by rw[hal,Ca,hO.ln]) hpa (λi t x y e1 e2 e3=>(hN.2 i t x y e1 e2 e3).2) s2.ok (λi=>((ed i).map λj=>(((hw ls.flatten (los.getD j 0) (his.getD j 0)).count (hgt ls.flatten lo):Nat):Int)).map V.int) rfl (λi hi=>?_) (λi y y2 H3 R A hy hy2 s3 hA=>?_) (λD H3 hD s3 h3=>?_)
  ·rw[c8,c8,fj]
   exact Ah (by lia)
  ·obtain⟨a,ea,rfl⟩:=K6 hy
   obtain⟨c,ec,rfl⟩:=K6 hy2;obtain⟨ok1,ok2,ok3,k0,ok4,ok5,ok6⟩:=hO.at' i a c ea ec;have s13:=s12.trans s3;apply⟨x,dx,_,rfl,s13.k hx,rfl,?_⟩;apply⟨x,ls,a,c,k0,_,rfl,hR.kp s13.kp,s13.ok,ok1,ok4,ok5,ok6,λH4 s4=>?_⟩;refine hA _ _ ?_ s4;rw[ic,dj,dj];have ga0:los.getD i 0=a:=by unfold eh;rw[ea];rfl
   have gb0:his.getD i 0=c:=by unfold eh;rw[ec];rfl
   show _++[V.int (((hw ls.flatten (los.getD i 0) (his.getD i 0)).count (hgt ls.flatten lo):Nat):Int)]=_;rw[ga0,gb0]
  ·apply⟨D,_,rfl,SqL.of h3,?_⟩;rw[hal,hO.sums _ _ (db _) (by unfold eh;rw[eg (db _)];show lo<=hi-1\/_;lia)];rw[show los.getD los.length (hi-1)=hi-1 by unfold eh;rw[eg (db _)];rfl];k_is;have:=q H3 (s12.trans s3);unfold lvl at this;rw[if_pos hlt] at this;rw[show(1:Int)+((hw ls.flatten lo (hi-1)).count (hgt ls.flatten lo):Nat)=((1+(hw ls.flatten lo (hi-1)).count (hgt ls.flatten lo):Nat):Int) by lia];exact this
inductive tD (C CR:df)(ts:List Tb)(vs:List V)(H:Hp)(Q:VK)(E:XK):Prop|mk(x:df)(ls:List (Za5))(lo nth j:Nat)(_:vs=[.ref x,.int lo,.int nth])(_:Bp C CR H x ls)(_:Tbs ts H)(_:lo<=j)(_:j<=ls.flatten.length)(_:hgt ls.flatten j=hgt ls.flatten lo)(_:lvl ls.flatten lo j=nth)(_:∀H',SmT ts H H'->Q (.int (j:Nat)) H')
include T ae aq ay aR in
theorem Qt (F:Fun K "nth_level" "Heights.nth_level" Ex f fd)(bG:Mth P w K mg base aa "nth_within" 9 ["self","low","high","height","nth"] (jU ac aa ts)):Ba P w K mg base CX0 10 f fd ["self","low","nth"] (tD ac aa ts):=by
 exists F.ok B1
 obtain⟨x,ls,lo,nth,j,rfl,hR,hT,hj1,hj2,hj3,hj4,q⟩:=h;obtain⟨dx,p,b,k,t,o,hx,hW,hTb⟩:=id hR;refine⟨_,(Ab (B2 (ttc Et (pv 2) Ag) (Ad (Am (pv 1)))
  Bf) (Ab (tst 3 B1.nd (At aq hr.m (pv 0) (tpa (pv 1) Aa))) (Ab (Dm f8 rfl (Do (At ay hr.m (pv 0) (tpa (pv 1) (tpa (tfl (pv 0)) Aa)))) (O7 rfl (Dw (tgn 4 B1.nd) (Dw (tgn 5 B1.nd) Mr))) (Ab (tst 6 B1.nd (At aR hr.m (pv 0) (tpa (pv 4) (tpa (pv 5) (tpa (pv 3) Aa))))) (Ab (B2 (ttc Y1 (pv 2) (pv 6)) (Ad (Am (At bG hr.m (pv 0) (tpa (pv 4) (tpa (pv 5) (tpa (pv 3) (tpa (Ak B7 (pv 2) Ag) Aa)))))))
  Bf) (Ad (tau 2 B1.nd (pv 6) Aad))))) (Ad (Am C9))))),?_⟩
 apply B0 (λh0=>?_) (λh0=>?_)
 ·have h0:nth=0:=by
   have:=V.int.inj h0;lia
  k_is;have e:j=lo:=by
   by_cases h:lo<j
   ·unfold lvl at hj4
    rw[if_pos h] at hj4;lia
   ·lia
  rw[<-e];exact q H (SmT.refl hT)
 ·have h0:0<nth:=Nat.pos_of_ne_zero λz=>h0 (by rw[z];rfl)
  have hlt:lo<j:=by
   by_cases h:lo<j
   ·exact h
   ·unfold lvl at hj4
    rw[if_neg h] at hj4;lia
  unfold lvl at hj4;rw[if_pos hlt] at hj4;apply⟨x,dx,_,rfl,hx,rfl,?_⟩;apply⟨x,ls,lo,rfl,hR,hT,by lia,λH1 s1=>?_⟩;apply⟨x,dx,_,rfl,s1.k hx,rfl,?_⟩;apply⟨x,aa,dx,_,_,rfl,s1.k hx,ae.cl,ae.cz,rfl,?_⟩;apply⟨x,ls,lo,(ls.flatten.length:Int),rfl,hR.kp s1.kp,s1.ok,qz _,λpa as los his H2 s2 hpa0 hpa hN hO hll=>?_⟩;rw[f9] at hO;have s12:=s1.trans s2;have hR2:=hR.kp s12.kp;have hal:as.length=los.length:=by rw[hN.1,Ca]
  refine⟨pa,rfl,⟨_,SqL.of hpa⟩,?_⟩;refine Vd (as:=as) (xs:=nV los) (ys:=nV his) hN.1 (by rw[hal,Ca,hO.ln]) (λi G H3=>(∃(m:Nat) (v3 v4 v5:Option V),G=[some (.ref x),some (.int (lo:Nat)),some (.int (m:Nat)),some (.int (hgt ls.flatten lo)),v3,v4,v5]/\m+(hw ls.flatten lo (los.getD i ls.flatten.length)).count (hgt ls.flatten lo)=nth)/\SmT ts H2 H3/\los.getD i ls.flatten.length<j) ?_ (λi G H3 _ h=>SqL.of (h.2.1.k hpa)) (λi t x y G H3 e1 e2 e3 h=>h.2.1.k (hN.2 i t x y e1 e2 e3).2) ?_ ?_
  ·have e0:los.getD 0 ls.flatten.length=lo:=by unfold eh;rw[hO.fst (by lia)];rfl
   refine⟨⟨nth,_,_,_,rfl,?_⟩,SmT.refl s2.ok,by rw[e0];exact hlt⟩;rw[e0];unfold hw;rw[fv];rfl
  ·rintro i y y2 G H3 hy hy2 ⟨⟨m,v3,v4,v5,rfl,hm⟩,s3,hno⟩
   obtain⟨a,ea,rfl⟩:=K6 hy;obtain⟨c,ec,rfl⟩:=K6 hy2;obtain⟨ok1,ok2,ok3,k0,ok4,ok5,ok6⟩:=hO.at' i a c ea ec;have hsz:=hO.sz hW.sz ea ec;have cv1:los.getD i ls.flatten.length=a:=by unfold eh;rw[ea];rfl
   have cv2:=hO.nxt i c ec;rw[cv1] at hm hno;have s13:=s12.trans s3;apply⟨x,dx,_,rfl,s13.k hx,rfl,?_⟩;apply⟨x,ls,a,c,k0,_,rfl,hR.kp s13.kp,s13.ok,ok1,ok4,ok5,ok6,λH4 s4=>?_⟩;have s14:=s13.trans s4;have eac:=Py (l:=ls.flatten) ok2 (fb ok1);apply B0 (λg=>?_) (λg=>?_)
   ·have hjc:j<=c:=by
     by_cases h:j<=c
     ·exact h
     ·exfalso
      have e1:=Py (l:=ls.flatten) (a:=lo) (b:=c) (c:=j-1) (by lia) (by lia);rw[e1,eac,gu,gu] at hj4;lia
    have e2:=Py (l:=ls.flatten) (a:=lo) (b:=a) (c:=j-1) (by lia) (by lia);rw[e2,gu] at hj4;apply⟨x,dx,_,rfl,s14.k hx,rfl,?_⟩;apply⟨x,ls,a,c,m-1,j,_,by rw[show((m-1:Nat):Int)=(m:Int)-1 by lia];rfl,hR.kp s14.kp,s14.ok,hno,hjc,ok3,by lia,hj3,by lia,λH5 s5=>?_⟩;k_is;exact q H5 (s14.trans s5)
   ·have hcj:c<j:=by
     by_cases h:c<j
     ·exact h
     ·exfalso
      have e1:=Py (l:=ls.flatten) (a:=lo) (b:=a) (c:=j-1) (by lia) (by lia);have e2:=Py (l:=ls.flatten) (a:=a) (b:=j-1) (c:=c) (by lia) (by lia);have e3:0<(hw ls.flatten (j-1) c).count (hgt ls.flatten lo):=List.count_pos_iff.mpr (hj3▸gA (by lia) (by lia));rw[e1,gu] at hj4;rw[e2,gu] at g;lia
    apply⟨⟨m-(hw ls.flatten a c).count (hgt ls.flatten lo),_,_,_,by rw[show((m-(hw ls.flatten a c).count (hgt ls.flatten lo):Nat):Int)=(m:Int)-((hw ls.flatten a c).count (hgt ls.flatten lo):Nat) by lia];rfl,?_⟩,s3.trans s4,by rw[<-cv2];exact hcj⟩;rw[<-cv2,eac,gu];lia
  ·rintro G H3 ⟨⟨m,v3,v4,v5,rfl,hm⟩,s3,hno⟩
   rw[hal] at hno;exfalso;unfold eh at hno;rw[eg (db _)] at hno;exact absurd hno (by show ¬ ls.flatten.length<j;lia)
inductive rF (C CR CS:df)(ts:List Tb)(vs:List V)(H:Hp)(Q:VK)(E:XK):Prop|mk(x:df)(ls:List (Za5))(_:vs=[.ref x])(_:Bz C CR CS H x ls)(_:Tbs ts H)(_:∀H',SmT ts H H'->Q (.str (Az ls.flatten)) H')
include T ag in
theorem Wm (F:Fun K "row" "Openings.row" Ih f fd)(bH:Mth P w K mg base aa "text" 6 ["self"] (kM ac aa ts)):Ba P w K mg base CX0 7 f fd ["self"] (rF ac aa ad ts):=by
 exists F.ok Rl
 obtain⟨x,ls,rfl,⟨dx,r,e,hx,hR⟩,hT,q⟩:=h;obtain⟨dp,p,b,k,t,o,hp,_⟩:=id hR;refine⟨_,(Ad (Am (G6 bH hr.m (tfl (pv 0))))),?_⟩;apply⟨x,ad,dx,_,_,rfl,hx,ag.cl,ag.cq,rfl,?_⟩;apply⟨r,dp,_,rfl,hp,rfl,?_⟩;k_is;exact⟨r,ls,rfl,hR,hT,q⟩
inductive Vy (C CR CS:df)(ts:List Tb)(vs:List V)(H:Hp)(Q:VK)(E:XK):Prop|mk(x:df)(ls:List (Za5))(_:vs=[.ref x])(_:Bz C CR CS H x ls)(_:Tbs ts H)(_:Vs 0 ls.flatten)(_:ls.flatten.length<=8000)(_:∀p (ds:Za4) H',SmT ts H H'->H p=none->H' p=some (.lst ((Bh ds).map V.int))->Dok ds->Av ds=ls.flatten->Q (.ref p) H')
variable (aT:Cal P w K mg base "elders_of" 2 ["text"] Sx) (aU:Mth P w K mg base ad "row" 7 ["self"] (rF ac aa ad ts))
include T ag aT aU in
theorem Q5 (F:Fun K "elders" "Openings.elders" F6 f fd):Ba P w K mg base CX0 8 f fd ["self"] (Vy ac aa ad ts):=by
 exists F.ok Nx
 obtain⟨x,ls,rfl,hS,hT,hv,hl,q⟩:=h;obtain⟨dx,r,e,hx,hR⟩:=id hS;refine⟨_,(Ad (Am (Bn aT hr.m (tpa (G6 aU hr.m (pv 0)) Aa)))),?_⟩;apply⟨x,dx,_,rfl,hx,rfl,?_⟩;apply⟨x,ls,rfl,hS,hT,λH1 s1=>?_⟩;k_is;exact⟨ls.flatten,rfl,hv,hl,λp ds H2 s2 h0 h1 hD e=>q p ds H2 (s1.then s2) (s1.sm.free h0) h1 hD e⟩
inductive iS (C CR CS:df)(ts:List Tb)(vs:List V)(H:Hp)(Q:VK)(E:XK):Prop|mk(x:df)(ls:List (Za5))(ds:Za4)(k:Nat)(_:vs=[.ref x,.int k])(_:Bz C CR CS H x ls)(_:Tbs ts H)(_:Dok ds)(_:ls.flatten=Av ds)(_:k<ds.length)(_:∀H',SmT ts H H'->Q (.int ((2*k-dAt ds k:Nat):Int)) H')
variable (aE:Mth P w K mg base ad "many_knots" 2 ["self"] (dC ac aa ad))
include T ag aE in
theorem Q0 (F:Fun K "opening" "Openings.opening" Fc f fd)(bI:Cal P w K mg base "check_knot" 3 ["k","many_knots"] jZ)(bJ:Mth P w K mg base aa "opening" 4 ["self","number"] (Nm ac aa ts)):Ba P w K mg base CX0 5 f fd ["self","k"] (iS ac aa ad ts):=by
 exists F.ok M6
 obtain⟨x,ls,ds,k,rfl,hS,hT,hD,hrow,hk,q⟩:=h;obtain⟨dx,r,e,hx,hR⟩:=id hS;obtain⟨dp,p,b,kk,t,o,hp,_⟩:=id hR;refine⟨_,(Ab (Bi (Bn bI hr.m (tpa (pv 1) (tpa (G6 aE hr.m (pv 0)) Aa)))) (Ad (Am (At bJ hr.m (tfl (pv 0)) (tpa (pv 1) Aa))))),?_⟩
 apply⟨x,dx,_,rfl,hx,rfl,?_⟩;apply⟨x,ls,rfl,hS,?_⟩;rw[hrow,Bq hD,kz _ (by decide:0<2)];apply⟨k,_,rfl,by lia,by lia,?_⟩;apply⟨x,ad,dx,_,_,rfl,hx,ag.cl,ag.cq,rfl,?_⟩;apply⟨r,dp,_,rfl,hp,rfl,?_⟩;k_is;obtain⟨_,h1,h2⟩:=E7 hD hk;refine⟨r,ls,k,2*k-dAt ds k,rfl,hR,hT,by rw[hrow];exact h1,by rw[hrow];exact h2,λH1 s1=>?_⟩;exact q H1 s1
theorem Lo {ds:Za4}(h:Dok ds){k:Nat}(hk:k<ds.length):W8 (Av ds) (2*k-dAt ds k) (Av ds).length (hgt (Av ds) (2*k-dAt ds k)) (some (2*k-dAt ds k+2*(Cd ds k).length+1+1)):=by
 obtain⟨A,B,h1,h2,h3,h4,h5,h6⟩:=Os h hk;have hu:=Np (Hk h hk);have hl:=congrArg jg h2;have hlu:=Bq (Hk h hk);rw[c9,c9,hlu] at hl;have hg0:hgt (Av ds) (2*k-dAt ds k)=dAt ds k:=h4;have hin:∀i,2*k-dAt ds k<i->i<2*k-dAt ds k+2*(Cd ds k).length+1+1->hgt (Av ds) i≠dAt ds k:=λi i1 i2 he=>by
  have e5:=h5 (i-A.length) (by lia);rw[show A.length+(i-A.length)=i by lia] at e5;have e6:=hu.1 (i-A.length) (by lia);have he:hg (Av ds) i=dAt ds k:=he;lia
 rw[hg0];have e6:hgt (Av ds) (2*k-dAt ds k+2*(Cd ds k).length+1+1)=dAt ds k:=by
  have:=h6;rw[h1,show 2*k-dAt ds k+1+2*(Cd ds k).length+1=2*k-dAt ds k+2*(Cd ds k).length+1+1 by lia] at this;exact this
 refine⟨by lia,?_,e6,hin⟩;have hB:0<B.length:=by
  cases B with
  |cons b B=>exact Nat.succ_pos _
  |nil=>
   exfalso;rw[iz] at h2;have e7:=(Np h).2;rw[show 2*ds.length=A.length+2*(Cd ds k).length by rw[<-Bq h,hl];rfl,h5 _ (db _),hu.2] at e7;lia
 lia
inductive Z9 (C CR CS:df)(ts:List Tb)(vs:List V)(H:Hp)(Q:VK)(E:XK):Prop|mk(x:df)(ls:List (Za5))(ds:Za4)(k:Nat)(_:vs=[.ref x,.int k])(_:Bz C CR CS H x ls)(_:Tbs ts H)(_:Dok ds)(_:ls.flatten=Av ds)(_:k<ds.length)(_:∀H',SmT ts H H'->Q (.int ((2*k-dAt ds k+2*(Cd ds k).length+1:Nat):Int)) H')
variable (ai:Mth P w K mg base ad "opening" 5 ["self","k"] (iS ac aa ad ts)) (aV:Mth P w K mg base aa "partner" 11 ["self","place"] (Ua ac aa ts))
include T ag ai aV in
theorem Qy (F:Fun K "closing" "Openings.closing" Fi f fd):Ba P w K mg base CX0 12 f fd ["self","k"] (Z9 ac aa ad ts):=by
 exists F.ok Na
 obtain⟨x,ls,ds,k,rfl,hS,hT,hD,hrow,hk,q⟩:=h;obtain⟨dx,r,e,hx,hR⟩:=id hS;obtain⟨dp,p,b,kk,t,o,hp,_⟩:=id hR;refine⟨_,(Ad (Am (At aV hr.m (tfl (pv 0)) (tpa (At ai hr.m (pv 0) (tpa (pv 1) Aa)) Aa)))),?_⟩;apply⟨x,ad,dx,_,_,rfl,hx,ag.cl,ag.cq,rfl,?_⟩;apply⟨r,dp,_,rfl,hp,rfl,?_⟩;apply⟨x,dx,_,rfl,hx,rfl,?_⟩;apply⟨x,ls,ds,k,rfl,hS,hT,hD,hrow,hk,λH1 s1=>?_⟩;k_is;obtain⟨_,h1,_⟩:=E7 hD hk;refine⟨r,ls,2*k-dAt ds k,2*k-dAt ds k+2*(Cd ds k).length+1,rfl,hR.kp s1.kp,s1.ok,.inl ⟨by rw[hrow];exact h1,by rw[hrow];exact Lo hD hk⟩,λH2 s2=>?_⟩;exact q H2 (s1.trans s2)
theorem hX (l:Za5){lo hi:Nat}(h:lo<=hi):lvl l lo hi=((ed (hi-lo)).filter λi=>decide (hgt l (lo+i)=hgt l lo)).length:=by
 unfold lvl
 by_cases hlt:lo<hi
 ·rw[if_pos hlt,show hi-lo=hi-1-lo+1 by lia,jw,List.filter_cons,if_pos (by rw[iw];exact decide_eq_true rfl),d8,qk]
  congr 1;have:=kJ l (hgt l lo) lo (hi-1-lo);rw[show lo+(hi-1-lo)=hi-1 by lia] at this;rw[<-this,List.filter_map,c8];rfl
 ·rw[if_neg hlt,show hi-lo=0 by lia]
  rfl
theorem T5 {A B:Za5}{U:Za4}(hU:Dok U){t:Nat}(ht:t<=U.length):lvl (A++(Av U++B)) A.length (A.length+2*t)=(As U t (-1)).length:=by
 have hl:=Bq hU;rw[hX _ (by lia),fq,<-vB hU ht];congr 1;refine List.filter_congr λi hi=>?_;have hi:=ja.mp hi;have e:hgt (A++(Av U++B)) (A.length+i)=hgt (A++(Av U++B)) A.length+hg (Av U) i:=by
  have e1:=Pb (P:=A) (X:=Av U++B) i;have e2:=Pb (P:=A) (X:=Av U++B) 0;rw[iw,show hg (Av U++B) 0=0 by unfold hg;simp] at e2;rw[Yr (P:=Av U) (X:=B) (by lia)] at e1;show hg _ _=hg _ _+_;lia
 rw[e];exact decide_eq_decide.mpr (by lia)
inductive jD (C CR CS:df)(ts:List Tb)(vs:List V)(H:Hp)(Q:VK)(E:XK):Prop|mk(x:df)(ls:List (Za5))(ds:Za4)(k:Nat)(_:vs=[.ref x,.int k])(_:Bz C CR CS H x ls)(_:Tbs ts H)(_:Dok ds)(_:ls.flatten=Av ds)(_:k<ds.length)(_:∀H',SmT ts H H'->Q (.int ((As ds ds.length k).length:Nat)) H')
theorem sC {ds:Za4}(h:Dok ds){k:Nat}(hk:k<ds.length):(As (Cd ds k) (Cd ds k).length (-1)).length=(As ds ds.length k).length:=by
 obtain⟨a,b,_⟩:=Ax (ds:=ds) hk;have:=Uh h hk (Cd ds k).length (by rw[Dh];exact db _);rw[this,Dh,show k+1+(Ao ds k-(k+1))=Ao ds k by lia,<-Sr h hk]
variable (ar:Mth P w K mg base ad "closing" 12 ["self","k"] (Z9 ac aa ad ts)) (aW:Mth P w K mg base aa "many_level" 10 ["self","low","high"] (jA ac aa ts))
include T ag ai ar aW in
theorem Wh (F:Fun K "many" "Openings.many" G5 f fd):Ba P w K mg base CX0 13 f fd ["self","k"] (jD ac aa ad ts):=by
 exists F.ok O3
 obtain⟨x,ls,ds,k,rfl,hS,hT,hD,hrow,hk,q⟩:=h;obtain⟨dx,r,e,hx,hR⟩:=id hS;obtain⟨dp,p,b,kk,t,o,hp,_⟩:=id hR;refine⟨_,(Ad (Am (At aW hr.m (tfl (pv 0)) (tpa (Ak Ay (At ai hr.m (pv 0) (tpa (pv 1) Aa)) Ag) (tpa (At ar hr.m (pv 0) (tpa (pv 1) Aa)) Aa))))),?_⟩;apply⟨x,ad,dx,_,_,rfl,hx,ag.cl,ag.cq,rfl,?_⟩;apply⟨r,dp,_,rfl,hp,rfl,?_⟩;apply⟨x,dx,_,rfl,hx,rfl,?_⟩;apply⟨x,ls,ds,k,rfl,hS,hT,hD,hrow,hk,λH1 s1=>?_⟩;apply⟨x,dx,_,rfl,s1.k hx,rfl,?_⟩;apply⟨x,ls,ds,k,rfl,hS.kp s1.kp,s1.ok,hD,hrow,hk,λH2 s2=>?_⟩;have s12:=s1.trans s2;k_is;obtain⟨A',B,h1,h2,_⟩:=Os hD hk;have hnx:=(Lo hD hk).2.1;refine⟨r,ls,2*k-dAt ds k+1,2*k-dAt ds k+2*(Cd ds k).length+1,by rw[show((2*k-dAt ds k+1:Nat):Int)=((2*k-dAt ds k:Nat):Int)+1 by lia];rfl,hR.kp s12.kp,s12.ok,by rw[hrow];lia,λH3 s3=>?_⟩;rw[hrow]
 conv at q=>intro H' s;rw[<-sC hD hk,<-T5 (A:=A') (B:=B) (Hk hD hk) (db _),<-h2]
 rw[h1,show 2*k-dAt ds k+1+2*(Cd ds k).length=2*k-dAt ds k+2*(Cd ds k).length+1 by lia] at q;exact q H3 (s12.trans s3)
inductive lD (C CR CS:df)(ts:List Tb)(vs:List V)(H:Hp)(Q:VK)(E:XK):Prop|mk(x:df)(ls:List (Za5))(ds:Za4)(_:vs=[.ref x])(_:Bz C CR CS H x ls)(_:Tbs ts H)(_:Dok ds)(_:ls.flatten=Av ds)(_:∀H',SmT ts H H'->Q (.int ((As ds ds.length (-1)).length:Nat)) H')
theorem lE {U:Za4}(hU:Dok U){t:Nat}(ht:t<=U.length):lvl (Av U) 0 (2*t)=(As U t (-1)).length:=by
 have:=T5 (A:=[]) (B:=[]) hU ht;rw[iz] at this;rw[show([]:Za5).length+2*t=2*t by simp] at this;exact this
include T ag aB aW in
theorem Qq (F:Fun K "many_tops" "Openings.many_tops" Ej f fd):Ba P w K mg base CX0 11 f fd ["self"] (lD ac aa ad ts):=by
 exists F.ok Lj
 obtain⟨x,ls,ds,rfl,hS,hT,hD,hrow,q⟩:=h;obtain⟨dx,r,e,hx,hR⟩:=id hS;obtain⟨dp,p,b,kk,t,o,hp,_⟩:=id hR;refine⟨_,(Ad (Am (At aW hr.m (tfl (pv 0)) (tpa Ag (tpa (G6 aB hr.m (tfl (pv 0))) Aa))))),?_⟩;apply⟨x,ad,dx,_,_,rfl,hx,ag.cl,ag.cq,rfl,?_⟩;apply⟨r,dp,_,rfl,hp,rfl,?_⟩;apply⟨x,ad,dx,_,_,rfl,hx,ag.cl,ag.cq,rfl,?_⟩;apply⟨r,dp,_,rfl,hp,rfl,?_⟩;apply⟨r,ls,rfl,hR,?_⟩;apply⟨r,ls,0,ls.flatten.length,rfl,hR,hT,db _,λH1 s1=>?_⟩;rw[hrow,Bq hD,lE hD (db _)];exact q H1 s1
theorem iH {ds:Za4}(h:Dok ds){k:Nat}(hk:k<ds.length):Ms (Av ds) (cP ds k+1) (hgt (Av ds) (cP ds k+1)) (some (oP ds k)):=by
 obtain⟨n1,n2,n3,n4⟩:=Lo h hk;have e:hgt (Av ds) (cP ds k+1)=hgt (Av ds) (2*k-dAt ds k):=n3;rw[e];exact⟨by unfold oP cP;lia,rfl,λi h1 h2=>n4 i h1 h2⟩
inductive Vk (C CR CS:df)(ts:List Tb)(vs:List V)(H:Hp)(Q:VK)(E:XK):Prop|mk(x:df)(ls:List (Za5))(p j:Nat)(_:vs=[.ref x,.int p])(_:Bz C CR CS H x ls)(_:Tbs ts H)(_:((ls.flatten[p]?=some true/\(ls.flatten.take p).count true=j)\/∃ds,Dok ds/\ls.flatten=Av ds/\j<ds.length/\p=cP ds j))(_:∀H',SmT ts H H'->Q (.int (j:Nat)) H')
include T ag aN ap aV in
theorem Qz (F:Fun K "knot_at" "Openings.knot_at" Fa f fd):Ba P w K mg base CX0 12 f fd ["self","place"] (Vk ac aa ad ts):=by
 exists F.ok M8
 obtain⟨x,ls,p,j,rfl,hS,hT,hp,q⟩:=h;obtain⟨dx,r,e,hx,hR⟩:=id hS;obtain⟨dp,p0,b,kk,t,o,hp',_⟩:=id hR;have hpl:p<ls.flatten.length:=by
  rcases hp with hp|⟨ds,hD,hrow,hj,rfl⟩
  ·exact Bl hp.1
  ·rw[hrow];exact Bl (M0 hD hj).2
 refine⟨_,(Ad (Am (At aN hr.m (tfl (pv 0)) (tpa (Cb (C4 (At ap hr.m (tfl (pv 0)) (tpa (pv 1) Aa))) (pv 1) (At aV hr.m (tfl (pv 0)) (tpa (pv 1) Aa))) Aa)))),?_⟩;apply⟨x,ad,dx,_,_,rfl,hx,ag.cl,ag.cq,rfl,?_⟩;apply⟨r,dp,_,rfl,hp',rfl,?_⟩;apply⟨x,ad,dx,_,_,rfl,hx,ag.cl,ag.cq,rfl,?_⟩;apply⟨r,dp,_,rfl,hp',rfl,?_⟩;apply⟨r,ls,p,rfl,hR,hT,hpl,λH1 s1=>?_⟩;rcases hp with⟨hp,hj⟩|⟨ds,hD,hrow,hj,rfl⟩
 ·rw[show ls.flatten.getD p false=true by unfold eh;rw[hp];rfl]
  apply⟨r,ls,p,rfl,hR.kp s1.kp,s1.ok,by lia,λH2 s2=>?_⟩;rw[hj];exact q H2 (s1.trans s2)
 ·have hf:=(M0 hD hj).2
  obtain⟨ho1,ho2⟩:=G2 hD hj;have hol:=Bl ho1;rw[<-hrow] at hf ho1 ho2 hol;rw[show ls.flatten.getD (cP ds j) false=false by unfold eh;rw[hf];rfl];apply⟨x,ad,dx,_,_,rfl,s1.k hx,ag.cl,ag.cq,rfl,?_⟩;apply⟨r,dp,_,rfl,s1.k hp',rfl,?_⟩;apply⟨r,ls,cP ds j,oP ds j,rfl,hR.kp s1.kp,s1.ok,.inr ⟨hf,by rw[hrow];exact iH hD hj⟩,λH2 s2=>?_⟩;have s12:=s1.trans s2;apply⟨r,ls,oP ds j,rfl,hR.kp s12.kp,s12.ok,by lia,λH3 s3=>?_⟩;rw[ho2];exact q H3 (s12.trans s3)
inductive Z7 (C CR CS:df)(ts:List Tb)(vs:List V)(H:Hp)(Q:VK)(E:XK):Prop|mk(x:df)(ls:List (Za5))(ds:Za4)(k:Nat)(_:vs=[.ref x,.int k])(_:Bz C CR CS H x ls)(_:Tbs ts H)(_:Dok ds)(_:ls.flatten=Av ds)(_:k<ds.length)(_:∀H',SmT ts H H'->Q (.int (dAt ds k:Nat)) H')
include T ag aq ai in
theorem Q8 (F:Fun K "depth" "Openings.depth" Gi f fd):Ba P w K mg base CX0 8 f fd ["self","k"] (Z7 ac aa ad ts):=by
 exists F.ok Oq
 obtain⟨x,ls,ds,k,rfl,hS,hT,hD,hrow,hk,q⟩:=h;obtain⟨dx,r,e,hx,hR⟩:=id hS;obtain⟨dp,p,b,kk,t,o,hp,_⟩:=id hR;refine⟨_,(Ad (Am (At aq hr.m (tfl (pv 0)) (tpa (At ai hr.m (pv 0) (tpa (pv 1) Aa)) Aa)))),?_⟩;apply⟨x,ad,dx,_,_,rfl,hx,ag.cl,ag.cq,rfl,?_⟩;apply⟨r,dp,_,rfl,hp,rfl,?_⟩;apply⟨x,dx,_,rfl,hx,rfl,?_⟩;apply⟨x,ls,ds,k,rfl,hS,hT,hD,hrow,hk,λH1 s1=>?_⟩;k_is;have hlt:=Bl (E7 hD hk).2.1;obtain⟨_,_,_,_,_,hg4,_⟩:=Os hD hk;refine⟨r,ls,2*k-dAt ds k,rfl,hR.kp s1.kp,s1.ok,by rw[hrow];lia,λH2 s2=>?_⟩;rw[hrow,show hgt (Av ds) (2*k-dAt ds k)=(dAt ds k:Int) from hg4];exact q H2 (s1.trans s2)
theorem sR {ds:Za4}(h:Dok ds){k v:Nat}(hk:k<ds.length)(he:eld ds k=(v:Int)):v<ds.length/\dAt ds k=dAt ds v+1/\Ms (Av ds) (2*k-dAt ds k) (dAt ds v:Int) (some (2*v-dAt ds v)):=by
 have hlt:=Fx h hk;obtain⟨u,hu,hul,hd⟩:=Cc h hk (by lia);obtain rfl:v=u:=by lia
 have hv:v<ds.length:=by lia
 obtain⟨i1,i2⟩:=O9 h hv hk he;obtain⟨n1,n2,n3,n4⟩:=Lo h hv;have hul2:=Dh ds v;have d1:=(E7 h hk).1;have d2:=(E7 h hv).1;obtain⟨_,_,_,_,_,g4,_⟩:=Os h hv;have g4:hgt (Av ds) (2*v-dAt ds v)=(dAt ds v:Int):=g4;refine⟨hv,hd,by lia,g4,λi h1 h2=>?_⟩;rw[<-g4];exact n4 i h1 (by lia)
inductive pX (C CR CS:df)(ts:List Tb)(vs:List V)(H:Hp)(Q:VK)(E:XK):Prop|mk(x:df)(ls:List (Za5))(ds:Za4)(k:Nat)(_:vs=[.ref x,.int k,.int 1])(_:Bz C CR CS H x ls)(_:Tbs ts H)(_:Dok ds)(_:ls.flatten=Av ds)(_:k<ds.length)(_:∀H',SmT ts H H'->Q (if eld ds k<0 then .non else .int (eld ds k)) H')
variable (aX:Cal P w K mg base "check_from_nought" 3 ["number"] iZ) (aY:Mth P w K mg base ad "depth" 8 ["self","k"] (Z7 ac aa ad ts)) (au:Mth P w K mg base ad "knot_at" 12 ["self","place"] (Vk ac aa ad ts))
include T ag aQ ai aX aY au in
theorem Wp (F:Fun K "up" "Openings.up" Jh f fd):Ba P w K mg base CX0 13 f fd ["self","k","many"] (pX ac aa ad ts):=by
 exists F.ok Ln
 obtain⟨x,ls,ds,k,rfl,hS,hT,hD,hrow,hk,q⟩:=h;obtain⟨dx,r,e,hx,hR⟩:=id hS;obtain⟨dp,p,b,kk,t,o,hp,_⟩:=id hR;refine⟨_,(Ab (tst 3 Ln.nd (At aY hr.m (pv 0) (tpa (pv 1) Aa))) (Ab (Bi (Bn aX hr.m (tpa (pv 2) Aa))) (Ab (B2 (ttc Et (pv 2) Ag) (Ad (Am (pv 1)))
  Bf) (Ab (B2 (ttc Jr (pv 2) (pv 3)) (Ad (Am C9))
  Bf) (Ad (Am (At au hr.m (pv 0) (tpa (At aQ hr.m (tfl (pv 0)) (tpa (At ai hr.m (pv 0) (tpa (pv 1) Aa)) (tpa (Ak B7 (pv 3) (pv 2)) Aa))) Aa)))))))),?_⟩
 apply⟨x,dx,_,rfl,hx,rfl,?_⟩;apply⟨x,ls,ds,k,rfl,hS,hT,hD,hrow,hk,λH1 s1=>?_⟩;apply⟨1,rfl,by decide,?_⟩;apply B0 (λhc=>absurd (V.int.inj hc) (by decide)) (λ_=>?_);apply B0 (λhc=>?_) (λhc=>?_)
 ·k_is
  have hd0:dAt ds k=0:=by lia
  have he:eld ds k=-1:=by
   have:=Dj hD hk;rw[hd0,Cu hD k (by lia)] at this;exact(de this).symm
  have:=q H1 s1;rw[he,if_pos (by decide)] at this;exact this
 ·have hne:eld ds k≠-1:=λz=>by
   have:=Ho hD hk z;lia
  obtain⟨v,hv,_,_⟩:=Cc hD hk hne;obtain⟨hvl,hdk,hlast⟩:=sR hD hk hv;have hol:=Bl (E7 hD hk).2.1;obtain⟨_,hb1,hb2⟩:=E7 hD hvl;apply⟨x,dx,_,rfl,s1.k hx,rfl,?_⟩;apply⟨x,ad,dx,_,_,rfl,s1.k hx,ag.cl,ag.cq,rfl,?_⟩;apply⟨r,dp,_,rfl,s1.k hp,rfl,?_⟩;apply⟨x,dx,_,rfl,s1.k hx,rfl,?_⟩;apply⟨x,ls,ds,k,rfl,hS.kp s1.kp,s1.ok,hD,hrow,hk,λH2 s2=>?_⟩;have s12:=s1.trans s2;apply⟨r,ls,2*k-dAt ds k,(dAt ds v:Int),by rw[hdk,show((dAt ds v+1:Nat):Int)-1=(dAt ds v:Int) by lia];rfl,hR.kp s12.kp,s12.ok,by rw[hrow];lia,λr3 H3 hr3 s3=>?_⟩;rw[hrow] at hr3;rw[Re hlast hr3];have s13:=s12.trans s3;apply⟨x,ls,2*v-dAt ds v,v,rfl,hS.kp s13.kp,s13.ok,.inl ⟨by rw[hrow];exact hb1,by rw[hrow];exact hb2⟩,λH4 s4=>?_⟩;have:=q H4 (s13.trans s4);rw[hv,if_neg (by lia)] at this;exact this
inductive Z1 (C CR CS:df)(ts:List Tb)(vs:List V)(H:Hp)(Q:VK)(E:XK):Prop|mk(x:df)(ls:List (Za5))(ds:Za4)(k:Nat)(_:vs=[.ref x,.int k])(_:Bz C CR CS H x ls)(_:Tbs ts H)(_:Dok ds)(_:ls.flatten=Av ds)(_:k<ds.length)(_:∀H',SmT ts H H'->Q (if eld ds k<0 then .non else .int (eld ds k)) H')
include T ag in
theorem Q9 (F:Fun K "elder" "Openings.elder" Gm f fd)(bK:Mth P w K mg base ad "up" 13 ["self","k","many"] (pX ac aa ad ts)):Ba P w K mg base CX0 14 f fd ["self","k"] (Z1 ac aa ad ts):=by
 exists F.ok Oe
 obtain⟨x,ls,ds,k,rfl,hS,hT,hD,hrow,hk,q⟩:=h;obtain⟨dx,r,e,hx,hR⟩:=id hS;refine⟨_,(Ad (Am (At bK hr.m (pv 0) (tpa (pv 1) (tpa Ag Aa))))),?_⟩;apply⟨x,dx,_,rfl,hx,rfl,?_⟩;k_is;exact⟨x,ls,ds,k,rfl,hS,hT,hD,hrow,hk,q⟩
inductive Sv (C CR CS:df)(ts:List Tb)(vs:List V)(H:Hp)(Q:VK)(E:XK):Prop|mk(x:df)(ls:List (Za5))(ds:Za4)(k:Nat)(_:vs=[.ref x,.int k])(_:Bz C CR CS H x ls)(_:Tbs ts H)(_:Dok ds)(_:ls.flatten=Av ds)(_:k<ds.length)(_:∀H',SmT ts H H'->Q (.int ((Cd ds k).length:Nat)) H')
include T ag ai ar in
theorem Qx (F:Fun K "beneath" "Openings.beneath" Fe f fd):Ba P w K mg base CX0 13 f fd ["self","k"] (Sv ac aa ad ts):=by
 exists F.ok M3
 obtain⟨x,ls,ds,k,rfl,hS,hT,hD,hrow,hk,q⟩:=h;obtain⟨dx,r,e,hx,hR⟩:=id hS;refine⟨_,(Ad (Am (Ak F3 (Ak B7 (At ar hr.m (pv 0) (tpa (pv 1) Aa)) (At ai hr.m (pv 0) (tpa (pv 1) Aa))) Ag))),?_⟩;apply⟨x,dx,_,rfl,hx,rfl,?_⟩;apply⟨x,ls,ds,k,rfl,hS,hT,hD,hrow,hk,λH1 s1=>?_⟩;apply⟨x,dx,_,rfl,s1.k hx,rfl,?_⟩;apply⟨x,ls,ds,k,rfl,hS.kp s1.kp,s1.ok,hD,hrow,hk,λH2 s2=>?_⟩;k_is;rw[show(((2*k-dAt ds k+2*(Cd ds k).length+1:Nat):Int)-((2*k-dAt ds k:Nat):Int))/2=((Cd ds k).length:Int) by lia];exact q H2 (s1.trans s2)
inductive Rh (f:Za4->Nat->V)(C CR CS:df)(ts:List Tb)(vs:List V)(H:Hp)(Q:VK)(E:XK):Prop|mk(x:df)(ls:List (Za5))(ds:Za4)(k:Nat)(_:vs=[.ref x,.int k])(_:Bz C CR CS H x ls)(_:Tbs ts H)(_:Dok ds)(_:ls.flatten=Av ds)(_:k<ds.length)(_:∀H',SmT ts H H'->Q (f ds k) H')
def Fh (ds:Za4)(k:Nat):V:=Hl (Sb ds k)
def G3 (ds:Za4)(k:Nat):V:=Hl (As ds ds.length k).getLast?
def G8 (ds:Za4)(k:Nat):V:=Hl (Dr ds k)
def Ld (ds:Za4)(k:Nat):V:=Hl (As ds k (eld ds k)).getLast?
include T ag ap ai in
theorem Wa (F:Fun K "first" "Openings.first" Gj f fd):Ba P w K mg base CX0 7 f fd ["self","k"] (Rh Fh ac aa ad ts):=by
 exists F.ok N4
 obtain⟨x,ls,ds,k,rfl,hS,hT,hD,hrow,hk,q⟩:=h;obtain⟨dx,r,e,hx,hR⟩:=id hS;obtain⟨dp,p,b,kk,t,o,hp,_⟩:=id hR;obtain⟨hlt,hfr⟩:=lS hD hk;have hl:=Bl hfr;rw[<-hrow] at hfr hl;refine⟨_,(Ad (Am (Cb (C4 (At ap hr.m (tfl (pv 0)) (tpa (Ak Ay (At ai hr.m (pv 0) (tpa (pv 1) Aa)) Ag) Aa))) (Ak Ay (pv 1) Ag) C9))),?_⟩;apply⟨x,ad,dx,_,_,rfl,hx,ag.cl,ag.cq,rfl,?_⟩;apply⟨r,dp,_,rfl,hp,rfl,?_⟩;apply⟨x,dx,_,rfl,hx,rfl,?_⟩;apply⟨x,ls,ds,k,rfl,hS,hT,hD,hrow,hk,λH1 s1=>?_⟩;apply⟨r,ls,oP ds k+1,by rw[l9];rfl,hR.kp s1.kp,s1.ok,hl,λH2 s2=>?_⟩;rw[show ls.flatten.getD (oP ds k+1) false=(Sb ds k).isSome by unfold eh;rw[hfr];rfl];have q2:=q H2 (s1.trans s2);unfold Fh at q2
 cases ek:Sb ds k with
 |some j=>
  obtain⟨rfl,_,_⟩:=Td hD ek;rw[ek] at q2;rw[show(some (k+1)).isSome=true from rfl];k_is;exact q2
 |none=>
  rw[ek] at q2;rw[show(none:Option Nat).isSome=false from rfl];k_is;exact q2
include T ag ap ar au in
theorem Wf (F:Fun K "last" "Openings.last" G9 f fd):Ba P w K mg base CX0 13 f fd ["self","k"] (Rh G3 ac aa ad ts):=by
 exists F.ok Jm
 obtain⟨x,ls,ds,k,rfl,hS,hT,hD,hrow,hk,q⟩:=h;obtain⟨dx,r,e,hx,hR⟩:=id hS;obtain⟨dp,p,b,kk,t,o,hp,_⟩:=id hR;refine⟨_,(Ab (tst 2 Jm.nd (Ak B7 (At ar hr.m (pv 0) (tpa (pv 1) Aa)) Ag)) (Ad (Am (Cb (C4 (At ap hr.m (tfl (pv 0)) (tpa (pv 2) Aa))) C9 (At au hr.m (pv 0) (tpa (pv 2) Aa)))))),?_⟩
 apply⟨x,dx,_,rfl,hx,rfl,?_⟩;apply⟨x,ls,ds,k,rfl,hS,hT,hD,hrow,hk,λH1 s1=>?_⟩;show _;have q2:∀H',SmT ts H H'->Q (Hl (As ds ds.length k).getLast?) H':=q;obtain⟨pl,hpl,hpe⟩:∃pl:Nat,((2*k-dAt ds k+2*(Cd ds k).length+1:Nat):Int)-1=(pl:Int)/\pl+1=cP ds k:=⟨cP ds k-1,by unfold cP;lia,by unfold cP;lia⟩;k_is;rw[hpl];refine⟨x,ad,dx,_,_,rfl,s1.k hx,ag.cl,ag.cq,rfl,?_⟩;apply⟨r,dp,_,rfl,s1.k hp,rfl,?_⟩;k_is
 cases ek:(As ds ds.length k).getLast? with
 |none=>
  have hc:=nU hD hk ek;obtain rfl:pl=oP ds k:=by lia
  obtain⟨h1,_⟩:=G2 hD hk;rw[<-hrow] at h1;refine⟨r,ls,oP ds k,rfl,hR.kp s1.kp,s1.ok,Bl h1,λH2 s2=>?_⟩;rw[show ls.flatten.getD (oP ds k) false=true by unfold eh;rw[h1];rfl];k_is;have:=q2 H2 (s1.trans s2);rw[ek] at this;exact this
 |some j=>
  obtain⟨hj,_,hc⟩:=oK hD hk ek;obtain rfl:pl=cP ds j:=by lia
  have h1:=(M0 hD hj).2;rw[<-hrow] at h1;refine⟨r,ls,cP ds j,rfl,hR.kp s1.kp,s1.ok,Bl h1,λH2 s2=>?_⟩;rw[show ls.flatten.getD (cP ds j) false=false by unfold eh;rw[h1];rfl];have s12:=s1.trans s2;apply⟨x,dx,_,rfl,s12.k hx,rfl,?_⟩;apply⟨x,ls,cP ds j,j,rfl,hS.kp s12.kp,s12.ok,.inr ⟨ds,hD,hrow,hj,rfl⟩,λH3 s3=>?_⟩;have:=q2 H3 (s12.trans s3);rw[ek] at this;exact this
include T ag aB ap ar au in
theorem Wb (F:Fun K "right" "Openings.right" Gp f fd):Ba P w K mg base CX0 13 f fd ["self","k"] (Rh G8 ac aa ad ts):=by
 exists F.ok Iv
 obtain⟨x,ls,ds,k,rfl,hS,hT,hD,hrow,hk,q⟩:=h;obtain⟨dx,r,e,hx,hR⟩:=id hS;obtain⟨dp,p,b,kk,t,o,hp,_⟩:=id hR;have hrl:=Bq hD;obtain⟨hr1,hr2⟩:=mF hD hk;have q2:∀H',SmT ts H H'->Q (Hl (Dr ds k)) H':=q;refine⟨_,(Ab (tst 2 Iv.nd (Ak Ay (At ar hr.m (pv 0) (tpa (pv 1) Aa)) Ag)) (Ad (Am (Cb (PW.pt (Ls (ttc Gc (pv 2) (G6 aB hr.m (tfl (pv 0)))) (Iu (C4 (At ap hr.m (tfl (pv 0)) (tpa (pv 2) Aa)))))) (At au hr.m (pv 0) (tpa (pv 2) Aa)) C9)))),?_⟩
 apply⟨x,dx,_,rfl,hx,rfl,?_⟩;apply⟨x,ls,ds,k,rfl,hS,hT,hD,hrow,hk,λH1 s1=>?_⟩;apply⟨x,ad,dx,_,_,rfl,s1.k hx,ag.cl,ag.cq,rfl,?_⟩;apply⟨r,dp,_,rfl,s1.k hp,rfl,?_⟩;apply⟨r,ls,rfl,hR.kp s1.kp,?_⟩;k_is;rw[show((2*k-dAt ds k+2*(Cd ds k).length+1:Nat):Int)+1=((cP ds k+1:Nat):Int) by unfold cP;lia];refine B0 (λhlt=>?_) (λhge=>?_)
 ·have hlt:cP ds k+1<ls.flatten.length:=by lia
  apply⟨x,ad,dx,_,_,rfl,s1.k hx,ag.cl,ag.cq,rfl,?_⟩;apply⟨r,dp,_,rfl,s1.k hp,rfl,?_⟩;apply⟨r,ls,cP ds k+1,rfl,hR.kp s1.kp,s1.ok,hlt,λH2 s2=>?_⟩;have s12:=s1.trans s2
  cases ek:Dr ds k with
  |some j=>
   obtain⟨hj,hc⟩:=hr1 j ek;obtain⟨h1,h2⟩:=G2 hD hj;rw[<-hrow] at h1 h2;rw[hc,show ls.flatten.getD (oP ds j) false=true by unfold eh;rw[h1];rfl];apply⟨x,dx,_,rfl,s12.k hx,rfl,?_⟩;apply⟨x,ls,oP ds j,j,rfl,hS.kp s12.kp,s12.ok,.inl ⟨h1,h2⟩,λH3 s3=>?_⟩;have:=q2 H3 (s12.trans s3);rw[ek] at this;exact this
  |none=>
   have h1:=hr2 ek (by rw[hrow] at hlt;lia);rw[<-hrow] at h1;rw[show ls.flatten.getD (cP ds k+1) false=false by unfold eh;rw[h1];rfl];k_is;have:=q2 H2 s12;rw[ek] at this;exact this
 ·k_is
  have ek:Dr ds k=none:=by
   cases ek:Dr ds k with
   |none=>rfl
   |some j=>
    obtain⟨hj,hc⟩:=hr1 j ek;have:=Bl (G2 hD hj).1;rw[hrow] at hge;lia
  have:=q2 H1 s1;rw[ek] at this;exact this
include T ag ap ai au in
theorem Wg (F:Fun K "left" "Openings.left" G7 f fd):Ba P w K mg base CX0 13 f fd ["self","k"] (Rh Ld ac aa ad ts):=by
 exists F.ok Ji
 obtain⟨x,ls,ds,k,rfl,hS,hT,hD,hrow,hk,q⟩:=h;obtain⟨dx,r,e,hx,hR⟩:=id hS;obtain⟨dp,p,b,kk,t,o,hp,_⟩:=id hR;have q2:∀H',SmT ts H H'->Q (Hl (As ds k (eld ds k)).getLast?) H':=q;refine⟨_,(Ab (tst 2 Ji.nd (Ak B7 (At ai hr.m (pv 0) (tpa (pv 1) Aa)) Ag)) (Ad (Am (Cb (PW.pt (Ls (ttc Oi (pv 2) Ag) (Iu (Hw (C4 (At ap hr.m (tfl (pv 0)) (tpa (pv 2) Aa))))))) (At au hr.m (pv 0) (tpa (pv 2) Aa)) C9)))),?_⟩
 apply⟨x,dx,_,rfl,hx,rfl,?_⟩;apply⟨x,ls,ds,k,rfl,hS,hT,hD,hrow,hk,λH1 s1=>?_⟩;apply B0 (λhge=>?_) (λhlt=>?_)
 ·have h0:0<oP ds k:=by unfold oP;lia
  obtain⟨l1,l2⟩:=pY hD hk h0;rw[show((2*k-dAt ds k:Nat):Int)-1=((oP ds k-1:Nat):Int) by unfold oP at h0 ⊢;lia];apply⟨x,ad,dx,_,_,rfl,s1.k hx,ag.cl,ag.cq,rfl,?_⟩;apply⟨r,dp,_,rfl,s1.k hp,rfl,?_⟩;k_is;have hol:=Bl (G2 hD hk).1;refine⟨r,ls,oP ds k-1,rfl,hR.kp s1.kp,s1.ok,by rw[hrow];lia,λH2 s2=>?_⟩;have s12:=s1.trans s2
  cases ek:(As ds k (eld ds k)).getLast? with
  |some j=>
   obtain⟨hj,hc⟩:=l1 j ek;have h1:=(M0 hD hj).2;rw[<-hrow] at h1;rw[show oP ds k-1=cP ds j by lia,show ls.flatten.getD (cP ds j) false=false by unfold eh;rw[h1];rfl];apply⟨x,dx,_,rfl,s12.k hx,rfl,?_⟩;apply⟨x,ls,cP ds j,j,rfl,hS.kp s12.kp,s12.ok,.inr ⟨ds,hD,hrow,hj,rfl⟩,λH3 s3=>?_⟩;have:=q2 H3 (s12.trans s3);rw[ek] at this;exact this
  |none=>
   have h1:=l2 ek;rw[<-hrow] at h1;rw[show ls.flatten.getD (oP ds k-1) false=true by unfold eh;rw[h1];rfl];k_is;have:=q2 H2 s12;rw[ek] at this;exact this
 ·k_is
  have hk0:k=0:=by
   have:=Ia hD hk;lia
  have:=q2 H1 s1;rw[show As ds k (eld ds k)=[] by rw[hk0];rfl] at this;exact this
theorem uZ {ds:Za4}(h:Dok ds){k a:Nat}(hk:k<ds.length)(h1:k<a)(h2:a<Ao ds k)(e:eld ds a=(k:Int)):eld (Cd ds k) (a-(k+1))=-1:=by
 have hu:=Hk h hk;have hat:=T2 (ds:=ds) (k:=k) (i:=a-(k+1)) (by lia);rw[show k+1+(a-(k+1))=a by lia,(Oo h hk h1 h2).mp e,fv] at hat;have:=Dj hu (k:=a-(k+1)) (by rw[Dh];lia);rw[hat,Cu hu _ (by rw[Dh];lia)] at this;exact(de this).symm
theorem Yn {ds:Za4}(h:Dok ds){ko:Option Nat}{place a:Nat}{top:Int}(g:GAt ds ko place a off top):let within:=match ko with|some k=>2*k-dAt ds k+1|none=>0
  within<=2*a-off/\2*a-off<=(Av ds).length/\hgt (Av ds) (2*a-off)=hgt (Av ds) within/\lvl (Av ds) within (2*a-off)=place:=by
 cases ko with
 |none=>
  obtain⟨rfl,rfl,h3,h4,h5⟩:=g;refine⟨e9 _,by rw[Bq h];lia,?_,?_⟩
  ·show hg (Av ds) (2*a)=hg (Av ds) 0
   rw[show hg (Av ds) 0=0 by unfold hg;simp];rcases h5 with rfl|⟨h5,h6⟩
   ·exact(Np h).2
   ·exact(Xi h (by lia)).mpr ⟨a,h5,h6,rfl⟩
  ·show lvl (Av ds) 0 (2*a)=_
   rw[lE h h3,h4]
 |some k=>
  obtain⟨hk,rfl,rfl,h3,h4,h5,h6⟩:=g;obtain⟨e1,e2,_⟩:=Ax (ds:=ds) hk;obtain⟨A,B,a1,a2,a3,a4,a5,a6⟩:=Os h hk;have hu:=Hk h hk;have hul:=Dh ds k;have hlen:=congrArg jg a2;rw[c9,c9,Bq hu] at hlen;have ea:2*a-(dAt ds k+1)=A.length+2*(a-(k+1)):=by lia
  refine⟨?_,?_,?_,?_⟩
  ·show 2*k-dAt ds k+1<=_
   lia
  ·rw[ea,hlen]
   lia
  ·show hg (Av ds) _=hg (Av ds) (2*k-dAt ds k+1)
   rw[ea,a5 _ (by lia),<-a1];have:=a5 0 (e9 _);rw[iw,show hg (Av (Cd ds k)) 0=0 by unfold hg;simp] at this;rw[this];congr 1;rcases h6 with h6|⟨h6,h7⟩
   ·rw[show a-(k+1)=(Cd ds k).length by lia]
    exact(Np hu).2
   ·exact(Xi hu (by lia)).mpr ⟨_,by lia,uZ h hk h3 h6 h7,rfl⟩
  ·show lvl (Av ds) (2*k-dAt ds k+1) _=_
   rw[ea,<-a1,a2,T5 hu (by lia),Uh h hk _ (by lia),show k+1+(a-(k+1))=a by lia,h5]
inductive Y5 (C CR CS:df)(ts:List Tb)(vs:List V)(H:Hp)(Q:VK)(E:XK):Prop|mk(x:df)(ls:List (Za5))(ds:Za4)(k i j:Nat)(_:vs=[.ref x,.int k,.int i])(_:Bz C CR CS H x ls)(_:Tbs ts H)(_:Dok ds)(_:ls.flatten=Av ds)(_:k<ds.length)(_:(As ds ds.length k)[i]?=some j)(_:∀H',SmT ts H H'->Q (.int (j:Nat)) H')
variable (aZ:Mth P w K mg base aa "nth_level" 10 ["self","low","nth"] (tD ac aa ts))
include T ag ai au aZ in
theorem Q7 (F:Fun K "child" "Openings.child" Gn f fd):Ba P w K mg base CX0 13 f fd ["self","k","i"] (Y5 ac aa ad ts):=by
 exists F.ok N0
 obtain⟨x,ls,ds,k,i,j,rfl,hS,hT,hD,hrow,hk,hi,q⟩:=h;obtain⟨dx,r,e,hx,hR⟩:=id hS;obtain⟨dp,p,b,kk,t,o,hp,_⟩:=id hR;obtain⟨k1,hj,hel⟩:=N7 hi;have hin:=O9 hD hk hj hel;have hdj:=R5 hD hj hel;have hG:GAt ds (some k) i j (dAt ds k+1) (k:Int):=⟨hk,rfl,rfl,hin.1,fb hin.2,k1,.inr ⟨hin.2,hel⟩⟩;obtain⟨g1,g2,g3,g4⟩:=Yn hD hG;obtain⟨h1,h2⟩:=G2 hD hj;have ho:2*j-(dAt ds k+1)=oP ds j:=by unfold oP;rw[hdj]
 rw[ho] at g1 g2 g3 g4;rw[<-hrow] at h1 h2 g2 g3 g4;refine⟨_,(Ad (Am (At au hr.m (pv 0) (tpa (At aZ hr.m (tfl (pv 0)) (tpa (Ak Ay (At ai hr.m (pv 0) (tpa (pv 1) Aa)) Ag) (tpa (pv 2) Aa))) Aa)))),?_⟩;apply⟨x,dx,_,rfl,hx,rfl,?_⟩;apply⟨x,ad,dx,_,_,rfl,hx,ag.cl,ag.cq,rfl,?_⟩;apply⟨r,dp,_,rfl,hp,rfl,?_⟩;apply⟨x,dx,_,rfl,hx,rfl,?_⟩;apply⟨x,ls,ds,k,rfl,hS,hT,hD,hrow,hk,λH1 s1=>?_⟩;apply⟨r,ls,2*k-dAt ds k+1,i,oP ds j,by rw[l9];rfl,hR.kp s1.kp,s1.ok,g1,g2,g3,g4,λH2 s2=>?_⟩;have s12:=s1.trans s2;apply⟨x,ls,oP ds j,j,rfl,hS.kp s12.kp,s12.ok,.inl ⟨h1,h2⟩,λH3 s3=>?_⟩;exact q H3 (s12.trans s3)
inductive rG (C CR CS:df)(ts:List Tb)(vs:List V)(H:Hp)(Q:VK)(E:XK):Prop|mk(x:df)(ls:List (Za5))(ds:Za4)(k i:Nat)(_:vs=[.ref x,.int k,.int i])(_:Bz C CR CS H x ls)(_:Tbs ts H)(_:Dok ds)(_:ls.flatten=Av ds)(_:k<ds.length)(_:∀H',SmT ts H H'->Q (Hl (As ds ds.length k)[i]?) H')
variable (aF:Mth P w K mg base ad "many" 13 ["self","k"] (jD ac aa ad ts))
include T ag aX aF in
theorem Wt (F:Fun K "nth" "Wood.nth" Nq f fd)(bM:Mth P w K mg base ad "child" 13 ["self","k","i"] (Y5 ac aa ad ts)):Ba P w K mg base CX0 14 f fd ["self","k","i"] (rG ac aa ad ts):=by
 exists F.ok Rf
 obtain⟨x,ls,ds,k,i,rfl,hS,hT,hD,hrow,hk,q⟩:=h;obtain⟨dx,r,e,hx,hR⟩:=id hS;refine⟨_,(Ab (tst 3 Rf.nd (At aF hr.m (pv 0) (tpa (pv 1) Aa))) (Ab (Bi (Bn aX hr.m (tpa (pv 2) Aa))) (Ad (Am (Cb (ttc Gc (pv 2) (pv 3)) (At bM hr.m (pv 0) (tpa (pv 1) (tpa (pv 2) Aa))) C9))))),?_⟩
 apply⟨x,dx,_,rfl,hx,rfl,?_⟩;apply⟨x,ls,ds,k,rfl,hS,hT,hD,hrow,hk,λH1 s1=>?_⟩;apply⟨i,rfl,by lia,?_⟩;apply B0 (λhi=>?_) (λhi=>?_)
 ·have hi:i<(As ds ds.length k).length:=by lia
  have ei:=c7 hi;generalize (As ds ds.length k)[i]=j at ei;apply⟨x,dx,_,rfl,s1.k hx,rfl,?_⟩;apply⟨x,ls,ds,k,i,j,rfl,hS.kp s1.kp,s1.ok,hD,hrow,hk,ei,λH2 s2=>?_⟩;have:=q H2 (s1.trans s2);rw[ei] at this;exact this
 ·k_is
  have:=q H1 s1;rw[eg (by lia)] at this;exact this
theorem oO (xs:List V)(m:Nat):Ro xs none (some (m:Int))=xs.take m:=by
 unfold Ro;rw[HT.sIx_nat];show(xs.drop 0).take (min m xs.length-0)=_;rw[qw,l4]
 by_cases h:m<=xs.length
 ·rw[gn h]
 ·rw[l5 (by lia),d5 (db _),d5 (by lia)]
theorem Xx (xs:List V)(m:Nat):Ro xs (some (m:Int)) none=xs.drop m:=by
 unfold Ro;rw[HT.sIx_nat]
 by_cases h:m<=xs.length
 ·rw[gn h]
  exact d5 (by rw[fh];exact db _)
 ·rw[l5 (by lia),gg (db _),gg (by lia),wj]
theorem Fk.app {a b:List (Za5)}(ha:Fk a)(hb:Fk b):Fk (a++b):=λk x h=>by
 by_cases hk:k<a.length
 ·rw[dv hk] at h
  exact ha k x h
 ·rw[di (by lia)] at h
  exact hb _ x h
theorem Fk.take {a:List (Za5)}(ha:Fk a)(n:Nat):Fk (a.take n):=λk x h=>by
 have hk:=Bl h;rw[dh] at hk;rw[d7 (by lia)] at h;exact ha k x h
theorem Fk.drop {a:List (Za5)}(ha:Fk a)(n:Nat):Fk (a.drop n):=λk x h=>by
 rw[jb] at h;exact ha _ x h
theorem Pcs.app {bs:List df}{ls ms:List (Za5)}(h1:Pcs C H as ls)(h2:Pcs C H bs ms):Pcs C H (as++bs) (ls++ms):=by
 refine⟨by rw[c9,c9,h1.1,h2.1],λk a x e1 e2=>?_⟩
 by_cases hk:k<as.length
 ·rw[dv hk] at e1
  rw[dv (by rw[<-h1.1];exact hk)] at e2;exact h1.2 k a x e1 e2
 ·rw[di (by lia)] at e1
  rw[di (by rw[<-h1.1];lia),<-h1.1] at e2;exact h2.2 _ a x e1 e2
theorem Pcs.take {ls:List (Za5)}(h:Pcs C H as ls)(n:Nat):Pcs C H (as.take n) (ls.take n):=by
 refine⟨by rw[dh,dh,h.1],λk a x e1 e2=>?_⟩;have hk:=Bl e1;rw[dh] at hk;rw[d7 (by lia)] at e1 e2;exact h.2 k a x e1 e2
theorem Pcs.drop {ls:List (Za5)}(h:Pcs C H as ls)(n:Nat):Pcs C H (as.drop n) (ls.drop n):=by
 refine⟨by rw[fh,fh,h.1],λk a x e1 e2=>?_⟩;rw[jb] at e1 e2;exact h.2 _ a x e1 e2
def Xo (ls:List (Za5))(lo hi n f b:Nat):Prop:=∃f0 b0,f0<=ls.length/\bgn ls f0<=lo/\(f0<ls.length->lo<bgn ls (f0+1))/\b0<=ls.length/\(0<b0->bgn ls (b0-1)<hi)/\hi<=bgn ls b0 /\
 (f=f0/\b=b0/\64<=lo-bgn ls f0+(bgn ls b0-hi)+n\/f=f0-1/\b=min (b0+1) ls.length/\lo-bgn ls f0+(bgn ls b0-hi)+n<64)
def Fp (ls:List (Za5))(lo hi:Nat)(t:Za5)(f b:Nat):Za5:=(ls.flatten.drop (bgn ls f)).take (lo-bgn ls f)++(t++(ls.flatten.drop hi).take (bgn ls b-hi))
def F8 (ls:List (Za5))(lo hi:Nat)(t:Za5)(f b:Nat):List (Za5):=ls.take f++pcs (Fp ls lo hi t f b)++ls.drop b
theorem Xo.ok {ls:List (Za5)}{lo hi n f b:Nat}(h:Xo ls lo hi n f b):f<=ls.length/\b<=ls.length/\bgn ls f<=lo/\hi<=bgn ls b:=by
 obtain⟨f0,b0,h1,h2,h3,h4,h5,h6,h7⟩:=h;rcases h7 with⟨rfl,rfl,_⟩|⟨rfl,rfl,_⟩
 ·exact⟨h1,h4,h2,h6⟩
 ·have m1:=E2 (ls:=ls) (show f0-1<=f0 by lia)
  have m2:=E2 (ls:=ls) (show b0<=min (b0+1) ls.length by lia);exact⟨by lia,by lia,by lia,by lia⟩
theorem eL {ls:List (Za5)}{lo hi f b:Nat}{t:Za5}(h1:bgn ls f<=lo)(h2:hi<=bgn ls b):(F8 ls lo hi t f b).flatten=ls.flatten.take lo++(t++ls.flatten.drop hi):=by
 unfold F8 Fp;rw[i6,i6,Uk,Pd,Mt];have e1:ls.flatten.take (bgn ls f)++(ls.flatten.drop (bgn ls f)).take (lo-bgn ls f)=ls.flatten.take lo:=by
  rw[<-oh,kv h1]
 have e2:(ls.flatten.drop hi).take (bgn ls b-hi)++ls.flatten.drop (bgn ls b)=ls.flatten.drop hi:=by
  have:=ir (bgn ls b-hi) (ls.flatten.drop hi);rw[vg,kv h2] at this;exact this
 rw[<-e1];simp only[d9];rw[e2]
theorem lJ {ls:List (Za5)}{lo hi f b:Nat}{t:Za5}:(Fp ls lo hi t f b).length<=lo+t.length+(ls.flatten.length-hi):=by
 unfold Fp;simp only[c9,dh,fh];lia
theorem tM {ls:List (Za5)}{lo hi f b:Nat}{t:Za5}(hl:lo<=hi)(hh:hi<=ls.flatten.length)(hn:ls.flatten.length+t.length<=20000)(h2:ls.length<=100):(F8 ls lo hi t f b).length<=400:=by
 unfold F8;have:=lJ (ls:=ls) (lo:=lo) (hi:=hi) (f:=f) (b:=b) (t:=t);simp only[c9,E9,dh,fh];unfold pcM;lia
theorem mL {ls:List (Za5)}(h:Fk ls){lo hi f b:Nat}{t:Za5}:Fk (F8 ls lo hi t f b):=((h.take f).app (W5 _)).app (h.drop b)
inductive iQ (C CR:df)(ts:List Tb)(vs:List V)(H:Hp)(Q:VK)(E:XK):Prop|mk(x:df)(ls:List (Za5))(lo hi:Nat)(t:Za5)(_:vs=[.ref x,.int lo,.int hi,.str (Az t)])(_:Bp C CR H x ls)(_:Tbs ts H)(_:lo<=hi)(_:hi<=ls.flatten.length)(_:ls.flatten.length+t.length<=20000)(_:ls.length<=100)(_:∀(r p f b:Nat) H0 H',Xo ls lo hi t.length f b->SmT ts H H0->Aj H0 H'->H0 r=none->H p=none->H0 p≠none->Bp C CR H' r (F8 ls lo hi t f b)->Fr4 CR H0 H' r p->Q (.ref r) H')
variable (ba:Cal P w K mg base "pieces_of" 5 ["text"] (Tl ac)) (aG:Mkr P w K mg base "PiecedRow" aa 2 ["self","pieces"] (Z8 ac aa))
include T ae aj aM am ba aG in
theorem Qs (F:Fun K "replaced" "PiecedRow.replaced" Ek f fd):Ba P w K mg base CX0 6 f fd ["self","low","high","text"] (iQ ac aa ts):=by
 exists F.ok Bu
 obtain⟨x,ls,lo,hi,t,rfl,hR,hT,hlh,hhi,hsz,hfw,q⟩:=h;obtain⟨dx,p,b,k,tt,o,hx,hW,hTb⟩:=id hR;obtain⟨as,hp,hP⟩:=id hW.pcs;have hal:(as.map V.ref).length=ls.length:=by rw[c8,hP.1]
 refine⟨_,(Ab (tst 4 Bu.nd (At aj hr.m (pv 0) (tpa (pv 1) Aa))) (Ab (tst 5 Bu.nd (At aM hr.m (pv 0) (tpa (pv 2) Aa))) (Ab (tst 6 Bu.nd (Ak B7 (Ak Ay (Ak B7 (pv 1) (tix Ap (tfl (pv 0)) (pv 4))) (tix Ap (tfl (pv 0)) (pv 5))) (pv 2))) (Ab (Tu (ttc Gc (Ak Ay (pv 6) (Ar Er (by rfl) T.cp B9 (tpa (pv 3) Aa))) (Ii rfl T.cC)) (Ab (tst 4 Bu.nd (Ar (Vp rfl) (by rfl) T.cT pV (tpa (Ak B7 (pv 4) Ag) (tpa Ag Aa)))) (Ad (tst 5 Bu.nd (Ar (Vx rfl) (by rfl) T.cK lQ (tpa (Ak Ay (pv 5) Ag) (tpa (Ar Aq (by rfl) T.cp B9 (tpa (tfl (pv 0)) Aa)) Aa))))))
  Bf) (Ab (tst 7 Bu.nd (Ak Gq (Ak Gq (At am hr.m (pv 0) (tpa (tix Ap (tfl (pv 0)) (pv 4)) (tpa (pv 1) Aa))) (pv 3)) (At am hr.m (pv 0) (tpa (pv 2) (tpa (tix Ap (tfl (pv 0)) (pv 5)) Aa))))) (Ad (Am (dU aG hr.m (tpa (Ak Ev (Ak Ev (El Hq (tfl (pv 0)) Kt (Dl (pv 4))) (Bn ba hr.m (tpa (pv 7) Aa))) (El Hq (tfl (pv 0)) (Dl (pv 5)) Kt)) Aa))))))))),?_⟩
 apply⟨x,dx,_,rfl,hx,rfl,?_⟩;apply⟨x,ls,lo,rfl,hR,hT,λk1 H1 hk1 ha1 hb1 s1=>?_⟩;apply⟨x,dx,_,rfl,s1.k hx,rfl,?_⟩;apply⟨x,ls,hi,rfl,hR.kp s1.kp,s1.ok,λk2 H2 hk2 ha2 hb2 s2=>?_⟩;have s12:=s1.trans s2;have hend:hi<=bgn ls k2:=by
  by_cases h:k2<ls.length
  ·exact hb2 h
  ·rw[show k2=ls.length by lia,Hj];exact hhi
 apply⟨x,aa,dx,_,_,rfl,s12.k hx,ae.cl,ae.cr,rfl,?_⟩;apply Bb (SqL.of (s12.k hW.bg)) (v:=.int (bgn ls k1:Nat)) (Bd (j:=k1) (Hu hk1)) ?_;apply⟨x,aa,dx,_,_,rfl,s12.k hx,ae.cl,ae.cr,rfl,?_⟩;apply Bb (SqL.of (s12.k hW.bg)) (v:=.int (bgn ls k2:Nat)) (Bd (j:=k2) (Hu hk2)) ?_;apply Zs (λG H3=>(∃(f b:Nat) (v:Option V),G=[some (.ref x),some (.int (lo:Nat)),some (.int (hi:Nat)),some (.str (Az t)),some (.int (f:Nat)),some (.int (b:Nat)),v,none]/\Xo ls lo hi t.length f b)/\H3=H2) ?_ ?_
 ·apply⟨_,rfl,fb (Ah (by rw[Bc];lia)),?_⟩;rw[Bc];apply B0 (λh=>?_) (λh=>?_)
  ·apply⟨_,_,rfl,?_⟩;apply⟨x,aa,dx,_,_,rfl,s12.k hx,ae.cl,ae.cw,rfl,?_⟩;apply⟨p,_,rfl,.inl (SqL.of (s12.k hp)),?_⟩;rw[hal];apply⟨_,_,rfl,?_⟩;have e1:(if((k1:Int)-1)<0 then(0:Int) else(k1:Int)-1)=((k1-1:Nat):Int):=by split<;>lia
   have e2:(if(ls.length:Int)<(k2:Int)+1 then(ls.length:Int) else(k2:Int)+1)=((min (k2+1) ls.length:Nat):Int):=by split<;>lia
   rw[e1,e2];k_is;exact⟨⟨_,_,_,rfl,k1,k2,hk1,ha1,hb1,hk2,ha2,hend,.inr ⟨rfl,rfl,by lia⟩⟩,rfl⟩
  ·k_is
   exact⟨⟨_,_,_,rfl,k1,k2,hk1,ha1,hb1,hk2,ha2,hend,.inl ⟨rfl,rfl,by lia⟩⟩,rfl⟩
 ·rintro G H3 ⟨⟨f,b2,v,rfl,hN⟩,rfl⟩
  obtain⟨n1,n2,n3,n4⟩:=hN.ok;apply⟨x,dx,_,rfl,s12.k hx,rfl,?_⟩;apply⟨x,aa,dx,_,_,rfl,s12.k hx,ae.cl,ae.cr,rfl,?_⟩;apply Bb (SqL.of (s12.k hW.bg)) (v:=.int (bgn ls f:Nat)) (Bd (j:=f) (Hu n1)) ?_;apply⟨x,ls,bgn ls f,lo,rfl,hR.kp s12.kp,s12.ok,n3,by lia,λH4 s4=>?_⟩;have s14:=s12.trans s4;have hmid:=lJ (ls:=ls) (lo:=lo) (hi:=hi) (f:=f) (b:=b2) (t:=t);apply⟨_,_,rfl,rfl,?_,?_⟩
  ·simp only[Bc,dh,fh]
   exact fb (Ah (by lia))
  apply⟨x,dx,_,rfl,s14.k hx,rfl,?_⟩;apply⟨x,aa,dx,_,_,rfl,s14.k hx,ae.cl,ae.cr,rfl,?_⟩;apply Bb (SqL.of (s14.k hW.bg)) (v:=.int (bgn ls b2:Nat)) (Bd (j:=b2) (Hu n2)) ?_;apply⟨x,ls,hi,bgn ls b2,rfl,hR.kp s14.kp,s14.ok,n4,fA _ _,λH5 s5=>?_⟩;have s15:=s14.trans s5;k_is;rw[Ep];refine⟨_,_,rfl,rfl,?_,?_⟩
  ·simp only[Bc,c9,dh,fh]
   exact fb (Ah (by lia))
  rw[Ep,d9];apply⟨x,aa,dx,_,_,rfl,s15.k hx,ae.cl,ae.cw,rfl,?_⟩;apply⟨p,_,rfl,SqL.of (s15.k hp),λD1 hD1=>?_⟩;rw[oO,<-jx] at *;obtain⟨u1,e1⟩:=Be (o:=.lst ((as.take f).map V.ref)) hD1;have s16:=s15.then u1;generalize upd H5 D1 _=H6 at *;apply⟨Fp ls lo hi t f b2,rfl,by lia,λp7 bs H7 s7 hp70 hp7 hP7=>?_⟩;have s17:=s16.then s7;have e17:=s7 _ _ e1;k_is;have hml:bs.length<=200:=by
   rw[hP7.1,E9];unfold pcM;lia
  refine⟨D1,p7,_,_,rfl,rfl,e17,hp7,fb (Ah (by rw[c8,c8,dh,hP.1];lia)),λD2 hD2=>?_⟩;rw[<-dj] at *;obtain⟨u2,e2⟩:=Be (o:=.lst ((as.take f++bs).map V.ref)) hD2;have hP72:=hP7.kp (Aj.kp u2);have s18:=s17.then u2;generalize upd H7 D2 _=H8 at *;apply⟨x,aa,dx,_,_,rfl,s18.k hx,ae.cl,ae.cw,rfl,?_⟩;apply⟨p,_,rfl,SqL.of (s18.k hp),λD3 hD3=>?_⟩;rw[Xx,<-rl] at *;obtain⟨u3,e3⟩:=Be (o:=.lst ((as.drop b2).map V.ref)) hD3;have e23:=u3 _ _ e2;have hP73:=hP72.kp (Aj.kp u3);have s19:=s18.then u3;generalize upd H8 D3 _=H9 at *;apply⟨D2,D3,_,_,rfl,rfl,e23,e3,fb (Ah (by rw[c8,c8,c9,dh,fh,hP.1];lia)),λD4 hD4=>?_⟩;rw[<-dj] at *;obtain⟨u4,e4⟩:=Be (o:=.lst ((as.take f++bs++as.drop b2).map V.ref)) hD4;have hP74:=hP73.kp (Aj.kp u4);have s20:=s19.then u4;have hD40:=s19.sm.free hD4;generalize upd H9 D4 _=H10 at *;have hPn:Pcs ac H10 (as.take f++bs++as.drop b2) (F8 ls lo hi t f b2):=((((hP.kp s20.kp).take f).app hP74).app ((hP.kp s20.kp).drop b2));k_is;intro r dr hr0 hdr hrd;have sN:Aj H10 (upd (upd H10 dr (.own r)) r (.ins aa dr [])):=Oh hr0 hdr;refine⟨r,dr,D4,_,_,rfl,Ac,sN _ _ e4,hPn.kp (Aj.kp sN),mL hW.sz,tM hlh hhi hsz hfw,λH11 s11 hR11 hF11=>⟨rfl,?_⟩⟩;refine q r D4 f b2 H10 H11 hN s20 (Jz hr0 hdr s11) hr0 hD40 (by rw[e4];intro z;cases z) hR11 ?_;obtain⟨dr',b',k',t',o',n',g0,g1,g2,g3,g4⟩:=hF11;exact⟨dr',b',k',t',o',n',g0,sN.free g1,sN.free g2,sN.free g3,sN.free g4⟩
theorem Bp.but {CR x r:df}{ls:List (Za5)}{fs:List (Str×V)}(h:Bp C CR H r ls)(s:SameBut x H H')(hx:H x=some (.ins CS dx fs))(hf:fs.length<4):Bp C CR H' r ls:=by
 obtain⟨d,p,b,k,t,o,h1,⟨⟨as,hp,hP⟩,hb,hz,hn⟩,hT⟩:=h;refine⟨d,p,b,k,t,o,s _ _ (λe=>?_) h1,⟨⟨as,s _ _ (λe=>?_) hp,hP.but s hx λa ha e=>?_⟩,s _ _ (λe=>?_) hb,hz,hn⟩,hT.keep λb xs=>⟨λe=>s _ _ (Jy e hx (by intro z;cases z)) e,λe=>s _ _ (Jy e hx (by intro z;cases z)) e⟩⟩
 ·rw[e,hx] at h1
  cases h1;exact absurd hf (by show ¬ 6<4;decide)
 ·rw[e,hx] at hp
  cases hp
 ·obtain⟨k,hk⟩:=kd ha
  have hk1:=(d6.mp hk).1;obtain⟨d,t,m,g,o,h1,_⟩:=hP.2 k a _ hk (c7 (by rw[<-hP.1];exact hk1));rw[e,hx] at h1;cases h1;exact absurd hf (by show ¬ 4<4;decide)
 ·rw[e,hx] at hb
  cases hb
def hide (e:df)(H:Hp):Hp:=λb=>if b=e then none else H b
theorem A0 {e b:df}(h:b≠e):hide e H b=H b:=if_neg h
theorem Cp {e:df}:Kp (hide e H) H:=λb u n h=>by
 unfold hide at h;split at h
 ·cases h
 ·exact h
theorem Ij {e:df}{o:HO}:hide e (upd H e o)=hide e H:=by
 funext b
 unfold hide;split
 ·rfl
 ·rename_i hb
  exact Ai hb
theorem Ix {e:df}(k:Kp H H')(h:H e=none):Kp H (hide e H'):=λb u n hb=>by
 rw[A0 (Af hb h)];exact k b u n hb
theorem Co {e b:df}{u:HO}(h:hide e H b=some u):b≠e/\H b=some u:=by
 unfold hide at h;split at h
 ·cases h
 ·rename_i hb
  exact⟨hb,h⟩
theorem Bk {e:df}(k:Kp H H'):Kp (hide e H) (hide e H'):=λb u n hb=>by
 obtain⟨h1,h2⟩:=Co hb;rw[A0 h1];exact k b u n h2
theorem B8 {e x:df}(s:SameBut x H H'):SameBut x (hide e H) (hide e H'):=λb u hb h=>by
 obtain⟨h1,h2⟩:=Co h;rw[A0 h1];exact s b u hb h2
theorem Bp.hide {CR x e p:df}{H0:Hp}{ls:List (Za5)}{zs:List V}(h:Bp C CR H' x ls)(hF:Fr4 CR H0 H' x p)(he0:H0 e≠none)(hep:p≠e)(he:H' e=some (.lst zs)):Bp C CR (TK.hide e H') x ls:=by
 obtain⟨dx,p',b',k',t',o',h1,⟨⟨as,hp,hP⟩,hb,hz,hn⟩,hT⟩:=h;obtain⟨dr,b,k,t,o,n,g0,g1,g2,g3,g4⟩:=hF;rw[g0] at h1;have e1:=de h1;unfold fC at e1;simp only[HO.ins.injEq,sf,pi,V.ref.injEq,true_and,and_true] at e1;obtain⟨rfl,rfl,rfl,rfl,rfl,rfl,rfl⟩:=e1;have nb:∀{c:df},H0 c=none->c≠e:=λ{c} hc z=>he0 (z▸hc);have kk:∀{c:df} {u:HO},(∀ys,u≠.lst ys)->H' c=some u->TK.hide e H' c=some u:=λ{c u} nu hc=>by
  rw[A0 (λz=>by rw[z,he] at hc;exact nu _ (de hc).symm)];exact hc
 refine⟨dr,p,b,_,_,_,kk (by intro ys z;cases z) g0,⟨⟨as,by rw[A0 hep];exact hp,hP.1,λj a y e1 e2=>?_⟩,by rw[A0 (nb g1)];exact hb,hz,hn⟩,?_,?_,?_⟩
 ·obtain⟨d,t,m,g,o,y1,y2,y3⟩:=hP.2 j a y e1 e2
  exact⟨d,t,m,g,o,kk (by intro ys z;cases z) y1,kk (by intro ys z;cases z) y2,y3⟩
 ·obtain⟨a,e1,e2⟩:=hT.kn
  obtain rfl:=V.ref.inj e1;exact⟨k,rfl,by rw[A0 (nb g2)];exact e2⟩
 ·obtain⟨a,rs,e1,e2,e3,e4⟩:=hT.tb
  obtain rfl:=V.ref.inj e1;exact⟨t,rs,rfl,by rw[A0 (nb g3)];exact e2,e3,λj r er x' ex=>let ⟨m,g,r1,r2⟩:=e4 j r er x' ex;⟨m,g,kk (by intro ys z;cases z) r1,r2⟩⟩
 ·obtain⟨a,os,e1,e2,e3⟩:=hT.ol
  obtain rfl:=V.ref.inj e1;exact⟨o,os,rfl,by rw[A0 (nb g4)];exact e2,e3⟩
def U1 (C:df)(H:Hp)(p:df)(ls:List (Za5)):Prop:=(∃as:List df,H p=some (.lst (as.map V.ref))/\Pcs C H as ls)/\Fk ls/\ls.length<=400
theorem U1.kp {p:df}{ls:List (Za5)}(h:U1 C H p ls)(k:Kp H H'):U1 C H' p ls:=⟨let ⟨as,h1,h2⟩:=h.1;⟨as,k.k h1,h2.kp k⟩,h.2⟩
theorem U1.but {p x:df}{ls:List (Za5)}{fs:List (Str×V)}(h:U1 C H p ls)(s:SameBut x H H')(hx:H x=some (.ins CS dx fs))(hf:fs.length<4):U1 C H' p ls:=by
 obtain⟨⟨as,hp,hP⟩,h2⟩:=h;refine⟨⟨as,s _ _ (Jy hp hx (by intro z;cases z)) hp,hP.but s hx λa ha e=>?_⟩,h2⟩;obtain⟨k,hk⟩:=kd ha;have hk1:=(d6.mp hk).1;obtain⟨d,t,m,g,o,h1,_⟩:=hP.2 k a _ hk (c7 (by rw[<-hP.1];exact hk1));rw[e,hx] at h1;cases h1;exact absurd hf (by show ¬ 4<4;decide)
def Aal (C:df)(H:Hp)(ps:List df)(prs:List (List (Za5))):Prop:=ps.length=prs.length/\∀(i:Nat) p ls,ps[i]?=some p->prs[i]?=some ls->U1 C H p ls
structure B6 (C CR CS:df) (H:Hp) (x e:df) (ls:List (Za5)) (prs:List (List (Za5))):Prop where
 hx:∃dx r,H x=some (.ins CS dx (Ll (.ref r) (.ref e)))/\Bp C CR (hide e H) r ls
 he:∃ps:List df,H e=some (.lst (ps.map V.ref))/\Aal C (hide e H) ps prs
theorem B6.sh {CR x e:df}{ls:List (Za5)}{prs:List (List (Za5))}(h:B6 C CR CS H x e ls prs):Bz C CR CS H x ls:=let ⟨dx,r,h1,h2⟩:=h.hx;⟨dx,r,_,h1,h2.kp Cp⟩
theorem B6.kp {CR x e:df}{ls:List (Za5)}{prs:List (List (Za5))}(h:B6 C CR CS H x e ls prs)(k:Kp H H'):B6 C CR CS H' x e ls prs:=by
 obtain⟨⟨dx,r,h1,h2⟩,⟨ps,h3,h4⟩⟩:=h;exact⟨⟨dx,r,k.k h1,h2.kp (Bk k)⟩,⟨ps,k.k h3,h4.1,λi p ls e1 e2=>(h4.2 i p ls e1 e2).kp (Bk k)⟩⟩
structure SmE (ts:List Tb) (x e:df) (H H':Hp):Prop where
 keep:∀b u,b≠x->b≠e->(∀ps,u≠HO.tbl ps)->H b=some u->H' b=some u
 fr:∀b,H' b=none->H b=none
 ok:Tbs ts H'
theorem SmE.of {x e:df}(s:SmT ts H H'):SmE ts x e H H':=⟨λb u _ _ n h=>s.k h n,λb h=>s.sm.free h,s.ok⟩
theorem SmE.trans {x e:df}(a:SmE ts x e H H1)(b:SmE ts x e H1 H2):SmE ts x e H H2:=⟨λc u n1 n2 n h=>b.keep c u n1 n2 n (a.keep c u n1 n2 n h),λc h=>a.fr c (b.fr c h),b.ok⟩
theorem SmE.k {x e b:df}{u:HO}(s:SmE ts x e H H')(h:H b=some u)(n1:b≠x)(n2:b≠e)(n:∀ps,u≠.tbl ps:=by intro ps e;cases e):H' b=some u:=s.keep b u n1 n2 n h
inductive jO (C CR CS:df)(vs:List V)(H:Hp)(Q:VK)(E:XK):Prop|mk(x dx a:df)(ds:Za4)(_:vs=[.ref x,.ref a])(_:H x=some (.ins CS dx []))(_:H a=some (.lst ((Bh ds).map V.int)))(_:Dok ds)(_:ds.length<4000)(_:∀e H',SameBut x H H'->B6 C CR CS H' x e (pcs (Av ds)) []->H e=none->(∀c zs,H c=some (.lst zs)->B6 C CR CS (hide c H') x e (pcs (Av ds)) [])->Q .non H')
variable (bc:Cal P w K mg base "row_of" 3 ["elders"] jB)
include T ag ba aG bc in
theorem Wq (F:Fun K "__init__" "Shaped.__init__" Jd f fd)(Wi:vU P w K mg base "Openings" "__init__" 1 ["self","pairs"] (Zz ad)):Ba P w K mg base CX0 6 f fd ["self","elders"] (jO ac aa ad):=by
 exists F.ok Tk
 obtain⟨x,dx,a,ds,rfl,hx,ha,hD,hn,q⟩:=h;refine⟨_,(Ab (Bi (wQ Wi hr.m rfl (tpa (pv 0) (tpa (dU aG hr.m (tpa (Bn ba hr.m (tpa (Bn bc hr.m (tpa (pv 1) Aa)) Aa)) Aa)) Aa)))) (Ad (tsf (pv 0) (Bo Aa)))),?_⟩
 have hrl:=Bq hD;apply⟨a,ds,rfl,ha,hD,hn,λH1 s1=>?_⟩;apply⟨Av ds,rfl,by lia,λp as H2 s2 hp0 hp hP=>?_⟩;have s12:=s1.trans s2;have hx2:=s12 _ _ hx;k_is;intro r dr hr0 hdr hrd;have sN:Aj H2 (upd (upd H2 dr (.own r)) r (.ins aa dr [])):=Oh hr0 hdr;refine⟨r,dr,p,as,_,rfl,Ac,sN _ _ hp,hP.kp (Aj.kp sN),W5 _,?_,λH3 s3 hR3 hF3=>⟨rfl,?_⟩⟩
 ·rw[E9]
  unfold pcM;lia
 have s13:=s12.trans (Jz hr0 hdr s3);have hx3:=s13 _ _ hx;have nx:∀{c:df} {zs:List V},H c=some (.lst zs)->c≠x:=λhc=>Jy hc hx (by intro z;cases z);have hA3:∀c zs,H c=some (.lst zs)->Bp ac aa (hide c H3) r (pcs (Av ds)):=λc zs hc=>hR3.hide hF3 (by rw[sN _ _ (s12 _ _ hc)];intro z;cases z) (Af (s1 _ _ hc) hp0).symm (s13 _ _ hc);apply⟨x,dx,.ref r,rfl,hx3,?_⟩;have b4:SameBut x H3 (upd H3 x (.ins ad dx [("pairs",.ref r)])):=Ce;have hR4:=hR3.but b4 hx3 (by decide);have hA4:∀c zs,H c=some (.lst zs)->Bp ac aa (hide c (upd H3 x (.ins ad dx [("pairs",.ref r)]))) r (pcs (Av ds)):=λc zs hc=>(hA3 c zs hc).but (B8 b4) ((A0 (nx hc).symm).trans hx3) (by decide);have hx4:=@Ac H3 x (.ins ad dx [("pairs",.ref r)]);have but4:=s13.but.trans b4;generalize upd H3 x _=H4 at *;apply⟨e9 _,λe he=>?_⟩;obtain⟨s5,e5⟩:=Be (o:=.lst []) he;have hR5:=hR4.kp (Ix (Aj.kp s5) he);have hA5:∀c zs,H c=some (.lst zs)->Bp ac aa (hide e (hide c (upd H4 e (.lst [])))) r (pcs (Av ds)):=λc zs hc=>(hA4 c zs hc).kp (Ix (Bk (Aj.kp s5)) (by unfold hide;split;exact rfl;exact he));have ne5:∀{c:df} {zs:List V},H c=some (.lst zs)->c≠e:=λhc=>Af (but4 _ _ (nx hc) hc) he;have hx5:=s5 _ _ hx4;have but5:=but4.trans s5.but;have hxe:x≠e:=Af hx4 he;generalize upd H4 e _=H5 at *;apply Eb hx5 ag.cl ag.cL (show 1<1000 by decide) ?_;rw[show De ("earlier":Str) (V.ref e) [("pairs",.ref r)]=Ll (.ref r) (.ref e) from rfl];have b6:SameBut x H5 (upd H5 x (.ins ad dx (Ll (.ref r) (.ref e)))):=Ce;refine q e _ (but5.trans b6) ⟨⟨dx,r,Ac,hR5.but (B8 b6) (by rw[A0 hxe];exact hx5) (by show 1<4;decide)⟩,⟨[],b6 _ _ hxe.symm e5,rfl,λi p ls e1=>by cases e1⟩⟩ (L5 but4 hxe.symm he) λc zs hc=>⟨⟨dx,r,(A0 (nx hc).symm).trans Ac,(hA5 c zs hc).but (B8 (B8 b6)) ((A0 hxe).trans ((A0 (nx hc).symm).trans hx5)) (by show 1<4;decide)⟩,⟨[],(A0 (ne5 hc).symm).trans (b6 _ _ hxe.symm e5),rfl,λi p ls e1=>by cases e1⟩⟩
def ShA (C CR CS:df)(H H':Hp)(x e:df)(ls ls':List (Za5))(prs:List (List (Za5))):Prop:=∀c zs,c≠e->H c=some (.lst zs)->B6 C CR CS (hide c H) x e ls prs->B6 C CR CS (hide c H') x e ls' (prs++[ls])
theorem ShA.kp {CR x e:df}{ls ls':List (Za5)}{prs:List (List (Za5))}(k:Kp H H1)(h:ShA C CR CS H1 H' x e ls ls' prs):ShA C CR CS H H' x e ls ls' prs:=λc zs h1 h2 h3=>h c zs h1 (k.k h2) (h3.kp (Bk k))
theorem Dx {a b:df}:hide a (hide b H)=hide b (hide a H):=by
 funext c
 unfold hide
 by_cases h1:c=a
 ·by_cases h2:c=b
  ·rw[if_pos h1,if_pos h2]
  ·rw[if_pos h1,if_neg h2,if_pos h1]
 ·by_cases h2:c=b
  ·rw[if_neg h1,if_pos h2,if_pos h2]
  ·rw[if_neg h1,if_neg h2,if_neg h2,if_neg h1]
inductive kH (C CR CS:df)(ts:List Tb)(vs:List V)(H:Hp)(Q:VK)(E:XK):Prop|mk(x e:df)(ls:List (Za5))(prs:List (List (Za5)))(lo hi:Nat)(t:Za5)(_:vs=[.ref x,.int lo,.int hi,.str (Az t)])(_:B6 C CR CS H x e ls prs)(_:Tbs ts H)(_:lo<=hi)(_:hi<=ls.flatten.length)(_:ls.flatten.length+t.length<=20000)(_:ls.length<=100)(_:prs.length<=1000)(_:∀f b H',Xo ls lo hi t.length f b->B6 C CR CS H' x e (F8 ls lo hi t f b) (prs++[ls])->SmE ts x e H H'->ShA C CR CS H H' x e ls (F8 ls lo hi t f b) prs->Q .non H')
include T ag in
theorem Qi (F:Fun K "replace_signs" "Shaped.replace_signs" Di f fd)(Y:Qa K aa)(bN:Mth P w K mg base aa "replaced" 6 ["self","low","high","text"] (iQ ac aa ts)):Ba P w K mg base CX0 7 f fd ["self","low","high","text"] (kH ac aa ad ts):=by
 exists F.ok J1
 obtain⟨x,e,ls,prs,lo,hi,t,rfl,hS,hT,h1,h2,h3,h4,h5,q⟩:=h;obtain⟨⟨dx,r,hx,hR⟩,⟨ps,he,hH⟩⟩:=id hS;obtain⟨dp,p,b,kk,tt,o,hp,hW,_⟩:=id hR;obtain⟨hpe,hp'⟩:=Co hp;refine⟨_,(Ab (Bi (Cl dy et en Bm (tfl (pv 0)) (tpa (tfl (tfl (pv 0))) Aa))) (Ad (tsf (pv 0) (At bN hr.m (tfl (pv 0)) (tpa (pv 1) (tpa (pv 2) (tpa (pv 3) Aa))))))),?_⟩
 apply⟨x,ad,dx,_,.ref e,rfl,hx,ag.cl,ag.cL,rfl,?_⟩;apply⟨.inl ⟨rfl,_,SqL.of he⟩,?_⟩;apply⟨x,ad,dx,_,.ref r,rfl,hx,ag.cl,ag.cq,rfl,?_⟩;apply⟨r,aa,dp,_,.ref p,rfl,hp',Y.cl,Y.cw,rfl,?_⟩;apply Bs he (Ah (by rw[c8,hH.1];lia)) ?_;have hxe:x≠e:=Jy hx he (by intro z;cases z);have hT1:Tbs ts (upd H e (.lst (ps.map V.ref++[V.ref p]))):=hT.keepN he;have hid:hide e (upd H e (.lst (ps.map V.ref++[V.ref p])))=hide e H:=Ij;have hx1:upd H e (.lst (ps.map V.ref++[V.ref p])) x=some (.ins ad dx (Ll (.ref r) (.ref e))):=by rw[Ai hxe];exact hx
 have he1:upd H e (.lst (ps.map V.ref++[V.ref p])) e=some (.lst ((ps++[p]).map V.ref)):=by rw[Ac,dj];rfl
 have kp1:∀b u,b≠e->H b=some u->upd H e (.lst (ps.map V.ref++[V.ref p])) b=some u:=λb u hb hu=>by rw[Ai hb];exact hu
 have fr1:∀b,upd H e (.lst (ps.map V.ref++[V.ref p])) b=none->H b=none:=λb hb=>by
  rw[Ai (λz=>by rw[z,Ac] at hb;cases hb)] at hb;exact hb
 generalize upd H e _=H1 at *;have hR1:Bp ac aa (hide e H1) r ls:=by rw[hid];exact hR
 have hp1:H1 r=some (.ins aa dp _):=(Co (by rw[hid];exact hp)).2;apply⟨x,ad,dx,_,.ref r,rfl,hx1,ag.cl,ag.cq,rfl,?_⟩;apply⟨r,dp,_,rfl,hp1,rfl,?_⟩;apply⟨r,ls,lo,hi,t,rfl,hR1.kp Cp,hT1,h1,h2,h3,h4,λr' p' f b H0 H' hN s0 s0' hr0 hp0 hp0' hR' hF'=>?_⟩;have s2:=s0.then s0';have hx2:=s2.k hx1;have he2:=s2.k he1;apply Eb hx2 ag.cl ag.cq (show 2<1000 by decide) ?_;rw[show De ("pairs":Str) (V.ref r') (Ll (.ref r) (.ref e))=Ll (.ref r') (.ref e) from rfl];have b3:SameBut x H' (upd H' x (.ins ad dx (Ll (.ref r') (.ref e)))):=Ce;have hhx:hide e H' x=some (.ins ad dx (Ll (.ref r) (.ref e))):=by rw[A0 hxe];exact hx2
 have kk':Kp (hide e H) (hide e H'):=by rw[<-hid];exact Bk s2.kp
 have hhist:Aal ac (hide e (upd H' x (.ins ad dx (Ll (.ref r') (.ref e))))) (ps++[p]) (prs++[ls]):=by
  refine⟨by rw[c9,c9,hH.1];rfl,λi a ms e1 e2=>?_⟩
  by_cases hi:i<ps.length
  ·rw[dv hi] at e1
   rw[dv (by rw[<-hH.1];exact hi)] at e2;exact((hH.2 i a ms e1 e2).kp kk').but (B8 b3) hhx (by show 2<4;decide)
  ·rw[di (by lia)] at e1
   rw[di (by rw[<-hH.1];lia),<-hH.1] at e2;have hi0:i-ps.length=0:=by
    have:=Bl e1;simp at this;lia
   rw[hi0] at e1 e2;obtain rfl:p=a:=de e1;obtain rfl:ls=ms:=de e2;have hl:U1 ac (hide e H) p ls:=⟨hW.pcs,hW.sz,hW.fw⟩;exact(hl.kp kk').but (B8 b3) hhx (by show 2<4;decide)
 have hRh:=hR'.hide hF' (by rw[s0.k he1];intro z;cases z) (Af he1 hp0).symm he2;refine q f b _ hN ⟨⟨dx,r',Ac,hRh.but (B8 b3) hhx (by show 2<4;decide)⟩,⟨ps++[p],b3 _ _ hxe.symm he2,hhist⟩⟩ ⟨λc u n1 n2 n hc=>b3 _ _ n1 (s2.k (kp1 c u n2 hc) n),λc hc=>?_,s2.ok.keepN hx2⟩ λc zs hce hc hSc=>?_
 ·rw[Ai (λz=>by rw[z,Ac] at hc;cases hc)] at hc
  exact fr1 c (s2.sm.free hc)
 ·have hc1:=kp1 c _ hce hc
  have hc2:=s2.k hc1;have hcx:c≠x:=Jy hc hx (by intro z;cases z);have hr'e:r'≠e:=(Af (s0.k he1) hr0).symm;obtain⟨dr5,b5,k5,t5,o5,n5,g0,g1,g2,g3,g4⟩:=id hF';have hRc:=hRh.hide (e:=c) (zs:=zs) ⟨dr5,b5,k5,t5,o5,n5,by rw[A0 hr'e];exact g0,g1,g2,g3,g4⟩ (by rw[s0.k hc1];intro z;cases z) (Af hc1 hp0).symm (by rw[A0 hce];exact hc2);rw[Dx] at hRc;have hhc:hide e (hide c H') x=some (.ins ad dx (Ll (.ref r) (.ref e))):=by rw[A0 hxe,A0 hcx.symm];exact hx2
  obtain⟨⟨dx6,r6,hx6,hR6⟩,⟨ps6,he6,hH6⟩⟩:=hSc;rw[A0 hcx.symm,hx] at hx6;obtain rfl:r=r6:=by
   have e1:=de hx6;unfold Ll at e1;simp only[HO.ins.injEq,sf,pi,V.ref.injEq,true_and,and_true] at e1;exact e1.2
  rw[A0 hce.symm,he] at he6;obtain rfl:ps=ps6:=List.map_inj_right (λa b h=>V.ref.inj h) |>.mp (HO.lst.inj (de he6));obtain⟨dp6,p6,b6,kk6,tt6,o6,hp6,hW6,_⟩:=id hR6;have hp66:=(Co (Co hp6 |>.2)).2;obtain rfl:p=p6:=by
   rw[hp'] at hp66;have e1:=de hp66;unfold fC at e1;simp only[HO.ins.injEq,sf,pi,V.ref.injEq,true_and,and_true] at e1;exact e1.2.1
  have kc:Kp (hide e (hide c H)) (hide e (hide c H')):=by
   rw[Dx,Dx (a:=e) (b:=c)];exact Bk kk'
  refine⟨⟨dx,r',by rw[A0 hcx.symm];exact Ac,hRc.but (B8 (B8 b3)) hhc (by show 2<4;decide)⟩,⟨ps++[p],by rw[A0 hce.symm];exact b3 _ _ hxe.symm he2,by rw[c9,c9,hH.1];rfl,λi a ms e1 e2=>?_⟩⟩
  by_cases hi:i<ps.length
  ·rw[dv hi] at e1
   rw[dv (by rw[<-hH.1];exact hi)] at e2;exact((hH6.2 i a ms e1 e2).kp kc).but (B8 (B8 b3)) hhc (by show 2<4;decide)
  ·rw[di (by lia)] at e1
   rw[di (by rw[<-hH.1];lia),<-hH.1] at e2;have hi0:i-ps.length=0:=by
    have:=Bl e1;simp at this;lia
   rw[hi0] at e1 e2;obtain rfl:p=a:=de e1;obtain rfl:ls=ms:=de e2;have hl:U1 ac (hide e (hide c H)) p ls:=⟨hW6.pcs,hW6.sz,hW6.fw⟩;exact(hl.kp kc).but (B8 (B8 b3)) hhc (by show 2<4;decide)
theorem eR {ds:Za4}{k:Nat}(hk:k<ds.length):(Df ds k).length=(Cd ds k).length+1:=by
 have:=(Ax (ds:=ds) hk).1;rw[Dt,Dh];lia
inductive pZ (C CR CS:df)(ts:List Tb)(vs:List V)(H:Hp)(Q:VK)(E:XK):Prop|mk(x e:df)(ls:List (Za5))(prs:List (List (Za5)))(ds:Za4)(k:Nat)(_:vs=[.ref x,.int k])(_:B6 C CR CS H x e ls prs)(_:Tbs ts H)(_:Dok ds)(_:ls.flatten=Av ds)(_:k<ds.length)(_:ds.length<=4000)(_:ls.length<=100)(_:prs.length<=1000)(_:∀f b p H',Xo ls (2*k-dAt ds k) (2*k-dAt ds k+2*(Df ds k).length) 0 f b->(F8 ls (2*k-dAt ds k) (2*k-dAt ds k+2*(Df ds k).length) [] f b).flatten=Av (X6 ds k)->B6 C CR CS (hide p H') x e (F8 ls (2*k-dAt ds k) (2*k-dAt ds k+2*(Df ds k).length) [] f b) (prs++[ls])->SmE ts x e H H'->ShA C CR CS H H' x e ls (F8 ls (2*k-dAt ds k) (2*k-dAt ds k+2*(Df ds k).length) [] f b) prs->H p=none->H' p=some (.lst ((Bh (Df ds k)).map V.int))->p≠e->Q (.ref p) H')
variable (be:Mth P w K mg base ad "replace_signs" 7 ["self","low","high","text"] (kH ac aa ad ts))
include T ag am aT ai ar be in
theorem Ws (F:Fun K "cut" "Shaped.cut" Kx f fd):Ba P w K mg base CX0 13 f fd ["self","k"] (pZ ac aa ad ts):=by
 exists F.ok Gx
 obtain⟨x,e,ls,prs,ds,k,rfl,hS,hT,hD,hrow,hk,hn,hl,hpr,q⟩:=h;obtain⟨⟨dx,r,hx,hR⟩,⟨ps,he,hH⟩⟩:=id hS;obtain⟨dp,p,b,kk,tt,o,hp,hW,_⟩:=id hR;obtain⟨hpe,hp'⟩:=Co hp;have hsu:=eR (ds:=ds) hk;have hdl:=(E7 hD hk).1;obtain⟨hDc,P0,S0,p1,p2,p3,p4⟩:=Xr hD hk;have hrl:=Bq hD;have hsl:=Bq (Ir hD hk);have hlen:=congrArg jg p3;rw[c9,c9,hsl,hrl] at hlen;have hlo:P0.length=2*k-dAt ds k:=by lia
 refine⟨_,(Ab (tst 2 Gx.nd (At ai hr.m (pv 0) (tpa (pv 1) Aa))) (Ab (tst 3 Gx.nd (Ak Ay (At ar hr.m (pv 0) (tpa (pv 1) Aa)) Ag)) (Ab (tst 4 Gx.nd (At am hr.m (tfl (pv 0)) (tpa (pv 2) (tpa (pv 3) Aa)))) (Ab (Bi (At be hr.m (pv 0) (tpa (pv 2) (tpa (pv 3) (tpa Dp Aa))))) (Ad (Am (Bn aT hr.m (tpa (pv 4) Aa)))))))),?_⟩
 apply⟨x,dx,_,rfl,hx,rfl,?_⟩;apply⟨x,ls,ds,k,rfl,hS.sh,hT,hD,hrow,hk,λH1 s1=>?_⟩;apply⟨x,dx,_,rfl,s1.k hx,rfl,?_⟩;apply⟨x,ls,ds,k,rfl,hS.sh.kp s1.kp,s1.ok,hD,hrow,hk,λH2 s2=>?_⟩;have s12:=s1.trans s2;k_is;rw[show((2*k-dAt ds k+2*(Cd ds k).length+1:Nat):Int)+1=((2*k-dAt ds k+2*(Df ds k).length:Nat):Int) by lia];refine⟨x,ad,dx,_,.ref r,rfl,s12.k hx,ag.cl,ag.cq,rfl,?_⟩;apply⟨r,dp,_,rfl,s12.k hp',rfl,?_⟩;apply⟨r,ls,2*k-dAt ds k,2*k-dAt ds k+2*(Df ds k).length,rfl,(hR.kp Cp).kp s12.kp,s12.ok,by lia,by rw[hrow];lia,λH3 s3=>?_⟩;have s13:=s12.trans s3;have etk:(ls.flatten.drop (2*k-dAt ds k)).take (2*k-dAt ds k+2*(Df ds k).length-(2*k-dAt ds k))=Av (Df ds k):=by
  rw[hrow,p3,<-hlo,vf,fq,<-hsl,ph]
 rw[etk];apply⟨x,dx,_,rfl,s13.k hx,rfl,?_⟩;apply⟨x,e,ls,prs,2*k-dAt ds k,2*k-dAt ds k+2*(Df ds k).length,[],rfl,hS.kp s13.kp,s13.ok,by lia,by rw[hrow];lia,by rw[hrow,hrl];show 2*ds.length+0<=_;lia,hl,hpr,λf b H4 hN hS4 s4 a4=>?_⟩;have s14:SmE ts x e H H4:=(SmE.of s13).trans s4;apply⟨Av (Df ds k),rfl,Xn (Ir hD hk),by lia,λp5 ds5 H5 s5 hp50 hp5 hD5 e5=>?_⟩;obtain rfl:=Tj hD5 (Ir hD hk) e5;obtain⟨ps4,he4,_⟩:=hS4.he;obtain⟨m1,m2,m3,m4⟩:=hN.ok;refine q f b p5 H5 hN ?_ (hS4.kp (Ix (Aj.kp s5) hp50)) (s14.trans (SmE.of (SmT.of s14.ok s5))) (λc zs h1 h2 h3=>(a4.kp s13.kp c zs h1 h2 h3).kp (Bk (Aj.kp s5))) (s14.fr _ hp50) hp5 (Af he4 hp50).symm;rw[eL m3 m4,p4,hrow,p3,<-hlo,ph,AF,<-d9,List.drop_left' (by rw[c9,hsl])]
inductive dD (C CR CS:df)(ts:List Tb)(vs:List V)(H:Hp)(Q:VK)(E:XK):Prop|mk(x e l:df)(ls:List (Za5))(prs:List (List (Za5)))(ds es:Za4)(ko:Option Nat)(place a off:Nat)(top:Int)(_:vs=[.ref x,Hl ko,.int place,.ref l])(_:B6 C CR CS H x e ls prs)(_:Tbs ts H)(_:Dok ds)(_:ls.flatten=Av ds)(_:H l=some (.lst ((Bh es).map V.int)))(_:Dok es)(_:GAt ds ko place a off top)(_:es.length<4000)(_:ds.length+es.length<=4000)(_:ls.length<=100)(_:prs.length<=1000)(_:∀f b H',Xo ls (2*a-off) (2*a-off) (2*es.length) f b->(F8 ls (2*a-off) (2*a-off) (Av es) f b).flatten=Av (Km ds es a off)->B6 C CR CS H' x e (F8 ls (2*a-off) (2*a-off) (Av es) f b) (prs++[ls])->SmE ts x e H H'->ShA C CR CS H H' x e ls (F8 ls (2*a-off) (2*a-off) (Av es) f b) prs->Q .non H')
include T az ag aE ai aZ aF bc be in
theorem Wn (F:Fun K "graft" "Shaped.graft" Ht f fd)(bO:Mth P w K mg base ad "many_tops" 11 ["self"] (lD ac aa ad ts)):Ba P w K mg base CX0 14 f fd ["self","k","place","elders"] (dD ac aa ad ts):=by
 exists F.ok Dv
 obtain⟨x,e,l,ls,prs,ds,es,ko,place,a,off,top,rfl,hS,hT,hD,hrow,hla,hDe,hG,hes,hde,hl,hpr,q⟩:=h;obtain⟨⟨dx,r,hx,hR⟩,⟨ps,he,hH⟩⟩:=id hS;obtain⟨dp,p,b,kk,tt,o,hp,hW,_⟩:=id hR;obtain⟨hpe,hp'⟩:=Co hp;obtain⟨g1,g2,g3,g4⟩:=Yn hD hG;obtain⟨k1,k2,k3,k4⟩:=hG.ok hD;obtain⟨hDg,P0,S0,p1,p2,p3⟩:=Vr hD hDe k1 k2 k3;have hrl:=Bq hD;have hel:=Bq hDe;have hlo:P0.length=2*a-off:=by lia
 have fin:∀f b,Xo ls (2*a-off) (2*a-off) (Av es).length f b->(F8 ls (2*a-off) (2*a-off) (Av es) f b).flatten=Av (Km ds es a off):=λf b hN=>by
  obtain⟨m1,m2,m3,m4⟩:=hN.ok;rw[eL m3 m4,p3,hrow,p2,<-hlo,ph,vf]
 refine⟨_,(Ab (tst 4 Dv.nd (Cb (Sn (Sz (pv 1))) (G6 bO hr.m (pv 0)) (At aF hr.m (pv 0) (tpa (pv 1) Aa)))) (Ab (B2 (Hw (C4 (Bn az hr.m (tpa (pv 2) (tpa Ag (tpa (pv 4) Aa)))))) (Ad C8)
  Bf) (Ab (tst 5 Dv.nd (Bn bc hr.m (tpa (pv 3) Aa))) (Ab (B2 (ttc Jr (Ak Ay (G6 aE hr.m (pv 0)) (Ar Aq (by rfl) T.cp B9 (tpa (pv 3) Aa))) (Ii rfl T.cx)) (Ad C8)
  Bf) (Ab (tst 6 Dv.nd (Cb (Sn (Sz (pv 1))) Ag (Ak Ay (At ai hr.m (pv 0) (tpa (pv 1) Aa)) Ag))) (Ab (tst 7 Dv.nd (At aZ hr.m (tfl (pv 0)) (tpa (pv 6) (tpa (pv 2) Aa)))) (Ad (Bi (At be hr.m (pv 0) (tpa (pv 7) (tpa (pv 7) (tpa (pv 5) Aa)))))))))))),?_⟩
 cases ko with
 |none=>
  have hpl:place<=(As ds ds.length (-1)).length:=by
   obtain⟨_,_,h3,h4,_⟩:=hG;rw[<-h4];exact Tz h3
  dsimp only[Hl];apply B0 (λ_=>?_) (λhc=>absurd rfl hc);apply⟨x,dx,_,rfl,hx,rfl,?_⟩;apply⟨x,ls,ds,rfl,hS.sh,hT,hD,hrow,λH1 s1=>?_⟩;apply⟨place,0,_,rfl,by lia,by lia,?_⟩;apply⟨l,es,rfl,s1.k hla,hDe,hes,λH2 s2=>?_⟩;have s12:=s1.then s2;apply⟨x,dx,_,rfl,s12.k hx,rfl,?_⟩;apply⟨x,ls,rfl,hS.sh.kp s12.kp,?_⟩;rw[hrow,hrl,kz _ (by decide:0<2)];apply⟨l,_,rfl,.inl (SqL.of (s12.k hla)),?_⟩;rw[c8,Au];apply B0 (λhc=>absurd hc (by lia)) (λ_=>?_);apply B0 (λ_=>?_) (λhc=>absurd rfl hc);apply⟨x,ad,dx,_,.ref r,rfl,s12.k hx,ag.cl,ag.cq,rfl,?_⟩;apply⟨r,dp,_,rfl,s12.k hp',rfl,?_⟩;apply⟨r,ls,0,place,2*a-off,rfl,(hR.kp Cp).kp s12.kp,s12.ok,g1,by rw[hrow];exact g2,by rw[hrow];exact g3,by rw[hrow];exact g4,λH4 s4=>?_⟩;have s14:=s12.trans s4;apply⟨x,dx,_,rfl,s14.k hx,rfl,?_⟩;apply⟨x,e,ls,prs,2*a-off,2*a-off,Av es,rfl,hS.kp s14.kp,s14.ok,db _,by rw[hrow];exact g2,by rw[hrow,hrl,hel];lia,hl,hpr,λf b H5 hN hS5 s5 hA5=>?_⟩;exact q f b H5 (by rw[<-hel];exact hN) (fin f b hN) hS5 ((SmE.of s14).trans s5) (hA5.kp s14.kp)
 |some k=>
  have hk:k<ds.length:=hG.1;have hpl:place<=(As ds ds.length k).length:=by
   obtain⟨_,_,_,h3,h4,h5,_⟩:=hG;rw[<-h5,Sr hD hk];exact Tz h4
  dsimp only[Hl];apply B0 (λhc=>by cases hc) (λ_=>?_);apply⟨x,dx,_,rfl,hx,rfl,?_⟩;apply⟨x,ls,ds,k,rfl,hS.sh,hT,hD,hrow,hk,λH1 s1=>?_⟩;apply⟨place,0,_,rfl,by lia,by lia,?_⟩;apply⟨l,es,rfl,s1.k hla,hDe,hes,λH2 s2=>?_⟩;have s12:=s1.then s2;apply⟨x,dx,_,rfl,s12.k hx,rfl,?_⟩;apply⟨x,ls,rfl,hS.sh.kp s12.kp,?_⟩;rw[hrow,hrl,kz _ (by decide:0<2)];apply⟨l,_,rfl,.inl (SqL.of (s12.k hla)),?_⟩;rw[c8,Au];apply B0 (λhc=>absurd hc (by lia)) (λ_=>?_);apply B0 (λhc=>by cases hc) (λ_=>?_);apply⟨x,dx,_,rfl,s12.k hx,rfl,?_⟩;apply⟨x,ls,ds,k,rfl,hS.sh.kp s12.kp,s12.ok,hD,hrow,hk,λH3 s3=>?_⟩;have s13:=s12.trans s3;apply⟨x,ad,dx,_,.ref r,rfl,s13.k hx,ag.cl,ag.cq,rfl,?_⟩;apply⟨r,dp,_,rfl,s13.k hp',rfl,?_⟩;apply⟨r,ls,2*k-dAt ds k+1,place,2*a-off,by rw[show((2*k-dAt ds k+1:Nat):Int)=((2*k-dAt ds k:Nat):Int)+1 by lia];rfl,(hR.kp Cp).kp s13.kp,s13.ok,g1,by rw[hrow];exact g2,by rw[hrow];exact g3,by rw[hrow];exact g4,λH4 s4=>?_⟩;have s14:=s13.trans s4;apply⟨x,dx,_,rfl,s14.k hx,rfl,?_⟩;apply⟨x,e,ls,prs,2*a-off,2*a-off,Av es,rfl,hS.kp s14.kp,s14.ok,db _,by rw[hrow];exact g2,by rw[hrow,hrl,hel];lia,hl,hpr,λf b H5 hN hS5 s5 hA5=>?_⟩;exact q f b H5 (by rw[<-hel];exact hN) (fin f b hN) hS5 ((SmE.of s14).trans s5) (hA5.kp s14.kp)
theorem Xv:∀{as bs:List df},as.map V.ref=bs.map V.ref->as=bs
 |[],[],_=>rfl
 |[],_::_,h=>by cases h
 |_::_,[],h=>by cases h
 |a::as,b::bs,h=>by
  obtain⟨h1,h2⟩:=j8 h
  injection h1 with h1
  rw[h1,Xv h2]
theorem Cz {e b c:df}{u:HO}(h:hide e (hide b H) c=some u):c≠e/\c≠b/\H c=some u:=by
 obtain⟨h1,h2⟩:=Co h;obtain⟨h3,h4⟩:=Co h2;exact⟨h1,h3,h4⟩
theorem B6.both {CR x e a b:df}{ls:List (Za5)}{prs:List (List (Za5))}{zb:List V}(hab:a≠b)(hb:H b=some (.lst zb))(h1:B6 C CR CS (hide a H) x e ls prs)(h2:B6 C CR CS (hide b H) x e ls prs):B6 C CR CS (hide b (hide a H)) x e ls prs:=by
 obtain⟨⟨dx,r,hx,hR⟩,⟨ps,he,hH⟩⟩:=h1;obtain⟨⟨dx2,r2,hx2,hR2⟩,⟨ps2,he2,hH2⟩⟩:=h2;obtain⟨nxa,ex⟩:=Co hx;obtain⟨nxb,ex2⟩:=Co hx2;rw[ex] at ex2;cases ex2;obtain⟨nea,ee⟩:=Co he;obtain⟨neb,ee2⟩:=Co he2;rw[ee] at ee2
 injection ee2 with ee2
 injection ee2 with ee2
 obtain rfl:=Xv ee2;obtain⟨dr,p,bb,k,t,o,hr,hW,hTb⟩:=id hR;obtain⟨dr2,p2,bb2,k2,t2,o2,hr2,hW2,hTb2⟩:=hR2;obtain⟨nre,nra,er⟩:=Cz hr;obtain⟨_,nrb,er2⟩:=Cz hr2;rw[er] at er2;cases er2;obtain⟨as2,hp2,_⟩:=hW2.pcs;obtain⟨ak,rfl,hk2⟩:=hTb2.kn;obtain⟨at2,rs2,rfl,ht2,_⟩:=hTb2.tb;obtain⟨ao,os2,rfl,ho2,_⟩:=hTb2.ol;have hbe:b≠e:=λz=>neb z.symm;have hb1:hide e (hide a H) b=some (.lst zb):=by rw[A0 hbe,A0 hab.symm];exact hb
 have nb:∀{c:df},c≠b->(λd=>if d=b then some (HO.lst []) else none:Hp) c=none:=λh=>if_neg h;have hF:Fr4 CR (λd=>if d=b then some (HO.lst []) else none) (hide e (hide a H)) r p:=⟨dr,bb,ak,at2,ao,_,hr,nb (Cz hW2.bg).2.1,nb (Cz hk2).2.1,nb (Cz ht2).2.1,nb (Cz ho2).2.1⟩;have hRb:=hR.hide hF (show(if b=b then some (HO.lst []) else none)≠none by rw[if_pos rfl];intro z;cases z) (Cz hp2).2.1 hb1;rw[Dx] at hRb;have hk:∀{c:df} {u:HO},c≠b->hide e (hide a H) c=some u->hide e (hide b (hide a H)) c=some u:=λ{c u} n h=>by
  obtain⟨n1,h1⟩:=Co h;rw[A0 n1,A0 n];exact h1
 have hl:∀{c:df} {u:HO},(∀ys,u≠.lst ys)->hide e (hide a H) c=some u->hide e (hide b (hide a H)) c=some u:=λ{c u} n h=>by
  refine hk (λz=>?_) h;rw[z,hb1] at h;exact n _ (de h).symm
 refine⟨⟨dx,r,by rw[A0 nxb,A0 nxa];exact ex,hRb⟩,⟨ps,by rw[A0 neb,A0 nea];exact ee,hH.1,λi q ms e1 e2=>?_⟩⟩;obtain⟨⟨as,q1,q2⟩,q3,q4⟩:=hH.2 i q ms e1 e2;obtain⟨⟨as3,q5,_⟩,_,_⟩:=hH2.2 i q ms e1 e2;refine⟨⟨as,hk (Cz q5).2.1 q1,q2.1,λj c y c1 c2=>?_⟩,q3,q4⟩;obtain⟨dc,tc,m,g,oc,w1,w2,w3⟩:=q2.2 j c y c1 c2;exact⟨dc,tc,m,g,oc,hl (by intro ys z;cases z) w1,hl (by intro ys z;cases z) w2,w3⟩
inductive iX (C CR CS CN:df)(vs:List V)(H:Hp)(Q:VK)(E:XK):Prop|mk(x e:df)(ls:List (Za5))(pr0:List (List (Za5)))(_:vs=[.ref x])(_:B6 C CR CS H x e ls pr0)(_:(pr0=[]->E (.ref CN) none H))(_:∀ms prs H',pr0=prs++[ms]->B6 C CR CS H' x e ms prs->(∀ts,Tbs ts H->SmE ts x e H H')->(∀c zs,c≠e->H c=some (.lst zs)->B6 C CR CS (hide c H) x e ls pr0->B6 C CR CS (hide c H') x e ms prs)->Q .non H')
include T ag aG in
theorem Q1 (F:Fun K "take_back" "Shaped.take_back" Fb f fd):Ba P w K mg base (CXE P w) 4 f fd ["self"] (iX ac aa ad ah):=by
 exists F.okE M9
 obtain⟨x,e,ls,pr0,rfl,hS,q0,q⟩:=h;obtain⟨⟨dx,r,hx,hR⟩,⟨ps,he,hH⟩⟩:=id hS;refine⟨_,(Ab (B2 (ttc Et (Ar Aq (by rfl) T.cp B9 (tpa (tfl (pv 0)) Aa)) Ag) (Ad (qN T.c6 rfl (tpa Dp Aa)))
  Bf) (Ad (tsf (pv 0) (dU aG hr.m (tpa (Pk dy jz jy Pp (tfl (pv 0))) Aa))))),?_⟩
 apply⟨x,ad,dx,_,.ref e,rfl,hx,ag.cl,ag.cL,rfl,?_⟩;apply⟨e,_,rfl,.inl (SqL.of he),?_⟩;rcases nj pr0 with rfl|⟨prs,ms,rfl⟩
 ·obtain rfl:ps=[]:=gp hH.1
  apply B0 (λ_=>?_) (λh=>absurd rfl h);k_is;exact⟨by decide,q0 rfl⟩
 rw[nq] at *;have q:=λH1=>q ms prs H1 rfl;have hpl:=hH.1;rw[c9] at hpl;obtain⟨qs,p,rfl⟩:∃qs p,ps=qs++[p]:=⟨ps.dropLast,ps.getLast (λz=>by rw[z] at hpl;simp at hpl),(List.dropLast_concat_getLast _).symm⟩;have hql:qs.length=prs.length:=by
  rw[c9] at hpl;simp only[d8,f6] at hpl;lia
 have hP:=hH.2 qs.length p ms (by rw[di (db _),fv];rfl) (by rw[hql,di (db _),fv];rfl);have hxe:x≠e:=Jy hx he (by intro z;cases z);rw[c8,c9];apply B0 (λhc=>?_) (λ_=>?_)
 ·have:=V.int.inj hc
  simp only[d8,f6] at this;lia
 apply⟨x,ad,dx,_,.ref e,rfl,hx,ag.cl,ag.cL,rfl,?_⟩;apply⟨.inl ⟨rfl,_,SqL.of he⟩,?_⟩;apply⟨e,_,.ref p,rfl,rfl,he,by rw[dj,c9,di (by simp)];simp,?_⟩;rw[show((qs++[p]).map V.ref).dropLast=qs.map V.ref by rw[dj];exact xz];have hid:hide e (upd H e (.lst (qs.map V.ref)))=hide e H:=Ij;have hx1:upd H e (.lst (qs.map V.ref)) x=some (.ins ad dx (Ll (.ref r) (.ref e))):=by rw[Ai hxe];exact hx
 have he1:=@Ac H e (.lst (qs.map V.ref));have hT1:∀ts,Tbs ts H->Tbs ts (upd H e (.lst (qs.map V.ref))):=λts hT=>hT.keepN he;have kp1:∀b u,b≠e->H b=some u->upd H e (.lst (qs.map V.ref)) b=some u:=λb u hb hu=>by rw[Ai hb];exact hu
 have fr1:∀b,upd H e (.lst (qs.map V.ref)) b=none->H b=none:=λb hb=>by
  rw[Ai (λz=>by rw[z,Ac] at hb;cases hb)] at hb;exact hb
 generalize upd H e _=H1 at *;have hP1:U1 ac (hide e H1) p ms:=by rw[hid];exact hP
 obtain⟨⟨as,hpa,hPc⟩,hZ,hfw⟩:=id hP1;obtain⟨hpe,hpa1⟩:=Co hpa;k_is;intro r' dr hr0 hdr hrd;have sN:Aj H1 (upd (upd H1 dr (.own r')) r' (.ins aa dr [])):=Oh hr0 hdr;refine⟨r',dr,p,as,ms,rfl,Ac,sN _ _ hpa1,(hPc.kp Cp).kp (Aj.kp sN),hZ,hfw,λH' s' hR' hF'=>⟨rfl,?_⟩⟩;have s2:Aj H1 H':=Jz hr0 hdr s';have hx2:=s2 _ _ hx1;have he2:=s2 _ _ he1;apply Eb hx2 ag.cl ag.cq (show 2<1000 by decide) ?_;rw[show De ("pairs":Str) (V.ref r') (Ll (.ref r) (.ref e))=Ll (.ref r') (.ref e) from rfl];have b3:SameBut x H' (upd H' x (.ins ad dx (Ll (.ref r') (.ref e)))):=Ce;have hhx:hide e H' x=some (.ins ad dx (Ll (.ref r) (.ref e))):=by rw[A0 hxe];exact hx2
 have kk':Kp (hide e H) (hide e H'):=by rw[<-hid];exact Bk (Aj.kp s2)
 have hRh:=hR'.hide hF' (by rw[sN _ _ he1];intro z;cases z) hpe he2;refine q _ ⟨⟨dx,r',Ac,hRh.but (B8 b3) hhx (by show 2<4;decide)⟩,⟨qs,b3 _ _ hxe.symm he2,hql,λi a ns e1 e2=>?_⟩⟩ (λts hT=>⟨λc u n1 n2 n hc=>b3 _ _ n1 (s2 _ _ (kp1 c u n2 hc)),λc hc=>?_,((hT1 ts hT).same s2).keepN hx2⟩) λc zs hce hc hSc=>?_
 ·exact((hH.2 i a ns (by rw[dv (Bl e1)];exact e1) (by rw[dv (Bl e2)];exact e2)).kp kk').but (B8 b3) hhx (by show 2<4;decide)
 ·rw[Ai (λz=>by rw[z,Ac] at hc;cases hc)] at hc
  exact fr1 c (s2.free hc)
 ·have hc1:=kp1 c _ hce hc
  have hc2:=s2 _ _ hc1;have hcx:c≠x:=Jy hc hx (by intro z;cases z);have hr'e:r'≠e:=(Af he1 hr0).symm;obtain⟨_,⟨ps6,he6,hH6⟩⟩:=hSc;rw[A0 hce.symm,he] at he6;obtain rfl:qs++[p]=ps6:=Xv (HO.lst.inj (de he6));obtain⟨⟨as6,hp6,_⟩,_,_⟩:=hH6.2 qs.length p ms (by rw[di (db _),fv];rfl) (by rw[hql,di (db _),fv];rfl);obtain⟨_,hpc,_⟩:=Cz hp6;obtain⟨dr5,b5,k5,t5,o5,n5,g0,g1,g2,g3,g4⟩:=id hF';have hRc:=hRh.hide (e:=c) (zs:=zs) ⟨dr5,b5,k5,t5,o5,n5,by rw[A0 hr'e];exact g0,g1,g2,g3,g4⟩ (by rw[sN _ _ hc1];intro z;cases z) hpc (by rw[A0 hce];exact hc2);rw[Dx] at hRc;have hhc:hide e (hide c H') x=some (.ins ad dx (Ll (.ref r) (.ref e))):=by rw[A0 hxe,A0 hcx.symm];exact hx2
  have kc:Kp (hide e (hide c H)) (hide e (hide c H')):=by
   rw[Dx,Dx (a:=e) (b:=c)];exact Bk kk'
  refine⟨⟨dx,r',by rw[A0 hcx.symm];exact Ac,hRc.but (B8 (B8 b3)) hhc (by show 2<4;decide)⟩,⟨qs,by rw[A0 hce.symm];exact b3 _ _ hxe.symm he2,hql,λi a ns e1 e2=>?_⟩⟩;exact((hH6.2 i a ns (by rw[dv (Bl e1)];exact e1) (by rw[dv (Bl e2)];exact e2)).kp kc).but (B8 (B8 b3)) hhc (by show 2<4;decide)
inductive qP (K:da)(vs:List V)(H:Hp)(Q:VK)(E:XK):Prop|mk(a:df)(ns:List Int)(k:Nat)(_:vs=[.ref a,.int k])(_:SqL K H a (ns.map V.int))(_:∀c:Int,Q (.int c) H)
include T in
theorem Sf (F:Fun K "_law_cell_at" "_law_cell_at" Je f fd):Ba P w K mg base CX0 1 f fd ["_law_script","_law_k"] (qP K):=by
 exists F.ok Ud
 obtain⟨a,ns,k,rfl,hS,q⟩:=h;refine⟨_,(Ab (B2 (ttc Gc (pv 1) (Ar Aq (by rfl) T.cp B9 (tpa (pv 0) Aa))) (Ad (Am (tix Ap (pv 0) (pv 1))))
  Bf) (Ad (Am Ag))),?_⟩
 apply⟨a,_,rfl,.inl hS,?_⟩;k_is;rw[c8];refine B0 (λhb=>?_) (λhb=>?_)
 ·k_is
  have hk:k<ns.length:=by lia
  refine Bb hS (v:=.int ns[k]) ?_ (q _);refine Bd ?_;rw[dg,c7 hk];rfl
 ·k_is
  exact q 0
inductive kW(vs:List V)(H:Hp)(Q:VK)(E:XK):Prop|mk(c k:Int)(_:vs=[.int c,.int k])(_:0<=k)(_:k<=1000)(_:∀r:Int,0<=r->r<2147483587->Q (.int r) H)
include T in
theorem X4 (F:Fun K "_law_mixed" "_law_mixed" Ml f fd):Ba P w K mg base CX0 1 f fd ["_law_cell","_law_k"] kW:=by
 exists F.ok N6
 obtain⟨c,k,rfl,h0,h1,q⟩:=h;refine⟨_,(Ab (tst 2 N6.nd (Ak Ey (Ak Hd (Ak Ay (Ak Ey (pv 0) Ag) Ag) (Ak Ay Ag (Ak Hd (Ak Hd Ag (pv 1)) (pv 1)))) Ag)) (Ad (Am (Ak Ey (Ak Hd (Ak Ay (pv 2) (Ak Hd Ag (pv 1))) (Ak Ay Ag (Ak Hd Ag (pv 1)))) Ag)))),?_⟩
 apply Ue (by lia) (by lia) ?_;k_is;have b1:=lp c (show(2147483647:Int)≠0 by decide);have b2:=j6 c (show(0:Int)<2147483647 by decide);refine fR (by lia) (by lia) ?_;apply Ue (by lia) (by lia) ?_;k_is;exact q _ (lp _ (by decide)) (j6 _ (by decide))
inductive eA (K:da)(vs:List V)(H:Hp)(Q:VK)(E:XK):Prop|mk(a:df)(ns:List Int)(k:Nat)(m:Int)(_:vs=[.ref a,.int k,.int m])(_:SqL K H a (ns.map V.int))(_:0<=m)(_:m<=100)(_:∀p (ds:List Int) H',Aj H H'->H p=none->H' p=some (.lst (ds.map V.int))->ds.length=m.toNat->Q (.ref p) H')
variable (aH:Cal P w K mg base "_law_cell_at" 1 ["_law_script","_law_k"] (qP K)) (aI:Cal P w K mg base "_law_mixed" 1 ["_law_cell","_law_k"] kW)
include T aH aI in
theorem Ux (F:Fun K "_law_digits" "_law_digits" Ko f fd) :
  Ba P w K mg base CX0 2 f fd ["_law_script","_law_at","_law_many"] (eA K):=by
 exists F.ok E3
 obtain⟨a,ns,k,m,rfl,hS,h0,h1,q⟩:=h;refine⟨_,(Ab (tst 3 E3.nd (Ak Hd (Ar Sh (by rfl) T.cR sA (tpa (Bn aH hr.m (tpa (pv 0) (tpa (Ak Ay (pv 1) Ag) Aa))) Aa)) (Ak B7 Ag (Ak Ey (Bn aH hr.m (tpa (pv 0) (tpa (pv 1) Aa))) Ag)))) (Ab (tst 4 E3.nd (Bo Aa)) (Ab (Dm f8 rfl (Eo rfl T.cu (tpa (pv 2) Aa)) (tgn 5 E3.nd) (Ad (B2 (ttc Jr (pv 3) Ag) (Ab (Bi (Cl dy et en Bm (pv 4) (tpa (Ak Ey (pv 3) Ag) Aa))) (Ad (tst 3 E3.nd (Ak F3 (pv 3) Ag)))) (Ad (Bi (Cl dy et en Bm (pv 4) (tpa (Ak Ey (Bn aI hr.m (tpa (Bn aH hr.m (tpa (pv 0) (tpa (Ak Ay (Ak Ay (pv 1) Ag) (Ak Ey (pv 5) Ag)) Aa))) (tpa (pv 5) Aa))) Ag) Aa))))))) (Ad (Am (pv 4)))))),?_⟩
 apply⟨a,ns,k+1,rfl,hS,λc1=>?_⟩;apply⟨_,rfl,?_⟩;apply⟨a,ns,k,rfl,hS,λc2=>?_⟩;apply Ue (by lia) (by lia) ?_;apply⟨e9 _,λp hp=>?_⟩;apply⟨m,rfl,by lia,by lia,?_⟩;have s0:Aj H (upd H p (.lst [])):=An hp;have push:∀{H1:Hp} {o:HO},Aj H H1->Aj H (upd H1 p o):=λs1 b u e=>by rw[Ai (Af e hp)];exact s1 _ _ e
 have z1:∀{l:List Int} {i:Nat},l.length=i->i<m.toNat->(l.map V.int).length<sizeLine:=λe hi=>by
  rw[c8,e];exact Pc (by lia)
 refine Fm (λi G H1=>∃(ds:List Int) (x:Int) (v5:Option V),G=[some (.ref a),some (.int k),some (.int m),some (.int x),some (.ref p),v5]/\ds.length=i/\H1 p=some (.lst (ds.map V.int))/\Aj H H1) ⟨[],_,_,rfl,rfl,Ac,s0⟩ ?_ ?_
 ·rintro i G H1 hi ⟨ds,x,v5,rfl,hd,hH,sm⟩
  apply B0 (λhb=>?_) (λhb=>?_)
  ·apply⟨.inl ⟨rfl,_,SqL.of hH⟩,?_⟩;apply Bs hH (z1 hd hi) ?_;k_is;exact⟨ds++[x%64],_,_,rfl,by rw[c9,hd];rfl,by rw[Ac,dj];rfl,push sm⟩
  ·apply⟨.inl ⟨rfl,_,SqL.of hH⟩,?_⟩;apply⟨a,ns,k+1+i%9,?_,sm.seq hS,λc3=>?_⟩
   ·rw[show(k:Int)+1+(0+(i:Int))%9=((k+1+i%9:Nat):Int) by lia]
    rfl
   apply⟨c3,_,rfl,by lia,by lia,λr _ _=>?_⟩;apply Bs hH (z1 hd hi) ?_;k_is;exact⟨ds++[r%64],_,_,rfl,by rw[c9,hd];rfl,by rw[Ac,dj];rfl,push sm⟩
 ·rintro G H1 ⟨ds,x,v5,rfl,hd,hH,sm⟩
  k_is;exact q p ds H1 sm hp hH hd
inductive pN(vs:List V)(H:Hp)(Q:VK)(E:XK):Prop|mk(a:df)(gs:List Int)(_:vs=[.ref a])(_:H a=some (.lst (gs.map V.int)))(_:gs.length<=1000)(_:∀p (ds:Za4) H',Aj H H'->H p=none->H' p=some (.lst ((Bh ds).map V.int))->Dok ds->ds.length=gs.length->Q (.ref p) H')
theorem yJ (xs:List V)(m:Nat):Ro xs none (some (m:Int))=xs.take m:=by
 unfold Ro;rw[HT.sIx_nat];show(xs.drop 0).take (min m xs.length-0)=xs.take m;rw[qw,l4]
 by_cases h:m<=xs.length
 ·rw[gn h]
 ·rw[l5 (by lia),d5 (db _),d5 (by lia)]
include T in
theorem Ze (F:Fun K "_law_wood" "_law_wood" Ni f fd):Ba P w K mg base CX0 1 f fd ["_law_digits_here"] pN:=by
 exists F.ok Fn
 obtain⟨a,gs,rfl,ha,hn,q⟩:=h;refine⟨_,(Ab (tst 1 Fn.nd (Bo Aa)) (Ab (tst 2 Fn.nd (Bo Aa)) (Ab (Dm f8 rfl (Eo rfl T.cu (tpa (Ar Aq (by rfl) T.cp B9 (tpa (pv 0) Aa)) Aa)) (tgn 3 Fn.nd) (Ab (tst 2 Fn.nd (El Hq (pv 2) Kt (Dl (Ak B7 (Ar Aq (by rfl) T.cp B9 (tpa (pv 2) Aa)) (Ak Ey (tix Ap (pv 0) (pv 3)) (Ak Ay (Ar Aq (by rfl) T.cp B9 (tpa (pv 2) Aa)) Ag)))))) (Ab (Bi (Cl dy et en Bm (pv 1) (tpa (tix Ap (Ak Ev (Bo (tpa (Dg Cf Ag) Aa)) (pv 2)) (Dg Cf Ag)) Aa))) (Ad (tst 2 Fn.nd (Ak Ev (pv 2) (Bo (tpa (pv 3) Aa)))))))) (Ad (Am (pv 1)))))),?_⟩
 apply⟨e9 _,λp hp=>?_⟩;apply⟨e9 _,λp0 hp0=>?_⟩;have t0:=An (o:=.lst []) hp;have t1:=An (o:=.lst []) hp0;apply⟨a,_,rfl,.inl (SqL.of (t1 _ _ (t0 _ _ ha))),?_⟩;k_is;rw[c8];refine⟨_,rfl,by lia,by lia,?_⟩;rw[f9];refine Fm (λk G H1=>(∃(q:df) (ds:Za4) (v:Option V),G=[some (.ref a),some (.ref p),some (.ref q),v]/\Dok ds/\ds.length=k/\H1 p=some (.lst ((Bh ds).map V.int))/\H1 q=some (.lst ((way ds k).tail.map V.int))/\p≠q)/\Aj H H1)
  ⟨⟨p0,[],_,rfl,(λk hk=>by cases hk),rfl,t1 _ _ Ac,Ac,Af Ac hp0⟩,t0.trans t1⟩ ?_ ?_
 ·rintro k G H1 hk ⟨⟨q1,ds,v,rfl,hD,hl,hp1,hq1,hne⟩,s1⟩
  have hw:=Ci hD k (by lia);have hh:=Zy hD (k:=k) (by lia);have hok:=Mj hD k (by lia);have hwt:(way ds k).tail.length=opn ds k:=by rw[tx];lia
  apply⟨q1,_,rfl,.inl (SqL.of hq1),?_⟩;k_is;rw[c8,hwt];obtain⟨g,hg⟩:∃g,gs[k]?=some g:=⟨gs[k],c7 hk⟩;refine Bb (SqL.of (s1 _ _ ha)) (v:=.int g) ?_ ?_
  ·rw[show(0+(k:Int))=(k:Int) by lia]
   exact Bd (P6 hg)
  apply⟨q1,_,rfl,.inl (SqL.of hq1),?_⟩;k_is;rw[c8,hwt];refine xG (by lia) ?_;k_is;obtain⟨d,hd,hd1⟩:∃d:Nat,(opn ds k:Int)-g%((opn ds k:Int)+1)=(d:Int)/\d<=opn ds k:=by
   have e0:=lp g (show(opn ds k:Int)+1≠0 by lia);have e1:=j6 g (show 0<(opn ds k:Int)+1 by lia);exact⟨((opn ds k:Int)-g%((opn ds k:Int)+1)).toNat,by lia,by lia⟩
  rw[hd];refine⟨q1,_,rfl,SqL.of hq1,λq2 h2=>?_⟩;rw[yJ] at *;rw[<-jx] at *;have u2:=An (o:=.lst (((way ds k).tail.take d).map V.int)) h2;apply⟨.inl ⟨rfl,_,SqL.of (u2 _ _ hp1)⟩,?_⟩;apply⟨few (by simp),λq3 h3=>?_⟩;have u3:=An (o:=.lst [V.int (-1)]) h3;apply⟨q3,q2,_,_,rfl,rfl,Ac,u3 _ _ Ac,?_,λq4 h4=>?_⟩
  ·rw[c8,dh]
   exact few (by simp only[d8,f6];lia)
  have ew:[V.int (-1)]++((way ds k).tail.take d).map V.int=((way ds k).take (d+1)).map V.int:=by
   rw[hh];rfl
  rw[ew] at *;have u4:=An (o:=.lst (((way ds k).take (d+1)).map V.int)) h4;have hx:(way ds k)[d+1-1]?=some ((way ds k).getD d 0):=by
   rw[se];unfold eh;rw[c7 (by lia)];rfl
  apply Bb (SqL.of Ac) (Jx (by lia) hx) ?_;k_is;have u24:=(u2.trans u3).trans u4;refine Bs (u24 _ _ hp1) ?_ ?_
  ·rw[c8,Au]
   exact Ah (by lia)
  have hpq2:q2≠p:=(Af hp1 h2).symm;have hq2':upd (upd (upd (upd H1 q2 (.lst (((way ds k).tail.take d).map V.int))) q3 (.lst [V.int (-1)])) q4 (.lst (((way ds k).take (d+1)).map V.int))) p (.lst ((Bh ds).map V.int++[V.int ((way ds k).getD d 0)])) q2=some (.lst (((way ds k).tail.take d).map V.int)):=by
   rw[Ai hpq2];exact u4 _ _ (u3 _ _ Ac)
  have s5:=Bw (o:=.lst ((Bh ds).map V.int++[V.int ((way ds k).getD d 0)])) (s1.trans u24) hp;have hp5:upd (upd (upd (upd H1 q2 (.lst (((way ds k).tail.take d).map V.int))) q3 (.lst [V.int (-1)])) q4 (.lst (((way ds k).take (d+1)).map V.int))) p (.lst ((Bh ds).map V.int++[V.int ((way ds k).getD d 0)])) p=some (.lst ((Bh ds).map V.int++[V.int ((way ds k).getD d 0)])):=Ac;generalize upd (upd (upd (upd H1 q2 (.lst (((way ds k).tail.take d).map V.int))) q3 (.lst [V.int (-1)])) q4 (.lst (((way ds k).take (d+1)).map V.int))) p (.lst ((Bh ds).map V.int++[V.int ((way ds k).getD d 0)]))=H5 at *;apply⟨few (by simp),λq6 h6=>?_⟩;have u6:=An (o:=.lst [V.int (0+(k:Int))]) h6;refine⟨q2,q6,_,_,rfl,rfl,u6 _ _ hq2',Ac,?_,λq7 h7=>?_⟩
  ·rw[c8,dh]
   exact few (by simp only[d8,f6];lia)
  have u7:=An (o:=.lst (((way ds k).tail.take d).map V.int++[V.int (0+(k:Int))])) h7;k_is;have hp7:=u7 _ _ (u6 _ _ hp5);refine⟨⟨q7,ds++[d],_,rfl,eE hD (by rw[hl];exact hd1),by rw[c9,hl];rfl,?_,?_,Af (u6 _ _ hp5) h7⟩,(s5.trans u6).trans u7⟩
  ·rw[hp7,W6,dj,hl]
   rfl
  ·have e:=Y4 ds d
   rw[hl] at e;rw[Ac,e,show(0+(k:Int))=(k:Int) by lia];have e2:((way ds k).take (d+1)++[(k:Int)]).tail=(way ds k).tail.take d++[(k:Int)]:=by
    rw[hh];rfl
   rw[e2,dj];rfl
 ·rintro G H1 ⟨⟨q1,ds,v,rfl,hD,hl,hp1,hq1,hne⟩,s1⟩
  k_is;exact q p ds H1 s1 hp hp1 hD hl
inductive wY(vs:List V)(H:Hp)(Q:VK)(E:XK):Prop|mk(a:df)(ds:Za4)(_:vs=[.ref a])(_:H a=some (.lst ((Bh ds).map V.int)))(_:Dok ds)(_:ds.length<=2000)(_:∀H',Aj H H'->Q (.str (Az (Av ds))) H')
include T in
theorem fJ (F:Fun K "_law_row" "_law_row" Oz f fd):Ba P w K mg base CX0 1 f fd ["_law_elders"] wY:=by
 exists F.ok Gg
 obtain⟨a,ds,rfl,ha,hD,hn,q⟩:=h;refine⟨_,(Ab (tst 1 Gg.nd Dp) (Ab (tst 2 Gg.nd (Bo Aa)) (Ab (Dm f8 rfl (Eo rfl T.cu (tpa (Ar Aq (by rfl) T.cp B9 (tpa (pv 0) Aa)) Aa)) (tgn 3 Gg.nd) (Ab (Mm f8 (PW.pt (Ls (ttc (sH (eX hr)) (pv 2) (Bo Aa)) (Iu (ttc dB (tix Ap (pv 2) (Dg Cf Ag)) (tix Ap (pv 0) (pv 3)))))) (Ab (Bi (Pk dy jz jy Pp (pv 2))) (Ad (tst 1 Gg.nd (Ak Gq (pv 1) Dp))))) (Ab (Bi (Cl dy et en Bm (pv 2) (tpa (pv 3) Aa))) (Ad (tst 1 Gg.nd (Ak Gq (pv 1) Dp)))))) (Ad (Am (Ak Gq (pv 1) (Ak Xl Dp (Ar Aq (by rfl) T.cp B9 (tpa (pv 2) Aa))))))))),?_⟩
 apply⟨e9 _,λp hp=>?_⟩;have t0:=An (o:=.lst []) hp;apply⟨a,_,rfl,.inl (SqL.of (t0 _ _ ha)),?_⟩;k_is;rw[c8,Au];refine⟨_,rfl,by lia,by lia,?_⟩;rw[f9];refine Fm (λk G H1=>(∃v:Option V,G=[some (.ref a),some (.str (Az (Li ds k))),some (.ref p),v])/\H1 p=some (.lst ((way ds k).tail.map V.int))/\Aj H H1) ⟨⟨_,rfl⟩,Ac,t0⟩ ?_ ?_
 ·rintro k G H1 hk ⟨⟨v,rfl⟩,hp1,s1⟩
  have hw:=Ci hD k (by lia);have hh:=Zy hD (k:=k) (by lia);have hok:=Mj hD k (by lia);have hd:=hD k hk;have hrl:=Ov hD k (by lia);have hea:=Dj hD hk;have hwt:(way ds k).tail.length=opn ds k:=by rw[tx];lia
  apply L8 (λG H2=>∃m,dAt ds k<=m/\m<=opn ds k/\G=[some (.ref a),some (.str (Az (Li ds k++dn (opn ds k-m) false))),some (.ref p),some (.int (0+(k:Int)))]/\H2 p=some (.lst (((way ds k).tail.take m).map V.int))/\Aj H H2) (λ_ H2=>Zx H2 p)
   ⟨opn ds k,hd,db _,by rw[fv,yj,iz];rfl,by rw[d5 (by lia)];exact hp1,s1⟩ ?_
  rintro z G H2 ⟨m,hm1,hm2,rfl,hp2,s2⟩ hz;rw[J3 hp2,c8,dh,hwt,gn hm2] at hz;have out:m=dAt ds k->∀H3,Aj H H3->H3 p=some (.lst (((way ds k).tail.take m).map V.int))->Az (Li ds k++dn (opn ds k-m) false)++("1":Str)=Az (Li ds (k+1))/\((way ds k).tail.take m).map V.int++[V.int (0+(k:Int))]=(way ds (k+1)).tail.map V.int:=λe H3 _ _=>by
   subst e
   constructor
   ·rw[Jn]
    show Az _++Az [true]=_;rw[Ep,d9];rfl
   ·show _=((way ds k).take (dAt ds k+1)++[(k:Int)]).tail.map V.int
    have e2:((way ds k).take (dAt ds k+1)++[(k:Int)]).tail=(way ds k).tail.take (dAt ds k)++[(k:Int)]:=by
     rw[hh];rfl
    rw[e2,dj,show(0+(k:Int))=(k:Int) by lia];rfl
  apply⟨e9 _,λe hE=>?_⟩;have tE:=An (o:=.lst []) hE;have hp3:=tE _ _ hp2;have s3:=s2.trans tE;refine wG (ns:=(way ds k).tail.take m) (ms:=[]) (SqL.of hp3) (SqL.of Ac) ?_;generalize upd H2 e _=H3 at *;apply nY (λhne=>?_) (λhem=>?_)
  ·have hm0:0<m:=by
    cases m with
    |zero=>exact absurd rfl hne
    |succ m=>lia
   have hx1:(way ds k).tail[m-1]?=some ((way ds k).tail[m-1]'(by lia)):=c7 _;generalize (way ds k).tail[m-1]'(by lia)=y at hx1;have hx2:(way ds k)[m]?=some y:=by
    rw[li,show m-1+1=m by lia] at hx1;exact hx1
   apply Bb (SqL.of hp3) (Jx hm0 hx1) ?_;apply Bb (SqL.of (s3 _ _ ha)) (v:=.int (eld ds k)) ?_ ?_
   ·rw[show(0+(k:Int))=(k:Int) by lia]
    exact Bd (P6 (Cy hk))
   apply nY (λh=>?_) (λh=>?_)
   ·have hmne:m≠dAt ds k:=λe=>by
     rw[e,hea] at hx2;exact h (congrArg V.int (de hx2).symm)
    refine Se ?_;apply⟨.inl ⟨rfl,_,SqL.of hp3⟩,?_⟩;have hml:m<=(way ds k).tail.length:=by lia
    refine⟨p,_,.int y,rfl,rfl,hp3,?_,?_⟩
    ·rw[G1 hml,P6 (n:=y)]
     rw[d7 (by lia)];exact hx1
    k_is;rw[Pe hml];refine⟨_,"0",rfl,rfl,?_,?_⟩
    ·rw[Bc,c9,ii]
     exact fb (Ah (by rw[show("0":Str).length=1 by rfl];lia))
    apply⟨⟨m-1,by lia,by lia,?_,Ac,Bw s3 hp⟩,?_⟩
    ·have e:Az (Li ds k++dn (opn ds k-m) false)++("0":Str)=Az (Li ds k++dn (opn ds k-(m-1)) false):=by
      show Az _++Az [false]=_;rw[Ep,d9,show opn ds k-(m-1)=opn ds k-m+1 by lia,xu]
     rw[e];rfl
    ·rw[J3 Ac,G1 (by lia)]
     lia
   ·have hy:=V.int.inj h
    have hme:m=dAt ds k:=by
     by_cases e:m=dAt ds k
     ·exact e
     ·have:=Sl hD k (dAt ds k) m _ _ (by lia) (by lia) hea hx2
      lia
    apply⟨.inl ⟨rfl,_,SqL.of hp3⟩,?_⟩;apply Bs hp3 ?_ ?_
    ·rw[c8,dh]
     exact Ah (by lia)
    apply⟨_,"1",rfl,rfl,?_,?_⟩
    ·rw[Bc,c9,ii]
     exact fb (Ah (by rw[show("1":Str).length=1 by rfl];lia))
    k_is;obtain⟨o1,o2⟩:=out hme H3 s3 hp3;rw[o1,o2];exact⟨⟨_,rfl⟩,Ac,Bw s3 hp⟩
  ·have hme:m=dAt ds k:=by
    have hl0:((way ds k).tail.take m).length=0:=by rw[hem];rfl
    rw[dh,hwt] at hl0;lia
   apply⟨.inl ⟨rfl,_,SqL.of hp3⟩,?_⟩;apply Bs hp3 ?_ ?_
   ·rw[c8,dh]
    exact Ah (by lia)
   apply⟨_,"1",rfl,rfl,?_,?_⟩
   ·rw[Bc,c9,ii]
    exact fb (Ah (by rw[show("1":Str).length=1 by rfl];lia))
   k_is;obtain⟨o1,o2⟩:=out hme H3 s3 hp3;rw[o1,o2];exact⟨⟨_,rfl⟩,Ac,Bw s3 hp⟩
 ·rintro G H1 ⟨⟨v,rfl⟩,hp1,s1⟩
  have hok:=Mj hD ds.length (db _);have hw:=Ci hD ds.length (db _);have hrl:=Ov hD ds.length (db _);have hwt:(way ds ds.length).tail.length=opn ds ds.length:=by rw[tx];lia
  apply⟨p,_,rfl,.inl (SqL.of hp1),?_⟩;k_is;rw[c8,hwt];refine⟨"0",(opn ds ds.length:Int),rfl,rfl,by lia,by lia,?_,few (by decide),?_⟩
  ·exact fb (Ah (by rw[show("0":Str).length=1 by rfl];lia))
  have e0:Ti ("0":Str) ((opn ds ds.length:Int)).toNat=Az (dn (opn ds ds.length) false):=by
   rw[f9];exact Pq false _
  rw[e0];apply⟨_,_,rfl,rfl,?_,?_⟩
  ·rw[Bc,Bc,ii]
   exact fb (Ah (by lia))
  rw[Ep];exact q H1 s1
inductive wX(vs:List V)(H:Hp)(Q:VK)(E:XK):Prop|mk(a:df)(ds:Za4)(k:Nat)(_:vs=[.ref a,.int k])(_:H a=some (.lst ((Bh ds).map V.int)))(_:k<ds.length)(_:Q (.int (Ao ds k:Nat)) H)
include T in
theorem hV (F:Fun K "_law_end" "_law_end" Pz f fd):Ba P w K mg base CX0 1 f fd ["_law_elders","_law_k"] wX:=by
 exists F.ok Nj
 obtain⟨a,ds,k,rfl,ha,hk,q⟩:=h;obtain⟨e1,e2,e3,e4⟩:=Ax (ds:=ds) hk;refine⟨_,(Ab (tst 2 Nj.nd (Ak Ay (pv 1) Ag)) (Ab (Mm f8 (PW.pt (Ls (ttc Gc (pv 2) (Ar Aq (by rfl) T.cp B9 (tpa (pv 0) Aa))) (Iu (ttc Oi (tix Ap (pv 0) (pv 2)) (pv 1))))) (Ad (tst 2 Nj.nd (Ak Ay (pv 2) Ag)))) (Ad (Am (pv 2))))),?_⟩
 apply L8 (λG H'=>H'=H/\∃j:Nat,G=[some (.ref a),some (.int k),some (.int (j:Nat))]/\k<j/\j<=Ao ds k) (λG _=>match G with | [_,_,some (.int j)]=>Ao ds k-j.toNat|_=>0) ⟨rfl,k+1,by rw[show((k+1:Nat):Int)=(k:Int)+1 by lia];rfl,by lia,by lia⟩ ?_;rintro μ G H' ⟨rfl,j,rfl,h1,h2⟩ HV;have HV:Ao ds k-j=μ:=by rw[<-HV];rfl
 apply⟨a,_,rfl,.inl (SqL.of ha),?_⟩;rw[c8,Au];apply B0 (λg=>?_) (λg=>?_)
 ·have g:j<ds.length:=by lia
  apply Bb (SqL.of ha) (v:=.int (eld ds j)) (Bd (by rw[dg,Cy g];rfl)) ?_;k_is
  by_cases hj:j<Ao ds k
  ·have:=e3 j h1 hj
   refine B0 (λ_=>?_) (λz=>absurd this z);refine Se ?_;apply⟨⟨rfl,j+1,by rw[show((j+1:Nat):Int)=(j:Int)+1 by lia];rfl,by lia,by lia⟩,?_⟩;show Ao ds k-((j:Int)+1).toNat<μ;lia
  ·obtain rfl:j=Ao ds k:=by lia
   have:=e4 g;refine B0 (λz=>absurd z (by lia)) (λ_=>?_);k_is;exact q
 ·obtain rfl:j=Ao ds k:=by lia
  k_is;exact q
theorem vI {ds:Za4}(h:Dok ds){k i:Nat}(hk:k<ds.length)(hi:i<Ao ds k-k):(if(-1:Int)<eld ds (k+i)-(k:Int) then eld ds (k+i)-(k:Int) else -1)=eld (Df ds k) i:=by
 obtain⟨e1,e2,e3,e4⟩:=Ax (ds:=ds) hk
 cases i with
 |zero=>
  rw[iw,rD h hk];have:=Fx h hk;rw[if_neg (by lia)]
 |succ i=>
  rw[uX h hk (by lia) hi];have:=e3 (k+(i+1)) (by lia) (by lia);rw[if_pos (by lia)]
inductive rR(vs:List V)(H:Hp)(Q:VK)(E:XK):Prop|mk(a:df)(ds:Za4)(k:Nat)(_:vs=[.ref a,.int k])(_:H a=some (.lst ((Bh ds).map V.int)))(_:Dok ds)(_:k<ds.length)(_:ds.length<=1000)(_:∀p H',Aj H H'->H p=none->H' p=some (.lst ((Bh (Df ds k)).map V.int))->Q (.ref p) H')
variable (aJ:Cal P w K mg base "_law_end" 1 ["_law_elders","_law_k"] wX)
include T aJ in
theorem Yt (F:Fun K "_law_part" "_law_part" Kn f fd):Ba P w K mg base CX0 2 f fd ["_law_elders","_law_k"] rR:=by
 exists F.ok eN
 obtain⟨a,ds,k,rfl,ha,hD,hk,hn,q⟩:=h;obtain⟨e1,e2,e3,e4⟩:=Ax (ds:=ds) hk;refine⟨_,(Ad (Am (P4 rfl Uz (Do (El Hq (pv 0) (Dl (pv 1)) (Dl (Bn aJ hr.m (tpa (pv 0) (tpa (pv 1) Aa)))))) (λ_ _ _ _=>Ed) (λ_ _ _ _=>(Ar (Vp rfl) (by rfl) T.cT pV (tpa (Dg Cf Ag) (tpa (Ak B7 (pv 0) (pv 1)) Aa))))))),?_⟩;apply⟨a,ds,k,rfl,ha,hk,?_⟩;apply⟨a,_,rfl,SqL.of ha,λD hDn=>?_⟩;rw[Zv _ (by rw[c8,Au];exact e2)] at *;obtain⟨u1,h1⟩:=Be (o:=.lst ((((Bh ds).map V.int).drop k).take (Ao ds k-k))) hDn;generalize upd H D _=H1 at *;have hl:((((Bh ds).map V.int).drop k).take (Ao ds k-k)).length=Ao ds k-k:=by rw[dh,fh,c8,Au];lia
 refine⟨D,rfl,⟨_,SqL.of h1⟩,?_⟩;refine Iy (SqL.of h1) (λi=>((Bh (Df ds k)).take i).map V.int) rfl (λi hi=>?_) (λi v H2 R A hv s2 _ hA=>?_) (λD2 H2 hD2 s2 h2=>?_)
 ·rw[c8,dh]
  rw[hl] at hi;exact Ah (by lia)
 ·have hi:=Bl hv
  rw[hl] at hi;rw[d7 hi,jb,dg,Cy (by lia)] at hv;obtain rfl:V.int (eld ds (k+i))=v:=de hv;apply⟨_,_,rfl,?_⟩;refine hA _ _ ?_ (Aj.refl _);rw[gj,Cy (by rw[Dt];exact hi),dj];show _++[V.int (eld (Df ds k) i)]=_;rw[<-vI hD hk hi]
 ·rw[hl,d5 (by rw[Au,Dt];exact db _)] at h2
  exact q D2 H2 (u1.trans s2) (u1.free hD2) h2
inductive Wy(vs:List V)(H:Hp)(Q:VK)(E:XK):Prop|mk(a:df)(ds:Za4)(k:Nat)(_:vs=[.ref a,.int k])(_:H a=some (.lst ((Bh ds).map V.int)))(_:Dok ds)(_:k<ds.length)(_:ds.length<=2000)(_:∀p H',Aj H H'->H p=none->H' p=some (.lst ((Bh (X6 ds k)).map V.int))->Q (.ref p) H')
include T aJ in
theorem Sy (F:Fun K "_law_without" "_law_without" Gy f fd):Ba P w K mg base CX0 2 f fd ["_law_elders","_law_k"] Wy:=by
 exists F.ok L4
 obtain⟨a,ds,k,rfl,ha,hD,hk,hn,q⟩:=h;obtain⟨e1,e2,e3,e4⟩:=Ax (ds:=ds) hk;refine⟨_,(Ab (Nf (i:=2) L4.nd rfl (sg rfl) (Bn aJ hr.m (tpa (pv 0) (tpa (pv 1) Aa)))) (Ad (Am (Ak Ev (El Hq (pv 0) Kt (Dl (pv 1))) (P4 rfl Ox (Do (El Hq (pv 0) (Dl (pv 2)) Kt)) (λ_ _ _ _=>Ed) (λ_ _ _ _=>(tix (Hv K) (Bo (tpa (pv 0) (tpa (Ak Ay (Ak B7 (pv 0) (pv 1)) (pv 2)) Aa))) (Em Hr (by rfl) T.cA Ts (tpa (tpc Oi (pv 0) (pv 2)) Aa))))))))),?_⟩
 apply⟨a,ds,k,rfl,ha,hk,?_⟩;apply⟨a,_,rfl,SqL.of ha,λD1 hD1=>?_⟩;rw[oO] at *;obtain⟨u1,h1⟩:=Be (o:=.lst (((Bh ds).map V.int).take k)) hD1;have ha1:=u1 _ _ ha;generalize upd H D1 _=H1 at *;apply⟨a,_,rfl,SqL.of ha1,λD2 hD2=>?_⟩;rw[Xx] at *;obtain⟨u2,h2⟩:=Be (o:=.lst (((Bh ds).map V.int).drop (Ao ds k))) hD2;have h12:=u2 _ _ h1;have s2:=u1.trans u2;generalize upd H1 D2 _=H2 at *;have hl:(((Bh ds).map V.int).drop (Ao ds k)).length=ds.length-Ao ds k:=by rw[fh,c8,Au]
 apply⟨D2,rfl,⟨_,SqL.of h2⟩,?_⟩;refine Iy (SqL.of h2) (λi=>((((Bh ds).drop (Ao ds k)).take i).map λx=>if(k:Int)<=x then x-(Ao ds k:Int)+(k:Int) else x).map V.int) rfl (λi hi=>?_) (λi v H3 R A hv s3 _ hA=>?_) (λD3 H3 hD3 s3 h3=>?_)
 ·rw[c8,c8,dh]
  rw[hl] at hi;exact Ah (by lia)
 ·rw[<-rl] at hv
  obtain⟨y,hy,rfl⟩:=O5 hv;apply⟨few (by simp),λq3 h3=>?_⟩;have u3:=An (o:=.lst [V.int y,V.int (y-(Ao ds k:Int)+(k:Int))]) h3;apply .inr ⟨_,rfl,?_⟩;refine Bb (SqL.of Ac) (v:=.int (if(k:Int)<=y then y-(Ao ds k:Int)+(k:Int) else y)) ?_ ?_
  ·by_cases hlt:(k:Int)<=y
   ·rw[decide_eq_true hlt,if_pos hlt]
    rfl
   ·rw[decide_eq_false hlt,if_neg hlt]
    rfl
  apply hA _ _ ?_ u3;rw[gj,hy,dj,dj];rfl
 ·rw[hl,d5 (by rw[fh,Au];exact db _)] at h3
  have h13:=s3 _ _ h12;have s13:=s2.trans s3;apply⟨D1,D3,_,_,rfl,rfl,h13,h3,?_,λD4 hD4=>?_⟩
  ·simp only[c8,dh,fh,Au]
   exact fb (Ah (by lia))
  refine q D4 _ (s13.trans (An hD4)) (s13.free hD4) ?_;rw[Ac,oM hD hk,dj,jx]
theorem uT {ds:Za4}{ko:Option Nat}{place a:Nat}{top:Int}(g:GAt ds ko place a off top):top=kI ko:=by
 cases ko with
 |none=>exact g.2.1
 |some k=>exact g.2.2.1
inductive oV(vs:List V)(H:Hp)(Q:VK)(E:XK):Prop|mk(a:df)(ds:Za4)(ko:Option Nat)(place:Nat)(_:vs=[.ref a,.int (kI ko),.int place])(_:H a=some (.lst ((Bh ds).map V.int)))(_:Dok ds)(_:ds.length<=2000)(_:(∀k,ko=some k->k<ds.length))(_:place<=(As ds ds.length (kI ko)).length)(_:∀at' off top H',GAt ds ko place at' off top->Aj H H'->Q (.int (at':Nat)) H')
include T aJ in
theorem dL (F:Fun K "_law_spot" "_law_spot" Kz f fd):Ba P w K mg base CX0 2 f fd ["_law_elders","_law_k","_law_place"] oV:=by
 exists F.ok Rj
 obtain⟨a,ds,ko,place,rfl,ha,hD,hn,hko,hpl,q⟩:=h;refine⟨_,(Ab (Me (i:=3) rfl Um Rj.nd rfl rfl (Eo rfl T.cu (tpa (Ar Aq (by rfl) T.cp B9 (tpa (pv 0) Aa)) Aa)) (λ_ _ _ _=>N8 (ttc Et (tix (Hv K) (pv 1) (pv 0)) (pv 2))) (λ_ _ _ _=>(pv 0))) (Ab (B2 (ttc Gc (pv 2) (Ar Aq (by rfl) T.cp B9 (tpa (pv 3) Aa))) (Ad (Am (tix Ap (pv 3) (pv 2))))
  Bf) (Ab (B2 (ttc Gc (pv 1) Ag) (Ad (Am (Ar Aq (by rfl) T.cp B9 (tpa (pv 0) Aa))))
  Bf) (Ad (Am (Bn aJ hr.m (tpa (pv 0) (tpa (pv 1) Aa)))))))),?_⟩
 apply⟨a,_,rfl,.inl (SqL.of ha),?_⟩;rw[c8,Au];apply⟨_,rfl,by lia,by lia,?_⟩;rw[f9];refine Sq (λi=>(As ds i (kI ko)).map λj:Nat=>V.int (j:Nat)) rfl (λi hi=>?_) (λi H1 R A hi s1 hR hA=>?_) (λD1 H1 hD1 s1 h1=>?_)
 ·rw[c8]
  have:=Kk ds i (kI ko);exact Ah (by lia)
 ·apply Bb (SqL.of (s1 _ _ ha)) (v:=.int (eld ds i)) (by rw[td];exact Bd (by rw[dg,Cy hi];rfl)) ?_;apply B0 (λe=>?_) (λe=>?_)
  ·apply hA _ _ ?_ (Aj.refl _);rw[C3 (V.int.inj e),dj,td];rfl
  ·refine hR ?_ _ (Aj.refl _)
   rw[Gs (λz=>e (congrArg V.int z))]
 apply⟨D1,_,rfl,.inl (SqL.of h1),?_⟩;rw[c8];apply B0 (λg=>?_) (λg=>?_)
 ·have g:place<(As ds ds.length (kI ko)).length:=by lia
  have ej:(As ds ds.length (kI ko))[place]?=some ((As ds ds.length (kI ko))[place]):=c7 g;obtain⟨j1,j2,j3⟩:=N7 ej;apply Bb (SqL.of h1) (v:=.int ((As ds ds.length (kI ko))[place]:Nat)) (Bd (by rw[dg,ej];rfl)) ?_;k_is;generalize (As ds ds.length (kI ko))[place]=j at *
  cases ko with
  |none=>exact q j 0 (-1) H1 ⟨rfl,rfl,by lia,j1,.inr ⟨j2,j3⟩⟩ s1
  |some k=>
   have hk:=hko k rfl;obtain⟨i1,i2⟩:=O9 hD hk j2 j3;exact q j (dAt ds k+1) k H1 ⟨hk,rfl,rfl,i1,by lia,j1,.inr ⟨i2,j3⟩⟩ s1
 ·have g:place=(As ds ds.length (kI ko)).length:=by lia
  k_is
  cases ko with
  |none=>
   refine B0 (λ_=>?_) (λz=>absurd (show(-1:Int)<0 by decide) z);apply⟨a,_,rfl,.inl (SqL.of (s1 _ _ ha)),?_⟩;rw[c8,Au];exact q ds.length 0 (-1) H1 ⟨rfl,rfl,db _,g.symm,.inl rfl⟩ s1
  |some k=>
   have hk:=hko k rfl;obtain⟨i1,i2,_⟩:=Ax (ds:=ds) hk;refine B0 (λz=>absurd z (by show ¬(k:Int)<0;lia)) (λ_=>?_);apply⟨a,ds,k,rfl,s1 _ _ ha,hk,?_⟩;exact q (Ao ds k) (dAt ds k+1) k H1 ⟨hk,rfl,rfl,i1,db _,by rw[<-Sr hD hk];exact g.symm,.inl rfl⟩ s1
inductive rK(vs:List V)(H:Hp)(Q:VK)(E:XK):Prop|mk(a b:df)(ds es:Za4)(ko:Option Nat)(place:Nat)(_:vs=[.ref a,.int (kI ko),.int place,.ref b])(_:H a=some (.lst ((Bh ds).map V.int)))(_:Dok ds)(_:ds.length<=2000)(_:(∀k,ko=some k->k<ds.length))(_:place<=(As ds ds.length (kI ko)).length)(_:H b=some (.lst ((Bh es).map V.int)))(_:Dok es)(_:es.length<=1000)(_:∀at' off top p H',GAt ds ko place at' off top->Aj H H'->H p=none->H' p=some (.lst ((Bh (Km ds es at' off)).map V.int))->Q (.ref p) H')
include T in
theorem Zh (F:Fun K "_law_with" "_law_with" Hx f fd)(bP:Cal P w K mg base "_law_spot" 2 ["_law_elders","_law_k","_law_place"] oV):Ba P w K mg base CX0 3 f fd ["_law_elders","_law_k","_law_place","_law_wood_here"] rK:=by
 exists F.ok Lx
 obtain⟨a,b,ds,es,ko,place,rfl,ha,hD,hn,hko,hpl,hb,hDe,hne,q⟩:=h;refine⟨_,(Ab (Nf (i:=4) Lx.nd rfl (sg rfl) (Bn bP hr.m (tpa (pv 0) (tpa (pv 1) (tpa (pv 2) Aa))))) (Ab (Me (i:=5) rfl U0 Lx.nd rfl rfl (Do (pv 3)) (λ_ _ _ _=>Ed) (λ_ _ _ _=>(tix (Hv K) (Bo (tpa (Ak Ay (pv 0) (pv 1)) (tpa (pv 2) Aa))) (Em Hr (by rfl) T.cA Ts (tpa (tpc Gc (pv 0) Ag) Aa))))) (Ad (Am (Ak Ev (Ak Ev (El Hq (pv 0) Kt (Dl (pv 4))) (pv 5)) (P4 rfl Us (Do (El Hq (pv 0) (Dl (pv 4)) Kt)) (λ_ _ _ _=>Ed) (λ_ _ _ _=>(tix (Hv K) (Bo (tpa (pv 0) (tpa (Ak Ay (pv 0) (Ar (gP K) (by rfl) T.cp B9 (tpa (pv 2) Aa))) Aa))) (Em Hr (by rfl) T.cA Ts (tpa (tpc Oi (pv 0) (pv 1)) Aa)))))))))),?_⟩
 apply⟨a,ds,ko,place,rfl,ha,hD,hn,hko,hpl,λat' off top H1 hG s1=>?_⟩;have htop:=uT hG;obtain⟨g1,g2,g3,g4⟩:=hG.ok hD;have hge:=fQ hD hDe g1 g2 g3 g4;apply⟨b,rfl,⟨_,SqL.of (s1 _ _ hb)⟩,?_⟩;refine Iy (SqL.of (s1 _ _ hb)) (λi=>(((Bh es).take i).map λx=>if x<0 then top else x+(at':Int)).map V.int) rfl (λi hi=>?_) (λi v H2 R A hv s2 _ hA=>?_) (λD2 H2 hD2 s2 h2=>?_)
 ·rw[c8,c8,dh]
  rw[c8,Au] at hi;exact Ah (by lia)
 ·obtain⟨y,hy,rfl⟩:=O5 hv
  apply⟨few (by simp),λq3 h3=>?_⟩;have u3:=An (o:=.lst [V.int (y+(at':Int)),V.int (kI ko)]) h3;apply .inr ⟨_,rfl,?_⟩;refine Bb (SqL.of Ac) (v:=.int (if y<0 then top else y+(at':Int))) ?_ ?_
  ·rw[htop]
   by_cases hlt:y<0
   ·rw[decide_eq_true hlt,if_pos hlt]
    rfl
   ·rw[decide_eq_false hlt,if_neg hlt]
    rfl
  apply hA _ _ ?_ u3;rw[gj,hy,dj,dj];rfl
 rw[c8,d5 (db _)] at h2;have s12:=s1.trans s2;have ha2:=s12 _ _ ha;have hb2:=s12 _ _ hb;apply⟨a,_,rfl,SqL.of ha2,λD3 hD3=>?_⟩;rw[oO] at *;obtain⟨u3,h3⟩:=Be (o:=.lst (((Bh ds).map V.int).take at')) hD3;have h23:=u3 _ _ h2;have s13:=s12.trans u3;generalize upd H2 D3 _=H3 at *;apply⟨D3,D2,_,_,rfl,rfl,h3,h23,?_,λD4 hD4=>?_⟩
 ·simp only[c8,dh,Au]
  exact fb (Ah (by lia))
 obtain⟨u4,h4⟩:=Be (o:=.lst (((Bh ds).map V.int).take at'++((Bh es).map λx=>if x<0 then top else x+(at':Int)).map V.int)) hD4;have s14:=s13.trans u4;generalize upd H3 D4 _=H4 at *;apply⟨a,_,rfl,SqL.of (s14 _ _ ha),λD5 hD5=>?_⟩;rw[Xx] at *;obtain⟨u5,h5⟩:=Be (o:=.lst (((Bh ds).map V.int).drop at')) hD5;have h45:=u5 _ _ h4;have s15:=s14.trans u5;generalize upd H4 D5 _=H5 at *;have hl:(((Bh ds).map V.int).drop at').length=ds.length-at':=by rw[fh,c8,Au]
 apply⟨D5,rfl,⟨_,SqL.of h5⟩,?_⟩;refine Iy (SqL.of h5) (λi=>((((Bh ds).drop at').take i).map λx=>if(at':Int)<=x then x+(es.length:Int) else x).map V.int) rfl (λi hi=>?_) (λi v H6 R A hv s6 _ hA=>?_) (λD6 H6 hD6 s6 h6=>?_)
 ·rw[c8,c8,dh]
  rw[hl] at hi;exact Ah (by lia)
 ·rw[<-rl] at hv
  obtain⟨y,hy,rfl⟩:=O5 hv;apply⟨b,_,rfl,.inl (SqL.of (s6 _ _ (s15 _ _ hb))),?_⟩;rw[c8,Au];apply⟨few (by simp),λq7 h7=>?_⟩;have u7:=An (o:=.lst [V.int y,V.int (y+(es.length:Int))]) h7;apply .inr ⟨_,rfl,?_⟩;refine Bb (SqL.of Ac) (v:=.int (if(at':Int)<=y then y+(es.length:Int) else y)) ?_ ?_
  ·by_cases hlt:(at':Int)<=y
   ·rw[decide_eq_true hlt,if_pos hlt]
    rfl
   ·rw[decide_eq_false hlt,if_neg hlt]
    rfl
  apply hA _ _ ?_ u7;rw[gj,hy,dj,dj];rfl
 ·rw[hl,d5 (by rw[fh,Au];exact db _)] at h6
  have h46:=s6 _ _ h45;have s16:=s15.trans s6;apply⟨D4,D6,_,_,rfl,rfl,h46,h6,?_,λD7 hD7=>?_⟩
  ·simp only[c9,c8,dh,fh,Au]
   exact fb (Ah (by lia))
  refine q at' off top D7 _ hG (s16.trans (An hD7)) (s16.free hD7) ?_;rw[Ac,hge,dj,dj,jx,d9]
theorem R9 {ds:Za4}{k:Nat}(hk:k<ds.length):nV (ds.take k)++[V.int (dAt ds k:Nat)]=nV (ds.take (k+1)):=by
 unfold nV dAt eh;rw[gj,c7 hk,dj];rfl
theorem mS (n:Nat):(dn n [V.int 0]).flatten=(dn n (0:Int)).map V.int:=by
 induction n with
 |zero=>rfl
 |succ n ih=>rw[gk,gk,il,ih];rfl
def bL (ds:Za4)(m:Nat):List V:=nV ((ed ds.length).map λi:Nat=>bS ds m (i:Int))
theorem Nw (ds:Za4)(m:Nat):(bL ds m).length=ds.length:=by unfold bL nV;rw[c8,c8,fj]
theorem P9 {ds:Za4}{m i:Nat}(h:i<ds.length):(bL ds m)[i]?=some (.int (bS ds m (i:Int):Nat)):=by
 unfold bL nV;rw[dg,dg,ia h];rfl
theorem xO {ds:Za4}(h:Dok ds){k j v:Nat}(hk:j+(k+1)=ds.length)(hv:eld ds j=(v:Int)):(bL ds k).set v (.int ((bS ds k (v:Int):Nat)+(bS ds k (j:Int):Nat)+1:Int))=bL ds (k+1):=by
 refine jt λi=>?_;have hj:j<ds.length:=by lia
 have own:=oZ h hj;have he:=(Ax (ds:=ds) hj).1
 by_cases hi:i<ds.length
 ·have st:=R4 hj (i:Int)
  rw[show ds.length-j=k+1 by lia,show ds.length-(j+1)=k by lia] at st;rw[show ds.length-(j+1)=k by lia] at own;rw[List.getElem?_set,P9 (m:=k+1) hi]
  by_cases e:v=i
  ·subst e
   rw[if_pos rfl,if_pos (by rw[Nw];exact hi),st,if_pos hv];congr 2;lia
  ·rw[if_neg e,P9 (m:=k) hi,st,if_neg (by rw[hv];lia)]
   rfl
 ·rw[eg (by rw[AG,Nw];lia),eg (by rw[Nw];lia)]
theorem Aam {ds:Za4}{k j:Nat}(hk:j+(k+1)=ds.length)(hv:eld ds j<0):bL ds k=bL ds (k+1):=by
 refine jt λi=>?_
 by_cases hi:i<ds.length
 ·have st:=R4 (show j<ds.length by lia) (i:Int)
  rw[show ds.length-j=k+1 by lia,show ds.length-(j+1)=k by lia] at st;rw[P9 hi,P9 hi,st,if_neg (by lia)];rfl
 ·rw[eg (by rw[Nw];lia),eg (by rw[Nw];lia)]
theorem uJ (ds:Za4):bL ds 0=(dn ds.length (0:Int)).map V.int:=by
 refine jt λi=>?_
 by_cases hi:i<ds.length
 ·rw[P9 hi,dg,wq,if_pos hi]
  rfl
 ·rw[eg (by rw[Nw];lia),eg (by rw[c8,ii];lia)]
structure PlI (H:Hp) (D p1 p2:df) (rs:List df) (ds:Za4) (k:Nat) (H1:Hp):Prop where
 s:Aj H H1
 hD:H1 D=some (.lst (rs.map V.ref))
 hr:∀(i:Nat) r,rs[i]?=some r->r≠D/\r≠p1/\r≠p2/\H r=none/\H1 r=some (.lst (nV (As ds k i)))
 ht:H1 p1=some (.lst (nV (As ds k (-1))))
 hd:H1 p2=some (.lst (nV (ds.take k)))
theorem PlI.same {D p1 p2:df}{rs:List df}{ds:Za4}{k:Nat}(h:PlI H D p1 p2 rs ds k H1)(s2:Aj H1 H2):PlI H D p1 p2 rs ds k H2:=
 ⟨h.s.trans s2,s2 _ _ h.hD,λi r hr=>let ⟨a1,a2,a3,a4,a5⟩:=h.hr i r hr;⟨a1,a2,a3,a4,s2 _ _ a5⟩,s2 _ _ h.ht,s2 _ _ h.hd⟩
theorem zR {α:Type}{l:List α}(h:l.Nodup){i j:Nat}{x:α}(e1:l[i]?=some x)(e2:l[j]?=some x):i=j:=by
 have hi:=Bl e1;have hj:=Bl e2;rw[c7 hi] at e1;rw[c7 hj] at e2;rw[List.Nodup,vx] at h
 by_cases a:i<j
 ·exact absurd (by rw[de e1,de e2]) (h i j hi hj a)
 ·by_cases b:j<i
  ·exact absurd (by rw[de e1,de e2]) (h j i hj hi b)
  ·lia
theorem nI {lo:Int}{n:Nat}{fr:St}{Q:VK}(hz:n<=5000)
  (fin:∀D (rs:List df) H,H1 D=none->Aj H1 H->H D=some (.lst (rs.map V.ref))->rs.length=n->(∀r∈rs,r≠D/\H1 r=none/\H r=some (.lst []))->rs.Nodup->Q (.ref D) H):Xz (Itr lo n) H1 fr yC (xX T7) Q:=by
 intro D hD;refine⟨λi m H=>i<=n/\m=n-i/\Aj H1 H/\∃rs:List df,H D=some (.lst (rs.map V.ref))/\rs.length=i/\(∀r∈rs,r≠D/\H1 r=none/\H r=some (.lst []))/\rs.Nodup,⟨n,e9 _,rfl,An hD,[],Ac,rfl,(λr hr=>by cases hr),List.nodup_nil⟩,?_⟩;rintro i m H ⟨hi,rfl,sm,rs,hl2,hlen,hr,hnd⟩
 by_cases h:i=n
 ·exact .inl ⟨ll h.symm,fin D rs H hD sm hl2 (by lia) hr hnd⟩
 ·have hlt:i<n:=im hi h
  refine .inr ⟨hlt,λx H' hyl=>?_⟩;obtain rfl:H'=H:=hyl.1;refine⟨e9 _,λp hp=>⟨rs.map V.ref,?_,?_,n-(i+1),by lia,by lia,rfl,λb u e=>?_,rs++[p],?_,by rw[c9,hlen];rfl,λr hr2=>?_,?_⟩⟩
  ·rw[Ai (Af hl2 hp)]
   exact hl2
  ·rw[c8]
   exact Ah (by lia)
  ·rw[Ai (Af e hD),Ai (Af (sm _ _ e) hp)]
   exact sm _ _ e
  ·rw[Ac,dj]
   rfl
  ·have hpD:p≠D:=(Af hl2 hp).symm
   rcases ju.mp hr2 with h1|h1
   ·obtain⟨a1,a2,a3⟩:=hr r h1
    exact⟨a1,a2,by rw[Ai a1,Ai (Af a3 hp)];exact a3⟩
   ·obtain rfl:=ie.mp h1
    exact⟨hpD,sm.free hp,by rw[Ai hpD,Ac]⟩
  ·rw[List.nodup_append]
   refine⟨hnd,by simp,λx hx y hy=>?_⟩;rw[ie.mp hy];exact Af (hr x hx).2.2 hp
theorem Pr {ds:Za4}{k:Nat}(hk:k<ds.length):∃r,As ds ds.length (eld ds k)=As ds k (eld ds k)++k::r:=by
 have h1:∀d,k+1+d<=ds.length->∃r,As ds (k+1+d) (eld ds k)=As ds k (eld ds k)++k::r:=λd=>by
  induction d with
  |zero=>intro _;exact⟨[],by rw[iw,C3 rfl]⟩
  |succ d ih=>
   intro hd;obtain⟨r,hr⟩:=ih (by lia);rw[show k+1+(d+1)=k+1+d+1 by lia]
   by_cases e:eld ds (k+1+d)=eld ds k
   ·exact⟨r++[k+1+d],by rw[C3 e,hr,d9];rfl⟩
   ·exact⟨r,by rw[Gs e];exact hr⟩
 have:=h1 (ds.length-(k+1)) (by lia);rw[show k+1+(ds.length-(k+1))=ds.length by lia] at this;exact this
theorem Y8 {ds:Za4}{k:Nat}(hk:k<ds.length):((As ds ds.length (eld ds k)).map λn:Nat=>(n:Int))[(As ds k (eld ds k)).length]?=some (k:Int)/\∀i:Nat,i<(As ds k (eld ds k)).length->((As ds ds.length (eld ds k)).map λn:Nat=>(n:Int))[i]?≠some (k:Int):=by
 obtain⟨r,hr⟩:=Pr hk;rw[hr];refine⟨?_,λi hi e=>?_⟩
 ·rw[dg,di (db _),fv]
  rfl
 ·rw[dg,dv hi,c7 hi] at e
  have h1:=(Cm.mp (List.getElem_mem hi)).1;have h2:(((As ds k (eld ds k))[i]:Nat):Int)=(k:Int):=de e;lia
theorem pH {ds:Za4}(h:Dok ds){k:Nat}:(As ds ds.length (k:Int))[0]?=Sb ds k:=by
 cases e:Sb ds k with
 |none=>
  have:=Zn e;have:As ds ds.length (k:Int)=[]:=ua.mpr λj hj=>this j (Cm.mp hj).1 (Cm.mp hj).2;rw[this];rfl
 |some j=>
  obtain⟨rfl,h2,h3⟩:=Td h e;have hm:k+1∈As ds ds.length (k:Int):=Cm.mpr ⟨h2,h3⟩;have hl:=w8 hm;have ha:(As ds ds.length (k:Int))[0]?=some ((As ds ds.length (k:Int))[0]'hl):=c7 _;generalize (As ds ds.length (k:Int))[0]'hl=a at ha;obtain⟨b1,b2,b3⟩:=N7 ha;have:=Fx h b2
  by_cases c:k+1<a
  ·have:=nH c h3
   lia
  ·rw[ha]
   congr 1;lia
theorem rY {ds:Za4}(h:Dok ds){k:Nat}(hk:k<ds.length):(As ds ds.length (eld ds k))[(As ds k (eld ds k)).length+1]?=Dr ds k:=by
 cases e:Dr ds k with
 |none=>
  rw[gK h hk e];exact eg (by rw[c9];exact db _)
 |some j=>
  obtain⟨_,h2,h3⟩:=Ki e;obtain⟨r,hr⟩:=Pr h2;rw[<-(nZ h hk e).1,<-h3,hr,di (db _),fv];rfl
theorem lK {ks:Za4}{i:Nat}:∀{o:Option Nat},ks[i]?=o->i<=ks.length->(nV ks++[V.non])[i]?=some (Hl o)
 |some a,h,_=>by
  have:=Bl h;rw[dv (by rw[Ca];exact this)];unfold nV;rw[dg,h];rfl
 |none,h,h2=>by
  have:=List.getElem?_eq_none_iff.mp h;obtain rfl:i=ks.length:=by lia
  rw[di (by rw[Ca];exact db _),Ca,fv];rfl
theorem lA (ks r:Za4):(V.non::nV (ks++r))[ks.length]?=some (Hl ks.getLast?):=by
 rcases nj ks with rfl|⟨l,a,rfl⟩
 ·rfl
 ·rw[nq,List.getLast?_append,c9]
  show(nV (l++[a]++r))[l.length]?=_;unfold nV;rw[dg,d9,di (db _),fv];rfl
theorem sD {v:V}(h:xs[xs.length-1]?=some v):atI xs (-1)=some v:=by
 have hl:=Bl h;unfold atI ixN;rw[if_neg (by decide),if_pos (by lia)];show xs[((-1:Int)+(xs.length:Int)).toNat]?=_;rw[show((-1:Int)+(xs.length:Int)).toNat=xs.length-1 by lia];exact h
def eV (ds:Za4)(k:Nat):V:=if eld ds k<0 then .non else .int (eld ds k)
def gI (ds:Za4)(k:Nat):List V:=[eV ds k,Fh ds k,G3 ds k,Ld ds k,G8 ds k,.int ((As ds ds.length k).length:Nat),.int ((Cd ds k).length:Nat),.int (dAt ds k:Nat)]
def wR (H:Hp)(ds:Za4)(ts:List df):Prop:=∀(i:Nat) (t:df),ts[i]?=some t->H t=some (.tup (gI ds i))
inductive Ve(vs:List V)(H:Hp)(Q:VK)(E:XK):Prop|mk(a:df)(ds:Za4)(_:vs=[.ref a])(_:H a=some (.lst ((Bh ds).map V.int)))(_:Dok ds)(_:ds.length<=500)(_:∀p ts H',Aj H H'->H' p=some (.lst (ts.map V.ref))->ts.length=ds.length->wR H' ds ts->Q (.ref p) H')
include T in
theorem Tv (F:Fun K "_law_answers" "_law_answers" Gw f fd):Ba P w K mg base CX0 1 f fd ["_law_elders"] Ve:=by
 exists F.ok Bg
 obtain⟨a,ds,rfl,ha,hD,hn,q⟩:=h;have hle:((Bh ds).map V.int).length=ds.length:=by rw[c8,Au]
 refine⟨_,(Ab (tst 1 Bg.nd (Ar Aq (by rfl) T.cp B9 (tpa (pv 0) Aa))) (Ab (Me (i:=3) rfl P2 Bg.nd rfl rfl (Eo rfl T.cu (tpa (pv 1) Aa)) (λ_ _ _ _=>Ed) (λ_ _ _ _=>(Bo Aa))) (Ab (tst 4 Bg.nd (Bo Aa)) (Ab (tst 5 Bg.nd (Ak Aah (Bo (tpa Ag Aa)) (pv 1))) (Ab (tst 6 Bg.nd (Bo Aa)) (Ab (Dm f8 rfl (Eo rfl T.cu (tpa (pv 1) Aa)) (tgn 2 Bg.nd) (Ad (B2 (ttc Gc (tix Ap (pv 0) (pv 2)) Ag) (Ab (Bi (Cl dy et en Bm (pv 4) (tpa (pv 2) Aa))) (Ad (Bi (Cl dy et en Bm (pv 6) (tpa Ag Aa))))) (Ab (Bi (Cl dy et en Bm (tix Ap (pv 3) (tix Ap (pv 0) (pv 2))) (tpa (pv 2) Aa))) (Ad (Bi (Cl dy et en Bm (pv 6) (tpa (Ak Ay (tix Ap (pv 6) (tix Ap (pv 0) (pv 2))) Ag) Aa)))))))) (Ab (Dm f8 rfl (nR rfl T.cu (tpa (Ak B7 (pv 1) Ag) (tpa (Dg Cf Ag) (tpa (Dg Cf Ag) Aa)))) (tgn 2 Bg.nd) (Ad (B2 (ttc Oi (tix Ap (pv 0) (pv 2)) Ag) (Ad (zL (Ak Ay (Ak Ay (tix Ap (pv 5) (tix Ap (pv 0) (pv 2))) (tix Ap (pv 5) (pv 2))) Ag) (zB (pv 5) (tix Ap (pv 0) (pv 2)) qH)))
  Bf))) (Ab (tst 7 Bg.nd (Bo Aa)) (Ab (Dm f8 rfl (Eo rfl T.cu (tpa (pv 1) Aa)) (tgn 2 Bg.nd) (Ab (tst 8 Bg.nd (pv 4)) (Ab (Tu (ttc Oi (tix Ap (pv 0) (pv 2)) Ag) (Ad (tst 8 Bg.nd (tix Ap (pv 3) (tix Ap (pv 0) (pv 2)))))
  Bf) (Ab (tst 9 Bg.nd (Cl dy pz pw Tg (pv 8) (tpa (pv 2) Aa))) (Ab (tst 10 Bg.nd (Mn (tpa (tix Ap (Ak Ev (Ak Ev (Bo (tpa C9 Aa)) (tix Ap (pv 3) (pv 2))) (Bo (tpa C9 Aa))) Ag) (tpa (tix Ap (Ak Ev (Bo (tpa C9 Aa)) (tix Ap (pv 3) (pv 2))) (Dg Cf Ag)) Aa)))) (Ab (tst 11 Bg.nd (Mn (tpa (tix Ap (Ak Ev (Bo (tpa C9 Aa)) (pv 8)) (pv 9)) (tpa (tix Ap (Ak Ev (pv 8) (Bo (tpa C9 Aa))) (Ak Ay (pv 9) Ag)) Aa)))) (Ab (tst 12 Bg.nd (tix Ap (Bo (tpa (tix Ap (pv 0) (pv 2)) (tpa C9 Aa))) (Em Hr (by rfl) T.cA Ts (tpa (tpc Gc (tix Ap (pv 0) (pv 2)) Ag) Aa)))) (Ad (Bi (Cl dy et en Bm (pv 7) (tpa (Ak Ry (Ak Ry (Ak Ry (Mn (tpa (pv 12) Aa)) (pv 10)) (pv 11)) (Mn (tpa (Ar Aq (by rfl) T.cp B9 (tpa (tix Ap (pv 3) (pv 2)) Aa)) (tpa (tix Ap (pv 5) (pv 2)) (tpa (tix Ap (pv 6) (pv 2)) Aa))))) Aa))))))))))) (Ad (Am (pv 7)))))))))))),?_⟩
 apply⟨a,_,rfl,.inl (SqL.of ha),?_⟩;rw[hle];apply⟨_,rfl,by lia,by lia,?_⟩;rw[f9];refine nI (by lia) (λD rs H1 hDn s1 hD1 hrl hr1 hnd=>?_);apply⟨e9 _,λp1 hp1=>?_⟩;have u1:=An (o:=.lst []) hp1;have nD1:D≠p1:=Af hD1 hp1;have h1n:H p1=none:=s1.free hp1;have f1:=@Ac H1 p1 (.lst []);have s2:=s1.trans u1;have hD2:=u1 _ _ hD1;have hr2:∀r∈rs,r≠D/\r≠p1/\H r=none/\upd H1 p1 (.lst []) r=some (.lst []):=λr hr=>by
  obtain⟨a1,a2,a3⟩:=hr1 r hr;exact⟨a1,Af a3 hp1,a2,u1 _ _ a3⟩
 generalize upd H1 p1 _=H2 at *;apply⟨few (by simp),λp0 hp0=>?_⟩;obtain⟨u0,f0⟩:=Be (o:=.lst [V.int 0]) hp0;have s3:=s2.trans u0;have hD3:=u0 _ _ hD2;have f13:=u0 _ _ f1;have hr3:∀r∈rs,r≠D/\r≠p1/\H r=none/\upd H2 p0 (.lst [V.int 0]) r=some (.lst []):=λr hr=>let ⟨a1,a2,a3,a4⟩:=hr2 r hr;⟨a1,a2,a3,u0 _ _ a4⟩;generalize upd H2 p0 _=H3 at *;apply⟨p0,ds.length,_,rfl,rfl,f0,by lia,by lia,fb (Ah (by simp;lia)),λm hm=>?_⟩;rw[f9,mS,<-uJ] at *;obtain⟨u4,fm⟩:=Be (o:=.lst (bL ds 0)) hm;have hmn:H m=none:=s3.free hm;have nm1:p1≠m:=Af f13 hm;have nmr:∀r∈rs,r≠m:=λr hr=>Af (hr3 r hr).2.2.2 hm;have s4:=s3.trans u4;have hD4:=u4 _ _ hD3;have f14:=u4 _ _ f13;have hr4:∀r∈rs,r≠D/\r≠p1/\H r=none/\upd H3 m (.lst (bL ds 0)) r=some (.lst []):=λr hr=>let ⟨a1,a2,a3,a4⟩:=hr3 r hr;⟨a1,a2,a3,u4 _ _ a4⟩;generalize upd H3 m _=H4 at *;apply⟨e9 _,λp2 hp2=>?_⟩;have u5:=An (o:=.lst []) hp2;have n12:p1≠p2:=Af f14 hp2;have nD2:D≠p2:=Af hD4 hp2;have nm2:m≠p2:=Af fm hp2;have h2n:H p2=none:=s4.free hp2;have J0:PlI H D p1 p2 rs ds 0 (upd H4 p2 (.lst [])):=⟨s4.trans u5,u5 _ _ hD4,λi r hr=>let ⟨a1,a2,a3,a4⟩:=hr4 r (gw hr);⟨a1,a2,Af a4 hp2,a3,u5 _ _ a4⟩,u5 _ _ f14,Ac⟩;have fm5:=u5 _ _ fm;generalize upd H4 p2 (.lst [])=H5 at J0 fm5;apply⟨_,rfl,by lia,by lia,?_⟩;rw[f9];refine Fm (λk G H6=>(∃v2:Option V,G=[some (.ref a),some (.int (ds.length:Nat)),v2,some (.ref D),some (.ref p1),some (.ref m),some (.ref p2),none,none,none,none,none,none])/\PlI H D p1 p2 rs ds k H6/\H6 m=some (.lst (bL ds 0))) ⟨⟨_,rfl⟩,J0,fm5⟩ ?_ ?_
 ·rintro k G H6 hk ⟨⟨v2,rfl⟩,J6,hm6⟩
  rw[show(0+(k:Int))=(k:Int) by lia];have hej:atI ((Bh ds).map V.int) (k:Int)=some (.int (eld ds k)):=Bd (P6 (Cy hk));have ha6:=J6.s _ _ ha;have ht6:=J6.ht;have htl:=Kk ds k (-1);have hdl:(nV (ds.take k)).length=k:=by unfold nV;rw[c8,dh];lia
  apply Bb (SqL.of ha6) hej ?_;apply B0 (λhneg=>?_) (λhpos=>?_)
  ·have hd0:dAt ds k=0:=Ho hD hk (by have:=Ph hD hk;lia)
   have hem:eld ds k=-1:=by have:=Ph hD hk;lia
   apply⟨.inl ⟨rfl,_,SqL.of ht6⟩,?_⟩;apply Bs ht6 (by rw[Ca];exact Ah (by lia)) ?_;rw[show nV (As ds k (-1))++[V.int (k:Int)]=nV (As ds (k+1) (-1)) by rw[C3 hem];exact Yp _ [k]];k_is;have hp25:upd H6 p1 (.lst (nV (As ds (k+1) (-1)))) p2=some (.lst (nV (ds.take k))):=by rw[Ai n12.symm];exact J6.hd
   refine⟨.inl ⟨rfl,_,SqL.of hp25⟩,?_⟩;apply Bs hp25 (by rw[hdl];exact Ah (by lia)) ?_;apply⟨⟨_,rfl⟩,⟨Bw (Bw J6.s h1n) h2n,?_,λi r hr=>?_,by rw[Ai n12,Ac],?_⟩,by rw[Ai nm2,Ai nm1.symm];exact hm6⟩
   ·rw[Ai nD2,Ai nD1];exact J6.hD
   ·obtain⟨a1,a2,a3,a4,a5⟩:=J6.hr i r hr
    exact⟨a1,a2,a3,a4,by rw[Ai a3,Ai a2,Gs (by lia)];exact a5⟩
   ·rw[Ac,<-R9 hk,hd0];rfl
  ·obtain⟨v,hv,hvk,hdv⟩:=Cc hD hk (by lia)
   have hky:As ds (k+1) v=As ds k v++[k]:=C3 hv;have hkn:∀i:Int,i≠v->As ds (k+1) i=As ds k i:=λi hi=>Gs (by rw[hv];exact λe=>hi e.symm);have hrv:rs[v]?=some (rs[v]'(by lia)):=c7 _;generalize rs[v]'(by lia)=r at hrv;obtain⟨a1,a2,a3,a4,a5⟩:=J6.hr v r hrv;have hvl:=Kk ds k v;rw[hv] at hej;apply Bb (SqL.of ha6) hej ?_;apply Bb (SqL.of J6.hD) (v:=.ref r) (Bd (by rw[dg,hrv];rfl)) ?_;apply⟨.inl ⟨rfl,_,SqL.of a5⟩,?_⟩;apply Bs a5 (by rw[Ca];exact Ah (by lia)) ?_;rw[show nV (As ds k v)++[V.int (k:Int)]=nV (As ds (k+1) v) by rw[hky];exact Yp _ [k]];k_is;have hp25:upd H6 r (.lst (nV (As ds (k+1) v))) p2=some (.lst (nV (ds.take k))):=by rw[Ai a3.symm];exact J6.hd
   have ha7:upd H6 r (.lst (nV (As ds (k+1) v))) a=some (.lst ((Bh ds).map V.int)):=by rw[Ai (Af ha a4)];exact ha6
   refine⟨.inl ⟨rfl,_,SqL.of hp25⟩,?_⟩;apply Bb (SqL.of ha7) hej ?_;k_is;have hat:atI (nV (ds.take k)) (v:Int)=some (.int (dAt ds v:Nat)):=by
    refine Bd ?_;unfold nV;rw[dg,d7 hvk];unfold dAt eh;rw[c7 (by lia)];rfl
   refine Bb (SqL.of hp25) hat ?_;apply Bs hp25 (by rw[hdl];exact Ah (by lia)) ?_;apply⟨⟨_,rfl⟩,⟨Bw (Bw J6.s a4) h2n,?_,λi r' hr'=>?_,by rw[Ai n12,Ai a2.symm,hkn (-1) (by lia)];exact ht6,?_⟩,by rw[Ai nm2,Ai (nmr r (gw hrv)).symm];exact hm6⟩
   ·rw[Ai nD2,Ai a1.symm];exact J6.hD
   ·obtain⟨b1,b2,b3,b4,b5⟩:=J6.hr i r' hr'
    by_cases hrr:i=v
    ·subst hrr
     rw[hrv] at hr';obtain rfl:=de hr';exact⟨b1,b2,b3,b4,by rw[Ai b3,Ac]⟩
    ·refine⟨b1,b2,b3,b4,?_⟩
     rw[Ai b3,Ai (λe=>hrr (zR hnd hr' (by rw[e];exact hrv))),hkn i (by lia)];exact b5
   ·rw[Ac,<-R9 hk,hdv];rfl
 rintro G H6 ⟨⟨v2,rfl⟩,J6,hm6⟩;have hd6:=J6.hd;rw[d5 (db _)] at hd6;apply⟨(ds.length:Int)-1,-1,rfl,⟨by lia,by lia,by lia,by lia⟩,?_⟩;rw[show((ds.length:Int)-1 - -1).toNat=ds.length by lia];refine mR (λk G H7=>(∃v2:Option V,G=[some (.ref a),some (.int (ds.length:Nat)),v2,some (.ref D),some (.ref p1),some (.ref m),some (.ref p2),none,none,none,none,none,none])/\PlI H D p1 p2 rs ds ds.length H7/\H7 m=some (.lst (bL ds k))) ⟨⟨_,rfl⟩,J6,hm6⟩ ?_ ?_
 ·rintro k G H7 hk ⟨⟨v2,rfl⟩,J7,hm7⟩
  have ek:(ds.length:Int)-1+(k:Int)*(-1)=((ds.length-1-k:Nat):Int):=by lia
  rw[ek];have hj:ds.length-1-k<ds.length:=by lia
  have hjk:ds.length-1-k+(k+1)=ds.length:=by lia
  generalize ds.length-1-k=j at hj hjk;have haj:SqL K H7 a ((Bh ds).map V.int):=SqL.of (J7.s _ _ ha);have hej:atI ((Bh ds).map V.int) (j:Int)=some (.int (eld ds j)):=Bd (P6 (Cy hj));apply Bb haj hej ?_;apply B0 (λhge=>?_) (λhge=>?_)
  ·obtain⟨v,hv,hvk,_⟩:=Cc hD hj (by lia)
   have hbv:atI (bL ds k) (v:Int)=some (.int (bS ds k (v:Int):Nat)):=Bd (P9 (by lia));have hbj:atI (bL ds k) (j:Int)=some (.int (bS ds k (j:Int):Nat)):=Bd (P9 hj);apply Bb haj hej ?_;rw[hv];apply Bb (SqL.of hm7) hbv ?_;apply Bb (SqL.of hm7) hbj ?_;apply Bb haj hej ?_;apply xU (j:=v) hm7 (by rw[hv]) (by rw[Nw];lia) ?_;k_is;have nDm:D≠m:=λz=>by have:=hD3;rw[z,hm] at this;cases this
   refine⟨⟨_,rfl⟩,⟨Bw J7.s hmn,by rw[Ai nDm];exact J7.hD,λi r hr=>?_,by rw[Ai nm1];exact J7.ht,by rw[Ai nm2.symm];exact J7.hd⟩,?_⟩
   ·obtain⟨b1,b2,b3,b4,b5⟩:=J7.hr i r hr
    exact⟨b1,b2,b3,b4,by rw[Ai (nmr r (gw hr))];exact b5⟩
   ·rw[Ac,xO hD hjk hv]
  ·k_is
   exact⟨⟨_,rfl⟩,J7,by rw[<-Aam hjk (by lia)];exact hm7⟩
 rintro G H7 ⟨⟨v2,rfl⟩,J7,hm7⟩;have hd7:=J7.hd;rw[d5 (db _)] at hd7;apply⟨e9 _,λp3 hp3=>?_⟩;have J8:=J7.same (An (o:=.lst []) hp3);have hm8:=An (o:=.lst []) hp3 _ _ hm7;have h3n:H p3=none:=J7.s.free hp3;have h30:=@Ac H7 p3 (.lst []);have n3:∀b u,H7 b=some u->b≠p3:=λb u e=>Af e hp3;have c1:=n3 _ _ J7.hD;have c2:=n3 _ _ J7.ht;have c3:=n3 _ _ J7.hd;have c4:=n3 _ _ hm7;have c5:∀i r,rs[i]?=some r->r≠p3:=λi r e=>n3 _ _ (J7.hr i r e).2.2.2.2;generalize upd H7 p3 _=H8 at *;apply⟨_,rfl,by lia,by lia,?_⟩;rw[f9];refine Fm (λk G H9=>(∃v2 v8 v9 v10 v11 v12:Option V,G=[some (.ref a),some (.int (ds.length:Nat)),v2,some (.ref D),some (.ref p1),some (.ref m),some (.ref p2),some (.ref p3),v8,v9,v10,v11,v12])/\PlI H D p1 p2 rs ds ds.length H9/\H9 m=some (.lst (bL ds ds.length))/\∃ts:List df,H9 p3=some (.lst (ts.map V.ref))/\ts.length=k/\wR H9 ds ts) ⟨⟨_,_,_,_,_,_,rfl⟩,J8,hm8,[],h30,rfl,λi t e=>by cases e⟩ ?_ ?_
 ·rintro k G H9 hk ⟨⟨v2,v8,v9,v10,v11,v12,rfl⟩,J9,hm9,ts,ht9,htl,hat⟩
  rw[show(0+(k:Int))=(k:Int) by lia];have hej:atI ((Bh ds).map V.int) (k:Int)=some (.int (eld ds k)):=Bd (P6 (Cy hk));have ha9:=J9.s _ _ ha;apply Zs (λG H10=>(∃bs:df,G=[some (.ref a),some (.int (ds.length:Nat)),some (.int (k:Nat)),some (.ref D),some (.ref p1),some (.ref m),some (.ref p2),some (.ref p3),some (.ref bs),v9,v10,v11,v12]/\H10 bs=some (.lst (nV (As ds ds.length (eld ds k)))))/\H10=H9) ?_ ?_
  ·apply Bb (SqL.of ha9) hej ?_;apply B0 (λhge=>?_) (λhlt=>?_)
   ·obtain⟨v,hv,hvk,_⟩:=Cc hD hk (by lia)
    have hrv:rs[v]?=some (rs[v]'(by lia)):=c7 _;generalize rs[v]'(by lia)=r at hrv;apply Bb (SqL.of ha9) hej ?_;rw[hv];apply Bb (SqL.of J9.hD) (v:=.ref r) (Bd (by rw[dg,hrv];rfl)) ?_;k_is;exact⟨⟨r,rfl,by rw[(J9.hr v r hrv).2.2.2.2]⟩,rfl⟩
   ·have he:eld ds k=-1:=by have:=Ph hD hk;lia
    k_is;exact⟨⟨p1,rfl,by rw[he];exact J9.ht⟩,rfl⟩
  rintro G H10 ⟨⟨bs,rfl,hbs⟩,rfl⟩;obtain⟨ki1,ki2⟩:=Y8 hk;apply⟨.inl ⟨rfl,_,SqL.of hbs⟩,?_⟩;apply⟨bs,_,(k:Int),(As ds k (eld ds k)).length,rfl,rfl,by rw[<-tO];exact hbs,ki1,ki2,?_⟩;k_is;obtain⟨rk,hrk⟩:∃r,rs[k]?=some r:=⟨_,c7 (by lia)⟩;have hDk:atI (rs.map V.ref) (k:Int)=some (.ref rk):=Bd (by rw[dg,hrk];rfl);have hkd:=(J9.hr k rk hrk).2.2.2.2;have hkl:=Kk ds ds.length k;have hel:=Kk ds ds.length (eld ds k);have hil:=Kk ds k (eld ds k);obtain⟨rr,hcut⟩:=Pr hk;have S0:Aj H10 H10:=Aj.refl _;refine⟨few (by simp),λq1 hq1=>?_⟩;obtain⟨uq1,gq1⟩:=Be (o:=.lst [V.non]) hq1;have S1:=S0.trans uq1;generalize upd H10 q1 (.lst [V.non])=A1 at uq1 gq1 S1 ⊢;apply Bb (SqL.of (S1 _ _ J9.hD)) hDk ?_;apply⟨q1,rk,_,_,rfl,rfl,gq1,S1 _ _ hkd,few (by simp[Ca];lia),λq2 hq2=>?_⟩;obtain⟨uq2,gq2⟩:=Be (o:=.lst ([V.non]++nV (As ds ds.length k))) hq2;have S2:=S1.trans uq2;generalize upd A1 q2 (.lst ([V.non]++nV (As ds ds.length k)))=A2 at uq2 gq2 S2 ⊢;apply⟨few (by simp),λq3 hq3=>?_⟩;obtain⟨uq3,gq3⟩:=Be (o:=.lst [V.non]) hq3;have S3:=S2.trans uq3;have gq2:=uq3 _ _ gq2;generalize upd A2 q3 (.lst [V.non])=A3 at uq3 gq3 S3 gq2 ⊢;apply⟨q2,q3,_,_,rfl,rfl,gq2,gq3,few (by simp[Ca];lia),λq4 hq4=>?_⟩;obtain⟨uq4,gq4⟩:=Be (o:=.lst ([V.non]++nV (As ds ds.length k)++[V.non])) hq4;have S4:=S3.trans uq4;generalize upd A3 q4 (.lst ([V.non]++nV (As ds ds.length k)++[V.non]))=A4 at uq4 gq4 S4 ⊢;apply Bb (SqL.of gq4) (v:=Fh ds k) (Bd (j:=1) (lK (pH hD) (e9 _))) ?_;apply⟨few (by simp),λq5 hq5=>?_⟩;obtain⟨uq5,gq5⟩:=Be (o:=.lst [V.non]) hq5;have S5:=S4.trans uq5;generalize upd A4 q5 (.lst [V.non])=A5 at uq5 gq5 S5 ⊢;apply Bb (SqL.of (S5 _ _ J9.hD)) hDk ?_;apply⟨q5,rk,_,_,rfl,rfl,gq5,S5 _ _ hkd,few (by simp[Ca];lia),λq6 hq6=>?_⟩;obtain⟨uq6,gq6⟩:=Be (o:=.lst ([V.non]++nV (As ds ds.length k))) hq6;have S6:=S5.trans uq6;generalize upd A5 q6 (.lst ([V.non]++nV (As ds ds.length k)))=A6 at uq6 gq6 S6 ⊢;apply Bb (SqL.of gq6) (v:=G3 ds k) (sD ?_) ?_
  ·have:=lA (As ds ds.length k) []
   rw[iz] at this;rw[c9,Ca,qk];exact this
  apply⟨few (by simp),λq7 hq7=>?_⟩;obtain⟨uq7,gq7⟩:=Be (o:=.tup [Fh ds k,G3 ds k]) hq7;have S7:=S6.trans uq7;generalize upd A6 q7 (.tup [Fh ds k,G3 ds k])=A7 at uq7 gq7 S7 ⊢;apply⟨few (by simp),λq8 hq8=>?_⟩;obtain⟨uq8,gq8⟩:=Be (o:=.lst [V.non]) hq8;have S8:=S7.trans uq8;have gq7:=uq8 _ _ gq7;generalize upd A7 q8 (.lst [V.non])=A8 at uq8 gq8 S8 gq7 ⊢;apply⟨q8,bs,_,_,rfl,rfl,gq8,S8 _ _ hbs,few (by simp[Ca];lia),λq9 hq9=>?_⟩;obtain⟨uq9,gq9⟩:=Be (o:=.lst ([V.non]++nV (As ds ds.length (eld ds k)))) hq9;have S9:=S8.trans uq9;have gq7:=uq9 _ _ gq7;generalize upd A8 q9 (.lst ([V.non]++nV (As ds ds.length (eld ds k))))=A9 at uq9 gq9 S9 gq7 ⊢;apply Bb (SqL.of gq9) (v:=Ld ds k) (Bd (by rw[hcut];exact lA _ _)) ?_;apply⟨few (by simp),λq10 hq10=>?_⟩;obtain⟨uq10,gq10⟩:=Be (o:=.lst [V.non]) hq10;have S10:=S9.trans uq10;have gq7:=uq10 _ _ gq7;generalize upd A9 q10 (.lst [V.non])=A10 at uq10 gq10 S10 gq7 ⊢;apply⟨bs,q10,_,_,rfl,rfl,S10 _ _ hbs,gq10,few (by simp[Ca];lia),λq11 hq11=>?_⟩;obtain⟨uq11,gq11⟩:=Be (o:=.lst (nV (As ds ds.length (eld ds k))++[V.non])) hq11;have S11:=S10.trans uq11;have gq7:=uq11 _ _ gq7;generalize upd A10 q11 (.lst (nV (As ds ds.length (eld ds k))++[V.non]))=A11 at uq11 gq11 S11 gq7 ⊢;apply Bb (SqL.of gq11) (v:=G8 ds k) (Bd (j:=(As ds k (eld ds k)).length+1) (lK (rY hD hk) (by rw[hcut,c9,d8];lia))) ?_;apply⟨few (by simp),λq12 hq12=>?_⟩;obtain⟨uq12,gq12⟩:=Be (o:=.tup [Ld ds k,G8 ds k]) hq12;have S12:=S11.trans uq12;have gq7:=uq12 _ _ gq7;generalize upd A11 q12 (.tup [Ld ds k,G8 ds k])=A12 at uq12 gq12 S12 gq7 ⊢;apply Bb (SqL.of (S12 _ _ ha9)) hej ?_;apply⟨few (by simp),λq13 hq13=>?_⟩;obtain⟨uq13,gq13⟩:=Be (o:=.lst [V.int (eld ds k),V.non]) hq13;have S13:=S12.trans uq13;have gq7:=uq13 _ _ gq7;have gq12:=uq13 _ _ gq12;generalize upd A12 q13 (.lst [V.int (eld ds k),V.non])=A13 at uq13 gq13 S13 gq7 gq12 ⊢;apply Bb (SqL.of (S13 _ _ ha9)) hej ?_;apply .inr ⟨_,rfl,?_⟩;have hev:atI [V.int (eld ds k),V.non] (if decide (eld ds k<0)=true then 1 else 0)=some (eV ds k):=by
   unfold eV
   by_cases z:eld ds k<0
   ·rw[if_pos z,if_pos (decide_eq_true z)];rfl
   ·rw[if_neg z,if_neg (by rw[decide_eq_true_iff];exact z)];rfl
  refine Bb (SqL.of gq13) hev ?_;apply⟨.inl ⟨rfl,_,SqL.of (S13 _ _ ht9)⟩,?_⟩;apply⟨few (by simp),λq14 hq14=>?_⟩;obtain⟨uq14,gq14⟩:=Be (o:=.tup [eV ds k]) hq14;have S14:=S13.trans uq14;have gq7:=uq14 _ _ gq7;have gq12:=uq14 _ _ gq12;generalize upd A13 q14 (.tup [eV ds k])=A14 at uq14 gq14 S14 gq7 gq12 ⊢;apply⟨q14,q7,_,_,rfl,rfl,SqT.of gq14,SqT.of gq7,(by simp),few (by simp),(λz=>absurd z (by simp)),λ_ q15 hq15=>?_⟩;obtain⟨uq15,gq15⟩:=Be (o:=.tup ([eV ds k]++[Fh ds k,G3 ds k])) hq15;have S15:=S14.trans uq15;have gq12:=uq15 _ _ gq12;generalize upd A14 q15 (.tup ([eV ds k]++[Fh ds k,G3 ds k]))=A15 at uq15 gq15 S15 gq12 ⊢;apply⟨q15,q12,_,_,rfl,rfl,SqT.of gq15,SqT.of gq12,(by simp),few (by simp),(λz=>absurd z (by simp)),λ_ q16 hq16=>?_⟩;obtain⟨uq16,gq16⟩:=Be (o:=.tup ([eV ds k]++[Fh ds k,G3 ds k]++[Ld ds k,G8 ds k])) hq16;have S16:=S15.trans uq16;generalize upd A15 q16 (.tup ([eV ds k]++[Fh ds k,G3 ds k]++[Ld ds k,G8 ds k]))=A16 at uq16 gq16 S16 ⊢;apply Bb (SqL.of (S16 _ _ J9.hD)) hDk ?_;apply⟨rk,_,rfl,.inl (SqL.of (S16 _ _ hkd)),?_⟩;rw[Ca];apply Bb (SqL.of (S16 _ _ hm9)) (v:=.int (bS ds ds.length (k:Int):Nat)) (Bd (P9 hk)) ?_;rw[zI hD hk,<-Dh];apply Bb (SqL.of (S16 _ _ J9.hd)) (v:=.int (dAt ds k:Nat)) (Bd ?_) ?_
  ·rw[d5 (db _)]
   unfold nV dAt eh;rw[dg,c7 hk];rfl
  apply⟨few (by simp),λq17 hq17=>?_⟩;obtain⟨uq17,gq17⟩:=Be (o:=.tup [.int ((As ds ds.length k).length:Nat),.int ((Cd ds k).length:Nat),.int (dAt ds k:Nat)]) hq17;have S17:=S16.trans uq17;have gq16:=uq17 _ _ gq16;generalize upd A16 q17 (.tup [.int ((As ds ds.length k).length:Nat),.int ((Cd ds k).length:Nat),.int (dAt ds k:Nat)])=A17 at uq17 gq17 S17 gq16 ⊢;apply⟨q16,q17,_,_,rfl,rfl,SqT.of gq16,SqT.of gq17,(by simp),few (by simp),(λz=>absurd z (by simp)),λ_ q18 hq18=>?_⟩;rw[show[eV ds k]++[Fh ds k,G3 ds k]++[Ld ds k,G8 ds k]++[V.int ((As ds ds.length k).length:Nat),V.int ((Cd ds k).length:Nat),V.int (dAt ds k:Nat)]=gI ds k from rfl];obtain⟨uq18,gq18⟩:=Be (o:=.tup (gI ds k)) hq18;have S18:=S17.trans uq18;generalize upd A17 q18 (.tup (gI ds k))=A18 at uq18 gq18 S18 ⊢;apply Bs (S18 _ _ ht9) (by rw[c8];exact Ah (by lia)) ?_;k_is;have hk18:=S18;have n18:q18≠p3:=λz=>by rw[z,S18 _ _ ht9] at gq18;cases gq18
  refine⟨⟨_,_,_,_,_,_,rfl⟩,?_,by rw[Ai c4];exact S18 _ _ hm9,ts++[q18],by rw[Ac,dj];rfl,by rw[c9,htl];rfl,λi t e=>?_⟩
  ·have J10:=J9.same S18
   exact⟨Bw J10.s h3n,by rw[Ai c1];exact J10.hD,λi r hr=>let ⟨a1,a2,a3,a4,a5⟩:=J10.hr i r hr;⟨a1,a2,a3,a4,by rw[Ai (c5 i r hr)];exact a5⟩,by rw[Ai c2];exact J10.ht,by rw[Ai c3];exact J10.hd⟩
  ·by_cases hi:i<ts.length
   ·rw[dv hi] at e
    have:=hat i t e;rw[Ai (λz=>by rw[z,ht9] at this;cases this)];exact S18 _ _ this
   ·have:=Bl e
    rw[c9,ig] at this;obtain rfl:i=k:=by lia
    rw[<-htl,di (db _),fv] at e;obtain rfl:q18=t:=de e;rw[Ai n18];exact gq18
 rintro G H9 ⟨⟨v2,v8,v9,v10,v11,v12,rfl⟩,J9,hm9,ts,ht9,htl,hat⟩;k_is;exact q p3 ts H9 J9.s ht9 htl hat
inductive pO (C CR CS:df)(ts:List Tb)(vs:List V)(H:Hp)(Q:VK)(E:XK):Prop|mk(x:df)(ls:List (Za5))(ds:Za4)(k:Nat)(_:vs=[.ref x,.int k])(_:Bz C CR CS H x ls)(_:Tbs ts H)(_:Dok ds)(_:ls.flatten=Av ds)(_:k<ds.length)(_:∀p H',SmT ts H H'->H' p=some (.tup (gI ds k))->Q (.ref p) H')
include T ag aY aF in
theorem eU (F:Fun K "_law_told" "_law_told" Nr f fd)(bQ:Mth P w K mg base ad "elder" 14 ["self","k"] (Z1 ac aa ad ts))(bR:Mth P w K mg base ad "first" 7 ["self","k"] (Rh Fh ac aa ad ts))(bT:Mth P w K mg base ad "last" 13 ["self","k"] (Rh G3 ac aa ad ts))(bU:Mth P w K mg base ad "left" 13 ["self","k"] (Rh Ld ac aa ad ts))(bV:Mth P w K mg base ad "right" 13 ["self","k"] (Rh G8 ac aa ad ts))(bW:Mth P w K mg base ad "beneath" 13 ["self","k"] (Sv ac aa ad ts)):Ba P w K mg base CX0 15 f fd ["_law_wood_here","_law_k"] (pO ac aa ad ts):=by
 exists F.ok Ra
 obtain⟨x,ls,ds,k,rfl,hS,hT,hD,hrow,hk,q⟩:=h;obtain⟨dx,r,e,hx,hR⟩:=id hS;refine⟨_,(Ab (tst 2 Ra.nd (Mn (tpa (At bQ hr.m (pv 0) (tpa (pv 1) Aa)) (tpa (At bR hr.m (pv 0) (tpa (pv 1) Aa)) (tpa (At bT hr.m (pv 0) (tpa (pv 1) Aa)) (tpa (At bU hr.m (pv 0) (tpa (pv 1) Aa)) (tpa (At bV hr.m (pv 0) (tpa (pv 1) Aa)) Aa))))))) (Ad (Am (Ak Ry (pv 2) (Mn (tpa (At aF hr.m (pv 0) (tpa (pv 1) Aa)) (tpa (At bW hr.m (pv 0) (tpa (pv 1) Aa)) (tpa (At aY hr.m (pv 0) (tpa (pv 1) Aa)) Aa)))))))),?_⟩
 have s0:SmT ts H H:=SmT.refl hT;apply⟨x,dx,_,rfl,s0.k hx,rfl,?_⟩;apply⟨x,ls,ds,k,rfl,hS.kp s0.kp,s0.ok,hD,hrow,hk,λH1 t1=>?_⟩;have s1:=s0.trans t1;rw[show(if eld ds k<0 then V.non else V.int (eld ds k))=eV ds k from rfl];apply⟨x,dx,_,rfl,s1.k hx,rfl,?_⟩;apply⟨x,ls,ds,k,rfl,hS.kp s1.kp,s1.ok,hD,hrow,hk,λH2 t2=>?_⟩;have s2:=s1.trans t2;apply⟨x,dx,_,rfl,s2.k hx,rfl,?_⟩;apply⟨x,ls,ds,k,rfl,hS.kp s2.kp,s2.ok,hD,hrow,hk,λH3 t3=>?_⟩;have s3:=s2.trans t3;apply⟨x,dx,_,rfl,s3.k hx,rfl,?_⟩;apply⟨x,ls,ds,k,rfl,hS.kp s3.kp,s3.ok,hD,hrow,hk,λH4 t4=>?_⟩;have s4:=s3.trans t4;apply⟨x,dx,_,rfl,s4.k hx,rfl,?_⟩;apply⟨x,ls,ds,k,rfl,hS.kp s4.kp,s4.ok,hD,hrow,hk,λH5 t5=>?_⟩;have s5:=s4.trans t5;apply⟨few (by simp),λq1 hq1=>?_⟩;obtain⟨u1,g1⟩:=Be (o:=.tup [eV ds k,Fh ds k,G3 ds k,Ld ds k,G8 ds k]) hq1;have s6:=s5.then u1;generalize upd H5 q1 (.tup [eV ds k,Fh ds k,G3 ds k,Ld ds k,G8 ds k])=H6 at g1 s6 ⊢;apply⟨x,dx,_,rfl,s6.k hx,rfl,?_⟩;apply⟨x,ls,ds,k,rfl,hS.kp s6.kp,s6.ok,hD,hrow,hk,λH7 t7=>?_⟩;have s7:=s6.trans t7;have g1:=t7.k g1;apply⟨x,dx,_,rfl,s7.k hx,rfl,?_⟩;apply⟨x,ls,ds,k,rfl,hS.kp s7.kp,s7.ok,hD,hrow,hk,λH8 t8=>?_⟩;have s8:=s7.trans t8;have g1:=t8.k g1;apply⟨x,dx,_,rfl,s8.k hx,rfl,?_⟩;apply⟨x,ls,ds,k,rfl,hS.kp s8.kp,s8.ok,hD,hrow,hk,λH9 t9=>?_⟩;have s9:=s8.trans t9;have g1:=t9.k g1;apply⟨few (by simp),λq2 hq2=>?_⟩;obtain⟨u2,g2⟩:=Be (o:=.tup [.int ((As ds ds.length k).length:Nat),.int ((Cd ds k).length:Nat),.int (dAt ds k:Nat)]) hq2;have s10:=s9.then u2;have g1:=u2 _ _ g1;generalize upd H9 q2 (.tup [.int ((As ds ds.length k).length:Nat),.int ((Cd ds k).length:Nat),.int (dAt ds k:Nat)])=H10 at g1 g2 s10 ⊢;apply⟨q1,q2,_,_,rfl,rfl,SqT.of g1,SqT.of g2,(by simp),few (by simp),(λz=>absurd z (by simp)),λ_ q3 hq3=>?_⟩;k_is;exact q q3 _ (s10.then (An hq3)) Ac
theorem qV (o:Option Nat):Ec (Hl o)=true:=by cases o<;>rfl
theorem sP (ds:Za4)(k:Nat):(gI ds k).all Ec=true:=by
 unfold gI Fh G3 Ld G8 eV;simp only[rm,List.all_nil,qV,Bool.and_true,BG]
 by_cases z:eld ds k<0
 ·rw[if_pos z];rfl
 ·rw[if_neg z];rfl
theorem Z3 (ds:Za4):eqL ((Bh ds).map V.int) []=decide (ds.length=0):=by
 unfold eqL;rw[c8,Au]
 by_cases z:ds.length=0
 ·rw[z];rfl
 ·show(decide (ds.length=0)&&_)=_
  rw[decide_eq_false z];rfl
inductive lC (C CR CS:df)(ts:List Tb)(vs:List V)(H:Hp)(Q:VK)(E:XK):Prop|mk(x a:df)(ls:List (Za5))(ds:Za4)(n:Int)(_:vs=[.ref x,.ref a,.int n])(_:Bz C CR CS H x ls)(_:Tbs ts H)(_:Dok ds)(_:ls.flatten=Av ds)(_:H a=some (.lst ((Bh ds).map V.int)))(_:ds.length<=500)(_:∀H',SmT ts H H'->Q (.bl true) H')
variable (bf:Mth P w K mg base ad "elders" 8 ["self"] (Vy ac aa ad ts))
include T ag aU aE bf in
theorem dA (F:Fun K "_law_same" "_law_same" Nl f fd)(bX:Cal P w K mg base "_law_row" 1 ["_law_elders"] wY)(bY:Cal P w K mg base "_law_answers" 1 ["_law_elders"] Ve)(bp:Mth P w K mg base ad "nth" 14 ["self","k","i"] (rG ac aa ad ts))(bZ:Cal P w K mg base "_law_told" 15 ["_law_wood_here","_law_k"] (pO ac aa ad ts)):Ba P w K mg base CX0 16 f fd ["_law_wood_here","_law_elders","_law_number"] (lC ac aa ad ts):=by
 exists F.ok L6
 obtain⟨x,a,ls,ds,n,rfl,hS,hT,hD,hrow,ha,hn,q⟩:=h;obtain⟨dx,r,e,hx,hR⟩:=id hS;refine⟨_,(Ab (B2 (PW.pt (Om (ttc (sB (eX hr)) (G6 bf hr.m (pv 0)) (pv 1)) (Om (ttc dB (G6 aU hr.m (pv 0)) (Bn bX hr.m (tpa (pv 1) Aa))) (Px (ttc dB (G6 aE hr.m (pv 0)) (Ar Aq (by rfl) T.cp B9 (tpa (pv 1) Aa))))))) (Ad (Am Tw))
  Bf) (Ab (B2 (ttc (xZ (eX hr)) (pv 1) (Bo Aa)) (Ad (Am Tw))
  Bf) (Ab (tst 3 L6.nd (Ak Ey (pv 2) (Ar Aq (by rfl) T.cp B9 (tpa (pv 1) Aa)))) (Ab (tst 4 L6.nd (tix Ap (Bn bY hr.m (tpa (pv 1) Aa)) (pv 3))) (Ab (Tu (PW.pt (Ls (ttc Jr (tix Mp (pv 4) Ag) Ag) (Iu (ttc dB (At bp hr.m (pv 0) (tpa (pv 3) (tpa (Ak B7 (tix Mp (pv 4) Ag) Ag) Aa))) (tix Mp (pv 4) Ag))))) (Ad (Am Tw))
  Bf) (Ad (Am (Uj (tpc (qM (eX hr)) (Bn bZ hr.m (tpa (pv 0) (tpa (pv 3) Aa))) (pv 4)) (T6 (fE (Sz (At bp hr.m (pv 0) (tpa (pv 3) (tpa (tix Mp (pv 4) Ag) Aa)))))))))))))),?_⟩
 have hv:Vs 0 ls.flatten:=by rw[hrow];exact Xn hD
 have hl2:ls.flatten.length=2*ds.length:=by rw[hrow,Bq hD]
 apply⟨x,dx,_,rfl,hx,rfl,?_⟩;apply⟨x,ls,rfl,hS,hT,hv,by lia,λp1 ds1 H1 s1 _ h1 hD1 hr1=>?_⟩;obtain rfl:ds1=ds:=Tj hD1 hD (hr1.trans hrow);apply⟨p1,a,rfl,rfl,Cq.lsts (SqL.of h1) (SqL.of (s1.k ha)) (Cr _),?_⟩;apply⟨x,dx,_,rfl,s1.k hx,rfl,?_⟩;apply⟨x,ls,rfl,hS.kp s1.kp,s1.ok,λH2 t2=>?_⟩;have s2:=s1.trans t2;apply⟨a,ds1,rfl,s2.k ha,hD,by lia,λH3 u3=>?_⟩;have s3:=s2.then u3;rw[<-hrow];apply nY (λh=>absurd rfl h) (λ_=>?_);apply⟨x,dx,_,rfl,s3.k hx,rfl,?_⟩;apply⟨x,ls,rfl,hS.kp s3.kp,?_⟩;rw[hl2,kz _ (by decide)];apply⟨a,_,rfl,.inl (SqL.of (s3.k ha)),?_⟩;rw[c8,Au];apply nY (λh=>absurd rfl h) (λ_=>?_);apply⟨e9 _,λp4 h4=>?_⟩;obtain⟨u4,g4⟩:=Be (o:=.lst []) h4;have s4:=s3.then u4;generalize upd H3 p4 (.lst [])=H4 at g4 s4 ⊢;apply⟨a,p4,_,_,rfl,rfl,SqL.of (s4.k ha),SqL.of g4,Cr _,rfl,?_⟩;k_is
 by_cases hz:ds1.length=0
 ·rw[if_pos (by rw[Z3,decide_eq_true hz];rfl)]
  k_is;exact q _ s4
 ·rw[if_neg (by rw[Z3,decide_eq_false hz];decide)]
  apply⟨a,_,rfl,.inl (SqL.of (s4.k ha)),?_⟩;rw[c8,Au];apply⟨_,_,rfl,rfl,(by show(0:Int)<_;lia),?_⟩;obtain⟨k,hkn,hk⟩:∃k:Nat,n%(ds1.length:Int)=(k:Int)/\k<ds1.length:=by
   have h1:=lp n (show(ds1.length:Int)≠0 by lia);have h2:=j6 n (show(0:Int)<ds1.length by lia);exact⟨(n%(ds1.length:Int)).toNat,by lia,by lia⟩
  dsimp only;rw[hkn];apply⟨a,ds1,rfl,s4.k ha,hD,hn,λp5 ans H5 u5 h5 hal hat=>?_⟩;have s5:=s4.then u5;obtain⟨t5,ht5⟩:∃t,ans[k]?=some t:=⟨_,c7 (by lia)⟩;have hd5:=hat k t5 ht5;apply Bb (SqL.of h5) (v:=.ref t5) (Bd (by rw[dg,ht5];rfl)) ?_;apply Zs (λG H6=>G=[some (.ref x),some (.ref a),some (.int n),some (.int (k:Nat)),some (.ref t5)]/\SmT ts H5 H6) ?_ ?_
  ·apply Of (SqT.of hd5) (v:=.int ((As ds1 ds1.length k).length:Nat)) rfl ?_;apply B0 (λhp=>?_) (λ_=>?_)
   ·apply⟨x,dx,_,rfl,s5.k hx,rfl,?_⟩;apply Of (SqT.of hd5) (v:=.int ((As ds1 ds1.length k).length:Nat)) rfl ?_;k_is;rw[show(((As ds1 ds1.length k).length:Nat):Int)-1=(((As ds1 ds1.length k).length-1:Nat):Int) by lia];refine⟨x,ls,ds1,k,_,rfl,hS.kp s5.kp,s5.ok,hD,hrow,hk,λH6 t6=>?_⟩;apply Of (SqT.of (t6.k hd5)) (v:=G3 ds1 k) rfl ?_;obtain⟨j,hj⟩:∃j,(As ds1 ds1.length k)[(As ds1 ds1.length k).length-1]?=some j:=⟨_,c7 (by lia)⟩;rw[show G3 ds1 k=V.int (j:Nat) by unfold G3;rw[vz,hj];rfl,hj];apply nY (λh=>absurd rfl h) (λ_=>?_);k_is;exact⟨rfl,t6⟩
   ·k_is
    exact⟨rfl,SmT.refl s5.ok⟩
  ·rintro G H6 ⟨rfl,t6⟩
   have s6:=s5.trans t6;apply⟨x,ls,ds1,k,rfl,hS.kp s6.kp,s6.ok,hD,hrow,hk,λp7 H7 t7 h7=>?_⟩;have s7:=s6.trans t7;apply⟨p7,t5,rfl,rfl,Cq.tups (SqT.of h7) (SqT.of (t7.k (t6.k hd5))) (sP _ _),?_⟩;apply⟨x,dx,_,rfl,s7.k hx,rfl,?_⟩;apply Of (SqT.of (t7.k (t6.k hd5))) (v:=.int ((As ds1 ds1.length k).length:Nat)) rfl ?_;apply⟨x,ls,ds1,k,_,rfl,hS.kp s7.kp,s7.ok,hD,hrow,hk,λH8 t8=>?_⟩;rw[eg (db _)];exact q H8 (s7.trans t8)
inductive wP(vs:List V)(H:Hp)(Q:VK)(E:XK):Prop|mk(c:Int)(_:vs=[.int c])(_:∀d:Int,Q (.int d) H)
include T aI in
theorem fS (F:Fun K "_law_own" "_law_own" O4 f fd):Ba P w K mg base CX0 2 f fd ["_law_cell"] wP:=by
 exists F.ok K3
 obtain⟨c,rfl,q⟩:=h;refine⟨_,(Ab (tst 1 K3.nd (Ar Sh (by rfl) T.cR sA (tpa (pv 0) Aa))) (Ab (B2 (ttc Gc (pv 1) (Ak sV Ag Ag)) (Ad (Dm f8 rfl (Eo rfl T.cu (tpa Ag Aa)) (tgn 2 K3.nd) (Ad (tst 1 K3.nd (Ak Ay (Ak Hd (pv 1) Ag) (Bn aI hr.m (tpa (pv 0) (tpa (Ak Ay Ag (pv 2)) Aa))))))))
  Bf) (Ad (Am (pv 1))))),?_⟩
 apply⟨_,rfl,?_⟩;apply⟨10,18,rfl,rfl,⟨by decide,by decide,by decide⟩,?_⟩;apply B0 (λ_=>?_) (λ_=>?_)
 ·apply⟨12,rfl,by decide,by decide,?_⟩;refine Fm (λi G H1=>(∃(d:Int) (v:Option V),G=[some (.int c),some (.int d),v])/\H1=H) ⟨⟨_,_,rfl⟩,rfl⟩ ?_ ?_
  ·rintro i G H1 hi ⟨⟨d,v,rfl⟩,rfl⟩
   have hi:i<12:=hi;apply⟨c,_,rfl,by lia,by lia,λr _ _=>?_⟩;k_is;exact⟨⟨_,_,rfl⟩,rfl⟩
  ·rintro G H1 ⟨⟨d,v,rfl⟩,rfl⟩
   k_is;exact q d
 ·k_is
  exact q _
inductive kO(vs:List V)(H:Hp)(Q:VK)(E:XK):Prop|mk(c:Int)(_:vs=[.int c])(_:∀p (es:Za4) H',Aj H H'->H p=none->H' p=some (.lst ((Bh es).map V.int))->Dok es->es.length<=20->Q (.ref p) H')
variable (bh:Cal P w K mg base "_law_wood" 1 ["_law_digits_here"] pN)
include T bh in
theorem Ps (F:Fun K "_law_by_number" "_law_by_number" He f fd):Ba P w K mg base CX0 2 f fd ["_law_left"] kO:=by
 exists F.ok En
 obtain⟨c,rfl,q⟩:=h;refine⟨_,(Ab (tst 1 En.nd (Bo Aa)) (Ab (Dm f8 rfl (Eo rfl T.cu (tpa (Ak Ey (pv 0) Ag) Aa)) (tgn 2 En.nd) (Ab (tst 0 En.nd (Ak F3 (pv 0) Ag)) (Ad (Bi (Cl dy et en Bm (pv 1) (tpa (Ak Ey (pv 0) Ag) Aa)))))) (Ad (Am (Bn bh hr.m (tpa (pv 1) Aa)))))),?_⟩
 apply⟨e9 _,λp hp=>?_⟩;obtain⟨u1,h1⟩:=Be (o:=.lst []) hp;generalize upd H p _=H1 at *;apply⟨_,rfl,by lia,by lia,?_⟩;refine Fm (λi G H2=>(∃(l:Int) (v:Option V) (gs:List Int),G=[some (.int l),some (.ref p),v]/\H2 p=some (.lst (gs.map V.int))/\gs.length=i)/\Aj H H2) ⟨⟨_,_,[],rfl,h1,rfl⟩,u1⟩ ?_ ?_
 ·rintro i G H2 hi ⟨⟨l,v,gs,rfl,h2,hg⟩,s2⟩
  apply⟨.inl ⟨rfl,_,SqL.of h2⟩,?_⟩;apply Bs h2 (by rw[c8];exact Ah (by lia)) ?_;apply⟨⟨_,_,gs++[l/64%64],rfl,by rw[Ac,dj];rfl,by rw[c9,hg];rfl⟩,λb u e=>?_⟩;rw[Ai (Af e hp)];exact s2 _ _ e
 ·rintro G H2 ⟨⟨l,v,gs,rfl,h2,hg⟩,s2⟩
  apply⟨p,gs,rfl,h2,by lia,λp3 ds H3 s3 hp3 h3 hD hdl=>?_⟩;exact q p3 ds H3 (s2.trans s3) (s2.free hp3) h3 hD (by lia)
theorem lX {k:Nat}{m:Str}{apos:Pos}{o:gd}{ta:TE}{E:XK}{G:St}(M:sW X.prog X.w X.K X.mg X.base C m k ps sp)(hr:Ck k X.A)(hx:gS (CXE X.prog X.w) X pins G E)(ho:PE X o ta)
  (ht:autoParam (eval (.Call (.Attribute o m apos) [] [] pos) X.env=(do
   let ov <-eval o X.env
   standAt apos.atName
   let (f,first) <-holding [ov] (getMethod ov m pl)
   callWith pos f first (backTo pos (starEach [] X.env)) (backToKw pos (keywordEach [] X.env)))) QD) :
  Abu X pins G (.Call (.Attribute o m apos) [] [] pos) (P8 C m sp [] E ta T7):=by
 obtain⟨f,fd,F,b,hm⟩:=M.ex;intro s H Q I h;refine mw (pl:=pl) (thE ho I h λu s1 x H1 I1 rx ⟨a,dx,fs,ex,ea,l,q⟩=>?_) ht;subst ex;obtain rfl:u=ik a:=rx;refine Ke I1 ea M.cl hm l ?_;exact wx (first:=[.ref a]) I1.kIn hm.kp (yO (us:=[.ref a]) (vs:=[.ref a]) F hr b hx I1 (.cons rfl .nil) q)
inductive Sw (C CR CS:df)(vs:List V)(H:Hp)(Q:VK)(E:XK):Prop|mk(x e:df)(ls:List (Za5))(_:vs=[.ref x])(_:B6 C CR CS H x e ls [])(_:∀H',Aj H H'->Q (.bl true) H')
variable (aK:sW P w K mg base ad "take_back" 4 ["self"] (iX ac aa ad ah))
include T ag aK in
theorem Oy (F:Fun K "_law_none_left" "_law_none_left" Hf f fd):Ba P w K mg base CX0 5 f fd ["_law_wood_here"] (Sw ac aa ad):=by
 exists F.ok Ka
 obtain⟨x,e,ls,rfl,hS,q⟩:=h;obtain⟨dx,r,hx,_⟩:=id hS.hx;refine⟨_,(Ab (yD (i:=1) rfl rfl rfl Ka.nd rfl rfl rfl T.cV (λE pins G=>(iG (gW (lX aK hr.m mC (pv 0))))) (λe=>(Ad (Am (Ar (Up K) (by rfl) T.cJ F5 (tpa (pv 1) (tpa (Ol (v:=.ty "ValueError") rfl T.cZ X8 rfl) Aa))))))) (Ad (Am Tw))),?_⟩
 apply⟨λC od H'=>H'=H/\od=none/\C=.ref ah,?_,?_⟩
 ·apply⟨x,dx,_,rfl,hx,rfl,?_⟩;k_is;exact⟨x,e,ls,[],rfl,hS,λ_=>⟨rfl,rfl,rfl⟩,λms prs H1 h=>by cases prs<;>cases h⟩
 ·rintro C od H' e2 ⟨rfl,rfl,hc⟩ he
  obtain rfl:C=ah:=yq hc;refine⟨T.cF,?_⟩;apply⟨e2,C,none,_,_,_,rfl,Ac,T.cX,rfl,T.cE.1,?_⟩;k_is;exact q _ (An he)
theorem uU {l:Za5}{k:Nat}{x:Za5}(h2:2<=pcM l.length)(hx:(pcs l)[k]?=some x):64<=x.length:=by
 have hk:=Bl hx;rw[E9] at hk;rw[Pu hk] at hx;obtain rfl:=de hx;rw[Mi hk];have hm:0<pcM l.length:=by lia
 have h3:64*pcM l.length<=l.length:=by unfold pcM at h2 ⊢;lia
 have h4:k*l.length+64*pcM l.length<=(k+1)*l.length:=by rw[yi,DZ];lia
 have:=ou (c:=pcM l.length) h4;rw[qq _ _ hm] at this;show 64<=(k+1)*l.length/pcM l.length-k*l.length/pcM l.length;lia
theorem Gb.app {A B:List (Za5)}(hA:Gb A)(hB:Gb B)(hj:∀x y,A[A.length-1]?=some x->B[0]?=some y->64<x.length+y.length):Gb (A++B):=λk x y h1 h2=>by
 by_cases hk:k+1<A.length
 ·rw[dv (by lia)] at h1 h2
  exact hA k x y h1 h2
 ·by_cases hk2:k+1=A.length
  ·rw[dv (by lia),show k=A.length-1 by lia] at h1
   rw[di (by lia),show k+1-A.length=0 by lia] at h2;exact hj x y h1 h2
  ·rw[di (by lia)] at h1 h2
   rw[show k+1-A.length=k-A.length+1 by lia] at h2;exact hB _ x y h1 h2
theorem Gb.take {A:List (Za5)}(hA:Gb A)(n:Nat):Gb (A.take n):=λk x y h1 h2=>by
 have hk:=Bl h2;rw[dh] at hk;rw[d7 (by lia)] at h1 h2;exact hA k x y h1 h2
theorem Gb.drop {A:List (Za5)}(hA:Gb A)(n:Nat):Gb (A.drop n):=λk x y h1 h2=>by
 rw[jb] at h1 h2;exact hA _ x y h1 h2
theorem Zu:∀(n:Nat) (ls:List (Za5)),ls.length<=n->Gb ls->65*(ls.length/2)<=ls.flatten.length
 |_,[],_,_=>by simp
 |_,[x],_,_=>by simp
 |0,x::y::r,h,_=>by simp at h
 |n+1,x::y::r,h,hw=>by
  have ih:=Zu n r (by simp at h;lia) λk a b h1 h2=>hw (k+2) a b h1 h2;have h0:=hw 0 x y rfl rfl;rw[il,il,c9,c9,d8,d8];lia
theorem qU {ls:List (Za5)}{lo hi f b:Nat}{t:Za5}(hl:lo<=hi)(hh:hi<=ls.flatten.length)(h3:bgn ls f<=lo)(h4:hi<=bgn ls b):(Fp ls lo hi t f b).length=(lo-bgn ls f)+t.length+(bgn ls b-hi):=by
 have:=fA ls b;unfold Fp;simp only[c9,dh,fh];lia
theorem eP {ls:List (Za5)}(hZ:Fk ls)(hW:Gb ls){lo hi f b:Nat}{t:Za5}(hN:Xo ls lo hi t.length f b)(hl:lo<=hi)(hh:hi<=ls.flatten.length):Gb (F8 ls lo hi t f b):=by
 obtain⟨m1,m2,m3,m4⟩:=hN.ok;have hms:=qU (t:=t) hl hh m3 m4;obtain⟨f0,b0,h1,h2,h3,h4,h5,h6,h7⟩:=hN;have one:∀(k:Nat) (y:Za5),(pcs (Fp ls lo hi t f b))[k]?=some y->64<=y.length\/y.length=(Fp ls lo hi t f b).length:=λk y hy=>by
  have hk:=Bl hy;rw[E9] at hk
  by_cases hp:2<=pcM (Fp ls lo hi t f b).length
  ·exact .inl (uU hp hy)
  ·refine .inr ?_
   have e1:pcM (Fp ls lo hi t f b).length=1:=by lia
   have e2:=E9 (Fp ls lo hi t f b);rw[e1] at e2;obtain rfl:k=0:=by lia
   have e3:=Uk (Fp ls lo hi t f b);generalize pcs (Fp ls lo hi t f b)=M at *
   match M,e2 with
   |[z],_=>
    obtain rfl:z=y:=de hy;rw[<-e3];simp
 have pc1:∀(j:Nat) (y:Za5),ls[j]?=some y->0<y.length:=λj y hy=>(hZ j y hy).1;have hM0:(Fp ls lo hi t f b).length=0->f=0:=λhz=>by
  rcases h7 with⟨rfl,rfl,h8⟩|⟨rfl,rfl,h8⟩
  ·lia
  ·by_cases hf:f0-1=0
   ·exact hf
   ·exfalso
    have:=gR hZ (show f0-1<f0 by lia) h1;lia
 unfold F8;refine Gb.app (Gb.app (hW.take f) (dX _) λx y hx hy=>?_) (hW.drop b) λx y hx hy=>?_
 ·have hf:0<f:=by
   have:=Bl hx;rw[dh] at this;lia
  rw[dh,gn m1,d7 (by lia)] at hx;have hx1:=pc1 _ _ hx;rcases one 0 y hy with h8|h8
  ·lia
  ·rcases h7 with⟨rfl,rfl,h9⟩|⟨rfl,rfl,h9⟩
   ·lia
   ·have e1:ls[f0-1]?=some (ls[f0-1]'(by lia)):=c7 _
    have e2:=Eg e1;rw[show f0-1+1=f0 by lia] at e2;have:=hW (f0-1-1) x _ hx (by rw[show f0-1-1+1=f0-1 by lia];exact e1);lia
 ·rw[jb,iw] at hy
  have hbl:=Bl hy;have hy1:=pc1 _ _ hy
  by_cases hM:(Fp ls lo hi t f b).length=0
  ·have hf:=hM0 hM
   have e0:pcs (Fp ls lo hi t f b)=[]:=gp (by rw[E9];unfold pcM;lia);rw[e0,hf] at hx;cases hx
  ·have hp:0<(pcs (Fp ls lo hi t f b)).length:=by rw[E9];unfold pcM;lia
   rw[c9,di (by lia),show(ls.take f).length+(pcs (Fp ls lo hi t f b)).length-1-(ls.take f).length=(pcs (Fp ls lo hi t f b)).length-1 by lia] at hx;rcases one _ x hx with h8|h8
   ·lia
   ·rcases h7 with⟨rfl,rfl,h9⟩|⟨rfl,rfl,h9⟩
    ·lia
    ·have eb:min (b0+1) ls.length=b0+1:=by lia
     rw[eb] at hy hms h8;have e1:ls[b0]?=some (ls[b0]'(by lia)):=c7 _;have e2:=Eg e1;have:=hW b0 _ y e1 hy;lia
theorem vS {ds:Za4}{k:Nat}(hk:k<ds.length):(X6 ds k).length<=ds.length:=by
 have:=Ax (ds:=ds) hk;unfold X6;rw[c9,dh,fh];lia
theorem iF {ds es:Za4}(a off:Nat):(Km ds es a off).length=ds.length+es.length:=by
 unfold Km;rw[c9,c9,c8,dh,fh];lia
def gE (ds:Za4):Option HO:=some (.lst ((Bh ds).map V.int))
def gh (x e pa kl:df)(H:Hp):Hp:=hide x (hide e (hide kl (hide pa H)))
theorem Gv {x e:df}(k:Kp H H'):Kp (gh x e pa kl H) (gh x e pa kl H'):=Bk (Bk (Bk (Bk k)))
theorem rT {x e:df}{o:HO}:gh x e pa kl (upd H pa o)=gh x e pa kl H:=by
 unfold gh;rw[Ij]
theorem wH {o:HO}:hide kl (hide pa (upd H kl o))=hide kl (hide pa H):=by
 rw[Dx,Ij,Dx]
theorem Ace {x e:df}{o:HO}:gh x e pa kl (upd H kl o)=gh x e pa kl H:=by
 unfold gh;rw[wH]
theorem Xc {x e b:df}{u:HO}(h:gh x e pa kl H b=some u):b≠x/\b≠e/\b≠kl/\b≠pa/\H b=some u:=by
 obtain⟨h1,h⟩:=Co h;obtain⟨h2,h⟩:=Co h;obtain⟨h3,h4,h⟩:=Cz h;exact⟨h1,h2,h3,h4,h⟩
theorem Sm {x e b:df}{u:HO}(h1:b≠x)(h2:b≠e)(h3:b≠kl)(h4:b≠pa)(h:H b=some u):gh x e pa kl H b=some u:=by
 unfold gh;rw[A0 h1,A0 h2,A0 h3,A0 h4];exact h
theorem eW {x e:df}(s:SmE ts x e H H'):Kp (gh x e pa kl H) (gh x e pa kl H'):=λb u n h=>by
 obtain⟨h1,h2,h3,h4,h⟩:=Xc h;exact Sm h1 h2 h3 h4 (s.keep b u h1 h2 n h)
theorem G4 {G G':Hp}{Ds:List (Za4)}(h:as.map G=Ds.map gE)(k:Kp G G'):as.map G'=Ds.map gE:=by
 rw[<-h];refine i5 λa ha=>?_;have h1:G a∈as.map G:=l6 ha;rw[h] at h1;obtain⟨ds,_,e⟩:=lh.mp h1;rw[<-e];exact k a _ (by intro ps z;cases z) e.symm
theorem Lm {α β:Type}{f:α->β}{l:List α}{xs:List β}{y:β}(h:l.map f=xs++[y]):∃l0 a,l=l0++[a]/\l0.map f=xs/\f a=y:=by
 obtain⟨l0,l1,rfl,h1,h2⟩:=List.map_eq_append_iff.mp h;obtain⟨a,rfl,h3⟩:=List.map_eq_singleton_iff.mp h2;exact⟨l0,a,rfl,h1,h3⟩
theorem Fv {α β γ:Type}{f:α->β}{g:γ->β}{l:List α}{m:List γ}{a:α}{c:γ}(h:l.map f=m.map g)(e:f a=g c):(l++[a]).map f=(m++[c]).map g:=by
 rw[dj,dj,h,yw,yw,e]
theorem fZ {CR x e:df}{ls ls':List (Za5)}{prs prs':List (List (Za5))}{za zb zc:List V}(A:∀c zs,c≠e->H c=some (.lst zs)->B6 C CR CS (hide c H) x e ls prs->B6 C CR CS (hide c H') x e ls' prs')(np:kl≠pa)(hpa:H pa=some (.lst za))(hkl:H kl=some (.lst zb))(hkl':H' kl=some (.lst zc))(h:B6 C CR CS (hide kl (hide pa H)) x e ls prs):B6 C CR CS (hide kl (hide pa H')) x e ls' prs':=by
 obtain⟨ps,he,_⟩:=id h.he;obtain⟨n1,n2,_⟩:=Cz he;exact B6.both np.symm hkl' (A pa za n2.symm hpa (h.kp Cp)) (A kl zb n1.symm hkl (by rw[Dx] at h;exact h.kp Cp))
structure Dd (C CR CS:df) (ts:List Tb) (x e pa kl:df) (H:Hp) (ls:List (Za5)) (prs:List (List (Za5))) (ds:Za4) (D0 Ks:List (Za4)):Prop where
 sh:B6 C CR CS (hide kl (hide pa H)) x e ls prs
 fl:prs.map si=D0.map Av
 fl1:ls.flatten=Av ds
 wd:∀l∈prs,Gb l
 wd1:Gb ls
 dk:∀d∈D0,Dok d/\d.length<=150
 dk1:Dok ds/\ds.length<=150
 kk:∀d∈Ks,Dok d/\d.length<=150
 np:kl≠pa
 hp:∃as:List df,H pa=some (.lst (as.map V.ref))/\as.map (gh x e pa kl H)=(D0++[ds]).map gE
 hk:∃bs:List df,H kl=some (.lst (bs.map V.ref))/\bs.map (gh x e pa kl H)=Ks.map gE
 nk:∃K0 k,Ks=K0++[k]
 tb:Tbs ts H
theorem Dd.sm {CR x e:df}{ls:List (Za5)}{prs:List (List (Za5))}{ds:Za4}{D0 Ks:List (Za4)}(h:Dd C CR CS ts x e pa kl H ls prs ds D0 Ks)(s:SmT ts H H'):Dd C CR CS ts x e pa kl H' ls prs ds D0 Ks:=
 let ⟨as,h1,h2⟩:=h.hp
 let ⟨bs,h3,h4⟩:=h.hk
 { h with sh:=h.sh.kp (Bk (Bk s.kp)),hp:=⟨as,s.k h1,G4 h2 (Gv s.kp)⟩,hk:=⟨bs,s.k h3,G4 h4 (Gv s.kp)⟩,tb:=s.ok }
theorem N5 {p:df}:as.map V.ref++[V.ref p]=(as++[p]).map V.ref:=by
 rw[dj];rfl
theorem Vl {a:df}:((as++[a]).map V.ref)[((as++[a]).map V.ref).length-1]?=some (.ref a):=by
 rw[dj,c9,di (by simp)];simp
theorem W2 {a:df}:((as++[a]).map V.ref).dropLast=as.map V.ref:=by
 rw[dj];exact xz
theorem Dd.back {CR x e:df}{ls ms:List (Za5)}{p0:List (List (Za5))}{ds:Za4}{D0 Ks:List (Za4)}(hd:Dd C CR CS ts x e pa kl H ls (p0++[ms]) ds D0 Ks):∃(as:List df) (a:df) (D1:List (Za4)) (d1:Za4),D0=D1++[d1]/\H pa=some (.lst ((as++[a]).map V.ref))/\B6 C CR CS (upd H pa (.lst (as.map V.ref))) x e ls (p0++[ms])/\Tbs ts (upd H pa (.lst (as.map V.ref)))/\∀H2,SmE ts x e (upd H pa (.lst (as.map V.ref))) H2->(∀c zs,c≠e->upd H pa (.lst (as.map V.ref)) c=some (.lst zs)->B6 C CR CS (hide c (upd H pa (.lst (as.map V.ref)))) x e ls (p0++[ms])->B6 C CR CS (hide c H2) x e ms p0)->Dd C CR CS ts x e pa kl H2 ms p0 d1 D1 Ks/\Kp (gh x e pa kl H) (gh x e pa kl H2):=by
 obtain⟨as,hpa,eas⟩:=hd.hp;obtain⟨bs,hkl,ebs⟩:=hd.hk;have hf0:=hd.fl.symm;rw[dj] at eas hf0;obtain⟨as,a,rfl,eas,ea⟩:=Lm eas;obtain⟨D1,d1,rfl,hf1,hf2⟩:=Lm hf0;obtain⟨dx,r,hx,_⟩:=id hd.sh.hx;obtain⟨hxk,hxp,hx⟩:=Cz hx;obtain⟨ps2,he2,_⟩:=id hd.sh.he;obtain⟨hek,hep,_⟩:=Cz he2;have hpa1:=@Ac H pa (.lst (as.map V.ref));have hkl1:upd H pa (.lst (as.map V.ref)) kl=_:=(Ai hd.np).trans hkl;have hT1:Tbs ts (upd H pa (.lst (as.map V.ref))):=hd.tb.keepN hpa;have g1:gh x e pa kl (upd H pa (.lst (as.map V.ref)))=gh x e pa kl H:=rT;have q1:B6 C CR CS (hide kl (hide pa (upd H pa (.lst (as.map V.ref))))) x e ls (p0++[ms]):=by rw[Ij];exact hd.sh
 refine⟨as,a,D1,d1,rfl,hpa,(q1.kp Cp).kp Cp,hT1,λH2 s2 a2=>?_⟩;have k2:Kp (gh x e pa kl H) (gh x e pa kl H2):=by rw[<-g1];exact eW s2
 have hkl2:=s2.k hkl1 hxk.symm hek.symm;have hmd:∀{α:Type} {l:List α} {y:α},y∈l++[y]:=fe _ (wo _);exact⟨⟨fZ a2 hd.np hpa1 hkl1 hkl2 q1,hf1.symm,hf2.symm,λl hl=>hd.wd l (om _ hl),hd.wd ms hmd,λd hl=>hd.dk d (om _ hl),hd.dk d1 hmd,hd.kk,hd.np,⟨as,s2.k hpa1 hxp.symm hep.symm,G4 eas k2⟩,⟨bs,hkl2,G4 ebs k2⟩,hd.nk,s2.ok⟩,k2⟩
theorem Lw {α:Type}{P:α->Prop}{xs:List α}{y:α}(h:∀l∈xs,P l)(h1:P y):∀l∈xs++[y],P l:=λl hl=>(ju.mp hl).elim (h l) λhm=>by
 rw[ie.mp hm];exact h1
inductive qX (C CR CS:df)(ts:List Tb)(vs:List V)(H:Hp)(Q:VK)(E:XK):Prop|mk(x e pa kl:df)(ls:List (Za5))(prs:List (List (Za5)))(ds:Za4)(D0 Ks:List (Za4))(n:Int)(_:vs=[.ref x,.ref pa,.ref kl,.int n])(_:Dd C CR CS ts x e pa kl H ls prs ds D0 Ks)(_:prs.length<=100)(_:Ks.length<=100)(_:∀ls' prs' ds' D' Ks' H',Dd C CR CS ts x e pa kl H' ls' prs' ds' D' Ks'->prs'.length<=prs.length+1->Ks'.length<=Ks.length+1->Kp (gh x e pa kl H) (gh x e pa kl H')->Q (.bl true) H')
variable (bi:Cal P w K mg base "_law_none_left" 5 ["_law_wood_here"] (Sw ac aa ad))
include T ag aK bi in
theorem eI (F:Fun K "_law_deed" "_law_deed" K9 f fd)(b8:Cal P w K mg base "_law_part" 2 ["_law_elders","_law_k"] rR)(b9:Cal P w K mg base "_law_without" 2 ["_law_elders","_law_k"] Wy)(ce:Mth P w K mg base ad "cut" 13 ["self","k"] (pZ ac aa ad ts))(cf:Cal P w K mg base "_law_by_number" 2 ["_law_left"] kO)(cg:Cal P w K mg base "_law_with" 3 ["_law_elders","_law_k","_law_place","_law_wood_here"] rK)(ci:Mth P w K mg base ad "graft" 14 ["self","k","place","elders"] (dD ac aa ad ts)):Ba P w K mg base CX0 15 f fd ["_law_wood_here","_law_past","_law_kept","_law_number"] (qX ac aa ad ts):=by
 exists F.ok Cj
 obtain⟨x,e,pa,kl,ls,prs,ds,D0,Ks,n,rfl,hd,hpr,hkn,q⟩:=h;obtain⟨as,hpa,eas⟩:=hd.hp;obtain⟨bs,hkl,ebs⟩:=hd.hk;obtain⟨K0,kt,rfl⟩:=hd.nk;rw[dj] at eas ebs;obtain⟨as,a,rfl,eas,ea⟩:=Lm eas;obtain⟨bs,b,rfl,ebs,eb⟩:=Lm ebs;obtain⟨hax,hae,hakl,hapa,ha⟩:=Xc ea;obtain⟨hbx,hbe,hbkl,hbpa,hb⟩:=Xc eb;have hal:=congrArg jg eas;have hbl:=congrArg jg ebs;have hfl:=congrArg jg hd.fl;simp only[c8] at hal hbl hfl;have hS:B6 ac aa ad H x e ls prs:=(hd.sh.kp Cp).kp Cp;obtain⟨dx,r,hx,hR⟩:=id hS.hx;obtain⟨ps,he,_⟩:=id hS.he;obtain⟨ps2,he2,_⟩:=id hd.sh.he;obtain⟨hek,hep,_⟩:=Cz he2;obtain⟨_,_,_,_,_,_,_,hW,_⟩:=id hR;have hsz:=hW.sz;obtain⟨hD,hdl⟩:=hd.dk1;have hrl:=Bq hD;have hfl2:ls.flatten.length=2*ds.length:=by rw[hd.fl1,hrl]
 have hwl:=Zu _ ls (db _) hd.wd1;have hl100:ls.length<=100:=by lia
 have hpax:pa≠x:=Jy hpa hx (by intro z;cases z);have hklx:kl≠x:=Jy hkl hx (by intro z;cases z);refine⟨_,(Ab (tst 4 Cj.nd (tix Ap (pv 1) (Dg Cf Ag))) (Ab (tst 5 Cj.nd (Ak Ey (pv 3) Ag)) (Ab (tst 6 Cj.nd (Ak F3 (pv 3) Ag)) (Ab (B2 (ttc Et (pv 5) Ag) (Ab (B2 (ttc Et (Ar Aq (by rfl) T.cp B9 (tpa (pv 1) Aa)) Ag) (Ad (Am (Bn bi hr.m (tpa (pv 0) Aa))))
  Bf) (Ab (Bi (Pk dy jz jy Pp (pv 1))) (Ad (Am (fE (Sz (jL aK hr.m tH (pv 0))))))))
  Bf) (Ab (Tu (PW.pt (Ls (ttc Et (pv 5) Ag) (Iu (ttc (sH (eX hr)) (pv 4) (Bo Aa))))) (Ab (Nf (i:=7) Cj.nd rfl (sg rfl) (Ak Ey (pv 6) (Ar Aq (by rfl) T.cp B9 (tpa (pv 4) Aa)))) (Ab (Bi (Cl dy et en Bm (pv 2) (tpa (Bn b8 hr.m (tpa (pv 4) (tpa (pv 7) Aa))) Aa))) (Ab (Bi (Cl dy et en Bm (pv 1) (tpa (Bn b9 hr.m (tpa (pv 4) (tpa (pv 7) Aa))) Aa))) (Ad (Am (tpc (qM (eX hr)) (At ce hr.m (pv 0) (tpa (pv 7) Aa)) (tix Ap (pv 2) (Dg Cf Ag))))))))
  Bf) (Ab (Nf (i:=7) Cj.nd rfl (sg rfl) (Ak B7 (Ak Ey (pv 6) (Ak Ay (Ar Aq (by rfl) T.cp B9 (tpa (pv 4) Aa)) Ag)) Ag)) (Ab (tst 6 Cj.nd (Ak F3 (pv 6) (Ak Ay (Ar Aq (by rfl) T.cp B9 (tpa (pv 4) Aa)) Ag))) (Ab (tst 8 Cj.nd (Ak Ey (pv 6) (Ak Ay (Ar Aq (by rfl) T.cp B9 (tpa (P4 rfl Uu (Do (pv 4)) (λ_ _ _ _=>N8 (ttc Et (pv 0) (pv 1))) (λ_ _ _ _=>(pv 0))) Aa)) Ag))) (Ab (tst 9 Cj.nd (Bn cf hr.m (tpa (Ak F3 (pv 6) Ag) Aa))) (Ab (Tu (ttc Et (pv 5) Ag) (Ad (tst 9 Cj.nd (tix Ap (pv 2) (Dg Cf Ag))))
  Bf) (Ab (B2 (ttc Jr (Ak Ay (Ar Aq (by rfl) T.cp B9 (tpa (pv 4) Aa)) (Ar Aq (by rfl) T.cp B9 (tpa (pv 9) Aa))) Ag) (Ad (Am Tw))
  Bf) (Ab (Bi (Cl dy et en Bm (pv 1) (tpa (Bn cg hr.m (tpa (pv 4) (tpa (pv 7) (tpa (pv 8) (tpa (pv 9) Aa))))) Aa))) (Ad (Am (fE (Sz (At ci hr.m (pv 0) (tpa (tix Ap (Bo (tpa (pv 7) (tpa C9 Aa))) (Em Hr (by rfl) T.cA Ts (tpa (tpc Gc (pv 7) Ag) Aa))) (tpa (pv 8) (tpa (Em Ky (by rfl) T.cG Si (tpa (pv 9) Aa)) Aa)))))))))))))))))))),?_⟩
 apply Bb (SqL.of hpa) (v:=.ref a) (by rw[dj];exact F1 _ _) ?_;apply B0 (λhw=>?_) (λhw=>?_)
 ·apply⟨pa,_,rfl,.inl (SqL.of hpa),?_⟩;k_is;rw[c8,c9];refine B0 (λh1=>?_) (λh1=>?_)
  ·have h1:=V.int.inj h1
   simp only[d8,f6] at h1;obtain rfl:prs=[]:=gp (by lia);apply⟨x,e,ls,rfl,hS,λH1 s1=>?_⟩;exact q _ _ _ _ _ H1 (hd.sm (SmT.of hd.tb s1)) (ot _) (ot _) (Gv (Aj.kp s1))
  ·obtain⟨p0,ms,rfl⟩:∃p0 ms,prs=p0++[ms]:=by
    rcases nj prs with rfl|⟨p0,ms,rfl⟩
    ·exact absurd (congrArg V.int (show((as.length+[a].length:Nat):Int)=1 by simp only[d8,f6] at hfl ⊢;lia)) h1
    ·exact⟨p0,ms,nq⟩
   obtain⟨as,a,D1,d1,rfl,hpa,hS1,hT1,hB⟩:=hd.back;apply⟨.inl ⟨rfl,_,SqL.of hpa⟩,?_⟩;apply⟨pa,_,.ref a,rfl,rfl,hpa,Vl,?_⟩;rw[W2];generalize upd H pa _=H1 at *;obtain⟨dx,r,hx1,_⟩:=id hS1.hx;apply⟨x,dx,_,rfl,hx1,rfl,?_⟩;apply⟨x,e,ls,p0++[ms],rfl,hS1,λz=>absurd z (by simp),λms' prs' H2 hz hS2 s2 a2=>?_⟩;obtain⟨rfl,hm⟩:=zt hz rfl;obtain rfl:ms=ms':=(j8 hm).1;obtain⟨hd2,k2⟩:=hB H2 (s2 ts hT1) a2;k_is;exact q ms p0 d1 D1 _ H2 hd2 (by rw[c9];lia) (ot _) k2
 ·apply Zs (λG H'=>G=[some (.ref x),some (.ref pa),some (.ref kl),some (.int n),some (.ref a),some (.int (n%4)),some (.int (n/4)),none,none,none]/\Aj H H') ?_ ?_
  ·apply B0 (λhw1=>?_) (λhw1=>?_)
   ·apply⟨e9 _,λz1 hz1=>?_⟩;have u1:=An (o:=.lst []) hz1;apply wG (ns:=Bh ds) (ms:=[]) (SqL.of (u1 _ _ ha)) (SqL.of Ac) ?_;generalize upd H z1 _=H1 at *
    by_cases hd0:ds.length=0
    ·have e0:Bh ds=[]:=gp (by rw[Au];exact hd0)
     rw[decide_eq_true e0];k_is;exact⟨rfl,u1⟩
    ·rw[decide_eq_false (λz=>hd0 (by rw[<-Au,z];rfl))]
     apply⟨a,_,rfl,.inl (SqL.of (u1 _ _ ha)),?_⟩;rw[c8,Au];apply⟨_,_,rfl,rfl,by lia,?_⟩;obtain⟨k,hk,hkd⟩:∃k:Nat,n/4%(ds.length:Int)=(k:Int)/\k<ds.length:=by
      have h1:=lp (n/4) (show(ds.length:Int)≠0 by lia);have h2:=j6 (n/4) (show(0:Int)<ds.length by lia);exact⟨(n/4%(ds.length:Int)).toNat,by lia,by lia⟩
     k_is;rw[hk];refine⟨.inl ⟨rfl,_,SqL.of (u1 _ _ hkl)⟩,?_⟩;apply⟨a,ds,k,rfl,u1 _ _ ha,hD,hkd,by lia,λp2 H2 u2 hp20 hp2=>?_⟩;have w2:=u1.trans u2;have hp2H:=u1.free hp20;have hkl2:=w2 _ _ hkl;apply Bs hkl2 (Ah (by rw[c8,c9,ig];rw[c9,ig] at hkn;lia)) ?_;have hkl3:upd H2 kl (.lst ((bs++[b]).map V.ref++[V.ref p2])) kl=some (.lst ((bs++[b]++[p2]).map V.ref)):=by rw[Ac,N5]
     have kp3:∀c u,c≠kl->H2 c=some u->upd H2 kl (.lst ((bs++[b]).map V.ref++[V.ref p2])) c=some u:=λc u hc h=>(Ai hc).trans h;have hT3:Tbs ts (upd H2 kl (.lst ((bs++[b]).map V.ref++[V.ref p2]))):=(hd.tb.same w2).keepN hkl2;have g3:gh x e pa kl (upd H2 kl (.lst ((bs++[b]).map V.ref++[V.ref p2])))=gh x e pa kl H2:=Ace;have q3:B6 ac aa ad (hide kl (hide pa (upd H2 kl (.lst ((bs++[b]).map V.ref++[V.ref p2]))))) x e ls prs:=by rw[wH];exact hd.sh.kp (Bk (Bk (Aj.kp w2)))
     have fr3:∀c,upd H2 kl (.lst ((bs++[b]).map V.ref++[V.ref p2])) c=none->H2 c=none:=λc hc=>by
      rw[Ai (λz=>by rw[z,Ac] at hc;cases hc)] at hc;exact hc
     generalize upd H2 kl _=H3 at *;have hpa3:=kp3 _ _ hd.np.symm (w2 _ _ hpa);apply⟨.inl ⟨rfl,_,SqL.of hpa3⟩,?_⟩;apply⟨a,ds,k,rfl,kp3 _ _ hakl (w2 _ _ ha),hD,hkd,by lia,λp4 H4 u4 hp40 hp4=>?_⟩;have hp4H:=w2.free (fr3 _ hp40);have hpa4:=u4 _ _ hpa3;apply Bs hpa4 (Ah (by rw[c8,c9,ig];lia)) ?_;have hpa5:upd H4 pa (.lst ((as++[a]).map V.ref++[V.ref p4])) pa=some (.lst ((as++[a]++[p4]).map V.ref)):=by rw[Ac,N5]
     have kp5:∀c u,c≠pa->H4 c=some u->upd H4 pa (.lst ((as++[a]).map V.ref++[V.ref p4])) c=some u:=λc u hc h=>(Ai hc).trans h;have hT5:Tbs ts (upd H4 pa (.lst ((as++[a]).map V.ref++[V.ref p4]))):=(hT3.same u4).keepN hpa4;have g5:gh x e pa kl (upd H4 pa (.lst ((as++[a]).map V.ref++[V.ref p4])))=gh x e pa kl H4:=rT;have q5:B6 ac aa ad (hide kl (hide pa (upd H4 pa (.lst ((as++[a]).map V.ref++[V.ref p4]))))) x e ls prs:=by rw[Ij];exact q3.kp (Bk (Bk (Aj.kp u4)))
     generalize upd H4 pa _=H5 at *;have hx5:=kp5 _ _ hpax.symm (u4 _ _ (kp3 _ _ hklx.symm (w2 _ _ hx)));have hkl5:=kp5 _ _ hd.np (u4 _ _ hkl3);have hp25:=kp5 _ _ (Af hpa hp2H).symm (u4 _ _ (kp3 _ _ (Af hkl hp2H).symm hp2));have hp45:=kp5 _ _ (Af hpa hp4H).symm hp4;apply⟨x,dx,_,rfl,hx5,rfl,?_⟩;apply⟨x,e,ls,prs,ds,k,rfl,(q5.kp Cp).kp Cp,hT5,hD,hd.fl1,hkd,by lia,hl100,by lia,λf b5 p6 H6 hN hflN hS6 s6 a6 hp60 hp6 hp6e=>?_⟩;have hkl6:=s6.k hkl5 hklx hek.symm;have hp26:=s6.k hp25 (Af hx hp2H).symm (Af he hp2H).symm;have hp46:=s6.k hp45 (Af hx hp4H).symm (Af he hp4H).symm;apply Bb (SqL.of hkl6) (v:=.ref p2) (by rw[<-N5];exact F1 _ _) ?_;refine oR (Cq.lsts (SqL.of hp6) (SqL.of hp26) (Cr _)) ?_;have k6:Kp (gh x e pa kl H) (gh x e pa kl H6):=λc u n h=>eW s6 c u n (by rw[g5];exact Gv (Aj.kp u4) c u n (by rw[g3];exact Gv (Aj.kp w2) c u n h));have hdk:=(E7 hD hkd).1;have hsu:=eR (ds:=ds) hkd;have hnx:=(Lo hD hkd).2.1;have hsl:=Dt ds k;have hcl:=vS hkd;exact q _ (prs++[ls]) (X6 ds k) (D0++[ds]) (K0++[kt]++[Df ds k]) H6 ⟨fZ a6 hd.np hpa5 hkl5 hkl6 q5,Fv hd.fl hd.fl1,hflN,Lw hd.wd hd.wd1,eP hsz hd.wd1 hN (by lia) (by rw[hd.fl1];lia),Lw hd.dk hd.dk1,⟨(Xr hD hkd).1,by lia⟩,Lw hd.kk ⟨Ir hD hkd,by lia⟩,hd.np,⟨as++[a]++[p4],s6.k hpa5 hpax hep.symm,Fv (G4 (Fv eas ea) k6) (Sm (Af hx hp4H).symm (Af he hp4H).symm (Af hkl hp4H).symm (Af hpa hp4H).symm hp46)⟩,⟨bs++[b]++[p2],hkl6,Fv (G4 (Fv ebs eb) k6) (Sm (Af hx hp2H).symm (Af he hp2H).symm (Af hkl hp2H).symm (Af hpa hp2H).symm hp26)⟩,⟨_,_,rfl⟩,s6.ok⟩ (by rw[c9];exact db _) (by rw[c9];exact db _) k6
   ·k_is
    exact⟨rfl,Aj.refl _⟩
  ·rintro G H1 ⟨rfl,u1⟩
   apply⟨a,_,rfl,.inl (SqL.of (u1 _ _ ha)),?_⟩;rw[c8,Au];apply⟨_,_,rfl,rfl,by lia,?_⟩;obtain⟨ko,hko,hkol⟩:∃ko:Option Nat,n/4%((ds.length:Int)+1)-1=kI ko/\∀k,ko=some k->k<ds.length:=by
    have h1:=lp (n/4) (show(ds.length:Int)+1≠0 by lia);have h2:=j6 (n/4) (show(0:Int)<(ds.length:Int)+1 by lia);generalize n/4%((ds.length:Int)+1)=z at *
    by_cases hz:z=0
    ·exact⟨none,by rw[hz];rfl,λk hk=>by cases hk⟩
    ·exact⟨some (z-1).toNat,by show z-1=(((z-1).toNat:Nat):Int);lia,λk hk=>by have:=de hk;lia⟩
   k_is;rw[hko];refine⟨a,_,rfl,.inl (SqL.of (u1 _ _ ha)),?_⟩;rw[c8,Au];apply⟨_,_,rfl,rfl,⟨by lia,by lia⟩,?_⟩;obtain⟨m,hm⟩:∃m:Int,n/4/((ds.length:Int)+1)=m:=⟨_,rfl⟩;apply⟨a,rfl,⟨_,SqL.of (u1 _ _ ha)⟩,?_⟩;refine Iy (SqL.of (u1 _ _ ha)) (λi=>(As ds i (kI ko)).map λ_=>V.int (kI ko)) rfl (λi hi=>?_) (λi y H2 R A hy u2 hR hA=>?_) (λD3 H3 hD3 u3 h3=>?_)
   ·rw[c8,Au] at hi
    rw[c8];have:=Kk ds i (kI ko);exact Ah (by lia)
   ·have hi:=Bl hy
    rw[c8,Au] at hi;rw[dg,Cy hi] at hy;obtain rfl:=de hy;apply B0 (λe=>?_) (λe=>?_)
    ·apply hA _ _ ?_ (Aj.refl _);have e:=V.int.inj e;rw[C3 e,dj,e];rfl
    ·refine hR ?_ _ (Aj.refl _)
     rw[Gs (λz=>e (congrArg V.int z))]
   rw[c8,Au] at h3;have w3:=u1.trans u3;apply⟨D3,_,rfl,.inl (SqL.of h3),?_⟩;rw[c8];apply⟨_,_,rfl,rfl,by lia,?_⟩;obtain⟨place,hplc,hpll⟩:∃place:Nat,m%(((As ds ds.length (kI ko)).length:Int)+1)=(place:Int)/\place<=(As ds ds.length (kI ko)).length:=by
    have h1:=lp m (show((As ds ds.length (kI ko)).length:Int)+1≠0 by lia);have h2:=j6 m (show(0:Int)<((As ds ds.length (kI ko)).length:Int)+1 by lia);exact⟨(m%(((As ds ds.length (kI ko)).length:Int)+1)).toNat,by lia,by lia⟩
   k_is;rw[hm,hplc];refine⟨_,rfl,λpo os H4 u4 hpo0 hpo hDo hol=>?_⟩;have w4:=w3.trans u4;have hpoH:=w3.free hpo0;apply Zs (λG H'=>∃(po:df) (os:Za4),G=[some (.ref x),some (.ref pa),some (.ref kl),some (.int n),some (.ref a),some (.int (n%4)),some (.int m),some (.int (kI ko)),some (.int (place:Nat)),some (.ref po)]/\Aj H H'/\gh x e pa kl H' po=gE os/\Dok os/\os.length<=150) ?_ ?_
   ·apply B0 (λhw2=>?_) (λhw2=>?_)
    ·apply Bb (SqL.of (w4 _ _ hkl)) (v:=.ref b) (by rw[dj];exact F1 _ _) ?_;k_is;exact⟨b,kt,rfl,w4,Gv (Aj.kp w4) _ _ (by intro ps z;cases z) eb,hd.kk kt (fe _ (wo _))⟩
    ·k_is
     exact⟨po,os,rfl,w4,Sm (Af hx hpoH).symm (Af he hpoH).symm (Af hkl hpoH).symm (Af hpa hpoH).symm hpo,hDo,by lia⟩
   ·rintro G H5 ⟨po,os,rfl,w5,gpo,hDo,hol⟩
    obtain⟨hox,hoe,hokl,hopa,hpo⟩:=Xc gpo;apply⟨a,_,rfl,.inl (SqL.of (w5 _ _ ha)),?_⟩;rw[c8,Au];apply⟨po,_,rfl,.inl (SqL.of hpo),?_⟩;rw[c8,Au];apply B0 (λh150=>?_) (λh150=>?_)
    ·k_is
     exact q _ _ _ _ _ H5 (hd.sm (SmT.of hd.tb w5)) (ot _) (ot _) (Gv (Aj.kp w5))
    ·apply⟨.inl ⟨rfl,_,SqL.of (w5 _ _ hpa)⟩,?_⟩;apply⟨a,po,ds,os,ko,place,rfl,w5 _ _ ha,hD,by lia,hkol,hpll,hpo,hDo,by lia,λat' off top p6 H6 hG u6 hp60 hp6=>?_⟩;have w6:=w5.trans u6;have hp6H:=w5.free hp60;have hpa6:=w6 _ _ hpa;apply Bs hpa6 (Ah (by rw[c8,c9,ig];lia)) ?_;have hpa7:upd H6 pa (.lst ((as++[a]).map V.ref++[V.ref p6])) pa=some (.lst ((as++[a]++[p6]).map V.ref)):=by rw[Ac,N5]
     have kp7:∀c u,c≠pa->H6 c=some u->upd H6 pa (.lst ((as++[a]).map V.ref++[V.ref p6])) c=some u:=λc u hc h=>(Ai hc).trans h;have hT7:Tbs ts (upd H6 pa (.lst ((as++[a]).map V.ref++[V.ref p6]))):=(hd.tb.same w6).keepN hpa6;have g7:gh x e pa kl (upd H6 pa (.lst ((as++[a]).map V.ref++[V.ref p6])))=gh x e pa kl H6:=rT;have q7:B6 ac aa ad (hide kl (hide pa (upd H6 pa (.lst ((as++[a]).map V.ref++[V.ref p6]))))) x e ls prs:=by rw[Ij];exact hd.sh.kp (Bk (Bk (Aj.kp w6)))
     generalize upd H6 pa _=H7 at *;have hx7:=kp7 _ _ hpax.symm (w6 _ _ hx);have hkl7:=kp7 _ _ hd.np (w6 _ _ hkl);have hp67:=kp7 _ _ (Af hpa hp6H).symm hp6;apply⟨x,dx,_,rfl,hx7,rfl,?_⟩;apply⟨few (by simp),λp8 hp8=>?_⟩;have u8:=An (o:=.lst [V.int (kI ko),V.non]) hp8;apply .inr ⟨_,rfl,?_⟩;refine Bb (SqL.of Ac) (v:=Hl ko) ?_ ?_
     ·cases ko with
      |none=>
       rw[show decide (kI none<0)=true from rfl];rfl
      |some k=>
       rw[show decide (kI (some k)<0)=false from decide_eq_false (show ¬(k:Int)<0 by lia)];rfl
     generalize upd H7 p8 _=H8 at *;apply⟨po,_,rfl,.inl (SqL.of (u8 _ _ (kp7 _ _ hopa (u6 _ _ hpo)))),λp9 h9=>?_⟩;obtain⟨u9,hp9⟩:=Be (o:=.lst ((Bh os).map V.int)) h9;generalize upd H8 p9 _=H9 at *;have u9:=u8.trans u9;have q9:=q7.kp (Bk (Bk (Aj.kp u9)));have hkl9:=u9 _ _ hkl7;have hpa9:=u9 _ _ hpa7;apply⟨x,e,p9,ls,prs,ds,os,ko,place,at',off,top,rfl,(q9.kp Cp).kp Cp,hT7.same u9,hD,hd.fl1,hp9,hDo,hG,by lia,by lia,hl100,by lia,λf b10 H10 hN hflN hS10 s10 a10=>?_⟩;obtain⟨g1,g2,g3,g4⟩:=Yn hD hG;obtain⟨k1,k2,k3,k4⟩:=hG.ok hD;have hkl10:=s10.k hkl9 hklx hek.symm;have hp610:=s10.k (u9 _ _ hp67) (Af hx hp6H).symm (Af he hp6H).symm;have k10:Kp (gh x e pa kl H) (gh x e pa kl H10):=λc u n h=>eW s10 c u n (Gv (Aj.kp u9) c u n (by rw[g7];exact Gv (Aj.kp w6) c u n h));k_is;exact q _ (prs++[ls]) (Km ds os at' off) (D0++[ds]) (K0++[kt]) H10 ⟨fZ a10 hd.np hpa9 hkl9 hkl10 q9,Fv hd.fl hd.fl1,hflN,Lw hd.wd hd.wd1,eP hsz hd.wd1 (by rw[Bq hDo];exact hN) (db _) (by rw[hd.fl1];exact g2),Lw hd.dk hd.dk1,⟨(Vr hD hDo k1 k2 k3).1,by rw[iF];lia⟩,hd.kk,hd.np,⟨as++[a]++[p6],s10.k hpa9 hpax hep.symm,Fv (G4 (Fv eas ea) k10) (Sm (Af hx hp6H).symm (Af he hp6H).symm (Af hkl hp6H).symm (Af hpa hp6H).symm hp610)⟩,⟨bs++[b],hkl10,G4 (Fv ebs eb) k10⟩,⟨_,_,rfl⟩,s10.ok⟩ (by rw[c9];exact db _) (ot _) k10
theorem Aae {K:da}{a:df}(k:Kp H H')(h:SqL K H a xs):SqL K H' a xs:=by
 rcases h with(h|⟨o,h⟩)|h
 ·exact .inl (.inl (k.k h))
 ·exact .inl (.inr ⟨o,k.k h⟩)
 ·exact .inr h
theorem Aaj {x e:df}:Kp (gh x e pa kl H) H:=λb u n h=>(Xc h).2.2.2.2
theorem Dd.top {CR x e:df}{ls:List (Za5)}{prs:List (List (Za5))}{ds:Za4}{D0 Ks:List (Za4)}(hd:Dd C CR CS ts x e pa kl H ls prs ds D0 Ks):∃(as:List df) (a:df),H pa=some (.lst ((as++[a]).map V.ref))/\as.length=prs.length/\H a=some (.lst ((Bh ds).map V.int))/\B6 C CR CS H x e ls prs:=by
 obtain⟨as,hpa,eas⟩:=hd.hp;rw[dj] at eas;obtain⟨as,a,rfl,eas,ea⟩:=Lm eas;have hal:=congrArg jg eas;have hfl:=congrArg jg hd.fl;simp only[c8] at hal hfl;exact⟨as,a,hpa,by lia,(Xc ea).2.2.2.2,(hd.sh.kp Cp).kp Cp⟩
theorem zW:Dok [0,1]:=by
 intro k hk
 match k,hk with
 |0,_=>exact db _
 |1,_=>exact db _
include T ag aH aI bf bh aK bi in
theorem xY (F:Fun K "law" "law" U9 f fd)(cj:Cal P w K mg base "_law_digits" 2 ["_law_script","_law_at","_law_many"] (eA K))(ck:Mkr P w K mg base "Shaped" ad 6 ["self","elders"] (jO ac aa ad))(cm:Cal P w K mg base "_law_own" 2 ["_law_cell"] wP)(cn:Cal P w K mg base "_law_deed" 15 ["_law_wood_here","_law_past","_law_kept","_law_number"] (qX ac aa ad ts))(bq:Cal P w K mg base "_law_same" 16 ["_law_wood_here","_law_elders","_law_number"] (lC ac aa ad ts)):Ba P w K mg base CX0 17 f fd ["_law_script"] (lN K ts):=by
 exists F.ok Nk
 obtain⟨a,ns,rfl,hS,hlen,hT,q⟩:=h;refine⟨_,(Ab (tst 1 Nk.nd (Ak Ey (Bn aI hr.m (tpa (Bn aH hr.m (tpa (pv 0) (tpa Ag Aa))) (tpa Ag Aa))) Ag)) (Ab (tst 2 Nk.nd (Bo (tpa (Bn bh hr.m (tpa (Bn cj hr.m (tpa (pv 0) (tpa Ag (tpa (pv 1) Aa)))) Aa)) Aa))) (Ab (tst 3 Nk.nd (dU ck hr.m (tpa (Em Ky (by rfl) T.cG Si (tpa (tix Ap (pv 2) Ag) Aa)) Aa))) (Ab (tst 4 Nk.nd (Bo (tpa (Bo (tpa (Dg Cf Ag) (tpa Ag Aa))) Aa))) (Ab (Dm f8 rfl (P1 rfl T.cu (tpa Ag (tpa (Ar (Vx rfl) (by rfl) T.cK lQ (tpa (Ar Aq (by rfl) T.cp B9 (tpa (pv 0) Aa)) (tpa Ag Aa))) Aa))) (tgn 5 Nk.nd) (Ab (tst 6 Nk.nd (Bn cm hr.m (tpa (Ak Ay (tix Ap (pv 0) (pv 5)) (Ak Hd (pv 5) (Em Hr (by rfl) T.cA Ts (tpa (tpc Gc (Ar Sh (by rfl) T.cR sA (tpa (tix Ap (pv 0) (pv 5)) Aa)) (Ak sV Ag Ag)) Aa)))) Aa))) (Ad (B2 (PW.pt (Om (Hw (C4 (Bn cn hr.m (tpa (pv 3) (tpa (pv 2) (tpa (pv 4) (tpa (pv 6) Aa))))))) (Px (Hw (C4 (Bn bq hr.m (tpa (pv 3) (tpa (tix Ap (pv 2) (Dg Cf Ag)) (tpa (Ak Ay (Ak F3 (pv 6) Ag) (pv 5)) Aa))))))))) (Ad (Am Tw))
  Bf)))) (Ab (Mm f8 (ttc Jr (Ar Aq (by rfl) T.cp B9 (tpa (pv 2) Aa)) Ag) (Ab (Bi (Pk dy jz jy Pp (pv 2))) (Ad (B2 (PW.pt (Om (Sn (Yb (jL aK hr.m tH (pv 3)))) (Px (ttc (sB (eX hr)) (G6 bf hr.m (pv 3)) (tix Ap (pv 2) (Dg Cf Ag)))))) (Ad (Am Tw))
  Bf)))) (Ad (Am (Uj (Bn bi hr.m (tpa (pv 3) Aa)) (T6 (Bn bq hr.m (tpa (pv 3) (tpa (tix Ap (pv 2) Ag) (tpa (pv 1) Aa)))))))))))))),?_⟩
 apply⟨a,ns,0,rfl,hS,λc0=>?_⟩;apply⟨c0,1,rfl,by lia,by lia,λr r0 r1=>?_⟩;apply⟨a,ns,2,r%61,rfl,hS,by lia,by lia,λp1 gs H1 s1 _ hg hgl=>?_⟩;apply⟨p1,gs,rfl,hg,by lia,λp2 ds0 H2 s2 hp20 hp2 hD0 hdl=>?_⟩;have s12:=s1.trans s2;have hp2H:=s1.free hp20;apply⟨few (by simp),λpa hpa0=>?_⟩;obtain⟨u3,hpa3⟩:=Be (o:=.lst [V.ref p2]) hpa0;have hpaH:=s12.free hpa0;have s3:=s12.trans u3;have hp23:=u3 _ _ hp2;have hpp:p2≠pa:=Af hp2 hpa0;generalize upd H2 pa _=H3 at *;apply Bb (SqL.of hpa3) (v:=.ref p2) rfl ?_;apply⟨p2,_,rfl,.inl (SqL.of hp23),λp4 h4=>?_⟩;obtain⟨u4,hp4⟩:=Be (o:=.lst ((Bh ds0).map V.int)) h4;have s4:=s3.trans u4;have hpa4:=u4 _ _ hpa3;have hp24:=u4 _ _ hp23;generalize upd H3 p4 _=H4 at *;k_is;intro x dx hx hdx hxd;have sN:Aj H4 (upd (upd H4 dx (.own x)) x (.ins ad dx [])):=Oh hx hdx;refine⟨x,dx,p4,ds0,rfl,Ac,sN _ _ hp4,hD0,by lia,λe H5 b5 hS5 he5 hA5=>⟨rfl,?_⟩⟩;have s5:Aj H4 H5:=Jz hx hdx b5;have hA5:=hA5 pa _ (sN _ _ hpa4);have hpae:pa≠e:=Af (sN _ _ hpa4) he5;have hp2e:p2≠e:=Af (sN _ _ hp24) he5;have hpa5:=s5 _ _ hpa4;have hp25:=s5 _ _ hp24;have hxH:=s4.free hx;have heH:=s4.free (sN.free he5);have s05:=s4.trans s5;have hp2x:p2≠x:=Af hp24 hx;obtain⟨ps5,he55,_⟩:=id hS5.he;obtain⟨dx5,r5,hx5,_⟩:=id hS5.hx;apply⟨few (by simp),λk1 hk10=>?_⟩;have u6:=An (o:=.lst [V.int (-1),V.int 0]) hk10;have hk16:upd H5 k1 (.lst [V.int (-1),V.int 0]) k1=some (.lst ((Bh [0,1]).map V.int)):=Ac;generalize upd H5 k1 _=H6 at *;apply⟨few (by simp),λkl hkl0=>?_⟩;obtain⟨u7,hkl7⟩:=Be (o:=.lst [V.ref k1]) hkl0;have hk1kl:k1≠kl:=Af hk16 hkl0;have hkl5:=u6.free hkl0;have hS7:B6 ac aa ad (hide kl (hide pa (upd H6 kl (.lst [V.ref k1])))) x e (pcs (Av ds0)) []:=(hA5.kp (Bk (Aj.kp u6))).kp (Ix (Bk (Aj.kp u7)) (by unfold hide;split;exact rfl;exact hkl0));generalize upd H6 kl _=H7 at *;have s57:=u6.trans u7;have s07:=s05.trans s57;have hd7:Dd ac aa ad ts x e pa kl H7 (pcs (Av ds0)) [] ds0 [] [[0,1]]:=⟨hS7,rfl,Uk _,(λl h=>by cases h),dX _,(λd h=>by cases h),⟨hD0,by lia⟩,(λd h=>by rw[ie.mp h];exact⟨zW,by decide⟩),(Af hpa5 hkl5).symm,⟨[p2],s57 _ _ hpa5,congrArg (·::[]) (Sm hp2x hp2e (Af hp25 hkl5) hpp (s57 _ _ hp25))⟩,⟨[k1],hkl7,congrArg (·::[]) (Sm (Af hx5 hk10).symm (Af he55 hk10).symm hk1kl (Af hpa5 hk10).symm (u7 _ _ hk16))⟩,⟨[],_,rfl⟩,hT.same s07⟩;have k07:Kp H (gh x e pa kl H7):=Ix (Ix (Ix (Ix (Aj.kp s07) hpaH) (s05.free hkl5)) heH) hxH;have hS7s:SqL K H7 a (ns.map V.int):=s07.seq hS;clear hkl7 hkl5 u7 u6 hk16 hk10 hkl0 hk1kl hA5 hS7 hS5;apply⟨a,_,rfl,.inl hS7s,?_⟩;rw[c8];k_is;obtain⟨m,hm,hm1,hm2,hm3⟩:∃m:Int,(if(42:Int)<(ns.length:Int) then 42 else(ns.length:Int))=m/\m<=ns.length/\m<=42/\0<=m:=⟨_,rfl,by split<;>lia,by split<;>lia,by split<;>lia⟩
 refine⟨_,_,rfl,?_⟩;rw[hm];apply⟨_,_,rfl,⟨by lia,by lia,by lia,by lia⟩,?_⟩;refine Fm (λi G Hc=>∃(ls:List (Za5)) (prs:List (List (Za5))) (ds:Za4) (D0 Ks:List (Za4)) (v5 v6:Option V),G=[some (.ref a),some (.int (r%61)),some (.ref pa),some (.ref x),some (.ref kl),v5,v6]/\Dd ac aa ad ts x e pa kl Hc ls prs ds D0 Ks/\prs.length<=i/\Ks.length<=i+1/\Kp H (gh x e pa kl Hc)) ⟨_,_,_,_,_,_,_,rfl,hd7,db _,db _,k07⟩ ?_ ?_
 ·rintro i G H8 hi ⟨ls,prs,ds,D0,Ks,v5,v6,rfl,hd8,hpr,hks,k8⟩
  have hS8:SqL K H8 a (ns.map V.int):=Aae (λb u n h=>Aaj b u n (k8 b u n h)) hS;obtain⟨c,hc⟩:∃c,ns[12+i]?=some c:=⟨_,c7 (by lia)⟩;have hcv:atI (ns.map V.int) (12+(i:Int))=some (.int c):=by
   rw[show(12:Int)+(i:Int)=((12+i:Nat):Int) by lia];exact Bd (by rw[dg,hc];rfl)
  apply Bb hS8 (v:=.int c) hcv ?_;apply Bb hS8 (v:=.int c) hcv ?_;apply⟨_,rfl,?_⟩;apply⟨10,18,rfl,rfl,⟨by decide,by decide,by decide⟩,?_⟩;apply .inr ⟨_,rfl,?_⟩;refine fR (by lia) (by lia) ?_;apply⟨_,rfl,λd=>?_⟩;apply⟨x,e,pa,kl,ls,prs,ds,D0,Ks,d,rfl,hd8,by lia,by lia,λls' prs' ds' D' Ks' H9 hd9 h1 h2 k9=>?_⟩;obtain⟨as,a9,hpa9,hal,ha9,hS9⟩:=hd9.top;apply Bb (SqL.of hpa9) (v:=.ref a9) (by rw[dj];exact F1 _ _) ?_;apply⟨x,a9,ls',ds',_,rfl,hS9.sh,hd9.tb,hd9.dk1.1,hd9.fl1,ha9,by have:=hd9.dk1.2;lia,λH10 s10=>?_⟩;k_is;exact⟨ls',prs',ds',D',Ks',_,_,rfl,hd9.sm s10,by lia,by lia,λb u n h=>Gv s10.kp b u n (k9 b u n (k8 b u n h))⟩
 ·rintro G H8 ⟨ls,prs,ds,D0,Ks,v5,v6,rfl,hd8,hpr,hks,k8⟩
  apply L8 (λG Hc=>∃(ls:List (Za5)) (prs:List (List (Za5))) (ds:Za4) (D0 Ks:List (Za4)),G=[some (.ref a),some (.int (r%61)),some (.ref pa),some (.ref x),some (.ref kl),v5,v6]/\Dd ac aa ad ts x e pa kl Hc ls prs ds D0 Ks) (λ_ Hc=>Zx Hc pa) ⟨_,_,_,_,_,rfl,hd8⟩ ?_;rintro z G H9 ⟨ls,prs,ds,D0,Ks,rfl,hd9⟩ hz;obtain⟨as,a9,hpa9,hal,ha9,hS9⟩:=hd9.top;have hlp:((as++[a9]).map V.ref).length=prs.length+1:=by rw[c8,c9,ig,hal]
  rw[J3 hpa9,hlp] at hz;apply⟨pa,_,rfl,.inl (SqL.of hpa9),?_⟩;rw[hlp];apply B0 (λh=>?_) (λh=>?_)
  ·obtain⟨p0,ms,rfl⟩:∃p0 ms,prs=p0++[ms]:=by
    rcases nj prs with rfl|⟨p0,ms,rfl⟩
    ·exact absurd h (by simp)
    ·exact⟨p0,ms,nq⟩
   obtain⟨as,a1,D1,d1,rfl,hpa,hS1,hT1,hB⟩:=hd9.back;refine Se ?_;apply⟨.inl ⟨rfl,_,SqL.of hpa⟩,?_⟩;apply⟨pa,_,.ref a1,rfl,rfl,hpa,Vl,?_⟩;rw[W2];generalize upd H9 pa _=H1 at *;obtain⟨dx,r,hx1,_⟩:=id hS1.hx;apply⟨x,dx,_,rfl,hx1,rfl,?_⟩;apply⟨x,e,ls,p0++[ms],rfl,hS1,λz=>absurd z (by simp),λms' prs' H2 hz2 hS2 s2 a2=>?_⟩;obtain⟨rfl,hm⟩:=zt hz2 rfl;obtain rfl:ms=ms':=(j8 hm).1;obtain⟨hd2,k2⟩:=hB H2 (s2 ts hT1) a2;obtain⟨as2,a2,hpa2,hal2,ha2,hS2⟩:=hd2.top;obtain⟨dx2,r2,hx2,_⟩:=id hS2.hx;k_is;rw[decide_eq_true rfl];apply⟨x,dx2,_,rfl,hx2,rfl,?_⟩;k_is;obtain⟨hD2,hl2⟩:=hd2.dk1;refine⟨x,ms,rfl,hS2.sh,hd2.tb,by rw[hd2.fl1];exact Xn hD2,by rw[hd2.fl1,Bq hD2];lia,λp3 ds3 H3 s3 hp30 hp3 hD3 e3=>?_⟩;obtain rfl:d1=ds3:=(Tj hD3 hD2 (e3.trans hd2.fl1)).symm;apply Bb (SqL.of (s3.k hpa2)) (v:=.ref a2) (by rw[dj];exact F1 _ _) ?_;refine oR (Cq.lsts (SqL.of hp3) (SqL.of (s3.k ha2)) (Cr _)) ?_;k_is;exact⟨⟨ms,p0,d1,D1,Ks,rfl,hd2.sm s3⟩,by rw[J3 (s3.k hpa2),c8,c9,ig,hal2];rw[c9,ig] at hz;lia⟩
  ·obtain rfl:prs=[]:=gp (by lia)
   apply⟨x,e,ls,rfl,hS9,λH10 s10=>?_⟩;k_is;obtain rfl:as=[]:=gp hal;refine Bb (SqL.of (s10 _ _ hpa9)) (v:=.ref a9) rfl ?_;k_is;exact⟨x,a9,ls,ds,_,rfl,hS9.sh.kp (Aj.kp s10),hd9.tb.same s10,hd9.dk1.1,hd9.fl1,s10 _ _ ha9,by have:=hd9.dk1.2;lia,λH11 _=>q H11⟩
end
set_option maxHeartbeats 8000000 in
theorem all_mk:AllMk:=by
 intro l w K h mg fa X G hfa ac aa ad bj bn f22 od22 an22 sl22 oc22 kV22 dc22 pm22 ct22 oo22 f23 od23 an23 sl23 oc23 kV23 dc23 pm23 ct23 oo23 f30 od30 an30 sl30 oc30 kV30 dc30 pm30 ct30 oo30 t_MOST_KNOTS t_MOST_SIGNS_pairs t_MOST_SIGNS_woods t_PIECE_SIGNS t_ENOUGH_SIGNS ah cd_Piece fd_Piece cd_PiecedRow fd_PiecedRow cd_Shaped fd_Shaped bc_Heights bc_Openings g0 g1 g2 g3 g4 g5 g6 g7 g8 g9 g10 g11 g12 g13 g14 g15 g16 g17 g18 g19 g20 g21 i22 a22 l22 c22 k22 lc22 hc22 i23 a23 l23 c23 k23 lc23 hc23 g24 g25 g26 g27 g28 g29 i30 a30 l30 c30 k30 lc30 hc30 g31 g32 g33 g34 g35 g36 g37 g38 g39 g40 g41 g42 g43 g44 g45 g46 g47 g48 g49 g50 g51 g52 g53 g54 g55 g56 g57 g58 g59 g60 g61 g62 g63 g64 g65 g66 g67 g68 g69 g70 g71 g72 g73 g74 g75 g76 g77 g78 g79 g80 g81 g82 g83 g84 cx cB cD cy cC z_range z_len z_int z_bool z_str z_isinstance z_list z_tuple z_zip z_enumerate z_abs z_max z_min z_sum z_reversed z_ValueError eg_NoDeed ex_NoDeed xk_NoDeed cF cE;obtain⟨f84,d84,F84,a84⟩:=g84;obtain⟨_,_,kV84,dc84,pm84,an84,cd84,ct84,_,rfl,_,_⟩:=F84.ex;have e:=hfa.symm.trans (lg X G a84);cases e;have T0:∀base:gv,Txt l.prog w base tz K mg ah:=λ_=>⟨lg X G eg_NoDeed,⟨lg X G eg_NoDeed,ex_NoDeed⟩,xk_NoDeed,cF,cE,⟨_,lg X G cx⟩,⟨_,lg X G cB⟩,⟨_,lg X G cD⟩,⟨_,lg X G cy⟩,⟨_,lg X G cC⟩,jl X G z_range,jl X G z_len,jl X G z_int,jl X G z_bool,jl X G z_str,jl X G z_isinstance,jl X G z_list,jl X G z_tuple,jl X G z_zip,jl X G z_enumerate,jl X G z_abs,jl X G z_max,jl X G z_min,jl X G z_sum,jl X G z_reversed,jl X G z_ValueError⟩;have Qc:Qc K ac:=⟨fd_Piece.cl,fd_Piece.no 0,fd_Piece.no 1,fd_Piece.no 2,fd_Piece.no 3⟩;have Qa:Qa K aa:=⟨fd_PiecedRow.cl,fd_PiecedRow.no 0,fd_PiecedRow.no 1,fd_PiecedRow.no 2,fd_PiecedRow.no 3,fd_PiecedRow.no 4,fd_PiecedRow.no 5⟩;have Qb:Qb K ad:=⟨fd_Shaped.cl,fd_Shaped.no 0,fd_Shaped.no 1⟩;have F22:=Xj (st:=Br) l22 c22 k22 lc22 hc22;have b22:=F22.binds (ps:=["self","place"]) λ_ _ _ _ _ _=>us2 λ_ _=>rfl;have F23:=Xj (st:=Bv) l23 c23 k23 lc23 hc23;have b23:=F23.binds (ps:=["self","place"]) λ_ _ _ _ _ _=>us2 λ_ _=>rfl;have F30:=Xj (st:=Bt) l30 c30 k30 lc30 hc30;have b30:=F30.binds (ps:=["self","number"]) λ_ _ _ _ _ _=>us2 λ_ _=>rfl;refine⟨jh "law" "law" (C7 U9) (Ch U9) (Ae U9) .none kV84 dc84 pm84 an84 cd84 ct84,λs v=>.of_eq rfl,λbase hK _ hB=>?_⟩;have T:=T0 base;have V0:=GD.cal X G g0 λF=>Y3 T F;have V1:=GD.cal X G g1 λF=>X0 T V0 F;have V2:=GD.cal X G g2 λF=>Su T V1 F;have V3:=GD.cal X G g3 λF=>Uq T V1 F;have V4:=GD.cal X G g4 λF=>Rs T V0 F;have V5:=GD.cal X G g5 λF=>Mc T V0 F;have V6:=GD.cal X G g6 λF=>U3 T F;have V7:=GD.cal X G g7 λF=>Rr T F;have V8:=GD.cal X G g8 λF=>Ul T F;have V9:=GD.cal X G g9 λF=>fN T V8 F;have V10:=BD.calC X G bc_Heights g10 λF=>Wj T Qa F;have V11:=MD.mth (sp:=(Ym ac aa)) Qa.cl g11 λF=>Wk T Qa F;have V12:=GD.cal X G g12 λF=>Xg T F;have V13:=GD.cal X G g13 λF=>gB T V0 F;have V14:=GD.cal X G g14 λF=>Xk T F;have V15:=GD.cal X G g15 λF=>lU T F V14 V13;have V16:=GD.cal X G g16 λF=>Yh T F V12;have V17:=BD.calC X G bc_Openings g17 λF=>We T Qb F;have V18:=MD.mth Qb.cl g18 λF=>Ql T Qb V11 F;have V19:=MD.mkr X G cd_Piece g19 λF=>Wr T V8 F Qc V9;have V20:=GD.cal X G g20 λF=>Xu T F V19;have V21:=MD.mkr X G cd_PiecedRow g21 λF=>Wc T Qa Qc F V7 V10;have V22:Mth l.prog w K mg base aa "stretch_at" 4 ["self","place"] (qG ac aa tz):=⟨⟨f22,_,Qh T Qa hK (hB (780,776) (by simp)) V6 F22 (gy _ jj),b22,⟨a22,i22,k22⟩⟩,Qa.cl⟩;have V23:Mth l.prog w K mg base aa "pieces_to" 4 ["self","place"] (pP ac aa tz):=⟨⟨f23,_,Qm T Qa hK (hB (794,790) (by simp)) V6 F23 (gy _ (gy _ jj)),b23,⟨a23,i23,k23⟩⟩,Qa.cl⟩;have V24:=MD.mth Qa.cl g24 λF=>Qv T Qa Qc V22 V23 F;have V25:=MD.mth Qa.cl g25 λF=>Wl T Qa V24 F;have V26:=MD.mth Qa.cl g26 λF=>Qe T Qa V22 V24 F;have V27:=MD.mth Qa.cl g27 λF=>Q6 T Qa V26 F;have V28:=MD.mth Qa.cl g28 λF=>Qg T Qa V24 F;have V29:=MD.mth (sp:=(Tx ac aa)) Qa.cl g29 λF=>Qr T Qa F;have V30:Mth l.prog w K mg base aa "opening" 4 ["self","number"] (Nm ac aa tz):=⟨⟨f30,_,Qu T Qa Qc hK (hB (773,771) (by simp)) V6 F30 jj,b30,⟨a30,i30,k30⟩⟩,Qa.cl⟩;have V31:=MD.mth Qa.cl g31 λF=>Wd T Qa V22 V29 F;have V32:=MD.mth Qa.cl g32 λF=>Qw T Qa V22 F;have V33:=MD.mth Qa.cl g33 λF=>Qd T V8 Qa V24 V27 F;have V34:=MD.mth Qa.cl g34 λF=>Qk T Qa V33 F;have V35:=MD.mth Qa.cl g35 λF=>Q3 T Qa V2 V4 V31 V32 F V34;have V36:=MD.mth Qa.cl g36 λF=>Qj T Qa V33 F;have V37:=MD.mth Qa.cl g37 λF=>Q2 T Qa V2 V4 V31 V32 F V36;have V38:=MD.mth Qa.cl g38 λF=>Q4 T Qa V27 V28 V37 F V35;have V39:=MD.mth Qa.cl g39 λF=>Qn T Qa V22 V29 F;have V40:=MD.mth Qa.cl g40 λF=>Qf T Qa V22 V33 V32 F V39;have V41:=MD.mth Qa.cl g41 λF=>Qp T Qa V33 F;have V42:=MD.mth Qa.cl g42 λF=>Qo T Qa V27 V31 V40 F;have V43:=MD.mth Qa.cl g43 λF=>Qt T Qa V27 V31 V40 F V41;have V44:=MD.mth Qb.cl g44 λF=>Wm T Qb F V25;have V45:=MD.mth Qb.cl g45 λF=>Q5 T Qb V16 V44 F;have V46:=MD.mth Qb.cl g46 λF=>Q0 T Qb V18 F V3 V30;have V47:=MD.mth Qb.cl g47 λF=>Qy T Qb V46 V38 F;have V48:=MD.mth Qb.cl g48 λF=>Wh T Qb V46 V47 V42 F;have V49:=MD.mth Qb.cl g49 λF=>Qq T Qb V11 V42 F;have V50:=MD.mth Qb.cl g50 λF=>Qz T Qb V26 V28 V38 F;have V51:=MD.mth Qb.cl g51 λF=>Q8 T Qb V27 V46 F;have V52:=MD.mth Qb.cl g52 λF=>Wp T Qb V37 V46 V5 V51 V50 F;have V53:=MD.mth Qb.cl g53 λF=>Q9 T Qb F V52;have V54:=MD.mth Qb.cl g54 λF=>Qx T Qb V46 V47 F;have V55:=MD.mth Qb.cl g55 λF=>Wa T Qb V28 V46 F;have V56:=MD.mth Qb.cl g56 λF=>Wf T Qb V28 V47 V50 F;have V57:=MD.mth Qb.cl g57 λF=>Wb T Qb V11 V28 V47 V50 F;have V58:=MD.mth Qb.cl g58 λF=>Wg T Qb V28 V46 V50 F;have V59:=MD.mth Qb.cl g59 λF=>Q7 T Qb V46 V50 V43 F;have V60:=MD.mth Qb.cl g60 λF=>Wt T Qb V5 V48 F V59;have V61:=MD.mth Qa.cl g61 λF=>Qs T Qa V22 V23 V24 V20 V21 F;have V62:=MD.mkr X G cd_Shaped g62 λF=>Wq T Qb V20 V21 V15 F V17;have V63:=MD.mth Qb.cl g63 λF=>Qi T Qb F Qa V61;have V64:=MD.mth Qb.cl g64 λF=>Ws T Qb V24 V16 V46 V47 V63 F;have V65:=MD.mth Qb.cl g65 λF=>Wn T V1 Qb V18 V46 V43 V48 V15 V63 F V49;have V66:=MD.mthE Qb.cl g66 λF=>Q1 T Qb V21 F;have V67:=GD.cal X G g67 λF=>Sf T F;have V68:=GD.cal X G g68 λF=>X4 T F;have V69:=GD.cal X G g69 λF=>Ux T V67 V68 F;have V70:=GD.cal X G g70 λF=>Ze T F;have V71:=GD.cal X G g71 λF=>fJ T F;have V72:=GD.cal X G g72 λF=>hV T F;have V73:=GD.cal X G g73 λF=>Yt T V72 F;have V74:=GD.cal X G g74 λF=>Sy T V72 F;have V75:=GD.cal X G g75 λF=>dL T V72 F;have V76:=GD.cal X G g76 λF=>Zh T F V75;have V77:=GD.cal X G g77 λF=>Tv T F;have V78:=GD.cal X G g78 λF=>eU T Qb V51 V48 F V53 V55 V56 V58 V57 V54;have V79:=GD.cal X G g79 λF=>dA T Qb V44 V18 V45 F V71 V77 V60 V78;have V80:=GD.cal X G g80 λF=>fS T V68 F;have V81:=GD.cal X G g81 λF=>Ps T V70 F;have V82:=GD.cal X G g82 λF=>Oy T Qb V66 F;have V83:=GD.cal X G g83 λF=>eI T Qb V66 V82 F V73 V74 V64 V81 V76 V65;exact xY T Qb V67 V68 V45 V70 V66 V82 F84 V69 V62 V80 V83 V79
end TK
theorem PySem.Challenge.cw_tightwood_k77_whole_deeds_holds : PySem.Challenge.rw_tightwood_k77_whole_deeds.Holds :=
 TK.HEAD @TK.all_mk
#print axioms PySem.Challenge.cw_tightwood_k77_whole_deeds_holds
