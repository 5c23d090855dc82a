import PyProof.Rows.All
import Wide.All
import OpenK.AllK
import Wide.FinOn
import Lean
import PyProof.EqAt
import PyProof.EqKinds
import PyProof.TupleCall
import PyProof.NeKinds
import PyProof.WalksEnum
import PyProof.EnumMake
import PyProof.AttrMissHeap
import KE.KDictOf
import PyProof.ListNew
import PyProof.ZipIter
import PyProof.Rows.ZipGen
import KE.KIntText
import PyProof.StrLawsTight
import KE.KRevIter
import KE.KDictList
import KE.KEqDict
import PyProof.DictCopy
import KE.KSortTup
import PyProof.Rows.SetFrom
import PySem.Challenge.RW_onceform_k84_desk_asks
set_option genSizeOf false
set_option compiler.extract_closed false
set_option Elab.async false
set_option linter.all false
open PySem.W(Frag kitOne)
open PySem.Builtin.Int(intBits)
open PySem.NumText(digitsVal)
open PySem.Str(ofString)
local macro_rules|`(tactic|exists $e,*)=>`(tactic|refine⟨$e,*⟩)
local macro_rules|`(tactic|nomatch $e,*)=>`(tactic|exact⟨$e,*⟩)
set_option maxRecDepth 100000
set_option maxHeartbeats 4000000
set_option tactic.hygienic false
open List renaming length_map->ax,map_append->aQ,length_append->bh,mem_singleton->bw,length_cons->bH,mem_append->bA,getElem?_eq_some_iff->dO,mem_of_getElem?->cM,mem_map->bp,mem_cons->bC,getElem?_eq_getElem->d4,getElem?_map->cQ,map_cons->bN,mem_cons_of_mem->dM,take_add_one->cZ,take_length->dG,filter_append->dX,find?_cons->df,mem_append_right->f9,size_toArray->fz,length_take->fR,all_eq_true->fN,append_assoc->gr,eq_nil_of_length_eq_zero->oi,getD_eq_getElem?_getD->m8,take_of_length_le->kY,mem_filter->gJ,map_map->fk,length_filter_le->lW,append_nil->iD,mem_cons_self->kF,mem_append_left->mz,not_mem_nil->jU,getElem_mem->jT,flatMap_cons->ky,length_range->kQ,mem_range->ji,nodup_cons->j7,drop_eq_getElem_cons->qS,filter_cons->l7,range_succ->mw,map_congr_left->qi,reverse_append->pH,flatten_cons->oO,pairwise_cons->pf,length_nil->nk,dropLast_concat->sA,sum_cons->mm,length_drop->pL,length_dropLast->sU,sum_append->o7,pairwise_map->uk,filter_cons_of_neg->Am,any_cons->qo,getElem?_range->vE,getElem?_set_self->Bm,length_replicate->yN,forIn_cons->tF,map_nil->pD,getElem?_append_right->F0,getElem?_append_left->HN,any_eq_true->vF,getElem_of_mem->zH,flatten_append->zF,filterMap_cons->zO,filterMap_cons_some->IE,mem_filterMap->AA,filter_cons_of_pos->DI,pairwise_iff_forall_sublist->Jo,length_pos_of_mem->CF,drop_of_length_le->FE,reverse_cons->Cs,getElem?_eq_none->GZ,drop_length->Ao,cons_append->yQ,lookup_cons->yr,mem_flatMap->Bs,getElem?_set_ne->Eu,countP_eq_length_filter->SN,takeWhile_cons->Dj,replicate_zero->Em,map_id'->wk,nodup_nil->zt,idxOf_lt_length_iff->Pa,filterMap_cons_none->Rq,nodup_append->FA,getElem?_replicate->RW,drop_eq_nil_of_le->SR,range_succ_eq_map->RE,length_eq_one_iff->Q6,contains_iff_mem->Kg,length_set->GS,filter_nil->HF,mem_of_mem_erase->N6,of_mem_zip->C5,take_append_drop->NJ,replicate_succ'->P5,mem_erase_of_ne->LX,mem_of_mem_drop->O4,getElem?_of_mem->QM,forIn_nil->DU,length_pos_iff->P0,drop_succ_cons->Ph,flatMap_append->Px,all_cons->EW,filterMap_map->R5,all_map->Ii,zipIdx_cons->JE,map_flatMap->S9,mem_reverse->Oa,zipIdx_nil->RQ,append_inj->MS,drop_zero->Mu,drop_left->LQ,map_take->MM,map_drop->SA,set_set->Np
open PySem renaming wpAny_bind->au,wpAny_pure->aJ,boot_len->dC,wpAny_mono->dS,wpAny_truthy_bool->kA,wpAny_newObj_type->lD,wpAny_call_entry->l8,wpAny_seqItems->lJ,wpAny_setField_rec->pb,codeAny_builtin->mL,wpAny_field->jb,wpAny_callSpecial?_slot->tm,wpAny_holding->lj,mem_of_lookup->rE,wpAny_loadPart_at->qD,wpAny_pyIter_list->qB,wpAny_passesOwn->rM,wpAny_execs_nil->uR,builtinLookup_eq_fast->yE,call_meets->nH,wpAny_askSetting->vi,codeAny_mono->rV,wpAny_Call_Name_kw->Cn,plainId_quiet->uV,tupleKind_room_in1->AB,typeIs_str->pJ,wpAny_setState_of->zA,wpAny_tryCatch->xk,wpAny_isTrue_Compare1->EV,wpAny_pyIter_zip->BA,wpAny_isInstance->yW,codeAny_call_builtin->Hw,wpAny_rule->qM,wpAny_letGo->sL,wpAny_updateSeq->BM,typeLookup_type->Ad,wpAny_typeOf->wN,wpAny_letOwnedTupleGo_zip->SU,wpAny_getItem_list_slice->Qf,wpAny_comprehension_free->Qu,wpAny_onRaise->zD,wpAny_of_eq->yk,wpAny_execs_cons->CY,wpAny_eqBool_int->Cw,typeIs_int->xp,isSubtype_type->CI,wpAny_standAt->E8,wpAny_attempt->GG,evalPart_none->En,list_append->Rt,wpAny_call->Bp
open PySem.F renaming plainAttrs_list->cy,slot_list_append->f7,type_list_append->fX,plainAttrs_str->fc,slot_list_pop->kO,type_list_pop->kG,type_str_join->lF,slot_str_join->lq,plainAttrs_int->xj,slot_tuple_iterator_next->AE,plain_min_loop->rh,slot_dict_get->wK,slot_str_startswith->CN,type_str_startswith->HX,type_list_index->DF,slot_list_index->Ds,slot_str_split->FU,type_str_split->HR,entry_dict_get->Fy,type_str_find->EN,slot_str_find->Hc,typeOf_object_class->Gx,args_tuple_iterator_next_1->Mf,entry_tuple_iterator_next->Oo,slot_zip_next->Be,args_str_split_2->HP,args_tuple_add_2->Rh,entry_str_split->Gz,slot_list_insert->KP,type_list_insert->QH,plainAttrs_dict->Kp,entry_tuple_add->Nd,args_dict_get_3->L7,entry_min_loop->IL,slot_str_split->Dk,slot_tuple_add->Pl,type_str_strip->NG,slot_str_strip->Lh,type_dict_get->P2,plain_set_new->L0,slot_set_iter->Qk,args_list_append_2->Pr,entry_list_append->Pj,args_list_index_2->Pf,entry_list_index->RB,slot_list_append->Ls,slot_list_index->RH,args_zip_next_1->Mt,entry_zip_next->Jx,args_int_lt_2->Mr,slot_tuple_lt->QA,entry_int_lt->Mg,slot_int_lt->JG
open PySem.Heap renaming get?_push_of_some->cq,lt_size->bg,get?_push_size->da,get?_update_other->nQ,size_push->kB,get?_update_self->xI,get?_none_of_le->Fh
open Nat renaming le_refl->aT,le_trans->aX,pow_le_pow_right->dB,lt_of_lt_of_le->cS,le_of_lt->bE,zero_le->bM,ne_of_lt->dy,mul_le_mul->fM,lt_of_le_of_lt->jm,two_pow_pos->jk,testBit_eq_decide_div_mod_eq->uS,mul_le_mul_right->pK,eq_of_testBit_eq->qk,testBit_lt_two_pow->qR,ge_two_pow_of_testBit->uq,min_eq_left->mT,lt_irrefl->kS,lt_or_ge->kU,pow_succ->ml,lt_trans->lQ,testBit_and->ql,testBit_two_pow->uB,lt_pow_two_of_testBit->zr,two_pow_add_eq_or_of_lt->CD,lt_succ_self->wY,min_eq_right->u7,add_le_add_left->Bq,ne_of_gt->qH,not_lt_zero->uZ,add_sub_cancel_left->E3,lt_succ_of_lt->yl,testBit_or->xG,testBit_zero->AS,testBit_succ->AY,pow_lt_pow_right->El,mod_lt->qG,log2_lt->tP,add_le_add->yR,mul_assoc->AD,toDigits_of_lt_base->Rb,pow_succ'->Ai,testBit_mod_two_pow->Ta,add_zero->yC,add_comm->A2,mul_add_div->ID,mul_zero->zf,min_le_left->F3,le_succ->zi,pow_add->y9,eq_zero_or_pos->KI,add_sub_cancel->LR,mul_left_comm->SS,le_succ_of_le->SX,mul_comm->GX,succ_pos->CU,min_self->Gp,succ_mul->Ep,le_of_eq->EK,div_eq_of_lt->Tq,min_le_right->NU,pow_pos->EO,testBit_xor->K9,div_add_mod->RD,mul_add->Dm,add_mul->Hb,sub_le->HC,zero_add->Kx,mul_succ->IZ,one_mul->QP,or_comm->Ki
open Bool renaming false_ne_true->c9,and_eq_true->ff,false_eq_true->my,and_false->pY,and_eq_true_iff->wM,eq_iff_iff->rH,true_and->uJ,eq_false_iff->zC,or_eq_true->za,false_and->Bo,not_false->IX,not_true->Gs,not_eq_true'->NB,or_false->OG,false_or->O1
open PySem.PassesOwn renaming never->c8
open Int renaming toNat_of_nonneg->gh,natCast_nonneg->iC,emod_lt_of_pos->iU,emod_nonneg->iO,toNat_natCast->oM,natAbs_natCast->pX,eq_ofNat_of_zero_le->xC,zero_add->pF,one_mul->qt,natAbs_mul->zq,max_eq_right->CA,mul_add->yX,mul_assoc->He,zero_mul->Gw,mul_comm->Fg,min_eq_left->Ou,natAbs_neg->Kf,pow_succ->Q4,ne_of_gt->LF,add_zero->N3,ofNat_le->LC,le_refl->PM
open PyProof.Rows renaming boot_str->iL,boot_isinstance->pW,type_int_bit_length->vX,slot_int_bit_length->vU,callWith_type1->tY,boot_int->ra,boot_sum->ug,boot_sorted->xK,boot_abs->yj,boot_min->BF,slot_tuple_getitem->Ll,boot_all->R7,Subscript_->Ba,callWith_builtin1->Ug,signs_ofString->WS,mulOk_of_bits->jgE,digit_range->ZN,boot_dict->Yy,split_pos->jhj,bitAnd_nn->jhk,bitAnd_pp->jhl,boot_max->TU,boot_any->jht,boot_set->Ur
open Array renaming length_toList->gL,getElem?_eq_some_iff->D6,getElem?_eq_getElem->Dr,getElem?_toList->DP,toList_push->NC,size_push->JZ
open Option.some renaming inj->gd
open PySem.Paired renaming length->eV,snoc->OJ
open PySem.Around renaming under_plainId->uO
open PySem.Calls renaming callWith_builtin->AX,evalArgs_plain->Bi,spliced_cons->BP,Name_function_global->Sv,spliced_nil->HZ
open Option renaming map_eq_some_iff->B8,isSome_map->A3,getD_some->B3,isSome_iff_exists->KZ,getD_none->Sk
open Classical renaming byContradiction->F9
open PyProof.Rows.F renaming plain_set_update_loop->EB,entry_set_update_loop->JU
open PySem.Code renaming quiet_builtin->BH
open PySem.SetTable renaming insertAt_perm->Gg
open PySem.W renaming hideAll_none->IH,plainGet_of->Fq,hideAll_get->E9,of_hideAll->Il,callWith_K->DW,funFrames_hide->ML,cellsFrom_some->Ke,methodCall_KW->O5,kia_one->Nh,mg_of->N8
open PySem.Heap.SameBut renaming update->Fn,refl->jhV
open PySem.SeqAt.EqAt renaming same->zg,int_str->O6,of_refs->LI,str_int->Md,bool_none->jhy,bool_bool->jhz,none_bool->jhA,int_none->Xk,bool_int->WR,none_str->ZT,int_bool->jhJ,str_bool->V3,bool_str->jhM,str_none->jhN,none_int->XS,int_int->U0,str_str->Xh
open List.Pairwise renaming map->DQ,imp_of_mem->WY,and->jhX
open PySem.StrLaws renaming subAt_eq->HV,glued_eq_join->K3
open PySem.W.Fast renaming te11892475500146522536->UR,te10156331382660048174->W0,te14364793385576792824->jfv,te4187177175401517315->jfA,te9446332074065402090->Zj,te6613529449190102663->ZH
open PySem.P renaming truthy_str->KC
open PySem.SeqAt renaming list_indexAt->Mc
open Int.ofNat renaming inj->F1
open PySem.Obj renaming data_mapFields->Qq
open PySem.Heap.IsSliceOf renaming new->Oq
open PySem.Walks renaming list->Bt
open PySem.Value renaming isInt_shape->O0
open Nat.succ renaming inj->DL
open PySem.Heap.DictOf renaming new->Ob
open Sum.inr renaming inj->C8
open PySem.SeqAt.RcNeAt renaming lists_lengths->Yz,tuples->Vp,lists->jhQ
open PySem.EqNone renaming ne_none_bool->jgG,eq_none_none->Yv,eq_bool_none->jgM,ne_none_none->jgN,ne_bool_none->jgO,eq_none_bool->jgS,ne_int_none->jgT,eq_str_none->jgU,ne_str_none->jgV,eq_int_none->Xl,eq_none_str->WK,ne_none_int->Yc,eq_none_int->VL,ne_none_str->jg8
open PySem.EqMixed renaming ne_str_bool->YK,ne_bool_str->jgI,eq_bool_str->Zh,eq_str_bool->jgR,ne_int_str->X3,eq_str_int->WL,ne_str_int->jg5,eq_int_str->Yb
open PySem.SeqAt.RcAt renaming lists_lengths->ZG,tuples->WT,lists->Vm
open Prod.mk renaming injEq->K6
open List.cons renaming inj->Sq
open Prod renaming ext->Cm
open PySem.W.KIN renaming call_text->jhs,signs_num->jhx,val_back->WA
open PySem.W.Dflts renaming noKw->W9,none->U3
open PySem.W.Looks renaming here->ZI,ld->jh0
open PySem.Within renaming cons->Z1
open PySem.W.XL renaming keeps->jhZ
open PySem.Heap.IsList renaming push->jh2
open PyProof.Rows.IsTup renaming new->JM
noncomputable section
abbrev aU:=@decide_eq_true
abbrev bo:=@decide_eq_false
abbrev bP:=@of_decide_eq_true
abbrev av:=@if_neg
abbrev aC:=@if_pos
abbrev ka:=@beq_iff_eq
abbrev yd:=@decide_eq_true_eq
abbrev jW:=@or_false
abbrev jZ:=@if_false
abbrev iI:=@if_true
abbrev Ay:=@beq_eq_false_iff_ne
abbrev GN:=@ne_true_of_eq_false
def tD{p:Prop}(h:p:=by decide):p:=h
def tL{p:Prop}(h:p:=by lia):p:=h
def tS{p:Prop}(h:p:=by simp):p:=h
def tK{p:Prop}(h:p:=by kernel_rfl):p:=h
def tO{p:Prop}(h:p:=by omega):p:=h
def tE{p:Prop}(h:p:=by decide+kernel):p:=h
namespace L2
open PySem
noncomputable def xo(s:Stmt)(j:Nat):Stmt:=match s with
 |.ClassDef _ _ _ body _ _ _ _ _ _ _=>body.getD j (.Pass ⟨0,0,0,0⟩)
 |_=>.Pass ⟨0,0,0,0⟩
noncomputable def wI(s:Stmt):Arguments:=match s with
 |.FunctionDef _ a _ _ _ _ _ _ _ _=>a
 |_=>{posonlyargs:=[],args:=[],vararg:=none,kwonlyargs:=[],kw_defaults:=[],kwarg:=none,defaults:=[]}
noncomputable def lP(s:Stmt):List Stmt:=match s with
 |.FunctionDef _ _ b _ _ _ _ _ _ _=>b
 |_=>[]
noncomputable def cK(s:Stmt):Scope:=match s with
 |.FunctionDef _ _ _ _ _ _ sc _ _ _=>sc
 |_=>{kind:=.function,names:=[],isGenerator:=false,isCoroutine:=false}
end L2
namespace My
open PySem L2
noncomputable def aP:List Stmt->Stmt
 |x::_=>x
 |[]=>.Pass ⟨0,0,0,0⟩
noncomputable def aF:List Stmt->List Stmt
 |_::r=>r
 |[]=>[]
noncomputable def Vy(s:Stmt):Pos:=match s with
 |.FunctionDef _ _ _ _ _ _ _ _ _ p=>p
 |_=>⟨0,0,0,0⟩
structure Rw where
 n:Str
 q:Str
 N:List Str
 k:Nat
 s:Stmt
 a:Addr
 m:Value
 t:Nat
 l:Nat
 x:Nat
namespace Rw
noncomputable abbrev ps(r:Rw):List Str:=r.N.take r.k
abbrev fd(r:Rw):FuncData:=PySem.W.fnOf r.n r.q (wI r.s) (lP r.s) (cK r.s) .none .none .none r.m none (.ref (r.a-1)) .none
noncomputable def SD:Str := "/claim/cut.py"
noncomputable def z(n:Nat):Value:=.int (Int.ofNat n) 0
noncomputable def few(r:Rw):Bool:=Nat.beq r.x 3
def rows(r:Rw):List (Addr×Obj) :=
 [(r.a-1,⟨.type "code",none,.fields #[.str r.n r.t,.str r.q (r.t+1),.str SD (r.t+2),z r.l,z r.k,z 0,z 0,z 3,.ref (bif r.few then r.a-4 else r.a-6),.bool true,z 181,.ref (bif r.few then r.a-3 else r.a-5),.none,
   bif r.few then .none else .ref (r.a-4),bif r.few then .none else .ref (r.a-3),.ref (r.a-2),z (r.t+r.x),z r.l,.str SD (r.t+r.x+1)],#[]⟩),
  (r.a,⟨.type "function",none,.func r.fd,#[]⟩)]
end Rw
noncomputable abbrev en(P:Params)(x:Str)(t:Nat)(v:Value):DictEntry:=⟨PyData.keyHash P x,.str x t,v⟩
end My
namespace OH
open PySem PySem.W PyProof.Rows
noncomputable def vq(tb:String->Option Builtin)(p:Program)(w:World)(n₀:Nat)(ann:Option Value):Nat->SharedT->Thread->Option SharedT
 |0,_,_=>none
 |n+1,s,t=>match through t with
  |true=>some s
  |false=>match stepOk n₀ ann t with
   |false=>none
   |true=>match stepT (denote tb) p w s t with
    |some x=>vq tb p w n₀ ann n x.1 x.2
    |none=>none
def zbU:∀{s r:SharedT}{t:Thread},vq tb p w n₀ ann n s t=some r->topRun tb p w n₀ ann n s.abs t=some r.abs:=by
 induction n with
 |zero=>intro s r t h;cases h
 |succ n ih =>
  intro s r t h;unfold vq at h;unfold topRun;cases a:through t with
  |true=>rw[a]at h;cases h;rfl
  |false =>
   rw[a]at h;cases b:stepOk n₀ ann t with
   |false=>rw[b]at h;cases h
   |true =>
    rw[b]at h;cases c:stepT (denote tb) p w s t with
    |none=>rw[c]at h;cases h
    |some x=>rw[c]at h;rw[stepT_spec c];exact ih h
noncomputable def yb(p:Program)(w:World)(n₀:Nat)(ann:Option Value):Nat->SharedT->Thread->Option SharedT
 |0,_,_=>none
 |n+1,s,t=>match through t with
  |true=>some s
  |false=>match PySem.W.Fast.tw6613529449190102663 n₀ ann t with
   |false=>none
   |true=>match PySem.W.Fast.tw10156331382660048174 (PySem.W.Fast.tw11892475500146522536 PySem.W.Fast.tw14364793385576792824) p w s t with
    |some x=>yb p w n₀ ann n x.1 x.2
    |none=>none
def Vx:∀{s:SharedT}{t:Thread},yb p w n₀ ann n s t=vq treeTable p w n₀ ann n s t:=by
 induction n with
 |zero=>intro s t;rfl
 |succ n ih =>
  intro s t;unfold yb vq;rw[<-ZH,<-W0,<-UR,<-jfv];cases through t<;>cases stepOk n₀ ann t<;>try rfl
  cases stepT (denote treeTable) p w s t with
  |none=>rfl
  |some x=>exact ih
noncomputable def C0(P:Params):BT :=
 .node (boot_o_0 P)
  (.node (boot_o_1 P) (.node (boot_o_3 P) (.node (boot_o_7 P) .nil .nil) .nil) (.node (boot_o_5 P) (.node (boot_o_9 P) .nil .nil) .nil))
  (.node (boot_o_2 P) (.node (boot_o_4 P) (.node (boot_o_8 P) .nil .nil) .nil) (.node (boot_o_6 P) (.node (boot_o_10 P) .nil .nil) .nil))
def VJ(P:Params):boot_heap P=absHeap (C0 P) 11 (boot_heap P).life:=by kernel_rfl
def zcz(w:World):((boot_heap w.params).isNs mainGlobals,(boot_heap w.params).objs.size,(boot_heap w.params).nsMap mainGlobals "__annotations__")=(true,11,some (.ref 6)):=by kernel_rfl
abbrev EJ(P:Params)(os:OsState):SharedT:=⟨C0 P,11,(boot_heap P).life,#[],boot_drawn,boot_toks,os⟩
def left
  (e:opening p=plainProg p.main.scope.names) (hN:Nat.ble 600 N=true) (f:∀s,fenceModules? p s=some s)
  (run:∀w:World,(λos=>(yb p w 11 (some (.ref 6)) N (EJ w.params os) (topStub p)).map λs =>
    (staticsOk (importedModules p.main.body) (boot_heap w.params) s.abs.heap&&namesBound p s.abs.heap&&gensDone s.abs&&laidKept (boot_heap w.params) s.abs.heap,PySem.W.Fast.tw4187177175401517315 q loose (importedModules p.main.body) Xt true s.abs,Yf s.abs))=λ_=>some (true,openGood q loose,Ya w)):LeftO p q loose Xt Yf Ya N:=λw=>by
 obtain⟨⟨h,gs,d,k,os⟩,x,x'⟩:=B8.mp (boot_open e hN f w);obtain⟨rfl,rfl,rfl,rfl⟩:h=boot_heap w.params/\gs=Array.mk []/\d=boot_drawn/\k=boot_toks:=by simpa using x'
 obtain⟨z1,z2,z3⟩:_/\_/\_:=by simpa only [K6] using zcz w
 obtain⟨s,r,l⟩:=B8.mp (congrFun (run w) os);rw[<-jfA]at l;obtain⟨l1,l2,l3⟩:_/\_/\_:=by simpa only [K6] using l
 have t:=zbU (Vx.symm.trans r);have b:(EJ w.params os).abs=⟨boot_heap w.params,Array.mk [],boot_drawn,boot_toks,os⟩:=by
  show (⟨absHeap (C0 w.params) 11 (boot_heap w.params).life,_,_,_,_⟩:Shared)=_;rw[<-VJ]
 rw[b]at t;have y:topFrom treeTable p w N ⟨boot_heap w.params,Array.mk [],boot_drawn,boot_toks,os⟩=some s.abs:=by
  unfold topFrom;dsimp only;rw[z1,z2,z3,t];show (match staticsOk (importedModules p.main.body) (boot_heap w.params) s.abs.heap&&namesBound p s.abs.heap&&gensDone s.abs&&laidKept (boot_heap w.params) s.abs.heap with|true=>_|false=>_)=_;rw[l1]
 unfold openEnds;rw[x];show (topFrom treeTable p w N _).map _=_;rw[y];exact congrArg some (Cm l2 l3)
end OH
namespace My
open PySem L2
noncomputable def Y9:List Stmt:=PySem.Challenge.pw_onceform_k84_desk_asks.main.body
def Ov:=aF Y9
def PU:=aF Ov
def NA:=aF PU
def bd4:=aF NA
def P9:=aF bd4
def Mx:=aF P9
def SK:=aF Mx
def Ra:=aF SK
def Ny:=aF Ra
def Kz:=aF Ny
def L5:=aF Kz
def MI:=aF L5
def Li:=aF MI
def zb2:=aF Li
def NS:=aF zb2
def So:=aF NS
def Mz:=aF So
def RM:=aF Mz
def Nn:=aF RM
def Mj:=aF Nn
def JW:=aF Mj
def OL:=aF JW
def zac:=aF OL
def YC:=aF zac
def zal:=aF YC
def Wd:=aF zal
def zcB:=aF Wd
def WZ:=aF zcB
def Uj:=aF WZ
def Xr:=aF Uj
def Vn:=aF Xr
def zaa:=aF Vn
def Og:=aF zaa
def Rn:=aF Og
def Ly:=aF Rn
def UJ:=aF Ly
def Tn:=aF UJ
def Qo:=aF Tn
def zaJ:=aF Qo
def Lq:=aF zaJ
def L6:=aF Lq
def JC:=aF L6
def Tr:=aF JC
def zel:=aF Tr
def VI:=aF zel
def Lw:=aF VI
def ND:=aF Lw
def W7:=aF ND
def Vg:=aF W7
def Vb:=aF Vg
def zaj:=aF Vb
def MC:=aF zaj
def Kw:=aF MC
def Sn:=aF Kw
def SH:=aF Sn
def JA:=aF SH
def Jw:=aF JA
def Mp:=aF Jw
def KG:=aF Mp
def Ni:=aF KG
def Pn:=aF Ni
def Vj:=aF Pn
def zbV:=aF Vj
def Lk:=aF zbV
def KR:=aF Lk
def OR:=aF KR
def Nz:=aF OR
def Jl:=aF Nz
def O9:=aF Jl
def JH:=aF O9
def Rv:=aF JH
def zcV:=aF Rv
def Z6:=aF zcV
def Yi:=aF Z6
def zcw:=aF Yi
def Ol:=aF zcw
def Qs:=aF Ol
def Kv:=aF Qs
def JD:=aF Kv
def KJ:=aF JD
def JV:=aF KJ
def Sa:=aF JV
def XA:=aF Sa
def LV:=aF XA
def ZW:=aF LV
def ua:=aF ZW
def Jz:=aF ua
def LG:=aF Jz
def Na:=aF LG
def NL:=aF Na
def MK:=aF NL
def O3:=aF MK
def Mi:=aF O3
def Vt:=aF Mi
def Tp:=aF Vt
def IY:=aF Tp
def SY:=aF IY
def Te:=aF SY
def Js:=aF Te
def Pk:=aF Js
def OM:=aF Pk
def Ux:=aF OM
def XE:=aF Ux
def O2:=aF XE
def Mw:=aF O2
def L1:=aF Mw
def PH:=aF L1
def SO:=aF PH
def Sf:=aF SO
def Jh:=aF Sf
def Th:=aF Jh
def P8:=aF Th
def Pc:=aF P8
def LK:=aF Pc
def Sd:=aF LK
def Ro:=aF Sd
def Sl:=aF Ro
def LD:=aF Sl
def Ku:=aF LD
def QK:=aF Ku
def NF:=aF QK
def Km:=aF NF
def MP:=aF Km
def Sg:=aF MP
def PB:=aF Sg
def JT:=aF PB
def Lj:=aF JT
def Sw:=aF Lj
def YF:=aF Sw
noncomputable abbrev M0:Value:=.str "onceform.bits" 187
noncomputable abbrev M1:Value:=.str "onceform.forms" 214
noncomputable abbrev M2:Value:=.str "onceform.changes" 294
noncomputable abbrev M3:Value:=.str "onceform.tables" 488
noncomputable abbrev M4:Value:=.str "onceform.least" 531
noncomputable abbrev M5:Value:=.str "onceform.words" 560
noncomputable abbrev M6:Value:=.str "onceform.statements" 587
noncomputable abbrev M7:Value:=.str "onceform.text" 694
noncomputable abbrev M8:Value:=.str "onceform.lines" 762
noncomputable abbrev M9:Value:=.str "onceform.trees" 867
noncomputable abbrev kI:Value:=.str "onceform.desk" 877
noncomputable abbrev c6:Value:=.str "law_onceform_k84_desk_asks" 1001
abbrev IW:Rw:=⟨"unknowns","unknowns",["form","together","members","number"],1,aP MI,83,M1,274,38,7⟩
abbrev AI:Rw:=⟨"is_name","is_name",["word"],1,aP JV,486,M8,855,338,3⟩
abbrev Cg:Rw:=⟨"is_number","is_number",["word"],1,aP Sa,491,M8,861,340,3⟩
abbrev Gf:Rw:=⟨"is_of","is_of",["kind","word"],2,aP KJ,481,M8,847,330,5⟩
abbrev F8:Rw:=⟨"thing_read","thing_read",["kind","word"],2,aP JD,474,M8,839,322,5⟩
abbrev z9:Rw:=⟨"things_read","things_read",["kinds","words"],2,aP Kv,467,M8,833,318,3⟩
abbrev Ie:Rw:=⟨"kept_read","kept_read",["name","sign","text","words"],3,aP Qs,462,M8,823,313,7⟩
abbrev FF:Rw:=⟨"line_read","line_read",["line","words"],1,aP Ol,455,M8,815,308,5⟩
abbrev Ea:Rw:=⟨"kept","Desk.kept",["self","name"],2,xo (aP ua) 2,526,kI,910,362,5⟩
abbrev zu:Rw:=⟨"form_from","form_from",["numbers"],1,aP P9,38,M1,216,16,3⟩
abbrev ED:Rw:=⟨"times","times",["one","other","numbers","members","number","others","factor","both"],2,aP Ny,66,M1,248,27,11⟩
abbrev GF:Rw:=⟨"made","made",["some","numbers","members","number"],1,aP Mx,45,M1,222,18,7⟩
abbrev F6:Rw:=⟨"plus","plus",["one","other"],2,aP SK,52,M1,232,23,5⟩
abbrev B2:Rw:=⟨"scaled","scaled",["form","number"],2,aP Kz,71,M1,262,34,3⟩
abbrev Hg:Rw:=⟨"less","less",["one","other"],2,aP Ra,59,M1,240,25,5⟩
abbrev HY:Rw:=⟨"combined","combined",["word","one","other"],3,aP Na,568,kI,962,397,6⟩
abbrev GO:Rw:=⟨"read_number","read_number",["figures","letters","number","figure"],2,aP JH,427,M7,741,285,7⟩
abbrev FV:Rw:=⟨"doubled","doubled",["many","size","turn"],1,aP Ov,21,M0,189,2,6⟩
abbrev E7:Rw:=⟨"read_set","read_set",["letters","members","last","letter","k"],1,aP Rv,434,M7,751,294,8⟩
abbrev Ir:Rw:=⟨"read_tuple","read_tuple",["sign","word","letters","number"],2,aP O9,420,M7,731,279,7⟩
abbrev IV:Rw:=⟨"is_form","is_form",["some","last","members","number"],1,aP Li,90,M1,284,43,7⟩
abbrev B7:Rw:=⟨"form_read","form_read",["text","words","form"],1,aP Jl,413,M7,725,264,3⟩
abbrev CP:Rw:=⟨"token_at","token_at",["text","place","token"],2,aP Jw,356,M6,650,211,6⟩
abbrev Dn:Rw:=⟨"tokens_of","tokens_of",["text","tokens","place","token"],1,aP JA,349,M6,640,203,7⟩
abbrev GL:Rw:=⟨"with_joining","with_joining",["part","begun"],2,aP Pn,384,M6,686,244,5⟩
abbrev Fe:Rw:=⟨"with_nots","with_nots",["part","begun"],2,aP Ni,377,M6,678,240,5⟩
abbrev Dc:Rw:=⟨"part_from","part_from",["token","begun","k"],2,aP Mp,363,M6,659,216,6⟩
abbrev HL:Rw:=⟨"part_after","part_after",["token","part","begun","word"],3,aP KG,370,M6,668,226,7⟩
abbrev DM:Rw:=⟨"read","read",["text","begun","part","token"],1,aP SH,342,M6,630,189,7⟩
abbrev Dh:Rw:=⟨"parts_of","parts_of",["statement","parts","waiting","part"],1,aP Kw,328,M6,611,174,7⟩
abbrev FI:Rw:=⟨"paired_tables","paired_tables",["one","other","many"],2,aP Ly,254,M3,502,98,6⟩
abbrev HS:Rw:=⟨"joined","joined",["word","one","other","both","taken"],3,aP ND,312,M5,576,150,8⟩
abbrev CK:Rw:=⟨"form_of_word","form_of_word",["word","parts","tables"],2,aP Lw,305,M5,570,143,3⟩
abbrev DT:Rw:=⟨"form_of_statement","form_of_statement",["statement","forms","part","word","last"],1,aP MC,321,M6,600,160,8⟩
abbrev DY:Rw:=⟨"bits_in","bits_in",["statement","bits","part"],1,aP Sn,335,M6,621,183,6⟩
abbrev DB:Rw:=⟨"form_of_text","form_of_text",["text","statement"],1,aP Jz,554,kI,947,388,5⟩
abbrev Ah:Rw:=⟨"without","without",["form","bit"],2,aP NS,95,M2,296,51,3⟩
abbrev zB:Rw:=⟨"freed","freed",["form","bit"],2,aP So,100,M2,302,53,3⟩
abbrev D8:Rw:=⟨"fixed","fixed",["form","k","bit","own"],3,aP Mz,107,M2,308,55,7⟩
abbrev IQ:Rw:=⟨"put_in","put_in",["form","k","other","own"],3,aP Nn,121,M2,325,62,7⟩
abbrev GP:Rw:=⟨"is_yes_no","is_yes_no",["form"],1,aP RM,114,M2,318,60,4⟩
abbrev IS:Rw:=⟨"yes_no","yes_no",["form"],1,aP LG,561,kI,955,393,4⟩
abbrev Iv:Rw:=⟨"form_for","Desk.form_for",["self","word","things","form"],3,xo (aP ua) 3,533,kI,918,367,7⟩
abbrev AK:Rw:=⟨"refuse_great","refuse_great",["form","bound"],1,aP NL,573,kI,971,403,3⟩
abbrev Cd:Rw:=⟨"gathered","gathered",["numbers","sign","turns","turn","without"],2,aP Og,242,M3,490,89,3⟩
abbrev yV:Rw:=⟨"table_of","table_of",["form","many","numbers"],2,aP Rn,247,M3,496,95,3⟩
abbrev FR:Rw:=⟨"bits_of","bits_of",["given","many","bits","k"],2,aP PU,28,M0,198,7,7⟩
abbrev zT:Rw:=⟨"listed","listed",["members"],1,aP NA,33,M0,208,13,3⟩
abbrev A5:Rw:=⟨"heaviest","heaviest",["form","weights","members","number","k"],1,aP Tr,293,M4,554,127,3⟩
abbrev zy:Rw:=⟨"floor","floor",["form"],1,aP Lq,276,M4,533,114,3⟩
abbrev yu:Rw:=⟨"paper_for","paper_for",["form","number","k"],2,aP JC,288,M4,545,122,6⟩
abbrev A1:Rw:=⟨"least","least",["form","many","table","number","size","inside"],2,aP L6,281,M4,539,116,3⟩
abbrev Hu:Rw:=⟨"shown_sign","shown_sign",["number"],1,aP KR,396,M7,704,256,4⟩
abbrev BC:Rw:=⟨"shown_set","shown_set",["members"],1,aP Nz,408,M7,719,262,3⟩
abbrev Df:Rw:=⟨"shown_tuple","shown_tuple",["members","number"],2,aP OR,403,M7,711,258,5⟩
abbrev yO:Rw:=⟨"form_shown","form_shown",["form","parts","ahead"],1,aP Lk,389,M7,698,250,3⟩
abbrev Iy:Rw:=⟨"few_unknowns","few_unknowns",["form","many"],1,aP O3,587,kI,986,418,5⟩
abbrev Iw:Rw:=⟨"holders","holders",["members","size"],2,aP Qo,271,M3,523,108,5⟩
abbrev AW:Rw:=⟨"whole_sum","whole_sum",["form","many","size"],2,aP Tn,264,M3,517,105,3⟩
abbrev Gb:Rw:=⟨"ways","ways",["form","many"],2,aP LV,498,M9,869,345,5⟩
abbrev FN:Rw:=⟨"told_of","told_of",["word","form","found"],2,aP MK,580,kI,977,409,6⟩
abbrev Ek:Rw:=⟨"told_place","told_place",["given"],1,aP Mi,594,kI,994,423,4⟩
abbrev Ab:Rw:=⟨"worth","worth",["form","given"],2,aP L5,76,M1,268,36,3⟩
abbrev CG:Rw:=⟨"first_set","first_set",["form"],1,aP OL,140,M2,349,69,4⟩
abbrev Dx:Rw:=⟨"unlike","unlike",["one","other"],2,aP Mj,128,M2,335,65,5⟩
abbrev yK:Rw:=⟨"unlike_by","unlike_by",["one","other","m"],3,aP JW,133,M2,343,67,3⟩
abbrev CC:Rw:=⟨"answer","Desk.answer",["self","word","things","form"],3,xo (aP ua) 4,540,kI,928,379,7⟩
abbrev Ik:Rw:=⟨"say","Desk.say",["self","line","name","word","things","form"],2,xo (aP ua) 1,519,kI,898,353,9⟩
abbrev Bj:Rw:=⟨"_law_says","_law_says",["_law_desk","_law_line","_law_caught","_law_found","e","_law_sorts"],2,aP Ro,730,c6,1178,567,3⟩
abbrev BO:Rw:=⟨"_law_small","_law_small",["_law_form"],1,aP Sl,735,c6,1184,582,3⟩
abbrev yz:Rw:=⟨"_law_made","_law_made",["_law_some","_law_numbers","_law_one","_law_number"],1,aP Te,620,c6,1032,447,3⟩
abbrev Cr:Rw:=⟨"_law_told_form","_law_told_form",["_law_xs","_law_letters_here","_law_some","_law_j","_law_where"],2,aP LD,740,c6,1190,584,3⟩
abbrev FK:Rw:=⟨"_law_statement","_law_statement",["_law_numbers","_law_letters_here","_law_stack","_law_number","_law_other","_law_one"],2,aP Pk,632,c6,1044,454,9⟩
abbrev Bh:Rw:=⟨"_law_letters_of","_law_letters_of",["_law_one"],1,aP L1,670,c6,1098,511,3⟩
abbrev CV:Rw:=⟨"_law_shown","_law_shown",["_law_form","_law_words","_law_one","_law_number","_law_figures"],1,aP PH,677,c6,1104,513,8⟩
abbrev A6:Rw:=⟨"_law_text","_law_text",["_law_statement_here","_law_one"],1,aP Mw,665,c6,1090,502,5⟩
abbrev GI:Rw:=⟨"_law_bracketed","_law_bracketed",["_law_statement_here"],1,aP O2,658,c6,1083,498,4⟩
abbrev CJ:Rw:=⟨"_law_maker","_law_maker",["_law_there","_law_names_here","_law_letters_here","_law_xs","_law_first","_law_second","_law_letter","_law_sign","_law_name","_law_way","_law_fine","_law_form","_law_statement_here","_law_line","_law_word"],4,aP NF,761,c6,1216,611,18⟩
abbrev Hr:Rw:=⟨"_law_mixed","_law_mixed",["_law_cell","_law_k","_law_number"],2,aP IY,608,c6,1011,430,6⟩
abbrev vf:Rw:=⟨"_law_names","_law_names",["_law_number","_law_letters_here","_law_tail","_law_names_here"],1,aP SO,682,c6,1115,526,3⟩
abbrev HE:Rw:=⟨"_law_letters","_law_letters",["_law_number","_law_many","_law_found","_law_k","_law_at_here"],2,aP OM,639,c6,1056,474,8⟩
abbrev Ck:Rw:=⟨"__init__","Desk.__init__",["self"],1,xo (aP ua) 0,512,kI,891,350,4⟩
abbrev FO:Rw:=⟨"_law_at","_law_at",["_law_script","_law_k"],2,aP Tp,601,c6,1003,426,5⟩
abbrev Hj:Rw:=⟨"_law_stream","_law_stream",["_law_cell","_law_k","_law_found","_law_left","_law_j","_law_number"],2,aP SY,615,c6,1020,434,9⟩
abbrev DR:Rw:=⟨"_law_question","_law_question",["_law_names_here","_law_xs","_law_first","_law_second","_law_word","_law_given","_law_m"],2,aP Sw,804,c6,1289,675,10⟩
abbrev FT:Rw:=⟨"_law_every","_law_every",["_law_form","_law_every_here","_law_where","_law_number"],1,aP Sg,780,c6,1253,640,7⟩
abbrev Az:Rw:=⟨"_law_worth","_law_worth",["_law_form","_law_given"],2,aP Js,625,c6,1038,452,3⟩
abbrev yH:Rw:=⟨"_law_least","_law_least",["_law_form","_law_many","_law_worths"],2,aP Km,766,c6,1237,632,3⟩
abbrev Hd:Rw:=⟨"_law_place","_law_place",["_law_form","_law_m","_law_where","_law_number"],2,aP MP,773,c6,1243,635,7⟩
abbrev zk:Rw:=⟨"_law_times","_law_times",["_law_one","_law_other","_law_some","_law_mine","_law_number"],2,aP Jh,692,c6,1127,535,3⟩
abbrev FP:Rw:=⟨"_law_yes_no","_law_yes_no",["_law_form"],1,aP LK,718,c6,1161,550,4⟩
abbrev zc:Rw:=⟨"_law_size","_law_size",["_law_one"],1,aP JT,790,c6,1269,651,3⟩
abbrev zE:Rw:=⟨"_law_ways_due","_law_ways_due",["_law_form","_law_many"],2,aP PB,785,c6,1263,645,3⟩
abbrev zG:Rw:=⟨"_law_plus","_law_plus",["_law_one","_law_other","_law_sign"],3,aP Sf,687,c6,1121,533,3⟩
abbrev Fx:Rw:=⟨"_law_due_answer","_law_due_answer",["_law_there","_law_deed","_law_word","_law_part","_law_line","_law_form","_law_every_here","_law_many"],2,aP Lj,797,c6,1275,653,11⟩
abbrev uX:Rw:=⟨"_law_parted","_law_parted",["_law_form","_law_k","_law_bit","_law_ones"],2,aP Th,697,c6,1133,540,3⟩
abbrev Fm:Rw:=⟨"_law_put","_law_put",["_law_form","_law_k","_law_other","_law_ones","_law_others"],3,aP Pc,711,c6,1150,547,8⟩
abbrev z0:Rw:=⟨"_law_stated","_law_stated",["_law_statement_here","_law_one","_law_other","_law_both"],1,aP Sd,725,c6,1168,552,7⟩
abbrev Ia:Rw:=⟨"_law_fixed","_law_fixed",["_law_form","_law_k","_law_bit","_law_ones","_law_others"],3,aP P8,704,c6,1139,544,8⟩
abbrev ER:Rw:=⟨"_law_of_two","_law_of_two",["_law_word","_law_one","_law_other"],3,aP Ku,747,c6,1196,590,6⟩
abbrev IT:Rw:=⟨"_law_due_form","_law_due_form",["_law_there","_law_deed","_law_word","_law_part","_law_line"],2,aP QK,754,c6,1205,594,8⟩
abbrev nG:Rw:=⟨"law","law",["_law_script","_law_number","_law_names_here","_law_letters_here","_law_desk","_law_there","_law_leasts","_law_cells","_law_k","_law_xs","_law_deed","_law_due","_law_name","_law_found"],1,aP YF,809,c6,1302,688,3⟩
def rws:List Rw:=[IW,AI,Cg,Gf,F8,z9,Ie,FF,Ea,zu,ED,GF,F6,B2,Hg,HY,GO,FV,E7,Ir,IV,B7,CP,Dn,GL,Fe,Dc,HL,DM,Dh,FI,HS,CK,DT,DY,DB,Ah,zB,D8,IQ,GP,IS,Iv,AK,Cd,yV,FR,zT,A5,zy,yu,A1,Hu,BC,Df,yO,Iy,Iw,AW,Gb,FN,Ek,Ab,CG,Dx,yK,CC,Ik,Bj,BO,yz,Cr,FK,Bh,CV,A6,GI,CJ,Hr,vf,HE,Ck,FO,Hj,DR,FT,Az,yH,Hd,zk,FP,zc,zE,zG,Fx,uX,Fm,z0,Ia,ER,IT,nG]
def K (P:Params):Frag:=(3,⟨.type "dict",none,.dict #[en P "__name__" 165 (.str "law_onceform_k84_desk_asks" 1001),en P "__doc__" 166 .none,en P "__package__" 167 .none,en P "__loader__" 168 (.builtin "__main__.__loader__#opaque"),en P "__spec__" 169 .none,en P "__annotations__" 170 (.ref 6),en P "__builtins__" 171 (.ref 4),en P "__file__" 173 (.str "/claim/cut.py" 172),en P "__cached__" 174 .none,en P "doubled" 197 (.ref 21),en P "bits_of" 207 (.ref 28),en P "listed" 213 (.ref 33),en P "form_from" 221 (.ref 38),en P "made" 231 (.ref 45),en P "plus" 239 (.ref 52),en P "less" 247 (.ref 59),en P "times" 261 (.ref 66),en P "scaled" 267 (.ref 71),en P "worth" 273 (.ref 76),en P "unknowns" 283 (.ref 83),en P "is_form" 293 (.ref 90),en P "without" 301 (.ref 95),en P "freed" 307 (.ref 100),en P "fixed" 317 (.ref 107),en P "is_yes_no" 324 (.ref 114),en P "put_in" 334 (.ref 121),en P "unlike" 342 (.ref 128),en P "unlike_by" 348 (.ref 133),en P "first_set" 355 (.ref 140),en P "FormError" 375 (.ref 150),en P "NoStatement" 391 (.ref 163),en P "NoPull" 407 (.ref 175),en P "NoForm" 423 (.ref 187),en P "NoLine" 439 (.ref 199),en P "NoName" 455 (.ref 211),en P "NoYesNo" 471 (.ref 223),en P "TooMany" 487 (.ref 235),en P "gathered" 495 (.ref 242),en P "table_of" 501 (.ref 247),en P "paired_tables" 510 (.ref 254),en P "form_of" 516 (.ref 259),en P "whole_sum" 522 (.ref 264),en P "holders" 530 (.ref 271),en P "floor" 538 (.ref 276),en P "least" 544 (.ref 281),en P "paper_for" 553 (.ref 288),en P "heaviest" 559 (.ref 293),en P "bit_of_word" 569 (.ref 300),en P "form_of_word" 575 (.ref 305),en P "joined" 586 (.ref 312),en P "LETTERS" 590 (.str "abcdefghijklmnop" 589),en P "JOINING" 594 (.ref 313),en P "SPACED" 599 (.ref 314),en P "form_of_statement" 610 (.ref 321),en P "parts_of" 620 (.ref 328),en P "bits_in" 629 (.ref 335),en P "read" 639 (.ref 342),en P "tokens_of" 649 (.ref 349),en P "token_at" 658 (.ref 356),en P "part_from" 667 (.ref 363),en P "part_after" 677 (.ref 370),en P "with_nots" 685 (.ref 377),en P "with_joining" 693 (.ref 384),en P "FIGURES" 697 (.str "0123456789" 696),en P "form_shown" 703 (.ref 389),en P "shown_sign" 710 (.ref 396),en P "shown_tuple" 718 (.ref 403),en P "shown_set" 724 (.ref 408),en P "form_read" 730 (.ref 413),en P "read_tuple" 740 (.ref 420),en P "read_number" 750 (.ref 427),en P "read_set" 761 (.ref 434),en P "SMALL_LETTERS" 765 (.str "abcdefghijklmnopqrstuvwxyz" 764),en P "ASKED" 791 (.ref 435),en P "MADE" 814 (.ref 443),en P "line_read" 822 (.ref 455),en P "kept_read" 832 (.ref 462),en P "things_read" 838 (.ref 467),en P "thing_read" 846 (.ref 474),en P "is_of" 854 (.ref 481),en P "is_name" 860 (.ref 486),en P "is_number" 866 (.ref 491),en P "ways" 876 (.ref 498),en P "Desk" 946 (.ref 543),en P "form_of_text" 954 (.ref 554),en P "yes_no" 961 (.ref 561),en P "combined" 970 (.ref 568),en P "refuse_great" 976 (.ref 573),en P "told_of" 985 (.ref 580),en P "few_unknowns" 993 (.ref 587),en P "told_place" 1000 (.ref 594),en P "_law_at" 1010 (.ref 601),en P "_law_mixed" 1019 (.ref 608),en P "_law_stream" 1031 (.ref 615),en P "_law_made" 1037 (.ref 620),en P "_law_worth" 1043 (.ref 625),en P "_law_statement" 1055 (.ref 632),en P "_law_letters" 1066 (.ref 639),en P "_law_holds_at" 1076 (.ref 646),en P "_law_spread" 1082 (.ref 651),en P "_law_bracketed" 1089 (.ref 658),en P "_law_text" 1097 (.ref 665),en P "_law_letters_of" 1103 (.ref 670),en P "_law_shown" 1114 (.ref 677),en P "_law_names" 1120 (.ref 682),en P "_law_plus" 1126 (.ref 687),en P "_law_times" 1132 (.ref 692),en P "_law_parted" 1138 (.ref 697),en P "_law_fixed" 1149 (.ref 704),en P "_law_put" 1160 (.ref 711),en P "_law_yes_no" 1167 (.ref 718),en P "_law_stated" 1177 (.ref 725),en P "_law_says" 1183 (.ref 730),en P "_law_small" 1189 (.ref 735),en P "_law_told_form" 1195 (.ref 740),en P "_law_of_two" 1204 (.ref 747),en P "_law_due_form" 1215 (.ref 754),en P "_law_maker" 1236 (.ref 761),en P "_law_least" 1242 (.ref 766),en P "_law_place" 1252 (.ref 773),en P "_law_every" 1262 (.ref 780),en P "_law_ways_due" 1268 (.ref 785),en P "_law_size" 1274 (.ref 790),en P "_law_due_answer" 1288 (.ref 797),en P "_law_question" 1301 (.ref 804),en P "law" 1307 (.ref 809)] 126,#[]⟩) :: (rws.flatMap Rw.rows ++ [(149,⟨.type "dict",none,.dict #[en P "__module__" 365 (.str "onceform.errors" 356),en P "__firstlineno__" 369 (.int 72 368),en P "__static_attributes__" 370 (.ref 148),en P "__weakref__" 372 (.ref 151),en P "__doc__" 373 .none] 3,#[]⟩),(150,⟨.type "type",none,.cls ⟨"FormError",[.type "ValueError"],[.ref 150,.type "ValueError",.type "Exception",.type "BaseException",.type "object"],149,"FormError",true,[],[.ref 163,.ref 175,.ref 187,.ref 199,.ref 211,.ref 223,.ref 235],false,none,false⟩,#[some (.ref 141),none,some (.str "FormError" 358),some (.str "FormError" 366),some (.builtin "ValueError.__new__"),some (.bool true)]⟩),(162,⟨.type "dict",none,.dict #[en P "__module__" 383 (.str "onceform.errors" 356),en P "__firstlineno__" 387 (.int 74 386),en P "__static_attributes__" 388 (.ref 161),en P "__doc__" 389 .none] 2,#[]⟩),(163,⟨.type "type",none,.cls ⟨"NoStatement",[.ref 150],[.ref 163,.ref 150,.type "ValueError",.type "Exception",.type "BaseException",.type "object"],162,"NoStatement",true,[],[],false,none,false⟩,#[some (.ref 154),none,some (.str "NoStatement" 376),some (.str "NoStatement" 384),some (.builtin "ValueError.__new__"),some (.bool true)]⟩),(174,⟨.type "dict",none,.dict #[en P "__module__" 399 (.str "onceform.errors" 356),en P "__firstlineno__" 403 (.int 76 402),en P "__static_attributes__" 404 (.ref 173),en P "__doc__" 405 .none] 2,#[]⟩),(175,⟨.type "type",none,.cls ⟨"NoPull",[.ref 150],[.ref 175,.ref 150,.type "ValueError",.type "Exception",.type "BaseException",.type "object"],174,"NoPull",true,[],[],false,none,false⟩,#[some (.ref 166),none,some (.str "NoPull" 392),some (.str "NoPull" 400),some (.builtin "ValueError.__new__"),some (.bool true)]⟩),(186,⟨.type "dict",none,.dict #[en P "__module__" 415 (.str "onceform.errors" 356),en P "__firstlineno__" 419 (.int 78 418),en P "__static_attributes__" 420 (.ref 185),en P "__doc__" 421 .none] 2,#[]⟩),(187,⟨.type "type",none,.cls ⟨"NoForm",[.ref 150],[.ref 187,.ref 150,.type "ValueError",.type "Exception",.type "BaseException",.type "object"],186,"NoForm",true,[],[],false,none,false⟩,#[some (.ref 178),none,some (.str "NoForm" 408),some (.str "NoForm" 416),some (.builtin "ValueError.__new__"),some (.bool true)]⟩),(198,⟨.type "dict",none,.dict #[en P "__module__" 431 (.str "onceform.errors" 356),en P "__firstlineno__" 435 (.int 80 434),en P "__static_attributes__" 436 (.ref 197),en P "__doc__" 437 .none] 2,#[]⟩),(199,⟨.type "type",none,.cls ⟨"NoLine",[.ref 150],[.ref 199,.ref 150,.type "ValueError",.type "Exception",.type "BaseException",.type "object"],198,"NoLine",true,[],[],false,none,false⟩,#[some (.ref 190),none,some (.str "NoLine" 424),some (.str "NoLine" 432),some (.builtin "ValueError.__new__"),some (.bool true)]⟩),(210,⟨.type "dict",none,.dict #[en P "__module__" 447 (.str "onceform.errors" 356),en P "__firstlineno__" 451 (.int 82 450),en P "__static_attributes__" 452 (.ref 209),en P "__doc__" 453 .none] 2,#[]⟩),(211,⟨.type "type",none,.cls ⟨"NoName",[.ref 150],[.ref 211,.ref 150,.type "ValueError",.type "Exception",.type "BaseException",.type "object"],210,"NoName",true,[],[],false,none,false⟩,#[some (.ref 202),none,some (.str "NoName" 440),some (.str "NoName" 448),some (.builtin "ValueError.__new__"),some (.bool true)]⟩),(222,⟨.type "dict",none,.dict #[en P "__module__" 463 (.str "onceform.errors" 356),en P "__firstlineno__" 467 (.int 84 466),en P "__static_attributes__" 468 (.ref 221),en P "__doc__" 469 .none] 2,#[]⟩),(223,⟨.type "type",none,.cls ⟨"NoYesNo",[.ref 150],[.ref 223,.ref 150,.type "ValueError",.type "Exception",.type "BaseException",.type "object"],222,"NoYesNo",true,[],[],false,none,false⟩,#[some (.ref 214),none,some (.str "NoYesNo" 456),some (.str "NoYesNo" 464),some (.builtin "ValueError.__new__"),some (.bool true)]⟩),(234,⟨.type "dict",none,.dict #[en P "__module__" 479 (.str "onceform.errors" 356),en P "__firstlineno__" 483 (.int 86 482),en P "__static_attributes__" 484 (.ref 233),en P "__doc__" 485 .none] 2,#[]⟩),(235,⟨.type "type",none,.cls ⟨"TooMany",[.ref 150],[.ref 235,.ref 150,.type "ValueError",.type "Exception",.type "BaseException",.type "object"],234,"TooMany",true,[],[],false,none,false⟩,#[some (.ref 226),none,some (.str "TooMany" 472),some (.str "TooMany" 480),some (.builtin "ValueError.__new__"),some (.bool true)]⟩),(313,⟨.type "tuple",none,.seq #[.str "and" 591,.str "or" 592,.str "xor" 593] 0,#[]⟩),(314,⟨.type "tuple",none,.seq #[.str "not " 595,.str " and " 596,.str " or " 597,.str " xor " 598] 0,#[]⟩),(435,⟨.type "dict",none,.dict #[en P "show" 766 (.ref 436),en P "worth" 768 (.ref 437),en P "alike" 771 (.ref 438),en P "rest" 774 (.ref 439),en P "least" 778 (.ref 440),en P "ways" 780 (.ref 441),en P "unknowns" 782 (.ref 442)] 7,#[]⟩),(436,⟨.type "tuple",none,.seq #[.str "name" 767] 0,#[]⟩),(437,⟨.type "tuple",none,.seq #[.str "name" 769,.str "number" 770] 0,#[]⟩),(438,⟨.type "tuple",none,.seq #[.str "name" 772,.str "name" 773] 0,#[]⟩),(439,⟨.type "tuple",none,.seq #[.str "name" 775,.str "name" 776,.str "divisor" 777] 0,#[]⟩),(440,⟨.type "tuple",none,.seq #[.str "name" 779] 0,#[]⟩),(441,⟨.type "tuple",none,.seq #[.str "name" 781] 0,#[]⟩),(442,⟨.type "tuple",none,.seq #[.str "name" 783] 0,#[]⟩),(443,⟨.type "dict",none,.dict #[en P "plus" 792 (.ref 444),en P "less" 795 (.ref 445),en P "times" 798 (.ref 446),en P "fixed" 801 (.ref 447),en P "put" 805 (.ref 448)] 5,#[]⟩),(444,⟨.type "tuple",none,.seq #[.str "name" 793,.str "name" 794] 0,#[]⟩),(445,⟨.type "tuple",none,.seq #[.str "name" 796,.str "name" 797] 0,#[]⟩),(446,⟨.type "tuple",none,.seq #[.str "name" 799,.str "name" 800] 0,#[]⟩),(447,⟨.type "tuple",none,.seq #[.str "name" 802,.str "letter" 803,.str "bit" 804] 0,#[]⟩),(448,⟨.type "tuple",none,.seq #[.str "name" 806,.str "letter" 807,.str "name" 808] 0,#[]⟩),(542,⟨.type "dict",none,.dict #[en P "__module__" 886 (.str "onceform.desk" 877),en P "__firstlineno__" 890 (.int 348 889),en P "__init__" 897 (.ref 512),en P "say" 909 (.ref 519),en P "kept" 917 (.ref 526),en P "form_for" 927 (.ref 533),en P "answer" 937 (.ref 540),en P "__static_attributes__" 939 (.ref 541),en P "__dict__" 941 (.ref 544),en P "__weakref__" 943 (.ref 545),en P "__doc__" 944 .none] 4,#[]⟩),(543,⟨.type "type",none,.cls ⟨"Desk",[.type "object"],[.ref 543,.type "object"],542,"Desk",true,[],[],false,none,false⟩,#[none,none,some (.str "Desk" 879),some (.str "Desk" 887),some (.builtin "object.__new__"),some (.bool true)]⟩)])
def as:List Addr:=3::(rws.flatMap (λr=>[r.a-1,r.a])++[149,150,162,163,174,175,186,187,198,199,210,211,222,223,234,235,313,314,435,436,437,438,439,440,441,442,443,444,445,446,447,448,542,543])
noncomputable def lo:List Str := "doubled" :: "bits_of" :: "listed" :: "form_from" :: "made" :: "plus" :: "less" :: "times" :: "scaled" :: "worth" :: "unknowns" :: "is_form" :: "without" :: "freed" :: "fixed" :: "is_yes_no" :: "put_in" :: "unlike" :: "unlike_by" :: "first_set" :: "FormError" :: "NoStatement" :: "NoPull" :: "NoForm" :: "NoLine" :: "NoName" :: "NoYesNo" :: "TooMany" :: "gathered" :: "table_of" :: "paired_tables" :: "form_of" :: "whole_sum" :: "holders" :: "floor" :: "least" :: "paper_for" :: "heaviest" :: "bit_of_word" :: "form_of_word" :: "joined" :: "LETTERS" :: "JOINING" :: "SPACED" :: "form_of_statement" :: "parts_of" :: "bits_in" :: "read" :: "tokens_of" :: "token_at" :: "part_from" :: "part_after" :: "with_nots" :: "with_joining" :: "FIGURES" :: "form_shown" :: "shown_sign" :: "shown_tuple" :: "shown_set" :: "form_read" :: "read_tuple" :: "read_number" :: "read_set" :: "SMALL_LETTERS" :: "ASKED" :: "MADE" :: "line_read" :: "kept_read" :: "things_read" :: "thing_read" :: "is_of" :: "is_name" :: "is_number" :: "ways" :: "Desk" :: "form_of_text" :: "yes_no" :: "combined" :: "refuse_great" :: "told_of" :: "few_unknowns" :: "told_place" :: "_law_at" :: "_law_mixed" :: "_law_stream" :: "_law_made" :: "_law_worth" :: "_law_statement" :: "_law_letters" :: "_law_holds_at" :: "_law_spread" :: "_law_bracketed" :: "_law_text" :: "_law_letters_of" :: "_law_shown" :: "_law_names" :: "_law_plus" :: "_law_times" :: "_law_parted" :: "_law_fixed" :: "_law_put" :: "_law_yes_no" :: "_law_stated" :: "_law_says" :: "_law_small" :: "_law_told_form" :: "_law_of_two" :: "_law_due_form" :: "_law_maker" :: "_law_least" :: "_law_place" :: "_law_every" :: "_law_ways_due" :: "_law_size" :: "_law_due_answer" :: "_law_question" :: []
noncomputable abbrev Pg:Program:=PySem.Challenge.rw_onceform_k84_desk_asks.row.toRowW.prog
abbrev Q:Program:=PySem.W.view Pg [129]
def zdE(P:Params):as=(K P).map (·.1):=by kernel_rfl
abbrev Hk:PySem.W.Hook:=PySem.W.kHook K as zdE
abbrev Xq:Shared->Bool:=λs=>PySem.W.xlAt Q [] s&&PySem.W.recOk (PySem.W.RowW.records PySem.Challenge.rw_onceform_k84_desk_asks.row.toRowW) s
open PySem.W PyProof.Rows in
abbrev Qn(w:World):Prop:=(λos=>(OH.yb Pg w 11 (some (.ref 6)) 10968 (OH.EJ w.params os) (topStub Pg)).map λs =>
  (staticsOk (importedModules Pg.main.body) (boot_heap w.params) s.abs.heap&&namesBound Pg s.abs.heap&&gensDone s.abs&&laidKept (boot_heap w.params) s.abs.heap,PySem.W.Fast.tw4187177175401517315 Q lo (importedModules Pg.main.body) Xq true s.abs,Hk.obs s.abs))=λ_=>some (true,openGood Q lo,Hk.val w)
set_option maxHeartbeats 0 in
def zaQ(w:World):Qn (w.withFollow "special-get-raises" false):=by kernel_rfl
set_option maxHeartbeats 0 in
def Zc(w:World):Qn (w.withFollow "special-get-raises" true):=by kernel_rfl
set_option maxHeartbeats 0 in
def left:PySem.W.LeftO Pg Q lo Xq Hk.obs Hk.val 10968:=OH.left (by kernel_rfl) (by decide) (λs=>by kernel_rfl) (PySem.W.byRow2 "special-get-raises" zaQ Zc)
set_option maxHeartbeats 0 in
def Gi:PySem.Challenge.rw_onceform_k84_desk_asks.wellSaid=true:=(congrFun Zj _).trans (by kernel_rfl)
end My
namespace L2
open PySem PySem.Spec PyProof.Rows
abbrev cu:=Sum Int Str
noncomputable def sF:cu->Value->Bool
 |.inl k,v=>Value.isInt k v
 |.inr x,v=>Value.isStrOf x v
noncomputable def W8(w:World):cu->Int
 |.inl k=>hashInt k
 |.inr x=>hashStr w x
theorem oK:∀{k:cu}{v:Value},sF k v=true->(∃i t,k=Sum.inl i/\v=Value.int i t)\/(∃x t,k=Sum.inr x/\v=Value.str x t)
 |.inl i,v,h=>by
  obtain⟨t,e⟩:=O0 (k:=i) (v:=v) h;exact .inl ⟨i,t,rfl,e⟩
 |.inr x,v,h=>by
  obtain⟨t,e⟩:=Value.isStrOf_shape (x:=x) (v:=v) h;exact .inr ⟨x,t,rfl,e⟩
def US(i:Int)(t:Tok):sF (.inl i) (.int i t)=true:=by simp[sF,Value.isInt]
def Y2(x:Str)(t:Tok):sF (.inr x) (.str x t)=true:=by simp[sF,Value.isStrOf]
def zdO(a b:Int):decide ((Sum.inl a:cu)=Sum.inl b)=(a == b):=by lia
def zb0(a b:Str):decide ((Sum.inr a:cu)=Sum.inr b)=decide (a=b):=by simp
def zdX(a:Int)(b:Str):decide ((Sum.inl a:cu)=Sum.inr b)=false:=bo (λq=>nomatch q)
def zbk(a:Str)(b:Int):decide ((Sum.inr a:cu)=Sum.inl b)=false:=bo (λq=>nomatch q)
def gi(prog:Program)(w:World):PySem.KeyKind prog w cu where
 is:=sF
 hash:=W8 w
 inj:=λv a b ha hb=>by
  rcases oK ha with ⟨i,t,rfl,rfl⟩|⟨x,t,rfl,rfl⟩
  ·rcases oK hb with ⟨j,u,rfl,e⟩|⟨y,u,rfl,e⟩
   ·injection e with e1 _;rw[e1]
   ·exact nomatch e
  ·rcases oK hb with ⟨j,u,rfl,e⟩|⟨y,u,rfl,e⟩
   ·exact nomatch e
   ·injection e with e1 _;rw[e1]
 byValue:=λk v h=>by
  rcases oK h with ⟨i,t,rfl,rfl⟩|⟨x,t,rfl,rfl⟩<;>rfl
 pyHash:=λhv h=>by
  rcases oK hv with ⟨i,t,rfl,rfl⟩|⟨x,t,rfl,rfl⟩
  ·exact wpAny_pyHash_int h
  ·exact wpAny_pyHash_str h
 eqBool:=λhu hv h=>by
  rcases oK hu with ⟨i,t,rfl,rfl⟩|⟨x,t,rfl,rfl⟩
  ·rcases oK hv with ⟨j,u,rfl,rfl⟩|⟨y,u,rfl,rfl⟩
   ·rw[zdO]at h;exact Cw h
   ·rw[zdX]at h;exact O6 i t y u _ _ _ _ h
  ·rcases oK hv with ⟨j,u,rfl,rfl⟩|⟨y,u,rfl,rfl⟩
   ·rw[zbk]at h;exact Md x t j u _ _ _ _ h
   ·rw[zb0]at h;exact wpAny_eqBool_str h
 «strs» := λk x t v h=>by
  rcases oK h with ⟨i,u,rfl,e⟩|⟨y,u,rfl,e⟩
  ·exact nomatch e
  ·injection e with e1 _
   subst e1;cases v<;>rfl
def L4(prog:Program)(w:World)(i:Int)(t:Tok):(gi prog w).is (.inl i) (.int i t)=true:=US i t
def sI(prog:Program)(w:World)(x:Str)(t:Tok):(gi prog w).is (.inr x) (.str x t)=true:=Y2 x t
inductive V where
 |non|bl (b:Bool)|int (i:Int)|str (x:Str)|byt (b:Array UInt8)|flt (b:UInt64)|ref (a:Addr)|ty (n:String)
 deriving DecidableEq
def RelV:V->Value->Prop
 |.non,u=>u=Value.none
 |.bl b,u=>u=Value.bool b
 |.int i,u=>∃t,u=Value.int i t
 |.str x,u=>∃t,u=Value.str x t
 |.byt b,u=>∃t,u=Value.bytes b t
 |.flt b,u=>∃t,u=Value.float b t
 |.ref a,u=>u=Value.ref a
 |.ty n,u=>u=Value.type n
abbrev Vals:List V->List Value->Prop:=Paired RelV
def Vals.length(r:Vals xs us):xs.length=us.length:=eV r
theorem Vals.get:∀{xs:List V}{us:List Value}{i:Nat}{x:V},Vals xs us->xs[i]?=some x->∃u,us[i]?=some u/\RelV x u
 |_,_,_,_,.nil,e=>by simp at e
 |_,_,0,_,.cons r _,e=>by simp at e;subst e;nomatch _,rfl,r
 |_,_,i+1,x,.cons _ t,e=>by
  obtain⟨u,h1,h2⟩:=Vals.get (i:=i) (x:=x) t (by simpa using e);nomatch u,by simpa using h1,h2
theorem Vals.set(r:RelV x u):∀{xs:List V}{us:List Value} (i:Nat),Vals xs us->Vals (xs.set i x) (us.set i u)
 |_,_,_,.nil=>.nil
 |_,_,0,.cons _ t=>.cons r t
 |_,_,i+1,.cons q t=>.cons q (Vals.set r i t)
theorem Vals.append:∀{xs ys:List V}{us ws:List Value},Vals xs us->Vals ys ws->Vals (xs++ys) (us++ws)
 |_,_,_,_,.nil,s=>s
 |_,_,_,_,.cons r t,s=>.cons r (Vals.append t s)
theorem Vals.take:∀{xs:List V}{us:List Value} (n:Nat),Vals xs us->Vals (xs.take n) (us.take n)
 |_,_,0,_=>.nil
 |_,_,_+1,.nil=>.nil
 |_,_,n+1,.cons r t=>.cons r (Vals.take n t)
theorem Vals.drop:∀{xs:List V}{us:List Value} (n:Nat),Vals xs us->Vals (xs.drop n) (us.drop n)
 |_,_,0,r=>r
 |_,_,_+1,.nil=>.nil
 |_,_,n+1,.cons _ t=>Vals.drop n t
def gP:Option V->Option Value->Prop
 |some v,some u=>RelV v u
 |none,none=>True
 |_,_=>False
def KV{κ:Type}:List (κ×V)->List (κ×Value)->Prop:=Paired λ(p:κ×V) (q:κ×Value)=>p.1=q.1/\RelV p.2 q.2
noncomputable def kV:cu->V
 |.inl i=>.int i
 |.inr x=>.str x
inductive HO where
 |lst (xs:List V)
 |tup (xs:List V)
 |dK (kvs:List (cu×V))|dT (kvs:List (List cu×V))
 |set (S:Int->Bool) (n:Nat)
 |ins (C dx:Addr) (fs:List (Str×V))
 |own (x:Addr)
 |xd (fs:List (Str×V))
 |met (f x:Addr)
 |rng (lo hi:Int)
 |frz (o:Obj) (u:HO)
 |tbl (ps:Array Value)
 |ext (φ:Heap->Prop)
abbrev Hp:=Addr->Option HO
noncomputable def upd(H:Hp)(a:Addr)(o:HO):Hp:=λb=>if b=a then some o else H b
def ar:upd H a o a=some o:=by unfold upd;rw[aC rfl]
def aS(h:b≠a):upd H a o b=H b:=by unfold upd;rw[av h]
def vp:upd (upd H a o) a u=upd H a u:=by
 funext b;unfold upd;split<;>rfl
def SF{H:Hp}{a b:Addr}{o u:HO}(h:H a=some o)(h':H b=some u)(d:o≠u):a≠b:=by
 intro e;subst e;rw[h]at h';exact d (gd h')
def c7{H:Hp}{a b:Addr}{o:HO}(h:H a=some o)(h':H b=none):a≠b:=by lia
section
variable(P:Program)(w:World)
def dq(H:Hp)(h:Heap)(a:Addr):HO->Prop
 |.lst xs=>xs.length<=sizeLine/\∃(ah:List Value) (n:Nat),Vals xs ah/\h.get? a=some {cls:=.type "list",data:=.seq ah.toArray n}
 |.tup xs=>xs.length<=sizeLine/\∃ah:List Value,Vals xs ah/\IsTup h a ah.toArray
 |.dK kvs=>kvs.length<=sizeLine/\(a == sysModules)=false/\∃vs,KV kvs vs/\h.DictOf (gi P w) a vs
 |.dT kvs=>kvs.length<=sizeLine/\(a == sysModules)=false/\∃xs:List (List cu×Addr×Value),
   Paired (λ(p:List cu×V) (q:List cu×Addr×Value)=>p.1=q.1/\H q.2.1=some (.tup (p.1.map kV))/\RelV p.2 q.2.2) kvs xs /\
   ∃o es ep,h.get? a=some o/\o.ExactDict/\o.data=.dict es ep/\es.toList=xs.map (entryOfKey (tupleKind (gi P w)))/\(xs.map (·.1)).Nodup
 |.set S n=>h.SetOf (intKind P w) a S n
 |.ins C dx fs=>H dx=some (.own a)/\fs.length<=1000/\dx≠a/\h.get? a=some (PySem.W.instObj C dx) /\
   ∃mA,h.Ns1 dx mA/\(∀f,gP (fs.lookup f) (mA f))/\PySem.Within mA (fs.map (·.1))
 |.own _=>∃o,h.get? a=some o
 |.xd fs=>∃mA,h.Ns1 a mA/\∀f,gP (fs.lookup f) (mA f)
 |.rng lo hi=>∃t u v,h.get? a=some {cls:=.type "range",data:=.fields #[.int lo t,.int hi u,.int 1 v]}
 |.frz o u=>h.get? a=some o/\dq H h a u
 |.tbl ps=>h.get? a=some {cls:=.none,data:=.fields ps}
 |.met f x=>h.get? a=some (PySem.W.methodObj (.ref f) (.ref x))
 |.ext φ=>φ h/\(∃o,h.get? a=some o)/\∀h1 h2:Heap,φ h1->(∀o,h1.get? a=some o->h2.get? a=some o)->φ h2
def cW(H:Hp)(h:Heap):Prop:=∀a o,H a=some o->dq P w H h a o
end
section
variable{P:Program}{w:World}{H H':Hp}{h h':Heap}{a:Addr}{o:HO}
def dq.lt(x:dq P w H h a o):a<h.objs.size:=by
 cases o with
 |lst xs=>obtain⟨_,_,_,_,e⟩:=x;exact bg e
 |tup xs=>obtain⟨_,_,_,p⟩:=x;exact p.lt
 |dK kvs=>obtain⟨_,_,_,_,o,_,_,e,_⟩:=x;exact bg e
 |dT kvs=>obtain⟨_,_,_,_,o,_,_,e,_⟩:=x;exact bg e
 |set S n=>obtain⟨o,_,_,_,e,_⟩:=x;exact bg e
 |ins C dx fs=>obtain⟨_,_,_,e,_⟩:=x;exact bg e
 |own y=>obtain⟨_,e⟩:=x;exact bg e
 |xd fs=>obtain⟨_,⟨_,_,_,e,_⟩,_⟩:=x;exact bg e
 |rng lo hi=>obtain⟨_,_,_,e⟩:=x;exact bg e
 |frz ob u=>obtain⟨e,_⟩:=x;exact bg e
 |tbl ps=>exact bg (show h.get? a=some _ from x)
 |met f y=>exact bg (show h.get? a=some _ from x)
 |ext φ=>obtain⟨_,⟨_,e⟩,_⟩:=x;exact bg e
theorem Paired.mapP:∀{l₁:List α}{l₂:List β},Paired F l₁ l₂->(∀a b,F a b->G a b)->Paired G l₁ l₂
 |_,_,.nil,_=>.nil
 |_,_,.cons r t,f=>.cons (f _ _ r) (Paired.mapP t f)
def dq.stay(x:dq P w H h a o)(k:∀b u,(b=a\/H b=some (.own a))->h.get? b=some u->h'.get? b=some u)
  (ho:∀b,H b=some (.own a)->H' b=some (.own a)) (ht:∀b xs,H b=some (.tup xs)->H' b=some (.tup xs)):dq P w H' h' a o:=by
 induction o with
 |lst xs=>obtain⟨z,ah,n,r,e⟩:=x;nomatch z,ah,n,r,k _ _ (.inl rfl) e
 |tup xs=>obtain⟨z,ah,r,ob,e,c⟩:=x;nomatch z,ah,r,ob,k _ _ (.inl rfl) e,c
 |dK kvs=>obtain⟨z,y,vs,r,ob,es,ep,e,c⟩:=x;nomatch z,y,vs,r,ob,es,ep,k _ _ (.inl rfl) e,c
 |dT kvs =>
  obtain⟨z,y,xs,r,ob,es,ep,e,c⟩:=x;nomatch z,y,xs,Paired.mapP r λp q z=>⟨z.1,ht _ _ z.2.1,z.2.2⟩,ob,es,ep,k _ _ (.inl rfl) e,c
 |set S n=>obtain⟨ob,es,ep,t,e,c⟩:=x;nomatch ob,es,ep,t,k _ _ (.inl rfl) e,c
 |ins C dx fs =>
  obtain⟨d,z,ne,e,mA,⟨od,es,ep,e2,c⟩,r⟩:=x;nomatch ho _ d,z,ne,k _ _ (.inl rfl) e,mA,⟨od,es,ep,k _ _ (.inr d) e2,c⟩,r
 |own y=>obtain⟨ob,e⟩:=x;nomatch ob,k _ _ (.inl rfl) e
 |xd fs=>obtain⟨mA,⟨od,es,ep,e,c⟩,r⟩:=x;nomatch mA,⟨od,es,ep,k _ _ (.inl rfl) e,c⟩,r
 |rng lo hi=>obtain⟨t,u,v,e⟩:=x;nomatch t,u,v,k _ _ (.inl rfl) e
 |frz ob u ih=>obtain⟨e,q⟩:=x;nomatch k _ _ (.inl rfl) e,ih q
 |tbl ps =>
  have e:=x;exact k a _ (.inl rfl) e
 |met f y =>
  have e:=x;exact k a _ (.inl rfl) e
 |ext φ=>obtain⟨p,⟨o,e⟩,st⟩:=x;nomatch st _ _ p λo q=>k _ _ (.inl rfl) q,⟨o,k _ _ (.inl rfl) e⟩,st
def cW.lt(x:cW P w H h)(e:H a=some o):a<h.objs.size:=(x a o e).lt
def cW.fresh(x:cW P w H h)(e:h.objs.size<=a):H a=none:=by
 cases q:H a with
 |none=>rfl
 |some u=>exact absurd (cS (x.lt q) e) (kS _)
def cW.kept(x:cW P w H h)(k:∀b u,h.get? b=some u->h'.get? b=some u):cW P w H h':=λa o e =>
 (x a o e).stay (λb u _ q=>k b u q) (λ_ q=>q) λ_ _ q=>q
def cW.laid(x:cW P w H h)(k:∀b u,h.get? b=some u->h'.get? b=some u)(hp:h.objs.size<=a)(new:dq P w (upd H a o) h' a o):cW P w (upd H a o) h':=λb u e=>by
 have hn:=x.fresh hp;by_cases hb:b=a
 ·subst hb;rw[ar]at e;cases e;exact new
 ·rw[aS hb]at e;exact (x b u e).stay (λc v _ q=>k c v q) (λc q=>by rw[aS (c7 q hn)];exact q) λc xs q=>by rw[aS (c7 q hn)];exact q
end
def Rd(H:Hp)(a:Addr)(u:HO):Prop:=H a=some u\/∃o,H a=some (.frz o u)
def Rd.ok(r:Rd H a u)(x:cW P w H h):dq P w H h a u:=by
 rcases r with r|⟨o,r⟩
 ·exact x a u r
 ·obtain⟨_,q⟩:=x a _ r;exact q
def xh:Option HO->Prop
 |some (.lst _)=>True
 |some (.dK _)=>True
 |some (.dT _)=>True
 |some (.set _ _)=>True
 |some (.ins _ _ _)=>True
 |some (.ext _)=>True
 |_=>False
section
variable{P:Program}{w:World}{H:Hp}{h h':Heap}{x e:Addr}{o':HO}
def cW.write(ok:cW P w H h)(mu:xh (H x))(he:e=x\/H e=some (.own x))(k:∀b u,b≠e->h.get? b=some u->h'.get? b=some u)(uC:∃u,h'.get? e=some u)
  (new:dq P w (upd H x o') h' x o'):cW P w (upd H x o') h':=λb u q=>by
 have Mo:∀c y,H c=some (.own y)->c≠x:=λc y r z=>by subst z;rw[r]at mu;exact mu
 have ntup:∀c xs,H c=some (.tup xs)->c≠x:=λc xs r z=>by subst z;rw[r]at mu;exact mu
 by_cases hb:b=x
 ·subst hb;rw[ar]at q;cases q;exact new
 ·rw[aS hb]at q;by_cases hbe:b=e
  ·have q':H b=some (.own x):=by
    rcases he with z|z
    ·exact absurd (hbe.trans z) hb
    ·rw[hbe];exact z
   rw[q]at q';cases q';obtain⟨v,hv⟩:=uC;exact⟨v,by rw[hbe];exact hv⟩
  ·refine (ok b u q).stay (λc v hc r=>k c v ?_ r) (λc r=>by rw[aS (Mo c b r)];exact r) λc xs r=>by rw[aS (ntup c xs r)];exact r
   rcases hc with rfl|hc
   ·exact hbe
   ·rintro rfl;rcases he with z|z
    ·exact Mo c b hc z
    ·rw[hc]at z;cases z;exact hb rfl
end
structure Un(fs ex:List Addr)(H H':Hp)(h h':Heap):Prop where
 keep:∀b o,h.get? b=some o->H b=none->b∉fs->b∉ex->h'.get? b=some o
 slot:∀b o,h.get? b=some o->H b=none->b∈fs->b∉ex->∃sl,h'.get? b=some {o with slots:=sl}
 free:∀b o,h.get? b=some o->H b=none->b∉ex->H' b=none
 there:∀b o,h.get? b=some o->b∉ex->∃o',h'.get? b=some o'
 tups:∀b xs,H b=some (.tup xs)->H' b=some (.tup xs)
 frzs:∀b o u,H b=some (.frz o u)->H' b=some (.frz o u)
 tbls:∀b ps,H b=some (.tbl ps)->∃more,H' b=some (.tbl (ps++more))
section
variable{fs fs' ex ex':List Addr}{H H1 H2:Hp}{h h1 h2 h':Heap}{a x e:Addr}{o:HO}
def Un.any(u:Un fs ex H H1 h h1)(q:h.get? b=some ob)(n:H b=none)(hx:b∉ex):∃sl,h1.get? b=some {ob with slots:=sl}:=by
 by_cases hb:b∈fs
 ·exact u.slot b ob q n hb hx
 ·nomatch ob.slots,u.keep b ob q n hb hx
def Un.kept(k:∀b u,h.get? b=some u->h'.get? b=some u):Un fs ex H H h h' :=
 ⟨λb ob q _ _ _=>k b ob q,λb ob q _ _ _=>⟨ob.slots,k b ob q⟩,λ_ _ _ n _=>n,λb ob q _=>⟨ob,k b ob q⟩,λ_ _ q=>q,λ_ _ _ q=>q,λ_ ps q=>⟨#[],by rw[q];simp⟩⟩
def Un.refl:Un fs ex H H h h:=Un.kept λ_ _ q=>q
def Un.laid(k:∀b u,h.get? b=some u->h'.get? b=some u)(hp:h.objs.size<=a)(hn:H a=none):Un fs ex H (upd H a o) h h' where
 keep:=λb u q _ _ _=>k b u q
 slot:=λb u q _ _ _=>⟨u.slots,k b u q⟩
 free:=λb u q n _=>by rw[aS (dy (cS (bg q) hp))];exact n
 there:=λb u q _=>⟨u,k b u q⟩
 tups:=λb xs q=>by rw[aS (c7 q hn)];exact q
 frzs:=λb u xs q=>by rw[aS (c7 q hn)];exact q
 tbls:=λb ps q=>⟨#[],by rw[aS (c7 q hn),q];simp⟩
def Un.write(mu:xh (H x))(he:e=x\/H e=some (.own x))(k:∀b u,b≠e->h.get? b=some u->h'.get? b=some u)(uC:∃u,h'.get? e=some u):Un fs ex H (upd H x o) h h':=by
 have hx:∀b,H b=none->b≠x:=λb n z=>by subst z;rw[n]at mu;exact mu
 have hb:∀b,H b=none->b≠e:=λb n z=>by simp_all
 have hm:∀b u,H b=some u->¬xh (some u)->b≠x:=λb u q nm z=>by simp_all
 refine⟨λb u q n _ _=>k b u (hb b n) q,λb u q n _ _=>⟨u.slots,k b u (hb b n) q⟩,λb u q n _=>by rw[aS (hx b n)];exact n,λb u q _=>?_,
  λb xs q=>by rw[aS (hm b _ q λz=>z)];exact q,λb u xs q=>by rw[aS (hm b _ q λz=>z)];exact q,λb ps q=>⟨#[],by rw[aS (hm b _ q λz=>z),q];simp⟩⟩
 by_cases hbe:b=e
 ·subst hbe;exact uC
 ·nomatch u,k b u hbe q
end
noncomputable def uG(h:Heap)(H:Hp):List Addr:=(List.range h.objs.size).filter λa=>(H a).isSome
def n8(h:Heap)(H:Hp):Heap:=PySem.W.hideAll h (uG h H)
def ze1(h:Heap)(H:Hp):(n8 h H).objs.size=h.objs.size:=PySem.W.hideAll_size _ _
def zdT(e:h.get? b=some o)(n:H b=none):(n8 h H).get? b=some o :=
 E9 _ e λhm=>by
  have q:=(gJ.mp hm).2;rw[n]at q;simp at q
def zan(e:(n8 h H).get? b=some o):h.get? b=some o/\H b=none:=by
 have e':=Il (uG h H) e;exists e',?_;cases q:H b with
 |none=>rfl
 |some x =>
  have hm:b∈uG h H:=gJ.mpr ⟨ji.mpr (bg e'),by simp[q]⟩;have z:(n8 h H).get? b=none:=IH (uG h H) hm;rw[z]at e;cases e
structure Mod(K:Frag)(mg:Str->Option Value)(base:Heap):Prop where
 kin:K.In base
 glob:base.Ns mainGlobals mg
 blt:∃mb,base.Ns builtinsNs mb/\∀x:Str,x ≠ "__name__" -> mb x=bootBuiltins x
 nolimit:base.NoLimit
structure Cx where
 prog:Program
 w:World
 K:Frag
 mg:Str->Option Value
 base:Heap
 A:Around
 N:List Str
 s₀:Shared
 H₀:Hp
 env:Env
 outer:List Env
 stack:List Env
 ex:List Addr
 fn:Str->Bool
 calm:Bool
 pn:List (Addr×Obj)
 xe:Value->Shared->Prop
noncomputable def cC(l:List Env):List Addr:=l.filterMap (·.frame)
abbrev Cx.fs(X:Cx):List Addr:=cC X.outer
def u4(sc:Scope)(x:Str):Prop:=sc.names.lookup x=some .local\/sc.names.lookup x=some .cell\/sc.names.lookup x=some .free
def rJ(sc:Scope)(x:Str):Prop:=sc.names.lookup x=some .local\/sc.names.lookup x=some .cell
def MR(env:Env)(h:Heap)(m:Str->Option Value)(x:Str)(u:Value):Prop :=
 (env.kindOf x=some .local/\m x=some u)\/((env.kindOf x=some .cell\/env.kindOf x=some .free)/\∃c,env.cells.lookup x=some c/\h.IsCell c (some u))
structure Cx.Ok(X:Cx):Prop where
 mod:Mod X.K X.mg X.base
 kind:X.env.scope.kind=.function
 glob:X.env.globals=mainGlobals
 blt:X.env.builtins=builtinsNs
 above:X.s₀.heap.objs.size<=X.env.locals
 inj:∀x y c,X.env.cells.lookup x=some c->X.env.cells.lookup y=some c->x=y
 has:∀x,(X.env.kindOf x=some .cell\/X.env.kindOf x=some .free)->∃c,X.env.cells.lookup x=some c
 cab:∀x c,X.fn x=true->X.env.cells.lookup x=some c->X.s₀.heap.objs.size<=c
 hd:X.calm=true->X.A.handled=none
 frames:X.A.frames=some X.stack
 stk:X.stack=X.outer\/(X.stack=X.env::X.outer/\X.env.frame=some X.env.locals)
 exf:∀b∈X.ex,b≠X.env.locals/\∀x c,X.env.cells.lookup x=some c->c≠b
 bs:∀b o,X.base.get? b=some o->X.s₀.heap.get? b=some o/\X.H₀ b=none
 bsz:X.base.objs.size<=X.s₀.heap.objs.size
 noex:∀b o,X.base.get? b=some o->b∉X.ex
 exfs:∀b∈X.ex,b∉X.fs
 funs:X.s₀.heap.FunFrames X.base X.outer
 frf:∀b∈X.fs,X.H₀ b=none
structure Inv(X:Cx)(ae:List (Addr×Obj))(σ:List (Option V))(H:Hp)(s:Shared):Prop where
 ok:X.Ok
 os:s.os=X.s₀.os
 bare:AllBare s.gens
 base:Un X.fs X.ex X.H₀ H X.s₀.heap s.heap
 loc:∃m,s.heap.Ns X.env.locals m/\∀(i:Nat) (x:Str) (v:V),X.N[i]?=some x->σ[i]?=some (some v)->u4 X.env.scope x->∃u,RelV v u/\MR X.env s.heap m x u
 cell:∀x c,X.env.cells.lookup x=some c->∃v,s.heap.IsCell c v
 free:H X.env.locals=none
 freeC:∀x c,X.env.cells.lookup x=some c->H c=none
 pin:∀p∈X.pn++ae,s.heap.get? p.1=some p.2/\H p.1=none/\p.1≠X.env.locals/\p.1∉X.fs/\∀v,p.2.data≠.cell v
 hok:cW X.prog X.w H s.heap
 len:σ.length=X.N.length
section
variable{X:Cx}{ae:List (Addr×Obj)}{σ:List (Option V)}{H H':Hp}{s:Shared}{h':Heap}
def Cx.Ok.nofr(ok:X.Ok)(e:X.base.get? b=some o):b∉X.fs:=λhb=>by
 have:=(ok.funs.mem hb).1
 rw[e]at this;cases this
def Inv.bs(I:Inv X ae σ H s):∀b o,X.base.get? b=some o->s.heap.get? b=some o/\H b=none:=λb o e =>
 ⟨I.base.keep b o (I.ok.bs b o e).1 (I.ok.bs b o e).2 (I.ok.nofr e) (I.ok.noex b o e),I.base.free b o (I.ok.bs b o e).1 (I.ok.bs b o e).2 (I.ok.noex b o e)⟩
def Inv.bk(I:Inv X ae σ H s):∀b o,X.base.get? b=some o->s.heap.get? b=some o:=λb o e=>(I.bs b o e).1
def Inv.mod(I:Inv X ae σ H s):Mod X.K X.mg X.base:=I.ok.mod
def Inv.kIn(I:Inv X ae σ H s):X.K.In s.heap:=I.ok.mod.kin.keeps I.bk
def Inv.lt(I:Inv X ae σ H s):X.env.locals<s.heap.objs.size:=let ⟨_,hn,_⟩:=I.loc;hn.lt
def Inv.sz(I:Inv X ae σ H s):X.s₀.heap.objs.size<=s.heap.objs.size:=aX I.ok.above (bE I.lt)
def Inv.nofs(I:Inv X ae σ H s)(h:s.heap.objs.size<=a):a∉X.fs:=λhb=>by
 obtain⟨_,o,ho,_⟩:=I.ok.funs.mem hb;exact absurd (cS (bg ho) (aX I.sz h)) (kS _)
def Inv.cne(I:Inv X ae σ H s):∀x c,X.env.cells.lookup x=some c->c≠X.env.locals:=λx c e z=>by
 obtain⟨v,o,ho,hd⟩:=I.cell x c e;obtain⟨m,⟨o',es,ep,iP,u9,_⟩,_⟩:=I.loc;rw[z,iP]at ho;cases ho;rw[u9]at hd;cases hd
def Inv.funs(I:Inv X ae σ H s):s.heap.FunFrames X.base X.outer:=by
 have all:∀(l:List Env),(∀b∈cC l,b∈X.fs)->X.s₀.heap.FunFrames X.base l->s.heap.FunFrames X.base l:=by
  intro l;induction l with
  |nil=>intro _ _;trivial
  |cons env r ih =>
   intro hs hl;obtain⟨hk,⟨L,o,hf,hn,ho,hd⟩,hr⟩:=hl;have hL:=hs L (by unfold cC;rw[zO,hf];exact kF);obtain⟨sl,e⟩:=I.base.slot L o ho (I.ok.frf L hL) hL λz=>I.ok.exfs L z hL
   nomatch hk,⟨L,_,hf,hn,e,hd⟩,ih (λb hb=>hs b (by unfold cC;rw[zO,hf];exact dM _ hb)) hr
 exact all X.outer (λ_ hb=>hb) I.ok.funs
def Inv.stack(I:Inv X ae σ H s):s.heap.FunFrames X.base X.stack:=by
 rcases I.ok.stk with e|⟨e,hf⟩
 ·rw[e];exact I.funs
 ·rw[e];obtain⟨m,hn,_⟩:=I.loc;refine .cons (by rw[I.ok.kind];decide) hf hn ?_ I.funs;exact Fh (aX I.ok.bsz I.ok.above)
def Inv.stkSub(I:Inv X ae σ H s):∀b∈cC X.stack,b∈X.env.locals::X.fs:=λb hb=>by
 rcases I.ok.stk with e|⟨e,hf⟩
 ·rw[e]at hb;exact dM _ hb
 ·rw[e]at hb;unfold cC at hb;rw[zO,hf]at hb;exact hb
def Inv.stkFree(I:Inv X ae σ H s):∀b∈cC X.stack,H b=none:=λb hb=>by
 rcases bC.mp (I.stkSub b hb)with e|hb
 ·rw[e];exact I.free
 ·obtain⟨_,o,ho,_⟩:=I.ok.funs.mem hb;exact I.base.free b o ho (I.ok.frf b hb) λz=>I.ok.exfs b z hb
def Inv.step{g':Array GenState}{t':Nat}{d':Drawn}{ch:List Addr}(I:Inv X ae σ H s)
  (kC:∀b∈ch,(b∈X.ex\/X.s₀.heap.objs.size<=b)/\b≠X.env.locals/\(∀x c,X.env.cells.lookup x=some c->c≠b)/\∀p∈X.pn++ae,p.1≠b)
  (keep:∀b o,b≠X.env.locals->b∉X.fs->b∉ch->s.heap.get? b=some o->H b=none->h'.get? b=some o)
  (slot:∀b o,b≠X.env.locals->b∈X.fs->b∉ch->s.heap.get? b=some o->H b=none->∃sl,h'.get? b=some {o with slots:=sl}) (free:∀b o,b∉ch->s.heap.get? b=some o->H b=none->H' b=none)
  (there:∀b o,b∉ch->s.heap.get? b=some o->∃o',h'.get? b=some o')
  (tups:∀b xs,H b=some (.tup xs)->H' b=some (.tup xs)) (frzs:∀b o u,H b=some (.frz o u)->H' b=some (.frz o u)) (tbls:∀b ps,H b=some (.tbl ps)->∃more,H' b=some (.tbl (ps++more)))
  (ns:∀m,s.heap.Ns X.env.locals m->h'.Ns X.env.locals m) (hok:cW X.prog X.w H' h') (hg:AllBare g') :
  Inv X ae σ H' {s with heap:=h',gens:=g',drawn:=d',toks:=t'}:=by
 have u6:∀b o,X.s₀.heap.get? b=some o->b≠X.env.locals:=λb o e=>dy (cS (bg e) I.ok.above)
 have BG:∀b o,X.s₀.heap.get? b=some o->b∉X.ex->b∉ch:=λb o e hx hb=>by
  rcases (kC b hb).1 with z|z
  ·exact hx z
  ·exact absurd (cS (bg e) z) (kS _)
 have cellK:∀x c,X.env.cells.lookup x=some c->∀v,s.heap.IsCell c v->h'.IsCell c v:=λx c e v ⟨o,ho,hd⟩=>by
  have vc:c∉ch:=λz=>(kC c z).2.2.1 x c e rfl
  by_cases hc:c∈X.fs
  ·obtain⟨sl,q⟩:=slot c o (I.cne x c e) hc vc ho (I.freeC x c e);nomatch _,q,hd
  ·nomatch o,keep c o (I.cne x c e) hc vc ho (I.freeC x c e),hd
 exists I.ok,I.os,hg,⟨λb o e n hb hx=>?_,λb o e n hb hx=>?_,λb o e n hx=>?_,λb o e hx=>?_,λb xs e=>tups b xs (I.base.tups b xs e),λb o xs e=>frzs b o xs (I.base.frzs b o xs e),λb ps e=>?_⟩,?_,λx c e=>?_,?_,λx c e=>?_,λp hp=>?_,hok,I.len
 ·exact keep b o (u6 b o e) hb (BG b o e hx) (I.base.keep b o e n hb hx) (I.base.free b o e n hx)
 ·obtain⟨sl,e1⟩:=I.base.slot b o e n hb hx;obtain⟨wG,e2⟩:=slot b _ (u6 b o e) hb (BG b o e hx) e1 (I.base.free b o e n hx);nomatch wG,e2
 ·obtain⟨o',e1⟩:=I.base.there b o e hx;exact free b o' (BG b o e hx) e1 (I.base.free b o e n hx)
 ·obtain⟨o',e1⟩:=I.base.there b o e hx;exact there b o' (BG b o e hx) e1
 ·obtain⟨m1,e1⟩:=I.base.tbls b ps e;obtain⟨m2,e2⟩:=tbls b _ e1;exact⟨m1++m2,by simp_all⟩
 ·obtain⟨m,hn,hl⟩:=I.loc;exists m,ns m hn,λi x v e1 e2 e3=>?_;obtain⟨u,r,l⟩:=hl i x v e1 e2 e3;exists u,r,?_;rcases l with l|⟨k,c,e,z⟩
  ·exact .inl l
  ·exact .inr ⟨k,c,e,cellK x c e _ z⟩
 ·obtain⟨v,z⟩:=I.cell x c e;nomatch v,cellK x c e v z
 ·obtain⟨m,⟨o,_,_,ho,_⟩,_⟩:=I.loc;exact free _ o (λz=>(kC _ z).2.1 rfl) ho I.free
 ·obtain⟨v,o,ho,hd⟩:=I.cell x c e;exact free c o (λz=>(kC c z).2.2.1 x c e rfl) ho (I.freeC x c e)
 ·obtain⟨e,n,ne,nf,d⟩:=I.pin p hp;have vc:p.1∉ch:=λz=>(kC p.1 z).2.2.2 p hp rfl
  nomatch keep p.1 p.2 ne nf vc e n,free p.1 p.2 vc e n,ne,nf,d
def Inv.un{t':Nat}(I:Inv X ae σ H s)(u:Un X.fs [] H H' s.heap h')(hok:cW X.prog X.w H' h'):Inv X ae σ H' {s with heap:=h',toks:=t'}:=by
 obtain⟨m,⟨o,es,ep,ho,r⟩,_⟩:=id I.loc;obtain⟨sl,hL⟩:=u.any ho I.free tS;exact I.step (g':=s.gens) (d':=s.drawn) (ch:=[]) (λ_ z=>nomatch z) (λb o _ hb _ e n=>u.keep b o e n hb tS) (λb o _ hb _ e n=>u.slot b o e n hb tS) (λb o _ e n=>u.free b o e n tS) (λb o _ e=>u.there b o e tS) u.tups u.frzs u.tbls (λm' hm=>by
  obtain⟨o',oI,E4,iP,r'⟩:=hm;rw[ho]at iP;cases iP;nomatch _,oI,E4,hL,r') hok I.bare
def Inv.call{g':Array GenState}{t':Nat}{d':Drawn}{ch:List Addr}(I:Inv X ae σ H s)(u:Un (cC X.stack) ch H H' s.heap h')(hok:cW X.prog X.w H' h')(hg:AllBare g')
  (kC:∀b∈ch,(b∈X.ex\/X.s₀.heap.objs.size<=b)/\b≠X.env.locals/\(∀x c,X.env.cells.lookup x=some c->c≠b)/\∀p∈X.pn++ae,p.1≠b) :
  Inv X ae σ H' {s with heap:=h',gens:=g',drawn:=d',toks:=t'}:=by
 obtain⟨m,⟨o,es,ep,ho,r⟩,_⟩:=id I.loc;obtain⟨sl,hL⟩:=u.any ho I.free λz=>(kC _ z).2.1 rfl
 exact I.step (ch:=ch) kC (λb o hL hb hc e n=>u.keep b o e n (λz=>(bC.mp (I.stkSub b z)).elim hL hb) hc) (λb o _ _ hc e n=>u.any e n hc) (λb o hc e n=>u.free b o e n hc) (λb o hc e=>u.there b o e hc) u.tups u.frzs u.tbls (λm' hm=>by
  obtain⟨o',oI,E4,iP,r'⟩:=hm;rw[ho]at iP;cases iP;nomatch _,oI,E4,hL,r') hok hg
def Inv.turned{t':Nat}{it:Addr}(I:Inv X ae σ H s)(k:∀b o,b≠it->s.heap.get? b=some o->h'.get? b=some o)(hn:H it=none)(hL:it≠X.env.locals)
  (h1:it∈X.ex\/X.s₀.heap.objs.size<=it) (h2:∀x c,X.env.cells.lookup x=some c->c≠it) (h3:∀p∈X.pn++ae,p.1≠it):Inv X ae σ H {s with heap:=h',toks:=t'}:=by
 have Pq:∀b u,H b=some u->b≠it:=λb u e z=>by simp_all
 refine I.step (g':=s.gens) (d':=s.drawn) (ch:=[it]) (λb hb=>?_) (λb o _ _ hc e _=>k b o (λz=>hc (by simp[z])) e) (λb o _ _ hc e _=>⟨o.slots,k b o (λz=>hc (by simp[z])) e⟩) (λ_ _ _ _ n=>n)
  (λb o hc e=>⟨o,k b o (λz=>hc (by simp[z])) e⟩) (λ_ _ e=>e) (λ_ _ _ e=>e) (λb ps e=>⟨#[],by rw[e];simp⟩) (λm hm=>?_) (λb u e=>?_) I.bare
 ·have e:b=it:=by simpa using hb
  subst e;nomatch h1,hL,h2,h3
 ·obtain⟨o,es,ep,ho,r⟩:=hm;nomatch o,es,ep,k _ o (Ne.symm hL) ho,r
 ·refine (I.hok b u e).stay (λc v hc q=>k c v ?_ q) (λ_ q=>q) λ_ _ q=>q
  rcases hc with z|z
  ·rw[z];exact Pq b u e
  ·exact Pq c _ z
def Inv.tok(I:Inv X ae σ H s)(t:Nat):Inv X ae σ H {s with toks:=t}:=I.un (h':=s.heap) (t':=t) Un.refl I.hok
def Inv.kept(I:Inv X ae σ H s)(k:∀b u,s.heap.get? b=some u->h'.get? b=some u):Inv X ae σ H {s with heap:=h',toks:=t'}:=I.un (Un.kept k) (I.hok.kept k)
def Inv.laid(I:Inv X ae σ H s)(k:∀b u,s.heap.get? b=some u->h'.get? b=some u)(hp:s.heap.objs.size<=a)(new:dq X.prog X.w (upd H a o) h' a o) :
  Inv X ae σ (upd H a o) {s with heap:=h',toks:=t'}:=I.un (Un.laid k hp (I.hok.fresh hp)) (I.hok.laid k hp new)
def Inv.write(I:Inv X ae σ H s)(mu:xh (H x))(he:e=x\/H e=some (.own x))(k:∀b u,b≠e->s.heap.get? b=some u->h'.get? b=some u)(uC:∃u,h'.get? e=some u)
  (new:dq X.prog X.w (upd H x o) h' x o):Inv X ae σ (upd H x o) {s with heap:=h',toks:=t'}:=I.un (Un.write mu he k uC) (I.hok.write mu he k uC new)
def Inv.pins_of(I:Inv X ae σ H s)(h:∀p∈pins',s.heap.get? p.1=some p.2/\H p.1=none/\p.1≠X.env.locals/\p.1∉X.fs/\∀v,p.2.data≠.cell v):Inv X pins' σ H s :=
 ⟨I.ok,I.os,I.bare,I.base,I.loc,I.cell,I.free,I.freeC,λp hp=>(bA.mp hp).elim (λz=>I.pin p (mz _ z)) (h p),I.hok,I.len⟩
def CM{N:List Str}(hN:N.Nodup){i j:Nat}{x:Str}(a:N[i]?=some x)(b:N[j]?=some x):i=j:=by
 obtain⟨h1,e1⟩:=dO.mp a;obtain⟨h2,e2⟩:=dO.mp b;exact (List.getElem_inj hN).mp (e1.trans e2.symm)
def zaM{M:Model}{A:Around}{E:Value->Shared->Prop}{i:Nat}{x:Str}{v:V}{u:Value}{Q:Unit->Shared->Prop}(I:Inv X ae σ H s)(hN:X.N.Nodup)(hi:X.N[i]?=some x)(hx:rJ X.env.scope x)(r:RelV v u)
  (h:∀s',Inv X ae (σ.set i (some v)) H s'->(∃a,Heap.SameBut a s.heap s'.heap/\(a=X.env.locals\/X.env.cells.lookup x=some a))->Q () s') (hf:X.fn x=true\/X.env.scope.names.lookup x=some .local:=by first|exact .inl rfl|exact .inr rfl|assumption):wpAny M A (storeName X.env x u) Q E s:=by
 obtain⟨m,hn,hl⟩:=id I.loc;have hcls:(X.env.scope.kind == .class || (X.env.scope.kind == .module&&X.env.locals != X.env.globals))=false:=by rw[I.ok.kind];rfl
 have hiσ:i<σ.length:=by rw[I.len];exact (dO.mp hi).1
 have cne:=I.cne;have tracked:∀{a:Addr}{h':Heap},(∃o,s.heap.get? a=some o/\H a=none)->Heap.SameBut a s.heap h'->cW X.prog X.w H h':=fun {a h'} ha hs b ob e=>by
  obtain⟨_,_,rL⟩:=ha;refine (I.hok b ob e).stay (λc w' hc q=>(hs.2 c ?_).trans q) (λ_ q=>q) λ_ _ q=>q
  rintro rfl;rcases hc with rfl|hc
  ·rw[rL]at e;cases e
  ·rw[rL]at hc;cases hc
 rcases hx with hk|hk
 ·refine wpAny_storeName_local hk hn (λh' qW hs=>?_) hcls;obtain⟨oL,_,_,wj,_⟩:=id hn;refine h _ ⟨I.ok,I.os,I.bare,⟨λb o e n hb hx=>?_,λb o e n hb hx=>?_,I.base.free,λb o e hx=>?_,I.base.tups,I.base.frzs,I.base.tbls⟩,⟨_,qW,λj y v' e1 e2 e3=>?_⟩,λy c e=>?_,I.free,I.freeC,λp hp=>?_,tracked ⟨oL,wj,I.free⟩ hs,by simpa using I.len⟩ ⟨_,hs,.inl rfl⟩
  ·exact (hs.2 b (dy (cS (bg e) I.ok.above))).trans (I.base.keep b o e n hb hx)
  ·obtain⟨sl,e1⟩:=I.base.slot b o e n hb hx;nomatch sl,(hs.2 b (dy (cS (bg e) I.ok.above))).trans e1
  ·obtain⟨o',e1⟩:=I.base.there b o e hx;nomatch o',(hs.2 b (dy (cS (bg e) I.ok.above))).trans e1
  ·by_cases hj:j=i
   ·subst hj;rw[hi]at e1;cases e1;rw[Bm hiσ]at e2;cases e2;nomatch u,r,.inl ⟨hk,tS⟩
   ·rw[Eu (Ne.symm hj)]at e2;obtain⟨u',r',q⟩:=hl j y v' e1 e2 e3;exists u',r',?_;rcases q with ⟨k,e⟩|⟨k,c,e,z⟩
    ·refine .inl ⟨k,?_⟩
     have:y≠x:=λe=>hj (CM hN e1 (e ▸ hi))
     simp[this,e]
    ·exact .inr ⟨k,c,e,z.sameBut hs (cne y c e)⟩
  ·obtain⟨w',z⟩:=I.cell y c e;nomatch w',z.sameBut hs (cne y c e)
  ·obtain⟨e,n,ne,nf,d⟩:=I.pin p hp;nomatch (hs.2 p.1 ne).trans e,n,ne,nf,d
 ·have gu:X.fn x=true:=by simp_all
  obtain⟨c,hc⟩:=I.ok.has x (.inl hk);obtain⟨w',z⟩:=I.cell x c hc;refine wpAny_storeName_cell I.ok.kind hk hc z (λh' lY hs=>?_);obtain⟨oc,ya,hocd⟩:=id z;refine h {s with heap:=h'} ⟨I.ok,I.os,I.bare,⟨λb o e n hb hx=>?_,λb o e n hb hx=>?_,I.base.free,λb o e hx=>?_,I.base.tups,I.base.frzs,I.base.tbls⟩,⟨m,hn.sameBut hs (Ne.symm (cne x c hc)),λj y v' e1 e2 e3=>?_⟩,λy c' e=>?_,I.free,I.freeC,λp hp=>?_,tracked ⟨oc,ya,I.freeC x c hc⟩ hs,by simpa using I.len⟩ ⟨c,hs,.inr hc⟩
  ·exact (hs.2 b (dy (cS (bg e) (I.ok.cab x c gu hc)))).trans (I.base.keep b o e n hb hx)
  ·obtain⟨sl,e1⟩:=I.base.slot b o e n hb hx;nomatch sl,(hs.2 b (dy (cS (bg e) (I.ok.cab x c gu hc)))).trans e1
  ·obtain⟨o',e1⟩:=I.base.there b o e hx;nomatch o',(hs.2 b (dy (cS (bg e) (I.ok.cab x c gu hc)))).trans e1
  ·by_cases hj:j=i
   ·subst hj;rw[hi]at e1;cases e1;rw[Bm hiσ]at e2;cases e2;nomatch u,r,.inr ⟨.inl hk,c,hc,lY⟩
   ·rw[Eu (Ne.symm hj)]at e2;obtain⟨u',r',q⟩:=hl j y v' e1 e2 e3;exists u',r',?_;rcases q with q|⟨k,c',e,z'⟩
    ·exact .inl q
    ·refine .inr ⟨k,c',e,z'.sameBut hs ?_⟩;rintro rfl;exact hj (CM hN e1 (I.ok.inj _ _ _ e hc ▸ hi))
  ·by_cases mJ:c'=c
   ·subst mJ;nomatch _,lY
   ·obtain⟨w2,z2⟩:=I.cell y c' e;nomatch w2,z2.sameBut hs mJ
  ·obtain⟨e,n,ne,nf,d⟩:=I.pin p hp;exists (hs.2 p.1 ?_).trans e,n,ne,nf,d;intro q;rw[q,ya]at e;have q':=gd e;exact d w' (by rw[<-q'];exact hocd)
def wW(I:Inv X ae σ H s)(hN:X.N.Nodup)(hi:X.N[i]?=some x)(hx:rJ X.env.scope x)(r:RelV v u)
  (h:∀s',Inv X ae (σ.set i (some v)) H s'->Q () s') (hf:X.fn x=true\/X.env.scope.names.lookup x=some .local:=by first|exact .inl rfl|exact .inr rfl|assumption):wpAny M A (storeName X.env x u) Q E s :=
 zaM I hN hi hx r (λs' I' _=>h s' I') hf
def Inv.call'(I:Inv X ae σ H s)(ho:s'.os=s.os)(u:Un (cC X.stack) ch H H' s.heap s'.heap)(hok:cW X.prog X.w H' s'.heap)(hg:AllBare s'.gens)
  (kC:∀b∈ch,(b∈X.ex\/X.s₀.heap.objs.size<=b)/\b≠X.env.locals/\(∀x c,X.env.cells.lookup x=some c->c≠b)/\∀p∈X.pn++ae,p.1≠b):Inv X ae σ H' s':=by
 obtain⟨h',g',d',t',o'⟩:=s';have e:=ho;subst e;exact I.call (g':=g') (t':=t') (d':=d') u hok hg kC
end
abbrev XK:=Value->Option Addr->Hp->Prop
abbrev St:=List (Option V)
abbrev VK:=V->Hp->Prop
abbrev TE:=St->Hp->VK->Prop
abbrev TT:=St->Hp->(Bool->Hp->Prop)->Prop
abbrev TA:=St->Hp->(List V->Hp->Prop)->Prop
structure mx where
 nx:St->Hp->Prop
 rt:VK
 bk:St->Hp->Prop:=λ_ _=>False
 ct:St->Hp->Prop:=λ_ _=>False
abbrev TS:=mx->St->Hp->Prop
def EP(X:Cx)(ae:List (Addr×Obj))(σ:St)(Q:VK)(u:Value)(s':Shared):Prop:=∃v H',Inv X ae σ H' s'/\RelV v u/\Q v H'
def TP(X:Cx)(ae:List (Addr×Obj))(σ:St)(Q:Bool->Hp->Prop)(b:Bool)(s':Shared):Prop:=∃H',Inv X ae σ H' s'/\Q b H'
def AP(X:Cx)(ae:List (Addr×Obj))(σ:St)(Q:List V->Hp->Prop)(us:List Value)(s':Shared):Prop:=∃vs H',Inv X ae σ H' s'/\Vals vs us/\Q vs H'
set_option tactic.hygienic true in
def SP(X:Cx)(ae:List (Addr×Obj))(D:mx)(f:Flow)(s':Shared):Prop :=
 match f with
 |.next=>∃σ' H',Inv X ae σ' H' s'/\D.nx σ' H'
 |.brk=>∃σ' H',Inv X ae σ' H' s'/\D.bk σ' H'
 |.cont=>∃σ' H',Inv X ae σ' H' s'/\D.ct σ' H'
 |.ret u=>∃v σ' H',Inv X ae σ' H' s'/\RelV v u/\D.rt v H'
def PE(X:Cx)(e:Expr)(t:TE):Prop :=
 ∀(ae:List (Addr×Obj)) (s:Shared) (σ:St) (H:Hp) (Q:VK),Inv X ae σ H s->t σ H Q->wpAny (model X.prog X.w) X.A (eval e X.env) (EP X ae σ Q) X.xe s
def PT(X:Cx)(e:Expr)(t:TT):Prop :=
 ∀(ae:List (Addr×Obj)) (s:Shared) (σ:St) (H:Hp) (Q:Bool->Hp->Prop),Inv X ae σ H s->t σ H Q->wpAny (model X.prog X.w) X.A (isTrue e X.env (eval e X.env)) (TP X ae σ Q) X.xe s
def PW(X:Cx)(e:Expr)(t:TT):Prop :=
 ∀(whole:Sem Value) (ae:List (Addr×Obj)) (s:Shared) (σ:St) (H:Hp) (Q:Bool->Hp->Prop),Inv X ae σ H s->t σ H Q->wpAny (model X.prog X.w) X.A (isTrue e X.env whole) (TP X ae σ Q) X.xe s
def PW.pt(h:PW X e t):PT X e t:=h _
def PA(X:Cx)(es:List Expr)(t:TA):Prop :=
 ∀(pos:Pos) (ae:List (Addr×Obj)) (s:Shared) (σ:St) (H:Hp) (Q:List V->Hp->Prop),Inv X ae σ H s->t σ H Q->wpAny (model X.prog X.w) X.A (spliced (backTo pos (starEach es X.env))) (AP X ae σ Q) X.xe s
def PS(X:Cx)(st:Stmt)(t:TS):Prop :=
 ∀(ae:List (Addr×Obj)) (s:Shared) (σ:St) (H:Hp) (D:mx),Inv X ae σ H s->t D σ H->wpAny (model X.prog X.w) X.A (exec st X.env) (SP X ae D) X.xe s
def fA(X:Cx)(st:List Stmt)(t:TS):Prop :=
 ∀(ae:List (Addr×Obj)) (s:Shared) (σ:St) (H:Hp) (D:mx),Inv X ae σ H s->t D σ H->wpAny (model X.prog X.w) X.A (execs st X.env) (SP X ae D) X.xe s
def aO(h:wpAny M A t Q E s)(hQ:∀a s,Q a s->Q' a s):wpAny M A t Q' E s:=dS h hQ λ_ _ x=>x
section
variable{X:Cx}
def me(i:Nat):TE:=λσ H Q=>∃v,σ[i]?=some (some v)/\Q v H
def tC(v:V):TE:=λ_ H Q=>Q v H
def OZ(hN:X.N[i]?=some x)(hv:u4 X.env.scope x)(hd:(x == ("__debug__" : Str))=false:=by decide)(kh:(x == ("__classdict__" : Str))=false:=by decide):PE X (.Name x pos) (me i):=by
 intro ae s σ H Q I h;obtain⟨v,e,h⟩:=h;obtain⟨m,hn,hl⟩:=I.loc;obtain⟨u,r,l⟩:=hl i x v hN e hv;have fin:EP X ae σ Q u s:=⟨v,H,I,r,h⟩;rcases l with ⟨hk,hm⟩|⟨hk,c,hc,mK⟩
 ·exact wpAny_Name (wpAny_loadName_local I.ok.kind hk hn hm fin) hd
 ·rcases hk with hk|hk
  ·exact wpAny_Name (wpAny_loadName_cell I.ok.kind hk hc mK fin) hd
  ·exact wpAny_Name (wpAny_loadName_free I.ok.kind hk hc mK fin kh) hd
def ai{i j pos}:PE X (.Constant (.int i) j pos) (tC (.int i)):=λ_ _ _ H _ I h=>wpAny_Constant_int ⟨.int i,H,I.tok _,⟨_,rfl⟩,h⟩
def p7{b j pos}:PE X (.Constant (.bool b) j pos) (tC (.bl b)):=λ_ _ _ H _ I h=>Constant_bool ⟨.bl b,H,I,rfl,h⟩
def iX{j pos}:PE X (.Constant .none j pos) (tC .non):=λ_ _ _ H _ I h=>Constant_none ⟨.non,H,I,rfl,h⟩
def aA{x j pos}:PE X (.Constant (.str x) j pos) (tC (.str x)):=λ_ _ _ H _ I h=>Calls.Constant_str ⟨.str x,H,I.tok _,⟨_,rfl⟩,h⟩
def Gl(X:Cx)(x:Str):Prop:=X.env.kindOf x=some .globalImplicit
def xn(I:Inv X ae σ H s)(hg:Gl X x)(hm:X.mg x=some u)(h:Q u s)
  (hd:(x == ("__debug__" : Str))=false:=by decide):wpAny (model X.prog X.w) X.A (eval (.Name x pos) X.env) Q E s :=
 Sv I.ok.kind hg (Calls.loadGlobal_global (by rw[I.ok.glob];exact I.mod.glob.keeps I.bk) hm h) hd
def qq(I:Inv X ae σ H s)(hg:Gl X x)(hm:X.mg x=none)(hv:bootBuiltins x=some u)(h:Q u s)
  (hn:x ≠ "__name__" := by decide) (hd:(x == ("__debug__" : Str))=false:=by decide):wpAny (model X.prog X.w) X.A (eval (.Name x pos) X.env) Q E s:=by
 obtain⟨mb,h1,h2⟩:=I.mod.blt;exact Sv I.ok.kind hg (Calls.loadGlobal_builtin (by rw[I.ok.glob];exact I.mod.glob.keeps I.bk) hm (by rw[I.ok.blt];exact h1.keeps I.bk) ((h2 x hn).trans hv) h) hd
def fg(hg:Gl X x)(hm:X.mg x=some u)(r:RelV v u)(hd:(x == ("__debug__" : Str))=false:=by decide):PE X (.Name x pos) (tC v) :=
 λ_ _ _ H _ I h=>xn I hg hm ⟨v,H,I,r,h⟩ hd
def W2(hg:Gl X x)(hm:X.mg x=none)(hv:bootBuiltins x=some u)(r:RelV v u)(hn:x ≠ "__name__" := by decide)(hd:(x == ("__debug__" : Str))=false:=by decide):PE X (.Name x pos) (tC v) :=
 λ_ _ _ H _ I h=>qq I hg hm hv ⟨v,H,I,r,h⟩ hn hd
variable{a b:Expr}{ta tb:TE}{pos:Pos}
def PC(X:Cx)(op:CmpOp)(a b:Expr)(t:TE):Prop :=
 ∀(ae:List (Addr×Obj)) (s:Shared) (σ:St) (H:Hp) (Q:VK),Inv X ae σ H s->t σ H Q ->
  wpAny (model X.prog X.w) X.A (eval a X.env) (λv s₁=>wpAny (model X.prog X.w) X.A (eval b X.env) (λu s₂=>wpAny (model X.prog X.w) X.A (compareOp op v u) (EP X ae σ Q) X.xe s₂) X.xe s₁) X.xe s
def tB(t:TE):TT:=λσ H Q=>t σ H λx H1=>∃c,x=.bl c/\Q c H1
def tM(h:PC X op a b t)(h1:behindInMarks op b=false:=by first|exact nobehind _ tD tD|rfl):PT X (.Compare a [op] [b] pos) (tB t):=by
 intro ae s σ H Q I hw;refine EV (aO (h ae s σ H _ I hw) λv s1 h1=>aO h1 λu s2 h2=>aO h2 ?_) h1;rintro c s3 ⟨x,H1,I1,r1,q1⟩;obtain⟨d,rfl,q⟩:=q1;cases r1;exact kA ⟨H1,I1,q⟩
def j3(h:PE X e t)(he:∀whole,isTrue e X.env whole=(do let v <-whole;standAt e.pos;holding [v] (truthy v)):=by intro _;rfl):PT X e (tB t):=by
 intro ae s σ H Q I hw;refine isTrue_plain (aO (h ae s σ H _ I hw) ?_) (he _);rintro v s1 ⟨x,H1,I1,r1,q1⟩;obtain⟨d,rfl,q⟩:=q1;cases r1;exact kA ⟨H1,I1,q⟩
variable{tA B9:TT}{rest:List Expr}
def zb3(t u:TT):TT:=λσ H Q=>t σ H λc H1=>if c=true then u σ H1 Q else Q false H1
def tOr(t u:TT):TT:=λσ H Q=>t σ H λc H1=>if c=true then Q true H1 else u σ H1 Q
def zaR(t:TT):TT:=λσ H Q=>t σ H λc H1=>Q (!c) H1
def i8(ha:PT X a tA):PW X (.BoolOp .And [a] pos) tA:=by
 intro wh ae s σ H Q I h;refine isTrue_and (aO (ha ae s σ H Q I h) λc s1 e=>?_);cases c with
 |true=>exact isTrue_and_nil e
 |false=>exact e
def j2(ha:PT X a tA):PW X (.BoolOp .Or [a] pos) tA:=by
 intro wh ae s σ H Q I h;refine isTrue_or (aO (ha ae s σ H Q I h) λc s1 e=>?_);cases c with
 |false=>exact isTrue_or_nil e
 |true=>exact e
def iQ(ha:PT X a tA)(hb:PW X (.BoolOp .And (b::rest) pos) B9):PW X (.BoolOp .And (a::b::rest) pos) (zb3 tA B9):=by
 intro wh ae s σ H Q I h;refine isTrue_and (aO (ha ae s σ H _ I h) λc s1 ⟨H1,I1,q1⟩=>?_);cases c with
 |true=>exact hb wh ae s1 σ H1 Q I1 q1
 |false=>nomatch H1,I1,q1
def jy(ha:PT X a tA)(hb:PW X (.BoolOp .Or (b::rest) pos) B9):PW X (.BoolOp .Or (a::b::rest) pos) (tOr tA B9):=by
 intro wh ae s σ H Q I h;refine isTrue_or (aO (ha ae s σ H _ I h) λc s1 ⟨H1,I1,q1⟩=>?_);cases c with
 |true=>nomatch H1,I1,q1
 |false=>exact hb wh ae s1 σ H1 Q I1 q1
def nK(ha:PT X a tA):PT X (.UnaryOp .Not a pos) (zaR tA):=by
 intro ae s σ H Q I h;exact isTrue_not (ha ae s σ H (λc H1=>Q (!c) H1) I h)
def zco(ta tb:TE):TE:=λσ H Q=>ta σ H λx H1=>∃c,x=.bl c/\if c=true then tb σ H1 Q else Q (.bl false) H1
def zcy(ta tb:TE):TE:=λσ H Q=>ta σ H λx H1=>∃c,x=.bl c/\if c=true then Q (.bl true) H1 else tb σ H1 Q
def zaE(ta:TE):TE:=λσ H Q=>ta σ H λx H1=>∃c,x=.bl c/\Q (.bl (!c)) H1
def px{op}(h:PE X a t):PE X (.BoolOp op [a] pos) t:=λae s σ H Q I hw=>BoolOp_one (h ae s σ H Q I hw)
def uP(ha:PE X a ta)(hb:PE X (.BoolOp .And (b::rest) pos) tb):PE X (.BoolOp .And (a::b::rest) pos) (zco ta tb):=by
 intro ae s σ H Q I h;refine BoolOp_and (aO (ha ae s σ H _ I h) ?_);rintro v s1 ⟨x,H1,I1,r1,q1⟩;obtain⟨c,rfl,q1⟩:=q1;cases r1;refine kA ?_;cases c with
 |true=>exact hb ae s1 σ H1 Q I1 q1
 |false=>nomatch .bl false,H1,I1,rfl,q1
def zcl(ha:PE X a ta)(hb:PE X (.BoolOp .Or (b::rest) pos) tb):PE X (.BoolOp .Or (a::b::rest) pos) (zcy ta tb):=by
 intro ae s σ H Q I h;refine BoolOp_or (aO (ha ae s σ H _ I h) ?_);rintro v s1 ⟨x,H1,I1,r1,q1⟩;obtain⟨c,rfl,q1⟩:=q1;cases r1;refine kA ?_;cases c with
 |false=>exact hb ae s1 σ H1 Q I1 q1
 |true=>nomatch .bl true,H1,I1,rfl,q1
def zew(ha:PE X a ta):PE X (.UnaryOp .Not a pos) (zaE ta):=by
 intro ae s σ H Q I h;refine UnaryOp_ (aO (ha ae s σ H _ I h) ?_);rintro v s1 ⟨x,H1,I1,r1,q1⟩;obtain⟨c,rfl,q1⟩:=q1;cases r1;exact not_of (kA ⟨.bl (!c),H1,I1,rfl,q1⟩)
def tIf(t:TT)(ta tb:TE):TE:=λσ H Q=>t σ H λc H1=>if c=true then ta σ H1 Q else tb σ H1 Q
def sZ(hc:PT X c tA)(ha:PE X a ta)(hb:PE X b tb):PE X (.IfExp c a b pos) (tIf tA ta tb):=by
 intro ae s σ H Q I h;refine wpAny_IfExp (aO (hc ae s σ H _ I h) λd s1 ⟨H1,I1,q1⟩=>?_);cases d with
 |true=>exact ha ae s1 σ H1 Q I1 q1
 |false=>exact hb ae s1 σ H1 Q I1 q1
end
def aj(K:Frag)(H:Hp)(a:Addr)(xs:List V):Prop :=
 Rd H a (.lst xs) \/
  ∃(o:Obj) (ah:Array Value) (n:Nat),K.lookup a=some o/\o.cls=.type "list" /\ o.dict=none/\o.data=.seq ah n/\ah.size<=sizeLine/\Vals xs ah.toList
def az(K:Frag)(H:Hp)(a:Addr)(xs:List V):Prop :=
 Rd H a (.tup xs) \/
  ∃(o:Obj) (ah:Array Value) (n:Nat),K.lookup a=some o/\o.cls=.type "tuple" /\ o.data=.seq ah n/\ah.size<=sizeLine/\Vals xs ah.toList
noncomputable def Wy:Value->Option V
 |.none=>some .non
 |.bool b=>some (.bl b)
 |.int i _=>some (.int i)
 |.str x _=>some (.str x)
 |.bytes b _=>some (.byt b)
 |.float b _=>some (.flt b)
 |.ref a=>some (.ref a)
 |.type n=>some (.ty n)
 |_=>none
def RelV.abs(r:RelV x u):Wy u=some x:=by
 cases x with
 |non=>cases r;rfl
 |bl _=>cases r;rfl
 |int _=>obtain⟨t,rfl⟩:=r;rfl
 |str _=>obtain⟨t,rfl⟩:=r;rfl
 |byt _=>obtain⟨t,rfl⟩:=r;rfl
 |flt _=>obtain⟨t,rfl⟩:=r;rfl
 |ref _=>cases r;rfl
 |ty _=>cases r;rfl
def RelV.inj(r:RelV x u)(q:RelV y u):x=y:=gd (r.abs.symm.trans q.abs)
def Vals.inj(h:Vals xs us)(h':Vals ys us):xs=ys:=by
 induction h generalizing ys with
 |nil=>cases h';rfl
 |cons r t ih=>cases h' with|cons r' t'=>rw[r.inj r',ih t']
section
variable{X:Cx}{ae:List (Addr×Obj)}{σ:St}{H:Hp}{s:Shared}{a:Addr}{xs ys:List V}
def aj.of{K:Frag}(h:H a=some (.lst xs)):aj K H a xs:=.inl (.inl h)
def az.of{K:Frag}(h:H a=some (.tup xs)):az K H a xs:=.inl (.inl h)
def Inv.list(I:Inv X ae σ H s)(h:aj X.K H a xs):∃ah:List Value,Vals xs ah/\PlainL s.heap a ah.toArray/\xs.length<=sizeLine:=by
 rcases h with h|⟨o,ah,n,hk,hc,hd,hs,hz,r⟩
 ·obtain⟨z,ah,n,r,e⟩:=h.ok I.hok;nomatch ah,r,⟨_,n,e,rfl,rfl,rfl⟩,z
 ·exists ah.toList,r,⟨o,n,I.kIn a o hk,hc,hd,by simpa using hs⟩,?_;have e:=r.length;simp only[gL]at e;lia
def Inv.tuple(I:Inv X ae σ H s)(h:az X.K H a xs):∃ah:List Value,Vals xs ah/\IsTup s.heap a ah.toArray/\xs.length<=sizeLine:=by
 rcases h with h|⟨o,ah,n,hk,hc,hs,hz,r⟩
 ·obtain⟨z,ah,r,p⟩:=h.ok I.hok;nomatch ah,r,p,z
 ·exists ah.toList,r,⟨o,I.kIn a o hk,hc,n,by simpa using hs⟩,?_;have e:=r.length;simp only[gL]at e;omega
def Inv.list_inj(I:Inv X ae σ H s)(h:aj X.K H a xs)(h':aj X.K H a ys):xs=ys:=by
 obtain⟨ah,r,⟨o,n,e,_,_,d⟩,_⟩:=I.list h;obtain⟨its',r',⟨o',n',e',_,_,d'⟩,_⟩:=I.list h';rw[e]at e';cases e';rw[d]at d';injection d' with d1 _
 have:ah=its':=by simp_all
 subst this;exact r.inj r'
def Inv.tuple_inj(I:Inv X ae σ H s)(h:az X.K H a xs)(h':az X.K H a ys):xs=ys:=by
 obtain⟨ah,r,⟨o,e,_,n,d⟩,_⟩:=I.tuple h;obtain⟨its',r',⟨o',e',_,n',d'⟩,_⟩:=I.tuple h';rw[e]at e';cases e';rw[d]at d';injection d' with d1 _
 have:ah=its':=by simp_all
 subst this;exact r.inj r'
end
noncomputable abbrev Cx.wish(X:Cx)(E:Value->Shared->Prop):Cx:={X with xe:=E}
abbrev Cx.nox(X:Cx):Cx:=X.wish λ_ _=>False
def Cx.Ok.wish{X:Cx}(ok:X.Ok)(E:Value->Shared->Prop):(X.wish E).Ok :=
 ⟨ok.mod,ok.kind,ok.glob,ok.blt,ok.above,ok.inj,ok.has,ok.cab,ok.hd,ok.frames,ok.stk,ok.exf,ok.bs,ok.bsz,ok.noex,ok.exfs,ok.funs,ok.frf⟩
def Cx.Ok.unwish{X:Cx}{E:Value->Shared->Prop}(ok:(X.wish E).Ok):X.Ok :=
 ⟨ok.mod,ok.kind,ok.glob,ok.blt,ok.above,ok.inj,ok.has,ok.cab,ok.hd,ok.frames,ok.stk,ok.exf,ok.bs,ok.bsz,ok.noex,ok.exfs,ok.funs,ok.frf⟩
section
variable{X:Cx}{ae:List (Addr×Obj)}{σ:St}{H:Hp}{s:Shared}{E:Value->Shared->Prop}
def Inv.wish(I:Inv X ae σ H s)(E:Value->Shared->Prop):Inv (X.wish E) ae σ H s:=⟨I.ok.wish E,I.os,I.bare,I.base,I.loc,I.cell,I.free,I.freeC,I.pin,I.hok,I.len⟩
def Inv.unwish(I:Inv (X.wish E) ae σ H s):Inv X ae σ H s:=⟨I.ok.unwish,I.os,I.bare,I.base,I.loc,I.cell,I.free,I.freeC,I.pin,I.hok,I.len⟩
set_option tactic.hygienic true in
def SP.unwish(h:SP (X.wish E) ae D f s'):SP X ae D f s':=by
 cases f with
 |next=>obtain⟨σ',H',I,q⟩:=h;nomatch σ',H',I.unwish,q
 |brk=>obtain⟨σ',H',I,q⟩:=h;nomatch σ',H',I.unwish,q
 |cont=>obtain⟨σ',H',I,q⟩:=h;nomatch σ',H',I.unwish,q
 |ret u=>obtain⟨v,σ',H',I,r,q⟩:=h;nomatch v,σ',H',I.unwish,r,q
def fA.nox{st:List Stmt}{t:TS}(h:fA X.nox st t):fA X st t:=λae s σ H D I hw =>
 dS (h ae s σ H D (I.wish _) hw) (λ_ _ q=>q.unwish) λ_ _ z=>False.elim z
end
section
variable{X:Cx}{st:Stmt}{rest:List Stmt}{t u:TS}{e:Expr}{te:TE}{pos:Pos}
def zc6:TS:=λD σ H=>D.nx σ H
def C6(t u:TS):TS:=λD σ H=>t {D with nx:=u D} σ H
def aN:fA X [] zc6:=λ_ _ σ H _ I h=>uR ⟨σ,H,I,h⟩
set_option tactic.hygienic true in
def ak(h1:PS X st t)(h2:fA X rest u):fA X (st::rest) (C6 t u):=by
 intro ae s σ H D I h;refine CY (aO (h1 ae s σ H {D with nx:=u D} I h) λf s1 q=>?_);cases f with
 |next =>
  obtain⟨σ',H',I',q⟩:=q;exact h2 ae s1 σ' H' D I' q
 |ret v=>exact q
 |brk=>exact q
 |cont=>exact q
def ao(h1:PS X st t):fA X [st] t:=by
 intro ae s σ H D I h;refine CY (aO (h1 ae s σ H D I h) λf s1 q=>?_);cases f with
 |next=>exact uR q
 |ret v=>exact q
 |brk=>exact q
 |cont=>exact q
def Inv.quiet(I:Inv X ae σ H s):interactive X.env=false:=by simp[interactive,I.ok.kind]
def WG(te:TE):TS:=λD σ H=>te σ H λ_ H1=>D.nx σ H1
def d5(he:PE X e te)(hs:swapsWith e none pos.line X.env=pure false:=by rfl):PS X (.Expr e pos) (WG te):=by
 intro ae s σ H D I h;exact wpAny_Expr_any (aO (he ae s σ H _ I h) λv s1 ⟨x,H1,I1,r1,q1⟩=>⟨σ,H1,I1,q1⟩) I.quiet hs
def Ax(te:TE):TS:=λD σ H=>te σ H D.rt
def aB(he:PE X e te):PS X (.Return (some e) pos) (Ax te):=by
 intro ae s σ H D I h;exact wpAny_Return_some (aO (he ae s σ H _ I h) λv s1 ⟨x,H1,I1,r1,q1⟩=>⟨x,σ,H1,I1,r1,q1⟩)
def Xy(c:TT)(t u:TS):TS:=λD σ H=>c σ H λb H1=>if b=true then t D σ H1 else u D σ H1
def a9(hc:PT X c tc)(ha:fA X a t)(hb:fA X b u):PS X (.If c a b pos) (Xy tc t u):=by
 intro ae s σ H D I h;refine wpAny_If (aO (hc ae s σ H _ I h) λd s1 ⟨H1,I1,q1⟩=>?_);cases d with
 |true=>exact ha ae s1 σ H1 D I1 q1
 |false=>exact hb ae s1 σ H1 D I1 q1
end
abbrev TG:=V->St->Hp->(St->Hp->Prop)->Prop
abbrev nO:=List V->St->Hp->(St->Hp->Prop)->Prop
def PG(X:Cx)(target:Expr)(t:TG):Prop :=
 ∀(ae:List (Addr×Obj)) (s:Shared) (σ:St) (H:Hp) (v:V) (u:Value) (Q:St->Hp->Prop),Inv X ae σ H s->RelV v u->t v σ H Q ->
  wpAny (model X.prog X.w) X.A (assign target X.env u) (λ_ s'=>∃σ' H',Inv X ae σ' H' s'/\Q σ' H') X.xe s
def lE(X:Cx)(ts:List Expr)(t:nO):Prop :=
 ∀(ae:List (Addr×Obj)) (s:Shared) (σ:St) (H:Hp) (vs:List V) (us:List Value) (Q:St->Hp->Prop),Inv X ae σ H s->Vals vs us->t vs σ H Q ->
  wpAny (model X.prog X.w) X.A (assignInOrder ((assignEach ts X.env).map (·.2)) us) (λ_ s'=>∃σ' H',Inv X ae σ' H' s'/\Q σ' H') X.xe s
abbrev Pm:=V->V->V->Hp->(Hp->Prop)->Prop
def Q0(X:Cx)(t:Pm):Prop :=
 ∀(ae:List (Addr×Obj)) (s:Shared) (σ:St) (H:Hp) (o i v:V) (ov iv u:Value) (Q:Hp->Prop),Inv X ae σ H s->RelV o ov->RelV i iv->RelV v u->t o i v H Q ->
  wpAny (model X.prog X.w) X.A (setItem ov iv u) (λ_ s'=>∃H',Inv X ae σ H' s'/\Q H') X.xe s
section
variable{X:Cx}{pos:Pos}
def aW(i:Nat):TG:=λv σ H Q=>Q (σ.set i (some v)) H
def Kk(hN:X.N.Nodup)(hi:X.N[i]?=some x)(hx:rJ X.env.scope x)(hf:X.fn x=true\/X.env.scope.names.lookup x=some .local:=by first|exact .inl rfl|exact .inr rfl|assumption):PG X (.Name x pos) (aW i):=by
 intro ae s σ H v u Q I r h;exact wpAny_assign_Name (wW I hN hi hx r (λs' I'=>⟨_,H,I',h⟩) hf)
def e7:nO:=λvs σ H Q=>vs=[]/\Q σ H
def bT(t:TG)(u:nO):nO:=λvs σ H Q=>∃v r,vs=v::r/\t v σ H λσ' H'=>u r σ' H' Q
def fB:lE X [] e7:=by
 intro ae s σ H vs us Q I r h;obtain⟨e,h⟩:=h;subst e;cases r;exact assignInOrder_nil ⟨σ,H,I,h⟩
def b9(h1:PG X e t)(h2:lE X es u)
  (hs:(assignEach (e::es) X.env).map (·.2)=assign e X.env::(assignEach es X.env).map (·.2):=by rfl):lE X (e::es) (bT t u):=by
 intro ae s σ H vs us Q I r h;obtain⟨v,vr,e1,h⟩:=h;subst e1;cases r with
 |cons r rr =>
  rw[hs];refine assignInOrder_cons (aO (h1 ae s σ H _ _ _ I r h) λ_ s1 ⟨σ1,H1,I1,q1⟩=>?_);exact h2 ae s1 σ1 H1 _ _ Q I1 rr q1
def eI(K:Frag)(n:Nat)(t:nO):TG:=λv σ H Q=>∃a xs,v=.ref a/\az K H a xs/\xs.length=n/\t xs σ H Q
def ft(hc:X.calm=true)(h:lE X es t)
  (hn:(assignEach es X.env).length=n:=by rfl) (a8:(assignEach es X.env).findIdx? (·.1)=none:=by rfl):PG X (.Tuple es k pos) (eI X.K n t):=by
 intro ae s σ H v u Q I r hw;obtain⟨a,xs,e1,hq,hl,hw⟩:=hw;subst e1;cases r;obtain⟨ah,rv,ht,hz⟩:=I.tuple hq;refine assign_Tuple_tuple (I.ok.hd hc) ht (by simp[hn,<-hl,rv.length]) a8 λh' hx=>?_
 have I1:=I.kept (t':=s.toks) λb o e=>hx b o (dy (bg e)) e
 exact h ae _ σ H xs _ Q I1 (by simpa using rv) hw
def Xa(to ti:TE)(t:Pm):TG:=λv σ H Q=>to σ H λo H1=>ti σ H1 λi H2=>t o i v H2 λH3=>Q σ H3
def QE(ho:PE X o to)(hi:PE X i ti)(hs:Q0 X t)
  (ha:∀ v,assign (.Subscript o i pos) X.env v=(do
   let ov <-holding [v] (eval o X.env)
   let iv <-holding [v,ov] (eval i X.env)
   standAt pos
   holding [v,ov,iv] (setItem ov iv v)
   release [v,ov,iv] []):=by intro _;rfl):PG X (.Subscript o i pos) (Xa to ti t):=by
 intro ae s σ H v u Q I r h;rw[ha];refine au (lj (aO (ho ae s σ H _ I h) ?_));rintro ov s1 ⟨x,H1,I1,r1,q1⟩;refine au (lj (aO (hi ae s1 σ H1 _ I1 q1) ?_));rintro iv s2 ⟨y,H2,I2,r2,q2⟩;refine au (E8 (au (lj (aO (hs ae s2 σ H2 x y v ov iv u _ I2 r1 r2 r q2) λ_ s3 ⟨H3,I3,q3⟩=>?_))));exact wpAny_release ⟨σ,H3,I3,q3⟩
def uQ(te:TE)(g:TG):TS:=λD σ H=>te σ H λx H1=>g x σ H1 D.nx
def qd(he:PE X e te)(hg:PG X tg g)(hs:swapsWithSole [tg] e pos.line X.env=pure false:=by rfl)(hw:swappedStores [tg] e X.env=pure none:=by rfl)
  (h1:(assignEach [tg] X.env).map (·.2)=[assign tg X.env]:=by rfl):PS X (.Assign [tg] e pos) (uQ te g):=by
 intro ae s σ H D I h;refine wpAny_Assign_stores (aO (he ae s σ H _ I h) ?_) hs hw;rintro v s1 ⟨x,H1,I1,r1,q1⟩;rw[h1];exact aO (hg ae s1 σ H1 x v _ I1 r1 q1) λ_ s2 q=>q
def MZ(hN:X.N.Nodup)(hi:X.N[i]?=some x)(hx:rJ X.env.scope x)(he:PE X e te)(hs:swapsWith e (some (.Name x pos')) pos.line X.env=pure false:=by rfl)(hf:X.fn x=true\/X.env.scope.names.lookup x=some .local:=by first|exact .inl rfl|exact .inr rfl|assumption) :
  PS X (.Assign [.Name x pos'] e pos) (uQ te (aW i)):=by
 intro ae s σ H D I h;refine wpAny_Assign_Name (aO (he ae s σ H _ I h) ?_) hs;rintro v s1 ⟨y,H1,I1,r1,q1⟩;exact wW I1 hN hi hx r1 (λs2 I2=>⟨_,H1,I2,q1⟩) hf
end
section
variable{X:Cx}{pos:Pos}
def Oz(c:TT)(tb:TS):TS:=λD σ H=>∃W:Nat->St->Hp->Prop,(∃m,W m σ H)/\∀m σ H,W m σ H ->
 c σ H λb H1=>if b=true then ∃N:St->Hp->Prop,(∀σ' H',N σ' H'->∃m',m'<m/\W m' σ' H')/\tb {D with nx:=N,ct:=N,bk:=D.nx} σ H1 else D.nx σ H1
set_option tactic.hygienic true in
def tw(hp:PassesOwn (model X.prog X.w) X.A X.env X.xe)(hc:PT X c tc)(hb:fA X body tb):PS X (.While c body [] pos) (Oz tc tb):=by
 intro ae s σ H D I h;obtain⟨W,⟨m0,w0⟩,turn⟩:=h;refine wpAny_While (codeAny_whileLoop (λn s'=>∃σ' H',Inv X ae σ' H' s'/\W n σ' H') ?_ m0 ⟨σ,H,I,w0⟩);rintro n s1 ⟨σ1,H1,I1,w1⟩;refine rM hp (aO (hc ae s1 σ1 H1 _ I1 (turn n σ1 H1 w1)) λb s2 ⟨H2,I2,q2⟩=>?_);cases b with
 |true =>
  obtain⟨N,hN,q2⟩:=q2;rw[aC rfl];refine rM hp (aO (hb ae s2 σ1 H2 _ I2 q2) λf s3 q3=>?_);cases f with
  |next =>
   obtain⟨σ3,H3,I3,n3⟩:=q3;obtain⟨m',hm,w3⟩:=hN σ3 H3 n3;nomatch m',hm,σ3,H3,I3,w3
  |cont =>
   obtain⟨σ3,H3,I3,n3⟩:=q3;obtain⟨m',hm,w3⟩:=hN σ3 H3 n3;nomatch m',hm,σ3,H3,I3,w3
  |brk=>exact q3
  |ret v=>exact q3
 |false =>
  rw[av c9];exact uR ⟨σ1,H2,I2,q2⟩
end
structure It where
 go:Nat->Hp->Prop
 yld:Nat->Hp->V->Hp->Prop
 stop:Nat->Hp->Prop
def ij(X:Cx)(ae:List (Addr×Obj))(H:Hp)(b:Addr):Prop :=
 H b=none/\b≠X.env.locals/\b∉X.fs/\(b∈X.ex\/X.s₀.heap.objs.size<=b)/\(∀x c,X.env.cells.lookup x=some c->c≠b)/\∀p∈X.pn++ae,p.1≠b
def Inv.fpOk(I:Inv X ae σ H s)(hb:s.heap.objs.size<=b)(hn:H' b=none):ij X ae H' b:=by
 exists hn,qH (cS I.lt hb),I.nofs hb,.inr (aX I.sz hb),λx c e z=>?_,λp hp z=>?_
 ·obtain⟨v,q⟩:=I.cell x c e;exact absurd (cS q.lt (by simp_all)) (kS _)
 ·exact absurd (cS (bg (I.pin p hp).1) (by simp_all)) (kS _)
structure nB(P:Program)(w:World)(K:Frag)(tg:Expr)(J:It)(fp:List Addr)(it:Addr)(tn:Nat->Heap->Prop):Prop where
 mem:it∈fp
 obj:∀i h,tn i h->∀b∈fp,∃o,h.get? b=some o/\∀v,o.data≠.cell v
 keep:∀i h h',tn i h->(∀b∈fp,∀o,h.get? b=some o->h'.get? b=some o)->tn i h'
 item:∀(X:Cx),X.prog=P->X.w=w->X.K=K->X.calm=true->∀(i:Nat) (ae:List (Addr×Obj)) (s:Shared) (σ:St) (H:Hp) (E:Value->Shared->Prop),Inv X ae σ H s->(∀b∈fp,ij X ae H b)->tn i s.heap->J.go i H ->
  wpAny (model P w) X.A (pyNext (.ref it)) (fun r s1=>∃ u,r=some u /\ wpAny (model P w) X.A (letOwnedTupleGo tg (.ref it) u) (λ_ s2=>∃x H',Inv X ae σ H' s2/\RelV x u/\J.yld i H x H'/\tn (i+1) s2.heap/\∀b∈fp,H' b=none) E s1) E s
 done:∀(X:Cx),X.prog=P->X.w=w->X.K=K->X.calm=true->∀(i:Nat) (ae:List (Addr×Obj)) (s:Shared) (σ:St) (H:Hp) (E:Value->Shared->Prop),Inv X ae σ H s->(∀b∈fp,ij X ae H b)->tn i s.heap->J.stop i H ->
  wpAny (model P w) X.A (pyNext (.ref it)) (λr s1=>r=none/\Inv X ae σ H s1) E s
 self:∀(A:Around) (i:Nat) (s:Shared) (Q:Value->Shared->Prop) (E:Value->Shared->Prop),tn i s.heap->Q (.ref it) s->wpAny (model P w) A (pyIter (.ref it)) Q E s
abbrev TI:=St->Hp->(It->Hp->Prop)->Prop
def Rk(X:Cx)(ae:List (Addr×Obj))(σ:St)(tg:Expr)(R:It->Hp->Prop)(Ae:Value)(s2:Shared):Prop :=
 ∃(it:Addr) (fp:List Addr) (tn:Nat->Heap->Prop) (J:It) (H':Hp),Ae=.ref it/\Inv X ae σ H' s2/\nB X.prog X.w X.K tg J fp it tn/\tn 0 s2.heap/\(∀b∈fp,ij X ae H' b)/\R J H'
def PI(X:Cx)(tg iter:Expr)(wi:TI):Prop :=
 ∀(ae:List (Addr×Obj)) (s:Shared) (σ:St) (H:Hp) (R:It->Hp->Prop),Inv X ae σ H s->wi σ H R ->
  wpAny (model X.prog X.w) X.A (eval iter X.env) (λv s1=>wpAny (model X.prog X.w) X.A (pyIter v) (Rk X ae σ tg R) X.xe s1) X.xe s
def we(ho:s.heap.get? it=some o)(hc:o.cls=.type n)(hd:o.data=.fields vs)
    (hn:["enumerate","zip","dict_itemiterator","dict_reverseitemiterator","odict_iterator","itertools.zip_longest","itertools.pairwise"].contains n=false) (hQ:Q () s):wpAny M A (letOwnedTupleGo tg (.ref it) u) Q E s:=by
  cases tg<;>first
    |exact aJ hQ
    | (cases u <;> first
        |exact aJ hQ
        | (refine au (wpAny_load ho ?_)
           rw [hc,hd]
           show wpAny M A (if (["enumerate","zip","dict_itemiterator","dict_reverseitemiterator","odict_iterator","itertools.zip_longest","itertools.pairwise"].contains n&&vs[0]? == some (rawInt _))=true then _ else _) Q E s
           rw [av (by intro h;rw [hn,Bo]at h;cases h)]
           exact aJ hQ))
def iZ(K:Frag)(a:Addr):It :=
 ⟨λi H=>∃xs x,aj K H a xs/\xs[i]?=some x,λi H x H'=>H'=H/\∀xs,aj K H a xs->xs[i]?=some x,λi H=>∃xs,aj K H a xs/\xs.length<=i⟩
def xU(K:Frag)(a:Addr):It :=
 ⟨λi H=>∃xs x,az K H a xs/\xs[i]?=some x,λi H x H'=>H'=H/\∀xs,az K H a xs->xs[i]?=some x,λi H=>∃xs,az K H a xs/\xs.length<=i⟩
def oV(lo:Int)(n:Nat):It:=⟨λi _=>i<n,λi H x H'=>H'=H/\x=.int (lo+i),λi _=>n<=i⟩
def Wo{P:Program}{w:World}{K:Frag}{tg:Expr}(a it:Addr):nB P w K tg (iZ K a) [it] it (λi h=>h.IsListIter it a i) where
 mem:=by simp
 obj:=λi h st b hb=>by
  have e:b=it:=by simpa using hb
  subst e;obtain⟨o,e,c,d⟩:=st;exact⟨o,e,λv z=>by simp_all⟩
 keep:=λi h h' st k=>st.at λo e=>k it tS o e
 item:=by
  intro X hP hw hK hc i ae s σ H E I hf st hg;subst hP hw hK;obtain⟨xs,x,hq,hx⟩:=hg;obtain⟨ah,rv,p,hz⟩:=I.list hq;obtain⟨u,hu,ru⟩:=rv.get hx;obtain⟨f0,f1,f2,f3,f4,f5⟩:=hf it tS;refine wpAny_pyNext_list_item st p.isList (x:=u) (by simpa using hu) λh' dE sb=>?_
  have I1:=I.turned (t':=s.toks) (λb o hb e=>(sb.2 b hb).trans e) f0 f1 f3 f4 f5;obtain⟨o,e,c,d⟩:=id dE;nomatch u,rfl,we (s:={s with heap:=h'}) e c d tD ⟨x,H,I1,ru,⟨rfl,λys hy=>by rw[I.list_inj hy hq];exact hx⟩,dE,λb hb=>(hf b hb).1⟩
 done:=by
  intro X hP hw hK hc i ae s σ H E I hf st hg;subst hP hw hK;obtain⟨xs,hq,hx⟩:=hg;obtain⟨ah,rv,p,hz⟩:=I.list hq;obtain⟨f0,f1,f2,f3,f4,f5⟩:=hf it tS;have hl:=rv.length;exact wpAny_pyNext_list_end (I.ok.hd hc) st p.isList (by simp;lia) λh' eb=>⟨rfl,I.turned (t':=s.toks) (λb o hb e=>eb b o hb e) f0 f1 f3 f4 f5⟩
 self:=λ_ _ _ _ _ st h=>wpAny_pyIter_listiter st h
def zca{P:Program}{w:World}{K:Frag}{tg:Expr}(a it:Addr):nB P w K tg (xU K a) [it] it (λi h=>h.IsTupleIter it a i) where
 mem:=by simp
 obj:=λi h st b hb=>by
  have e:b=it:=by simpa using hb
  subst e;obtain⟨o,e,c,d⟩:=st;exact⟨o,e,λv z=>by simp_all⟩
 keep:=λi h h' st k=>st.at λo e=>k it tS o e
 item:=by
  intro X hP hw hK hc i ae s σ H E I hf st hg;subst hP hw hK;obtain⟨xs,x,hq,hx⟩:=hg;obtain⟨ah,rv,p,hz⟩:=I.tuple hq;obtain⟨u,hu,ru⟩:=rv.get hx;obtain⟨f0,f1,f2,f3,f4,f5⟩:=hf it tS;refine wpAny_pyNext_tuple_item st (show s.heap.IsTuple a ah.toArray from p) (x:=u) (by simpa using hu) λh' dE sb=>?_
  have I1:=I.turned (t':=s.toks) (λb o hb e=>(sb.2 b hb).trans e) f0 f1 f3 f4 f5;obtain⟨o,e,c,d⟩:=id dE;nomatch u,rfl,we (s:={s with heap:=h'}) e c d tD ⟨x,H,I1,ru,⟨rfl,λys hy=>by rw[I.tuple_inj hy hq];exact hx⟩,dE,λb hb=>(hf b hb).1⟩
 done:=by
  intro X hP hw hK hc i ae s σ H E I hf st hg;subst hP hw hK;obtain⟨xs,hq,hx⟩:=hg;obtain⟨ah,rv,p,hz⟩:=I.tuple hq;obtain⟨f0,f1,f2,f3,f4,f5⟩:=hf it tS;have hl:=rv.length;exact wpAny_pyNext_tuple_end (I.ok.hd hc) st (show s.heap.IsTuple a ah.toArray from p) (by simp;omega) λh' eb=>⟨rfl,I.turned (t':=s.toks) (λb o hb e=>eb b o hb e) f0 f1 f3 f4 f5⟩
 self:=λ_ _ _ _ _ st h=>wpAny_pyIter_tupleiter st h
def ZZ{P:Program}{w:World}{K:Frag}{tg:Expr}(it:Addr)(lo:Int)(n:Nat):nB P w K tg (oV lo n) [it] it (λi h=>IsRangeIter h it (lo+(i:Nat)*1) ((n:Int)-(i:Nat)) 1) where
 mem:=by simp
 obj:=λi h st b hb=>by simp_all
 keep:=λi h h' st k=>k it tS _ st
 item:=by
  intro X hP hw hK hc i ae s σ H E I hf st hg;subst hP hw hK;obtain⟨f0,f1,f2,f3,f4,f5⟩:=hf it tS;have W:=Walks.range (prog:=X.prog) (w:=X.w) (I.ok.hd hc) it lo 1 n;refine W.item i s _ _ hg st λv h' tk hv dE kk=>?_
  obtain⟨t,rfl⟩:=hv;have I1:Inv X ae σ H {s with heap:=h',toks:=tk}:=I.turned (λb o hb e=>kk b o (by simpa using hb) e) f0 f1 f3 f4 f5;exists _,rfl,we (s:={s with heap:=h',toks:=tk}) (n := "range_iterator") dE rfl rfl tD ⟨.int (lo+i),H,I1,⟨t,?_⟩,⟨rfl,rfl⟩,dE,λb hb=>(hf b hb).1⟩;rw[Int.mul_one]
 done:=by
  intro X hP hw hK hc i ae s σ H E I hf st hg;subst hP hw hK;obtain⟨f0,f1,f2,f3,f4,f5⟩:=hf it tS;exact wpAny_pyNext_range_end (I.ok.hd hc) st (by have:n<=i:=hg;lia) λh' eb=>⟨rfl,I.turned (t':=s.toks) (λb o hb e=>eb b o hb e) f0 f1 f3 f4 f5⟩
 self:=λ_ _ _ _ _ st h=>wpAny_pyIter_rangeiter st h
section
variable{X:Cx}{tg:Expr}
def Tz(K:Frag)(tl:TE):TI:=λσ H R=>tl σ H λx H1=>∃a,x=.ref a/\(∃xs,aj K H1 a xs)/\R (iZ K a) H1
def Zm(K:Frag)(tl:TE):TI:=λσ H R=>tl σ H λx H1=>∃a,x=.ref a/\(∃xs,az K H1 a xs)/\R (xU K a) H1
def Cc{l:Expr}{tl:TE}(hl:PE X l tl):PI X tg l (Tz X.K tl):=by
 intro ae s σ H R I h;refine aO (hl ae s σ H _ I h) ?_;rintro v s1 ⟨x,H1,I1,r1,q1⟩;obtain⟨a,e,⟨xs,hq⟩,q⟩:=q1;subst e;cases r1;obtain⟨ah,rv,p,hz⟩:=I1.list hq;refine qB p.isList ?_;exists s1.heap.objs.size,[s1.heap.objs.size],_,_,H1,rfl,I1.kept (t':=s1.toks) λb o e=>cq _ e,Wo a _,⟨_,da _ rfl,rfl,rfl⟩,λb hb=>?_,q;have e:b=s1.heap.objs.size:=by simpa using hb
 subst e;exact I1.fpOk (aT _) (I1.hok.fresh (aT _))
def Wl{l:Expr}{tl:TE}(hl:PE X l tl):PI X tg l (Zm X.K tl):=by
 intro ae s σ H R I h;refine aO (hl ae s σ H _ I h) ?_;rintro v s1 ⟨x,H1,I1,r1,q1⟩;obtain⟨a,e,⟨xs,hq⟩,q⟩:=q1;subst e;cases r1;obtain⟨ah,rv,p,hz⟩:=I1.tuple hq;refine wpAny_pyIter_tuple (show s1.heap.IsTuple a ah.toArray from p) ?_;exists s1.heap.objs.size,[s1.heap.objs.size],_,_,H1,rfl,I1.kept (t':=s1.toks) λb o e=>cq _ e,zca a _,⟨_,da _ rfl,rfl,rfl⟩,λb hb=>?_,q;have e:b=s1.heap.objs.size:=by simpa using hb
 subst e;exact I1.fpOk (aT _) (I1.hok.fresh (aT _))
def TC{ae:List (Addr×Obj)}{σ:St}{H:Hp}{s:Shared}{R:It->Hp->Prop}{E:Value->Shared->Prop}{lo hi:Int}{t u v:Tok}{tk:Nat}(I:Inv X ae σ H s)(h1 : -(2^62)<=lo)(h2:lo<2^62)(h3 : -(2^62)<=hi)(h4:hi<2^62)
  (q:R (oV lo (hi-lo).toNat) H):wpAny (model X.prog X.w) X.A (pyIter (.ref s.heap.objs.size)) (Rk X ae σ tg R) E {s with heap:=s.heap.push {cls:=.type "range",data:=.fields #[.int lo t,.int hi u,.int 1 v]},toks:=tk}:=by
 refine wpAny_pyIter_range (IsRange.new ..) (small_one h1 h2 h3 h4) ?_;have I1:Inv X ae σ H {s with heap:=s.heap.push {cls:=.type "range",data:=.fields #[.int lo t,.int hi u,.int 1 v]},toks:=tk}:=I.kept λb o e=>cq _ e
 refine⟨(s.heap.push {cls:=.type "range",data:=.fields #[.int lo t,.int hi u,.int 1 v]}).objs.size,[(s.heap.push {cls:=.type "range",data:=.fields #[.int lo t,.int hi u,.int 1 v]}).objs.size],_,_,H,rfl,I1.kept (t':=tk) λb o e=>cq _ e,ZZ _ lo (hi-lo).toNat,?_,λb hb=>?_,q⟩
 ·have e1:lo+((0:Nat):Int)*1=lo:=by simp
  have e2:(((hi-lo).toNat:Nat):Int)-((0:Nat):Int)=Builtin.Range.rangeSize lo hi 1:=by rw[rangeSize_one];split<;>lia
  rw[e1,e2];exact da _ rfl
 ·have e:b=(s.heap.push {cls:=.type "range",data:=.fields #[.int lo t,.int hi u,.int 1 v]}).objs.size:=by simpa using hb
  subst e;exact I1.fpOk (aT _) (I1.hok.fresh (aT _))
def zae(ta:TA):TI:=λσ H R=>ta σ H λvs H1=>∃j:Int,vs=[.int j] /\ -(2^62)<=j/\j<2^62/\R (oV 0 j.toNat) H1
def jD{a:Expr}{ta:TA}{p pos:Pos}(hg:Gl X "range")(hm:X.mg "range" = none)(ha:PA X [a] ta)(hs:starEach [a] X.env=[(false,eval a X.env)]:=by rfl):PI X tg (.Call (.Name "range" p) [a] [] pos) (zae ta):=by
 intro ae s σ H R I h;refine Call_ (qq I hg hm boot_range (tY (aO (ha pos ae s σ H _ I h) ?_) hs rfl));rintro us s1 ⟨vs,H1,I1,r1,q1⟩;obtain⟨j,e,q1,q2,q⟩:=q1;subst e;cases r1 with
 |cons r rr =>
  cases rr;obtain⟨t,rfl⟩:=r;exact call_range_1 (TC I1 tL tL q1 q2 (by simpa using q))
def J0(wi:TI)(g:TG)(tb:TS):TS:=λD σ H=>wi σ H λJ H1=>∃W:Nat->Nat->St->Hp->Prop,(∃m,W 0 m σ H1)/\∀i m σ H,W i m σ H ->
 (J.stop i H/\D.nx σ H)\/(J.go i H/\∃N:St->Hp->Prop,(∀σ' H',N σ' H'->∃m',m'<m/\W (i+1) m' σ' H')/\∀x H',J.yld i H x H'->g x σ H' λσ2 H2=>tb {D with nx:=N,ct:=N,bk:=D.nx} σ2 H2)
noncomputable def qX(fp:List Addr)(h:Heap):List (Addr×Obj):=fp.filterMap λb=>(h.get? b).map λo=>(b,o)
def vH(hb:b∈fp)(e:h.get? b=some o):(b,o)∈qX fp h:=AA.mpr ⟨b,hb,by rw[e];rfl⟩
def JY(hp:p∈qX fp h):p.1∈fp/\h.get? p.1=some p.2:=by
 obtain⟨b,hb,e⟩:=AA.mp hp;cases q:h.get? b with
 |none=>rw[q]at e;cases e
 |some o =>
  rw[q]at e;have e':=gd e;subst e';nomatch hb,q
def Inv.pinned(I:Inv X ae σ H s)(hf:∀b∈fp,ij X ae H b)(ho:∀b∈fp,∃o,s.heap.get? b=some o/\∀v,o.data≠.cell v):Inv X (ae++qX fp s.heap) σ H s :=
 I.pins_of λp hp=>(bA.mp hp).elim (λz=>I.pin p (f9 _ z)) λz=>by
  obtain⟨hb,e⟩:=JY z;obtain⟨f0,f1,f2,_⟩:=hf p.1 hb;obtain⟨o,e',d⟩:=ho p.1 hb;rw[e]at e';cases e';nomatch e,f0,f1,f2,d
def Inv.unpinned(I:Inv X (ae++pl) σ H s):Inv X ae σ H s:=I.pins_of λp hp=>I.pin p (f9 _ (mz _ hp))
set_option tactic.hygienic true in
def dR(hp:PassesOwn (model X.prog X.w) X.A X.env X.xe)(hc:X.calm=true)(hi:PI X tg iter wi)(hg:PG X tg g)(hb:fA X body tb)
  (hs:∀x,foldedSetIterable iter X.env x=pure x:=by intro _;rfl):PS X (.For tg iter body [] pos) (J0 wi g tb):=by
 intro ae s σ H D I h;refine wpAny_For (aO (hi ae s σ H _ I h) λv s1 h1=>aO h1 λAe s2 h2=>?_) hs;obtain⟨it,fp,tn,J,H2,e,I2,T,kb,f2,W,⟨m0,w0⟩,turn⟩:=h2;subst e;have stat:∀{H':Hp},(∀b∈fp,H' b=none)->∀b∈fp,ij X ae H' b:=λhn b hb=>⟨hn b hb,(f2 b hb).2⟩
 refine codeAny_forLoop_any (λn s'=>∃i σ' H',Inv X ae σ' H' s'/\tn i s'.heap/\(∀b∈fp,H' b=none)/\W i n σ' H') ?_ m0 ⟨0,σ,H2,I2,kb,λb hb=>(f2 b hb).1,w0⟩;rintro n s3 ⟨i,σ3,H3,I3,w9,vP,w3⟩;rcases turn i n σ3 H3 w3 with ⟨stop,qn⟩|⟨go,N,hN,step⟩
 ·refine rM hp (aO (T.done X rfl rfl rfl hc i ae s3 σ3 H3 X.xe I3 (stat vP) w9 stop) λr s4 ⟨hr,I4⟩=>?_);subst hr;exact uR ⟨σ3,H3,I4,qn⟩
 ·refine rM hp (aO (T.item X rfl rfl rfl hc i ae s3 σ3 H3 X.xe I3 (stat vP) w9 go) λr s4 ⟨u,hr,h4⟩=>?_);subst hr;refine rM hp (aO h4 ?_);rintro _ s5 ⟨x,H5,I5,r5,y5,rW,Dv⟩;have Gh:=I5.pinned (stat Dv) (T.obj _ _ rW);refine rM hp (aO (hg _ s5 σ3 H5 x u _ Gh r5 (step x H5 y5)) λ_ s6 ⟨σ6,H6,I6,q6⟩=>?_);refine rM hp (aO (hb _ s6 σ6 H6 _ I6 q6) λf s7 q7=>?_);have again:∀{σ7:St}{H7:Hp},Inv X (ae++qX fp s5.heap) σ7 H7 s7->N σ7 H7->∃m,m<n/\∃i σ' H',Inv X ae σ' H' s7/\tn i s7.heap/\(∀b∈fp,H' b=none)/\W i m σ' H':=fun {σ7 H7} I7 n7=>by
   obtain⟨m',hm,w7⟩:=hN σ7 H7 n7;exists m',hm,i+1,σ7,H7,I7.unpinned,T.keep _ _ _ rW λb hb o e=>(I7.pin (b,o) (f9 _ (f9 _ (vH hb e)))).1,λb hb=>?_,w7;obtain⟨o,e,d⟩:=T.obj _ _ rW b hb;exact (I7.pin (b,o) (f9 _ (f9 _ (vH hb e)))).2.1
  cases f with
  |next=>obtain⟨σ7,H7,I7,n7⟩:=q7;exact again I7 n7
  |cont=>obtain⟨σ7,H7,I7,n7⟩:=q7;exact again I7 n7
  |brk=>obtain⟨σ7,H7,I7,q7⟩:=q7;nomatch σ7,H7,I7.unpinned,q7
  |ret v=>obtain⟨x7,σ7,H7,I7,r7,q7⟩:=q7;nomatch x7,σ7,H7,I7.unpinned,r7,q7
end
def jo{K:Frag}{a:Addr}{xs:List V}{g:TG}{tb:TS}{D:mx}{σ:St}{H:Hp}(Pv:Nat->St->Hp->Prop)(h0:Pv 0 σ H)(hl:∀i σ H,i<=xs.length->Pv i σ H->aj K H a xs)
  (hs:∀i x σ H,xs[i]?=some x->Pv i σ H->g x σ H λσ2 H2=>tb {D with nx:=Pv (i+1),ct:=Pv (i+1),bk:=D.nx} σ2 H2) (hd:∀σ H,Pv xs.length σ H->D.nx σ H) :
  ∃W:Nat->Nat->St->Hp->Prop,(∃m,W 0 m σ H)/\∀i m σ H,W i m σ H ->
   ((iZ K a).stop i H/\D.nx σ H)\/((iZ K a).go i H/\∃N:St->Hp->Prop,(∀σ' H',N σ' H'->∃m',m'<m/\W (i+1) m' σ' H')/\∀x H',(iZ K a).yld i H x H'->g x σ H' λσ2 H2=>tb {D with nx:=N,ct:=N,bk:=D.nx} σ2 H2):=by
 exists λi m σ H=>m=xs.length-i/\i<=xs.length/\Pv i σ H,⟨xs.length,tS,bM _,h0⟩,?_;rintro i m σ H ⟨rfl,hi,p⟩;have q:=hl i σ H hi p;by_cases ba:i<xs.length
 ·refine .inr ⟨⟨xs,xs[i],q,by simp[ba]⟩,Pv (i+1),λσ' H' p'=>⟨xs.length-(i+1),tO,rfl,ba,p'⟩,λx H' y=>?_⟩;obtain⟨e,y⟩:=y;subst e;exact hs i x σ _ (y xs q) p
 ·have e:i=xs.length:=by lia
  subst e;exact .inl ⟨⟨xs,q,aT _⟩,hd σ H p⟩
def zbC{K:Frag}{a:Addr}{xs:List V}{g:TG}{tb:TS}{D:mx}{σ:St}{H:Hp}(Pv:Nat->St->Hp->Prop)(h0:Pv 0 σ H)(hl:∀i σ H,i<=xs.length->Pv i σ H->az K H a xs)
  (hs:∀i x σ H,xs[i]?=some x->Pv i σ H->g x σ H λσ2 H2=>tb {D with nx:=Pv (i+1),ct:=Pv (i+1),bk:=D.nx} σ2 H2) (hd:∀σ H,Pv xs.length σ H->D.nx σ H) :
  ∃W:Nat->Nat->St->Hp->Prop,(∃m,W 0 m σ H)/\∀i m σ H,W i m σ H ->
   ((xU K a).stop i H/\D.nx σ H)\/((xU K a).go i H/\∃N:St->Hp->Prop,(∀σ' H',N σ' H'->∃m',m'<m/\W (i+1) m' σ' H')/\∀x H',(xU K a).yld i H x H'->g x σ H' λσ2 H2=>tb {D with nx:=N,ct:=N,bk:=D.nx} σ2 H2):=by
 exists λi m σ H=>m=xs.length-i/\i<=xs.length/\Pv i σ H,⟨xs.length,tS,bM _,h0⟩,?_;rintro i m σ H ⟨rfl,hi,p⟩;have q:=hl i σ H hi p;by_cases ba:i<xs.length
 ·refine .inr ⟨⟨xs,xs[i],q,by simp[ba]⟩,Pv (i+1),λσ' H' p'=>⟨xs.length-(i+1),tO,rfl,ba,p'⟩,λx H' y=>?_⟩;obtain⟨e,y⟩:=y;subst e;exact hs i x σ _ (y xs q) p
 ·have e:i=xs.length:=by omega
  subst e;exact .inl ⟨⟨xs,q,aT _⟩,hd σ H p⟩
def qp{lo:Int}{n:Nat}{g:TG}{tb:TS}{D:mx}{σ:St}{H:Hp}(Pv:Nat->St->Hp->Prop)(h0:Pv 0 σ H)
  (hs:∀i σ H,i<n->Pv i σ H->g (.int (lo+i)) σ H λσ2 H2=>tb {D with nx:=Pv (i+1),ct:=Pv (i+1),bk:=D.nx} σ2 H2) (hd:∀σ H,Pv n σ H->D.nx σ H) :
  ∃W:Nat->Nat->St->Hp->Prop,(∃m,W 0 m σ H)/\∀i m σ H,W i m σ H ->
   ((oV lo n).stop i H/\D.nx σ H)\/((oV lo n).go i H/\∃N:St->Hp->Prop,(∀σ' H',N σ' H'->∃m',m'<m/\W (i+1) m' σ' H')/\∀x H',(oV lo n).yld i H x H'->g x σ H' λσ2 H2=>tb {D with nx:=N,ct:=N,bk:=D.nx} σ2 H2):=by
 exists λi m σ H=>m=n-i/\i<=n/\Pv i σ H,⟨n,tS,bM _,h0⟩,?_;rintro i m σ H ⟨rfl,hi,p⟩;by_cases ba:i<n
 ·refine .inr ⟨ba,Pv (i+1),λσ' H' p'=>⟨n-(i+1),tL,rfl,ba,p'⟩,λx H' y=>?_⟩;obtain⟨e,y⟩:=y;subst e y;exact hs i σ _ ba p
 ·have e:i=n:=by lia
  subst e;exact .inl ⟨aT _,hd σ H p⟩
def zeU(Pv:St->Hp->Prop)(μ:St->Hp->Nat)(h0:Pv σ H)
  (hs:∀σ H,Pv σ H->c σ H λb H1=>if b=true then tb {D with nx:=λσ' H'=>Pv σ' H'/\μ σ' H'<μ σ H,ct:=λσ' H'=>Pv σ' H'/\μ σ' H'<μ σ H,bk:=D.nx} σ H1 else D.nx σ H1)
  (mono:∀σ H Q Q',(∀b H1,Q b H1->Q' b H1)->c σ H Q->c σ H Q'):Oz c tb D σ H:=by
 exists λm σ H=>m=μ σ H/\Pv σ H,⟨_,rfl,h0⟩,?_;rintro m σ H ⟨rfl,p⟩;refine mono σ H _ _ (λb H1 q=>?_) (hs σ H p);cases b with
 |true=>nomatch _,λσ' H' ⟨p',l⟩=>⟨_,l,rfl,p'⟩,q
 |false=>exact q
abbrev R2:=V->V->Hp->VK->Prop
def bV(X:Cx)(f:Value->Value->Sem Value)(r:R2):Prop :=
 ∀(ae:List (Addr×Obj)) (s:Shared) (σ:St) (H:Hp) (x y:V) (v u:Value) (Q:VK),Inv X ae σ H s->RelV x v->RelV y u->r x y H Q ->
  wpAny (model X.prog X.w) X.A (f v u) (EP X ae σ Q) X.xe s
def D5(X:Cx)(f:Value->Sem Value)(r:V->Hp->VK->Prop):Prop :=
 ∀(ae:List (Addr×Obj)) (s:Shared) (σ:St) (H:Hp) (x:V) (v:Value) (Q:VK),Inv X ae σ H s->RelV x v->r x H Q ->
  wpAny (model X.prog X.w) X.A (f v) (EP X ae σ Q) X.xe s
def gx(X:Cx)(f:Value)(r:List V->Hp->VK->Prop):Prop :=
 ∀(ae:List (Addr×Obj)) (s:Shared) (σ:St) (H:Hp) (xs:List V) (us:List Value) (Q:VK),Inv X ae σ H s->Vals xs us->r xs H Q ->
  wpAny (model X.prog X.w) X.A (call f us) (EP X ae σ Q) X.xe s
def YV(X:Cx)(r:V->Hp->(Bool->Hp->Prop)->Prop):Prop :=
 ∀(ae:List (Addr×Obj)) (s:Shared) (σ:St) (H:Hp) (x:V) (v:Value) (Q:Bool->Hp->Prop),Inv X ae σ H s->RelV x v->r x H Q ->
  wpAny (model X.prog X.w) X.A (truthy v) (TP X ae σ Q) X.xe s
def jS(r:R2)(ta tb:TE):TE:=λσ H Q=>ta σ H λx H1=>tb σ H1 λy H2=>r x y H2 Q
def Zk(r:V->Hp->VK->Prop)(ta:TE):TE:=λσ H Q=>ta σ H λx H1=>r x H1 Q
def rI(C:Int->Int->Prop)(g:Int->Int->V):R2:=λx y H Q=>∃i j,x=.int i/\y=.int j/\C i j/\Q (g i j) H
def kL(g:Int->Int->V):R2:=λx y H Q=>∃i j,x=.int i/\y=.int j/\Q (g i j) H
def rU(g:Int->V):V->Hp->VK->Prop:=λx H Q=>∃i,x=.int i/\Q (g i) H
section
variable{X:Cx}{a b c:Expr}{ta tb tc:TE}{pos:Pos}
def D9(ha:PE X a ta)(hb:PE X b tb){ae:List (Addr×Obj)}{s:Shared}{σ:St}{H:Hp}{R:V->V->Hp->Prop}(I:Inv X ae σ H s)
  (h:ta σ H λx H1=>tb σ H1 λy H2=>R x y H2) {Q:Value->Shared->Prop}{f:Value->Value->Sem Value}
  (hf:∀v u s2 x y H2,Inv X ae σ H2 s2->RelV x v->RelV y u->R x y H2->wpAny (model X.prog X.w) X.A (f v u) Q X.xe s2) :
  wpAny (model X.prog X.w) X.A (eval a X.env) (λv s₁=>wpAny (model X.prog X.w) X.A (eval b X.env) (λu s₂=>wpAny (model X.prog X.w) X.A (f v u) Q X.xe s₂) X.xe s₁) X.xe s:=by
 refine aO (ha ae s σ H _ I h) ?_;rintro v s1 ⟨x,H1,I1,r1,q1⟩;refine aO (hb ae s1 σ H1 _ I1 q1) ?_;rintro u s2 ⟨y,H2,I2,r2,q2⟩;exact hf v u s2 x y H2 I2 r1 r2 q2
def ay{op:Operator}{r:R2}(ho:bV X (binaryOp op) r)(ha:PE X a ta)(hb:PE X b tb):PE X (.BinOp a op b pos) (jS r ta tb):=by
 intro ae s σ H Q I h;exact wpAny_BinOp (D9 ha hb I h λv u s2 x y H2 I2 rx ry q=>ho ae s2 σ H2 x y v u Q I2 rx ry q)
def nN(ho:D5 X (unaryOp op) r)(ha:PE X a ta):PE X (.UnaryOp op a pos) (Zk r ta):=by
 intro ae s σ H Q I h;exact UnaryOp_ (aO (ha ae s σ H _ I h) λv s1 ⟨x,H1,I1,r1,q1⟩=>ho ae s1 σ H1 x v Q I1 r1 q1)
def sP{f:Value->Value->Sem Value}{C:Int->Int->Prop}{g:Int->Int->Int}
  (rule:∀(i j:Int) (t u:Tok) (s:Shared) (Q:Value->Shared->Prop) (E:Value->Shared->Prop),C i j->Q (.int (g i j) s.toks) {s with toks:=s.toks+1}->wpAny (model X.prog X.w) X.A (f (.int i t) (.int j u)) Q E s) :
  bV X f (rI C λi j=>.int (g i j)):=by
 intro ae s σ H x y v u Q I rx ry h;obtain⟨i,j,rfl,rfl,hc,q⟩:=h;obtain⟨t,rfl⟩:=rx;obtain⟨t',rfl⟩:=ry;exact rule i j t t' s _ _ hc ⟨.int (g i j),H,I.tok _,⟨_,rfl⟩,q⟩
def yw{f:Value->Value->Sem Value}{g:Int->Int->Int}
  (rule:∀(i j:Int) (t u:Tok) (s:Shared) (Q:Value->Shared->Prop) (E:Value->Shared->Prop),Q (.int (g i j) s.toks) {s with toks:=s.toks+1}->wpAny (model X.prog X.w) X.A (f (.int i t) (.int j u)) Q E s) :
  bV X f (kL λi j=>.int (g i j)):=by
 intro ae s σ H x y v u Q I rx ry h;obtain⟨i,j,rfl,rfl,q⟩:=h;obtain⟨t,rfl⟩:=rx;obtain⟨t',rfl⟩:=ry;exact rule i j t t' s _ _ ⟨.int (g i j),H,I.tok _,⟨_,rfl⟩,q⟩
def yD{f:Value->Value->Sem Value}{g:Int->Int->Bool}
  (rule:∀(i j:Int) (t u:Tok) (s:Shared) (Q:Value->Shared->Prop) (E:Value->Shared->Prop),Q (.bool (g i j)) s->wpAny (model X.prog X.w) X.A (f (.int i t) (.int j u)) Q E s) :
  bV X f (kL λi j=>.bl (g i j)):=by
 intro ae s σ H x y v u Q I rx ry h;obtain⟨i,j,rfl,rfl,q⟩:=h;obtain⟨t,rfl⟩:=rx;obtain⟨t',rfl⟩:=ry;exact rule i j t t' s _ _ ⟨.bl (g i j),H,I,rfl,q⟩
def KN(i j:Int):Prop:=0<=j/\j<=1000000/\i.natAbs<2^64
def BB(i j:Int):Prop:=(-(2^64)<i/\i<2^64)\/(-(2^64)<j/\j<2^64)
def BB.ok(h:BB i j):IntMulOk i j:=by
 rcases h with ⟨h1,h2⟩|⟨h1,h2⟩
 ·exact .of_left (intBits_le_64 h1 h2)
 ·exact .of_right (intBits_le_64 h1 h2)
def d0:bV X (binaryOp .Add) (kL λi j=>.int (i+j)):=yw λ_ _ _ _ _ _ _ q=>add_int q
def iW:bV X (binaryOp .Sub) (kL λi j=>.int (i-j)):=yw λ_ _ _ _ _ _ _ q=>sub_int q
def bS:bV X (binaryOp .Mod) (rI (λ_ j=>0<j) λi j=>.int (i%j)):=sP λi j _ _ _ _ _ hc q=>by
 have h1:=hc;exact mod_int' tL (by rw[Int.fmod_eq_emod_of_nonneg i tL];exact q)
def uw:bV X (binaryOp .Pow) (rI KN λi j=>.int (i^j.toNat)):=sP λ_ _ _ _ _ _ _ hc q=>pow_int_small hc.1 hc.2.1 hc.2.2 q
def n0:bV X (binaryOp .LShift) (rI KN λi j=>.int (i*2^j.toNat)):=sP λ_ _ _ _ _ _ _ hc q=>lshift_int_small hc.1 hc.2.1 hc.2.2 q
def su:bV X (binaryOp .BitAnd) (kL λi j=>.int (Builtin.bitAnd i j)):=yw λ_ _ _ _ _ _ _ q=>and_int q
def vo:bV X (binaryOp .BitOr) (kL λi j=>.int (Builtin.bitOr i j)):=yw λ_ _ _ _ _ _ _ q=>or_int q
def unI{f:Value->Sem Value}{g:Int->Int}
  (rule:∀(i:Int) (t:Tok) (s:Shared) (Q:Value->Shared->Prop) (E:Value->Shared->Prop),Q (.int (g i) s.toks) {s with toks:=s.toks+1}->wpAny (model X.prog X.w) X.A (f (.int i t)) Q E s) :
  D5 X f (rU λi=>.int (g i)):=by
 intro ae s σ H x v Q I rx h;obtain⟨i,rfl,q⟩:=h;obtain⟨t,rfl⟩:=rx;exact rule i t s _ _ ⟨.int (g i),H,I.tok _,⟨_,rfl⟩,q⟩
def oQ:D5 X (unaryOp .USub) (rU λi=>.int (-i)):=unI λ_ _ _ _ _ q=>neg_int q
end
noncomputable def vG:V->V->Bool
 |.non,.non=>true|.non,.int _=>true|.int _,.non=>true|.non,.bl _=>true|.bl _,.non=>true|.non,.str _=>true|.str _,.non=>true
 |.int _,.int _=>true|.bl _,.bl _=>true|.str _,.str _=>true|.byt _,.byt _=>true
 |.int _,.str _=>true|.str _,.int _=>true|.bl _,.str _=>true|.str _,.bl _=>true
 |_,_=>false
def rEq:R2:=λx y H Q=>vG x y=true/\Q (.bl (decide (x=y))) H
def Zp:R2:=λx y H Q=>vG x y=true/\Q (.bl (!decide (x=y))) H
def N4:decide (V.int i=V.int j)=(i == j):=by
 rw[rH];simp
def Sh:decide (V.bl i=V.bl j)=(i == j):=by
 rw[rH];simp
def Kn:decide (V.str i=V.str j)=(i == j):=by
 rw[rH];simp
def MA:decide (V.byt i=V.byt j)=(i.toList == j.toList):=by
 rw[rH];cases i;cases j;simp
section
variable{X:Cx}{a b c:Expr}{ta tb tc:TE}{pos:Pos}
def di(I:Inv X ae σ H s)(q:Q (.bl k) H)(e:k=k'):EP X ae σ Q (.bool k') s:=by
 subst e;nomatch .bl k,H,I,rfl,q
def ou:bV X (compareOp .Eq) rEq:=by
 intro ae s σ H x y v u Q I rx ry h;obtain⟨hs,q⟩:=h;cases x with
 |non =>
  cases rx;cases y with
  |non=>cases ry;exact Yv (di I q tS)
  |bl j=>cases ry;exact jgS (di I q tS)
  |int j=>obtain⟨t',rfl⟩:=ry;exact VL (di I q tS)
  |str j=>obtain⟨t',rfl⟩:=ry;exact WK (di I q tS)
  |_=>exact absurd (show false=true from hs) c9
 |bl i =>
  cases rx;cases y with
  |non=>cases ry;exact jgM (di I q tS)
  |bl j=>cases ry;exact eq_bool (di I q Sh)
  |str j=>obtain⟨t',rfl⟩:=ry;exact Zh (di I q tS)
  |_=>exact absurd (show false=true from hs) c9
 |int i =>
  obtain⟨t,rfl⟩:=rx;cases y with
  |non=>cases ry;exact Xl (di I q tS)
  |int j=>obtain⟨t',rfl⟩:=ry;exact eq_int (di I q N4)
  |str j=>obtain⟨t',rfl⟩:=ry;exact Yb (di I q tS)
  |_=>exact absurd (show false=true from hs) c9
 |str i =>
  obtain⟨t,rfl⟩:=rx;cases y with
  |non=>cases ry;exact jgU (di I q tS)
  |bl j=>cases ry;exact jgR (di I q tS)
  |int j=>obtain⟨t',rfl⟩:=ry;exact WL (di I q tS)
  |str j=>obtain⟨t',rfl⟩:=ry;exact eq_str (di I q Kn)
  |_=>exact absurd (show false=true from hs) c9
 |byt i =>
  obtain⟨t,rfl⟩:=rx;cases y with
  |byt j=>obtain⟨t',rfl⟩:=ry;exact PySem.W.eq_bytes (di I q MA)
  |_=>exact absurd (show false=true from hs) c9
 |_=>cases y<;>exact absurd (show false=true from hs) c9
def zZ:bV X (compareOp .NotEq) Zp:=by
 intro ae s σ H x y v u Q I rx ry h;obtain⟨hs,q⟩:=h;cases x with
 |non =>
  cases rx;cases y with
  |non=>cases ry;exact jgN (di I q tS)
  |bl j=>cases ry;exact jgG (di I q tS)
  |int j=>obtain⟨t',rfl⟩:=ry;exact Yc (di I q tS)
  |str j=>obtain⟨t',rfl⟩:=ry;exact jg8 (di I q tS)
  |_=>exact absurd (show false=true from hs) c9
 |bl i =>
  cases rx;cases y with
  |non=>cases ry;exact jgO (di I q tS)
  |bl j=>cases ry;exact ne_bool (di I q (congrArg not Sh))
  |str j=>obtain⟨t',rfl⟩:=ry;exact jgI (di I q tS)
  |_=>exact absurd (show false=true from hs) c9
 |int i =>
  obtain⟨t,rfl⟩:=rx;cases y with
  |non=>cases ry;exact jgT (di I q tS)
  |int j=>obtain⟨t',rfl⟩:=ry;exact ne_int (di I q (congrArg not N4))
  |str j=>obtain⟨t',rfl⟩:=ry;exact X3 (di I q tS)
  |_=>exact absurd (show false=true from hs) c9
 |str i =>
  obtain⟨t,rfl⟩:=rx;cases y with
  |non=>cases ry;exact jgV (di I q tS)
  |bl j=>cases ry;exact YK (di I q tS)
  |int j=>obtain⟨t',rfl⟩:=ry;exact jg5 (di I q tS)
  |str j=>obtain⟨t',rfl⟩:=ry;exact ne_str (di I q (congrArg not Kn))
  |_=>exact absurd (show false=true from hs) c9
 |byt i =>
  obtain⟨t,rfl⟩:=rx;cases y with
  |byt j=>obtain⟨t',rfl⟩:=ry;exact PySem.W.ne_bytes (di I q (congrArg not MA))
  |_=>exact absurd (show false=true from hs) c9
 |_=>cases y<;>exact absurd (show false=true from hs) c9
def kc:bV X (compareOp .Lt) (kL λi j=>.bl (decide (i<j))):=yD λ_ _ _ _ _ _ _ q=>lt_int q
def rA:bV X (compareOp .LtE) (kL λi j=>.bl (decide (i<=j))):=yD λ_ _ _ _ _ _ _ q=>le_int q
def jI:bV X (compareOp .Gt) (kL λi j=>.bl (decide (j<i))):=yD λ_ _ _ _ _ _ _ q=>gt_int q
def Gd:bV X (compareOp .GtE) (kL λi j=>.bl (decide (j<=i))):=yD λ_ _ _ _ _ _ _ q=>ge_int q
def Fv:bV X (compareOp .In) (λx y H Q=>∃i j,x=.str i/\y=.str j/\Q (.bl (!(Builtin.Str.occurrences j i 0 j.length 1).isEmpty)) H):=by
 intro ae s σ H x y v u Q I rx ry h;obtain⟨i,j,rfl,rfl,q⟩:=h;obtain⟨t,rfl⟩:=rx;obtain⟨t',rfl⟩:=ry;exact in_str (di I q rfl)
def qU:bV X (compareOp .Is) (λx y H Q=>y=.non/\Q (.bl (decide (x=.non))) H):=by
 intro ae s σ H x y v u Q I rx ry h;obtain⟨rfl,q⟩:=h;cases ry;refine is_none_gen (di I q ?_);cases x<;>first
  |(cases rx;rfl)
  |(obtain⟨t,rfl⟩:=rx;rfl)
def Et(b:Expr)(h:op≠.In:=by decide)(h2:op≠.NotIn:=by decide):behindInMarks op b=false:=by
 have e1:(op == CmpOp.In)=false:=by simp_all
 have e2:(op == CmpOp.NotIn)=false:=by simp_all
 cases b with
 |Set elts k pos=>show (k == 0&&(op == CmpOp.In || op == CmpOp.NotIn)&&_)=false;rw[e1,e2,OG,pY,Bo]
 |_=>rfl
def Bk(ho:bV X (compareOp op) r)(ha:PE X a ta)(hb:PE X b tb)(hm:behindInMarks op b=false):PE X (.Compare a [op] [b] pos) (jS r ta tb):=by
 intro ae s σ H Q I h;exact wpAny_Compare1 (D9 ha hb I h λv u s2 x y H2 I2 rx ry q=>ho ae s2 σ H2 x y v u Q I2 rx ry q) hm
def KH(t:TE):TT:=λσ H Q=>t σ H λx H'=>∃k,x=.bl k/\Q k H'
def oG(ho:bV X (compareOp op) r)(ha:PE X a ta)(hb:PE X b tb)(hm:behindInMarks op b=false):PT X (.Compare a [op] [b] pos) (KH (jS r ta tb)):=by
 intro ae s σ H Q I h;refine EV (aO (ha ae s σ H _ I h) λv s1 ⟨x,H1,I1,r1,q1⟩=>aO (hb ae s1 σ H1 _ I1 q1) λu s2 ⟨y,H2,I2,r2,q2⟩ =>
  aO (ho ae s2 σ H2 x y v u _ I2 r1 r2 q2) λc s3 ⟨z,H3,I3,r3,k,e,q3⟩=>?_) hm
 subst e;cases r3;exact kA ⟨H3,I3,q3⟩
def zb6(r r':R2)(ta tb tc:TE):TE:=λσ H Q=>ta σ H λx H1=>tb σ H1 λy H2=>r x y H2 λz H3=>∃k,z=.bl k /\
 (if k=true then tc σ H3 λw' H4=>r' y w' H4 Q else Q (.bl false) H3)
def Nv(ho:bV X (compareOp op) r)(iP:bV X (compareOp op') r')(ha:PE X a ta)(hb:PE X b tb)(hc:PE X c tc)
  (hm:lastMarks [op,op'] [b,c]=false:=by with_unfolding_all rfl):PE X (.Compare a [op,op'] [b,c] pos) (zb6 r r' ta tb tc):=by
 intro ae s σ H Q I h;refine Compare_chain (aO (ha ae s σ H _ I h) λv s1 ⟨x,H1,I1,r1,q1⟩=>chain_link (aO (hb ae s1 σ H1 _ I1 q1) λu s2 ⟨y,H2,I2,r2,q2⟩ =>
  aO (ho ae s2 σ H2 x y v u _ I2 r1 r2 q2) λd s3 ⟨z,H3,I3,r3,k,e,q3⟩=>?_)) hm
 subst e;cases r3;refine kA ?_;cases k with
 |false=>exact ite_ff ⟨.bl false,H3,I3,rfl,q3⟩
 |true=>exact ite_tt (chain_last (aO (hc ae s3 σ H3 _ I3 q3) λw' s4 ⟨z',H4,I4,r4,q4⟩=>iP ae s4 σ H4 y z' u w' Q I4 r2 r4 q4))
def KU(K:Frag)(x:V)(H:Hp)(k:Bool):Prop :=
 match x with
 |.non=>k=false
 |.bl b=>k=b
 |.int i=>k=(i != 0)
 |.str y=>y.length<=sizeLine/\k=((y.length:Int) != 0)
 |.byt y=>y.size<=sizeLine/\k=((y.size:Int) != 0)
 |.ref p=>(∃xs,aj K H p xs/\k = !xs.isEmpty)\/(∃xs,az K H p xs/\k = !xs.isEmpty)\/∃kvs,H p=some (.dK kvs)/\k = !kvs.isEmpty
 |_=>False
def ZE(r:KV kvs vs):(!vs.isEmpty) = !kvs.isEmpty:=by
 cases r<;>rfl
def MJ(r:Vals xs ah):(!ah.toArray.isEmpty) = !xs.isEmpty:=by
 cases r<;>simp
def qg:(sizeLine:Nat)<2^63:=by rw[sizeLine_eq];decide
def zc8:YV X (λx H Q=>∃k,KU X.K x H k/\Q k H):=by
 intro ae s σ H x v Q I rx h;obtain⟨k,e,q⟩:=h;have hl:=qg;have hs:=sizeLine_eq;cases x with
 |non =>
  cases rx;have e':=e;subst e';exact truthy_none ⟨H,I,q⟩
 |bl b =>
  cases rx;have e':=e;subst e';exact kA ⟨H,I,q⟩
 |int i =>
  obtain⟨t,rfl⟩:=rx;have e':=e;subst e';exact PySem.P.truthy_int ⟨H,I,q⟩
 |str y =>
  obtain⟨t,rfl⟩:=rx;obtain⟨hy,e'⟩:=e;subst e';exact KC tL ⟨H,I.tok _,q⟩
 |byt y =>
  obtain⟨t,rfl⟩:=rx;obtain⟨hy,e'⟩:=e;subst e';exact PySem.W.truthy_bytes tL ⟨H,I.tok _,q⟩
 |ref p =>
  cases rx;have e':=e;rcases e' with ⟨xs,hx,e'⟩|⟨xs,hx,e'⟩|⟨kvs,hx,e'⟩
  ·subst e';obtain⟨ah,r,pl,hz⟩:=I.list hx;have aK:=r.length;exact wpAny_truthy_list pl.isList (by simp only[fz];lia) ⟨H,I.tok _,by rw[MJ r];exact q⟩
  ·subst e';obtain⟨ah,r,pl,hz⟩:=I.tuple hx;have aK:=r.length;exact truthy_tuple pl (by grind) ⟨H,I.tok _,by rw[MJ r];exact q⟩
  ·subst e';obtain⟨hz,hS,vs,r,m⟩:=I.hok p _ hx;have aK:=eV r;exact wpAny_truthy_dict hS m tL ⟨H,I.tok _,by rw[ZE r];exact q⟩
 |_=>exact (show False from e).elim
def pI(ha:PE X a ta)(he:∀whole,isTrue a X.env whole=(do let v <-whole;standAt a.pos;holding [v] (truthy v))) :
  PT X a (λσ H Q=>ta σ H λx H'=>∃k,KU X.K x H' k/\Q k H'):=by
 intro ae s σ H Q I h;exact isTrue_plain (aO (ha ae s σ H _ I h) λv s1 ⟨x,H1,I1,r1,q1⟩=>zc8 ae s1 σ H1 x v Q I1 r1 q1) (he _)
def eM:bV X (binaryOp .Add) (λx y H Q=>∃i j,x=.str i/\y=.str j/\i.length+j.length<=sizeLine/\Q (.str (i++j)) H):=by
 intro ae s σ H x y v u Q I rx ry h;obtain⟨i,j,rfl,rfl,hz,q⟩:=h;obtain⟨t,rfl⟩:=rx;obtain⟨t',rfl⟩:=ry;exact add_str (λt' tk=>⟨.str (i++j),H,I.tok _,⟨_,rfl⟩,q⟩) hz
def gO(r:Vals [x] us):∃u,us=[u]/\RelV x u:=by
 cases r with
 |cons r1 r2=>cases r2;nomatch _,rfl,r1
def xg(r:Vals [x,y] us):∃u w',us=[u,w']/\RelV x u/\RelV y w':=by
 cases r with
 |cons r1 r2 =>
  cases r2 with
  |cons r3 r4=>cases r4;nomatch _,_,rfl,r1,r3
def xw:gx X (.builtin "abs") (λxs H Q=>∃i,xs=[.int i]/\Q (.int (if i<0 then -i else i)) H):=by
 intro ae s σ H xs us Q I r h;obtain⟨i,rfl,q⟩:=h;obtain⟨u,rfl,t,rfl⟩:=gO r;exact call_abs_int λu tk=>⟨.int (if i<0 then -i else i),H,I.tok _,⟨_,rfl⟩,q⟩
def zS:gx X (.type "int") (λxs H Q=>(∃i,xs=[.int i]/\Q (.int i) H)\/∃k,xs=[.bl k]/\Q (.int (if k then 1 else 0)) H):=by
 intro ae s σ H xs us Q I r h;rcases h with ⟨i,rfl,q⟩|⟨k,rfl,q⟩
 ·obtain⟨u,rfl,t,rfl⟩:=gO r;exact call_int_int ⟨.int i,H,I,⟨_,rfl⟩,q⟩
 ·obtain⟨u,rfl,r1⟩:=gO r;cases r1;exact call_int_bool ⟨.int (if k then 1 else 0),H,I.tok _,⟨_,rfl⟩,q⟩
def iB:gx X (.type "str") (λxs H Q=>∃i,xs=[.int i]/\i.natAbs.log2<1920/\Q (.str (toString i)) H):=by
 intro ae s σ H xs us Q I r h;obtain⟨i,rfl,hz,q⟩:=h;obtain⟨u,rfl,t,rfl⟩:=gO r;exact PySem.P.str_of_int hz ⟨.str _,H,I.tok _,⟨_,rfl⟩,q⟩
end
structure qN(h:Heap)(x dx C:Addr)(mA:Str->Option Value):Prop where
 obj:h.get? x=some (PySem.W.instObj C dx)
 ns:h.Ns1 dx mA
 ne:dx≠x
set_option tactic.hygienic true in
def zbP{h:Heap}{dx:Addr}{mA:Str->Option Value}(n:h.Ns1 dx mA):∃od,h.get? dx=some od/\∀name,PySem.W.lookIn name od=some (mA name):=by
 obtain⟨o,es,ep,ho,hd,hk,_,hm⟩:=n;exists o,ho,λname=>?_;have e:=hm name;unfold nsFind findBy at e;rw[<-Array.find?_toList]at e;unfold PySem.W.lookIn;rw[hd];dsimp only;split
 ·rename_i y q;rw[q]at e;exact congrArg some e
 ·rename_i q;rw[q]at e;have a:es.toList.any (·.refKey)=false:=by
   rw[List.any_eq_false];intro y hy;obtain⟨z,t,C4⟩:=hk y (Array.mem_toList_iff.mp hy);simp[DictEntry.refKey,C4]
  have a':¬es.toList.any (·.refKey)=true:=by rw[a];exact c9
  rw[av a'];exact congrArg some e
def qN.look(I:qN h x dx C mA):∃od,PySem.W.InstAt h x (PySem.W.instObj C dx) C (some od)/\∀name,PySem.W.lookIn name od=some (mA name) :=
 let ⟨od,ho,hl⟩:=zbP I.ns
 ⟨od,⟨I.obj,rfl,rfl,ho⟩,hl⟩
section
variable{prog:Program}{w:World}{A:Around}{E:Value->Shared->Prop}{s:Shared}{K:Frag}{x dx C f:Addr}{mA:Str->Option Value}{name:Str}{v:Value}
def zc9(X:K.In s.heap)(I:qN s.heap x dx C mA)(hg:PySem.W.plainGet K C name=true)(hh:PySem.W.hasDictIn K C=true)
  (ha:PySem.W.findIn K (.ref C) name=some none) (hv:mA name=some v) (ng:PySem.W.handedIn v=true) (h:Q v {s with toks:=s.toks+1}) :
  wpAny (model prog w) A (getAttr (.ref x) name expr) Q E s:=by
 obtain⟨od,J,hl⟩:=I.look;exact PySem.W.get_value X J (Fq hg).1 (PySem.W.findObj_own hh ha rfl (by rw[hl,hv])) ng h
def zcR(X:K.In s.heap)(I:qN s.heap x dx C mA)(hg:PySem.W.plainGet K C name=true)
  (hf:PySem.W.findIn K (.ref C) name=some (some (.ref f))) (ht:PySem.W.isFn K (.ref f)=true) (hv:mA name=none) (h:Q (.ref f,[.ref x]) s) :
  wpAny (model prog w) A (getMethod (.ref x) name pl) Q E s:=by
 obtain⟨od,J,hl⟩:=I.look;exact PySem.W.method_fn X J (Fq hg).1 (Fq hg).2 hf (ka.mp ht) (by show (PySem.W.lookIn name od).map (·.isSome)=some false;rw[hl,hv];rfl) h
def XY(X:K.In s.heap)(I:qN s.heap x dx C mA)
  (hs:PySem.W.findIn K (.ref C) "__setattr__" = some (some (.builtin "object.__setattr__"))) (hp:PySem.W.plainOver K C=true) (ht:PySem.W.takerIn K C name=some none) (hh:PySem.W.hasDictIn K C=true)
  (hw:PySem.Within mA ns) (hsz:ns.length<=sizeLine)
  (h:∀h',qN h' x dx C (λy=>if y=name then some v else mA y)->Heap.SameBut dx s.heap h'->Q () {s with heap:=h',toks:=s.toks+2}) :
  wpAny (model prog w) A (setAttr (.ref x) name v) Q E s:=by
 obtain⟨od,J,hl⟩:=I.look;refine PySem.W.set_plain X J hs (PySem.W.osa_open (s:={s with toks:=s.toks+1}) (r:=none) X J hp ht λb=>?_);obtain⟨cd,hc,u9⟩:=PySem.W.any_some hh;have hx:=I.obj;refine au (aJ (au (au (wpAny_loadPart hx (au (ZI (s:={s with toks:=s.toks+1}) (PySem.W.looks_clsIn X hc) ?_))))));rw[u9];refine aJ (a:=some dx) (au (aJ (au ?_)));refine wpAny_nsSet1 (s:={s with toks:=s.toks+1}) I.ns λh' t9 kz=>?_
 obtain⟨oD,esD,epD,hoD,hdD,UN⟩:=t9.count (Z1 name v hw);refine au (wpAny_lookBehind hoD (by rw[hdD];exact pastItsLine_dict (aX UN (by simp_all))) ?_);exact aJ (h _ ⟨(kz.2 _ (Ne.symm I.ne)).trans I.obj,t9,I.ne⟩ kz)
def zbb(X:K.In s.heap)(hm:PySem.W.makesIn K C=true)
  (hi:PySem.W.findIn K (.ref C) "__init__" = some (some (.ref f))) (hf:PySem.W.typeIn K (.ref f)=some (.type "function"))
  (h:codeAny (model prog w) (A.under (.builtin "type.__call__" ⟨.ref C :: vs,kw⟩)) (.call (.ref f) ⟨.ref (s.heap.objs.size+1) :: vs,kw⟩) (PySem.W.InitBack (s.heap.objs.size+1) R) {s with heap:=(s.heap.push PySem.W.emptyDict).push (PySem.W.instObj C s.heap.objs.size)}) :
  codeAny (model prog w) A (.call (.ref C) ⟨vs,kw⟩) R s:=by
 obtain⟨hh,g,d,t,os⟩:=s;exact PySem.W.make_core (PySem.W.makes_of X hm) (PySem.W.looks_findIn X hi) (λself=>PySem.W.bind_fn X self hf) (.inl rfl) h
end
noncomputable def iK(f:Str)(v:V):List (Str×V)->List (Str×V)
 |[]=>[(f,v)]
 |(g,x)::r=>if g=f then (g,v)::r else (g,x)::iK f v r
theorem Pe(f g:Str)(v:V):∀fs:List (Str×V),(iK f v fs).lookup g=if g=f then some v else fs.lookup g
 |[]=>by
  show List.lookup g [(f,v)]=_;by_cases h:g=f
  ·have hb:=ka.mpr h;simp only[List.lookup,hb,aC h]
  ·have hb:=Ay.mpr h;simp only[List.lookup,hb,av h]
 |(k,x)::r=>by
  have ih:=Pe f g v r;rw[show iK f v ((k,x)::r)=(if k=f then (k,v)::r else (k,x)::iK f v r) from rfl];by_cases hk:k=f
  ·rw[aC hk];by_cases h:g=k
   ·have hb:=ka.mpr h;simp only[List.lookup,hb,aC (h.trans hk)]
   ·have hb:=Ay.mpr h;simp only[List.lookup,hb,av (λe:g=f=>h (e.trans hk.symm))]
  ·rw[av hk];by_cases h:g=k
   ·have hb:=ka.mpr h;simp only[List.lookup,hb,av (λe:g=f=>hk (h.symm.trans e))]
   ·have hb:=Ay.mpr h;simp only[List.lookup,hb];exact ih
theorem Gk(f:Str)(v:V):∀fs:List (Str×V),f∈(iK f v fs).map (·.1)/\∀g,g∈fs.map (·.1)->g∈(iK f v fs).map (·.1)
 |[]=>⟨by simp[iK],λg h=>by simp at h⟩
 |(k,x)::r=>by
  obtain⟨i1,i2⟩:=Gk f v r;rw[show iK f v ((k,x)::r)=(if k=f then (k,v)::r else (k,x)::iK f v r) from rfl];by_cases hk:k=f
  ·rw[aC hk];subst hk;exact⟨tS,λg h=>by simpa using h⟩
  ·rw[av hk];exists ?_,λg h=>?_
   ·rw[bN];exact dM _ i1
   ·rw[bN]at h ⊢;rcases bC.mp h with e|e
    ·exact bC.mpr (.inl e)
    ·exact dM _ (i2 g e)
theorem MB(f:Str)(v:V):∀fs:List (Str×V),(iK f v fs).length<=fs.length+1
 |[]=>by simp[iK]
 |(k,x)::r=>by
  have ih:=MB f v r;rw[show iK f v ((k,x)::r)=(if k=f then (k,v)::r else (k,x)::iK f v r) from rfl];by_cases hk:k=f
  ·rw[aC hk,bH,bH];lia
  ·rw[av hk,bH,bH];lia
def gP.some_of(r:gP (some v) o):∃u,o=some u/\RelV v u:=by
 cases o with
 |none=>exact (show False from r).elim
 |some u=>nomatch u,rfl,r
def gP.none_of(r:gP none o):o=none:=by
 cases o with
 |none=>rfl
 |some u=>exact (show False from r).elim
def zah(r:RelV v u):PySem.W.handedIn u=true:=by
 cases v with
 |non=>cases (show u=Value.none from r);rfl
 |bl b=>cases (show u=Value.bool b from r);rfl
 |int i=>obtain⟨t,e⟩:=(show ∃t,u=Value.int i t from r);cases e;rfl
 |str x=>obtain⟨t,e⟩:=(show ∃t,u=Value.str x t from r);cases e;rfl
 |byt b=>obtain⟨t,e⟩:=(show ∃t,u=Value.bytes b t from r);cases e;rfl
 |flt b=>obtain⟨t,e⟩:=(show ∃t,u=Value.float b t from r);cases e;rfl
 |ref a=>cases (show u=Value.ref a from r);rfl
 |ty n=>cases (show u=Value.type n from r);rfl
section
variable{P:Program}{w:World}{H H':Hp}{h h':Heap}{a C dx:Addr}{fs fs':List (Str×V)}
def DO(hok:cW P w H h)(e:H a=some (.ins C dx fs)):∃mA,qN h a dx C mA/\(∀f,gP (fs.lookup f) (mA f))/\PySem.Within mA (fs.map (·.1))/\fs.length<=1000/\H dx=some (.own a):=by
 obtain⟨d,z,ne,ob,mA,n,r,q⟩:=(show dq P w H h a (.ins C dx fs) from hok a _ e);nomatch mA,⟨ob,n,ne⟩,r,q,z,d
end
structure lx(K:Frag)(C:Addr):Prop where
 pg:PySem.W.plainGet K C Str.empty=true
 hd:PySem.W.hasDictIn K C=true
 po:PySem.W.plainOver K C=true
 sa:PySem.W.findIn K (.ref C) "__setattr__" = some (some (.builtin "object.__setattr__"))
def lx.get{K:Frag}{C:Addr}(c:lx K C)(f:Str):PySem.W.plainGet K C f=true:=c.pg
def qw(K:Frag)(C:Addr)(f:Str):Prop:=PySem.W.findIn K (.ref C) f=some none
def qw.taker{K:Frag}{C:Addr}{f:Str}(n:qw K C f):PySem.W.takerIn K C f=some none:=by
 unfold PySem.W.takerIn;rw[show PySem.W.findIn K (.ref C) f=some none from n];rfl
structure wU(K:Frag)(C:Addr)(m:Str)(f:Addr):Prop where
 at_:PySem.W.findIn K (.ref C) m=some (some (.ref f))
 fn:PySem.W.isFn K (.ref f)=true
 kp:PySem.W.keepIn K (.ref f)=true
section
variable{X:Cx}{ae:List (Addr×Obj)}{σ:St}{H:Hp}{s:Shared}{a C dx:Addr}{fs:List (Str×V)}{f:Str}{v:V}{A:Around}{E:Value->Shared->Prop}
def zep(I:Inv X ae σ H s)(e:H a=some (.ins C dx fs))(c:lx X.K C)(n:qw X.K C f)(l:fs.lookup f=some v)
  (h:∀u s',Inv X ae σ H s'->RelV v u->Q u s'):wpAny (model X.prog X.w) A (getAttr (.ref a) f b) Q E s:=by
 obtain⟨mA,O,r,_,_,_⟩:=DO I.hok e;obtain⟨u,hu,ru⟩:=gP.some_of (v:=v) (o:=mA f) (by rw[<-l];exact r f);exact zc9 I.kIn O (c.get f) c.hd n hu (zah ru) (h u _ (I.tok _) ru)
def OP(I:Inv X ae σ H s)(e:H a=some (.ins C dx fs))(c:lx X.K C)(k:wU X.K C m g)(l:fs.lookup m=none)
  (h:Q (.ref g,[.ref a]) s):wpAny (model X.prog X.w) A (getMethod (.ref a) m pl) Q E s:=by
 obtain⟨mA,O,r,_,_,_⟩:=DO I.hok e;have hn:=gP.none_of (by rw[<-l];exact r m);exact zcR I.kIn O (c.get m) k.at_ k.fn hn h
def zeB(I:Inv X ae σ H s)(e:H a=some (.ins C dx fs))(c:lx X.K C)(n:qw X.K C f)(hl:fs.length<1000)(ry:RelV y u)
  (h:∀s',Inv X ae σ (upd H a (.ins C dx (iK f y fs))) s'->Q () s'):wpAny (model X.prog X.w) A (setAttr (.ref a) f u) Q E s:=by
 obtain⟨mA,O,r,wi,_,ho⟩:=DO I.hok e;have hz:(fs.map (·.1)).length<=sizeLine:=by rw[ax,sizeLine_eq];lia
 refine XY I.kIn O c.sa c.po n.taker c.hd wi hz λh' O' sb=>h _ ?_
 have hd:∃o,h'.get? dx=some o:=let ⟨o,_,_,e',_⟩:=O'.ns; ⟨o,e'⟩
 refine I.write (x:=a) (e:=dx) (by rw[e];exact True.intro) (.inr ho) (λb q hb z=>(sb.2 b hb).trans z) hd ?_;exists by rw[aS O.ne];exact ho,?_,O.ne,O'.obj,_,O'.ns,λg=>?_,λg hg=>?_
 ·have:=MB f y fs;lia
 ·show gP ((iK f y fs).lookup g) (if g=f then some u else mA g);rw[Pe];by_cases q:g=f
  ·rw[aC q,aC q];exact ry
  ·rw[av q,av q];exact r g
 ·by_cases q:g=f
  ·rw[q];exact (Gk f y fs).1
  ·refine (Gk f y fs).2 g (wi g λz=>hg ?_);show (if g=f then some u else mA g)=none;rw[av q];exact z
def Inv.made(I:Inv X ae σ H s):Inv X ae σ (upd (upd H s.heap.objs.size (.own (s.heap.objs.size+1))) (s.heap.objs.size+1) (.ins C s.heap.objs.size []))
  {s with heap:=(s.heap.push PySem.W.emptyDict).push (PySem.W.instObj C s.heap.objs.size)}:=by
 have e1:(s.heap.push PySem.W.emptyDict).get? s.heap.objs.size=some PySem.W.emptyDict:=da s.heap rfl;have e2:((s.heap.push PySem.W.emptyDict).push (PySem.W.instObj C s.heap.objs.size)).get? (s.heap.objs.size+1)=some (PySem.W.instObj C s.heap.objs.size):=by
  have:=da (s.heap.push PySem.W.emptyDict) (o:=PySem.W.instObj C s.heap.objs.size) rfl
  rwa [kB]at this
 have e3:(s.heap.push PySem.W.emptyDict).Ns s.heap.objs.size (λ_=>none):=⟨PySem.W.emptyDict,#[],_,e1,rfl,(λe he=>absurd he tS),λ_=>rfl⟩;have I1:=I.laid (a:=s.heap.objs.size) (o:=.own (s.heap.objs.size+1)) (h':=s.heap.push PySem.W.emptyDict) (t':=s.toks) (λb u q=>cq _ q) (aT _) ⟨_,e1⟩;refine I1.laid (a:=s.heap.objs.size+1) (o:=.ins C s.heap.objs.size []) (t':=s.toks) (λb u q=>cq _ q) (EK (kB _ _)) ?_;have ne:s.heap.objs.size≠s.heap.objs.size+1:=dy (wY _);exists by rw[aS ne,ar],bM _,ne,e2,λ_=>none,(Heap.Ns1.of_empty e3).at λo q=>cq _ q,λ_=>True.intro,λy hy=>absurd rfl hy
def Ut(hb:attributeBase e f env (eval e env)=eval e env)
  (h:wpAny (model prog w) A (eval e env) (λo s₁=>wpAny (model prog w) A (getAttr o f true) Q E s₁) E s):wpAny (model prog w) A (eval (.Attribute e f pos) env) Q E s :=
 Attribute_any_ h (by rw[arm_eval_Attribute,hb])
end
def Y3(K:Frag)(ta:TE)(f:Str):TE:=λσ H Q=>ta σ H λx H1=>∃a C dx fs v,x=.ref a/\H1 a=some (.ins C dx fs)/\lx K C/\qw K C f/\fs.lookup f=some v/\Q v H1
def ZC(K:Frag)(ta tv:TE)(f:Str):TS:=λD σ H=>tv σ H λy H1=>ta σ H1 λx H2=>∃a C dx fs,x=.ref a/\H2 a=some (.ins C dx fs)/\lx K C/\qw K C f/\fs.length<1000 /\
 D.nx σ (upd H2 a (.ins C dx (iK f y fs)))
section
variable{X:Cx}{o e value:Expr}{f:Str}{pos pos' WE:Pos}{ta tv:TE}
def FC(he:PE X e ta)(hb:attributeBase e f X.env (eval e X.env)=eval e X.env):PE X (.Attribute e f pos) (Y3 X.K ta f):=by
 intro ae s σ H Q I h;refine Ut hb (aO (he ae s σ H _ I h) ?_);rintro u s1 ⟨x,H1,I1,rx,a,C,dx,fs,v,ex,ea,c,n,l,q⟩;subst ex;obtain rfl:u=Value.ref a:=rx;exact zep I1 ea c n l λu' s2 I2 ru=>⟨v,H1,I2,ru,q⟩
def Xn(ha:PE X o ta)(hv:PE X value tv)(hs:swapsWith value (some (.Attribute o f pos')) pos.line X.env=pure false):PS X (.Assign [.Attribute o f pos'] value pos) (ZC X.K ta tv f):=by
 intro ae s σ H D I h;refine plainObj_wpAny_Assign_Attribute (aO (hv ae s σ H _ I h) ?_) hs;rintro u s1 ⟨y,H1,I1,ry,q⟩;refine aO (ha ae s1 σ H1 _ I1 q) ?_;rintro ov s2 ⟨x,H2,I2,rx,a,C,dx,fs,ex,ea,c,n,l,q2⟩;subst ex;obtain rfl:ov=Value.ref a:=rx;exact zeB I2 ea c n l ry λs3 I3=>⟨σ,_,I3,q2⟩
end
structure cN(k:Nat)(A:Around):Prop where
 hd:A.handled=none
 dp:A.depth+3*k+5<recursionLimit
 un:A.units+16*k+200<cLine
def cN.mono(r:cN k A)(h:j<=k):cN j A:=⟨r.hd,by have:=r.dp;lia,by have:=r.un;lia⟩
def cN.deeper(r:cN (k+1) A)(env:Env):cN k (A.deeper env) :=
 ⟨r.hd,by have:=r.dp;show A.depth+1+3*k+5<_;lia,by have:=r.un;show A.units+3+16*k+200<_;lia⟩
def zaY{A:Around}{C:Addr}{us:List Value}{kw:List (Str×Value)}:(A.under (.builtin "type.__call__" ⟨.ref C::us,kw⟩)).depth=A.depth+1:=by
 first|rfl|simp[Around.under,Code.weight,Code.isCreation,Code.isGuard,Code.isCaller,Code.frames,Code.isFrame,guardIds]
def Xb{A:Around}{C:Addr}{us:List Value}{kw:List (Str×Value)}:(A.under (.builtin "type.__call__" ⟨.ref C::us,kw⟩)).units=A.units+1:=by
 first|rfl|simp[Around.under,Code.cUnits,Code.frames,Code.isFrame]
def cN.make(r:cN (k+1) A)(C:Addr)(us:List Value)(kw:List (Str×Value)):cN k (A.under (.builtin "type.__call__" ⟨.ref C::us,kw⟩)) :=
 ⟨r.hd,by have:=r.dp;rw[zaY];lia,by have:=r.un;rw[Xb];lia⟩
def cN.depth(r:cN k A):A.depth<recursionLimit:=by have:=r.dp;lia
def cN.units(r:cN k A):A.units+64<cLine:=by have:=r.un;lia
def sy:TA:=λ_ H Q=>Q [] H
def pT(ta:TE)(tr:TA):TA:=λσ H Q=>ta σ H λx H1=>tr σ H1 λxs H2=>Q (x::xs) H2
section
variable{X:Cx}{e:Expr}{es:List Expr}{te:TE}{t:TA}{pos:Pos}
def ag:PA X [] sy:=λ_ _ _ _ H Q I h=>HZ ⟨[],H,I,.nil,h⟩
def aa(ha:PE X e te)(hr:PA X es t)(hs:starEach (e::es) X.env=(false,eval e X.env)::starEach es X.env:=by rfl):PA X (e::es) (pT te t):=by
 intro pos ae s σ H Q I h;rw[hs];refine BP (aO (ha ae s σ H _ I h) ?_);rintro u s1 ⟨x,H1,I1,r1,q1⟩;exact aO (hr pos ae s1 σ H1 _ I1 q1) λus s2 ⟨xs,H2,I2,r2,q2⟩=>⟨x::xs,H2,I2,.cons r1 r2,q2⟩
def RS(t:TA):TE:=λσ H Q=>t σ H λxs H1=>xs.length<=sizeLine/\∀p,H1 p=none->Q (.ref p) (upd H1 p (.tup xs))
def Tb(t:TA):TE:=λσ H Q=>t σ H λxs H1=>xs.length<=sizeLine/\∀p,H1 p=none->Q (.ref p) (upd H1 p (.lst xs))
def bx{x1}(h:PA X es t):PE X (.Tuple es x1 pos) (RS t):=by
 intro ae s σ H Q I hq;refine wpAny_Tuple_spliced (aO (h pos ae s σ H _ I hq) λus s1 ⟨xs,H1,I1,r,z,q⟩=>⟨by rw[<-r.length];exact z,?_⟩);have hf:=I1.hok.fresh (aT _);exists .ref s1.heap.objs.size,upd H1 s1.heap.objs.size (.tup xs),I1.laid (t':=s1.toks) (λb u e=>cq _ e) (aT _) ?_,rfl,q _ hf;nomatch z,us,r,⟨_,da _ rfl,rfl,_,rfl⟩
def bG(h:PA X es t):PE X (.List es pos) (Tb t):=by
 intro ae s σ H Q I hq;refine wpAny_List_spliced (aO (h pos ae s σ H _ I hq) λus s1 ⟨xs,H1,I1,r,z,q⟩=>⟨by rw[<-r.length];exact z,?_⟩);have hf:=I1.hok.fresh (aT _);exists .ref s1.heap.objs.size,upd H1 s1.heap.objs.size (.lst xs),I1.laid (t':=s1.toks) (λb u e=>cq _ e) (aT _) ?_,rfl,q _ hf;nomatch z,us,0,r,da _ rfl
end
abbrev Sp:=List V->Hp->VK->XK->Prop
abbrev mf:=List Env->Hp->Shared->XK->Value->Shared->Prop
structure qI(P:Program)(w:World)(K:Frag)(mg:Str->Option Value)(base:Heap)(A:Around)(outer:List Env)(s:Shared)(H:Hp):Prop where
 frames:A.frames=some outer
 mod:Mod K mg base
 bs:∀b o,base.get? b=some o->s.heap.get? b=some o/\H b=none
 bsz:base.objs.size<=s.heap.objs.size
 funs:s.heap.FunFrames base outer
 frf:∀b∈cC outer,H b=none
 hok:cW P w H s.heap
 bare:AllBare s.gens
def CE(outer:List Env)(P:Program)(w:World)(H:Hp)(s:Shared)(Q:VK)(u:Value)(s':Shared):Prop :=
 ∃v H',s'.os=s.os/\AllBare s'.gens/\Un (cC outer) [] H H' s.heap s'.heap/\cW P w H' s'.heap/\RelV v u/\Q v H'
def CR(CX:mf)(outer:List Env)(P:Program)(w:World)(H:Hp)(s:Shared)(Q:VK)(E:XK)(r:Result)(s':Shared):Prop :=
 match r with
 |.ok (.ret u)=>CE outer P w H s Q u s'
 |.ok _=>False
 |.error e=>CX outer H s E e s'
structure ja(P:Program)(w:World)(K:Frag)(mg:Str->Option Value)(base:Heap)(CX:mf)(k:Nat)(f:Addr)(fd:FuncData)(ps:List Str)(sp:Sp):Prop where
 len:∀vs H Q E,sp vs H Q E->vs.length=ps.length
 run:∀(A:Around) (outer:List Env) (s:Shared) (H:Hp) (args:Args) (us:List Value) (vs:List V) (Q:VK) (E:XK),cN k A->qI P w K mg base A outer s H->BindsTo s fd args (ps.zip us)->Vals vs us->sp vs H Q E ->
  codeAny (model P w) A (.call (.ref f) args) (CR CX outer P w H s Q E) s
def qI.make{P:Program}{w:World}{K:Frag}{mg:Str->Option Value}{base:Heap}{A:Around}{outer:List Env}{s:Shared}{H:Hp}(e:qI P w K mg base A outer s H)(C:Addr)(us:List Value)(kw:List (Str×Value)) :
  qI P w K mg base (A.under (.builtin "type.__call__" ⟨.ref C::us,kw⟩)) outer s H:=⟨by first|exact e.frames|(simpa [Around.under,Code.envs,Code.isFrame,pushEnvs] using e.frames),e.mod,e.bs,e.bsz,e.funs,e.frf,e.hok,e.bare⟩
section
variable{X:Cx}{ae:List (Addr×Obj)}{σ:St}{H:Hp}{s s':Shared}
def Inv.env0(I:Inv X ae σ H s):qI X.prog X.w X.K X.mg X.base X.A X.stack s H :=
 ⟨I.ok.frames,I.ok.mod,I.bs,aX I.ok.bsz I.sz,I.stack,I.stkFree,I.hok,I.bare⟩
def Inv.after(I:Inv X ae σ H s)(h:CE X.stack X.prog X.w H s Q u s'):EP X ae σ Q u s':=by
 obtain⟨v,H',os,bare,un,hok,r,q⟩:=h;obtain⟨hh,g,d,t,C9⟩:=s';obtain rfl:C9=s.os:=os;nomatch v,H',I.call (h':=hh) (g':=g) (d':=d) (t':=t) (ch:=[]) un hok bare (λb z=>absurd z tS),r,q
end
def Ox(sp:Sp)(gM:List V)(E:XK)(t:TA):TE:=λσ H Q=>t σ H λvs H1=>sp (vs++gM) H1 Q E
def Wt(C:Addr)(m:Str)(sp:Sp)(gM:List V)(E:XK)(ta:TE)(t:TA):TE:=λσ H Q=>ta σ H λx H1=>∃a dx fs,x=.ref a/\H1 a=some (.ins C dx fs)/\fs.lookup m=none /\
 t σ H1 λvs H2=>sp (x::(vs++gM)) H2 Q E
def zbH(C:Addr)(sp:Sp)(gM:List V)(E:XK)(t:TA):TE:=λσ H Q=>t σ H λvs H1=>∀x dx,H1 x=none->H1 dx=none->dx≠x ->
 sp (.ref x::(vs++gM)) (upd (upd H1 dx (.own x)) x (.ins C dx [])) (λv H2=>v=.non/\Q (.ref x) H2) E
def Binds(K:Frag)(fd:FuncData)(ps:List Str)(ds:List Value):Prop :=
 ∀(s:Shared) (us:List Value),K.In s.heap->(us++ds).length=ps.length->BindsTo s fd ⟨us,[]⟩ (ps.zip (us++ds))
def Binds.all{K:Frag}{fd:FuncData}{ps:List Str}(h:∀us:List Value,us.length=ps.length->bindArgs fd ⟨us,[]⟩=pure (ps.zip us)):Binds K fd ps []:=λs us _ hl=>by
 rw[iD]at hl ⊢;exact .of_eq (h us hl)
def sq(CX:mf)(X:Cx)(E:XK):Prop:=∀(ae:List (Addr×Obj)) (σ:St) (H:Hp) (s:Shared) (e:Value) (s':Shared),Inv X ae σ H s->CX X.stack H s E e s'->X.xe e s'
section
variable{X:Cx}{CX:mf}{k:Nat}{f C:Addr}{fd:FuncData}{ps:List Str}{sp:Sp}{gM:List V}{ds:List Value}{E:XK}{x m:Str}{p pos dY:Pos}{e o:Expr}{es:List Expr}{ta:TE}{t:TA}
set_option tactic.hygienic true in
def RN(F:ja X.prog X.w X.K X.mg X.base CX k f fd ps sp)(hr:cN k X.A)(hb:Binds X.K fd ps ds)(hd:Vals gM ds)(hx:sq CX X E)
  (I:Inv X ae σ H s) (r:Vals vs us) (h:sp (vs++gM) H Q E):wpAny (model X.prog X.w) X.A (call (.ref f) us) (EP X ae σ Q) X.xe s:=by
 have r2:=r.append hd;have hl:(us++ds).length=ps.length:=by rw[<-r2.length];exact F.len _ _ _ _ h
 refine Bp (rV (F.run X.A X.stack s H ⟨us,[]⟩ (us++ds) (vs++gM) Q E hr I.env0 (hb s us I.kIn hl) r2 h) λr s' hq=>?_);cases r with
 |error e=>exact hx ae σ H s e s' I hq
 |ok fl =>
  cases fl with
  |ret u=>exact I.after hq
  |next=>exact False.elim hq
  |brk=>exact False.elim hq
  |cont=>exact False.elim hq
def uT(F:ja X.prog X.w X.K X.mg X.base CX k f fd ps sp)(hr:cN k X.A)(hg:Gl X x)(hm:X.mg x=some (.ref f))(hk:PySem.W.keepIn X.K (.ref f)=true)(hb:Binds X.K fd ps ds)(hd:Vals gM ds)(hx:sq CX X E)
  (ha:PA X (e::es) t) (oH:(x == ("__debug__" : Str))=false:=by decide) (he:starEach (e::es) X.env=(false,eval e X.env)::starEach es X.env:=by rfl) (cX:(backTo pos (starEach es X.env)).any (·.1)=false:=by rfl) :
  PE X (.Call (.Name x p) (e::es) [] pos) (Ox sp gM E t):=by
 intro ae s σ H Q I h;refine Cn (xn I hg hm ?_ oH);refine DW (h₀:=X.base) I.ok.mod.kin hk (aO (ha pos ae s σ H _ I h) ?_) he cX;rintro us s1 ⟨vs,H1,I1,r,q⟩;exists I1.kIn,?_;exact RN F hr hb hd hx I1 r q
def qv(he:PE X o ta)(c:lx X.K C)(hm:wU X.K C m f)(F:ja X.prog X.w X.K X.mg X.base CX k f fd ps sp)(hr:cN k X.A)(hb:Binds X.K fd ps ds)(hd:Vals gM ds)(hx:sq CX X E)(ha:PA X (e::es) t)
  (a8:starEach (e::es) X.env=(false,eval e X.env)::starEach es X.env:=by rfl) (cX:(backTo pos (starEach es X.env)).any (·.1)=false:=by rfl)
  (ht:eval (.Call (.Attribute o m dY) (e :: es) [] pos) X.env=(do
   let ov <-eval o X.env
   standAt dY.atName
   let (f,first) <-holding [ov] (getMethod ov m pl)
   callWith pos f first (backTo pos (starEach (e::es) X.env)) (backToKw pos (keywordEach [] X.env))):=by rfl) :
  PE X (.Call (.Attribute o m dY) (e::es) [] pos) (Wt C m sp gM E ta t):=by
 intro ae s σ H Q I h;refine O5 (pl:=pl) (aO (he ae s σ H _ I h) ?_) ht;rintro u s1 ⟨x,H1,I1,rx,a,dx,fs,ex,ea,l,q⟩;subst ex;obtain rfl:u=Value.ref a:=rx;refine OP I1 ea c hm l ?_;refine DW (first:=[.ref a]) (h₀:=X.base) I.ok.mod.kin hm.kp (aO (ha pos ae s1 σ H1 _ I1 q) ?_) a8 cX;rintro us s2 ⟨vs,H2,I2,r,q2⟩;exists I2.kIn,?_;exact RN (us:=.ref a::us) (vs:=.ref a::vs) F hr hb hd hx I2 (.cons rfl r) q2
structure Mk(K:Frag)(C f:Addr):Prop where
 makes:PySem.W.makesIn K C=true
 init:PySem.W.findIn K (.ref C) "__init__" = some (some (.ref f))
 fn:PySem.W.isFn K (.ref f)=true
 kp:PySem.W.keepIn K (.ref C)=true
set_option tactic.hygienic true in
def Xw(M:Mk X.K C f)(F:ja X.prog X.w X.K X.mg X.base CX k f fd ps sp)(hr:cN (k+1) X.A)(hb:Binds X.K fd ps ds)(hd:Vals gM ds)
  (hx:sq CX X E) (I:Inv X ae σ H s) (r:Vals vs us)
  (h:∀x dx,H x=none->H dx=none->dx≠x->sp (.ref x::(vs++gM)) (upd (upd H dx (.own x)) x (.ins C dx [])) (λv H2=>v=.non/\Q (.ref x) H2) E) :
  wpAny (model X.prog X.w) X.A (call (.ref C) us) (EP X ae σ Q) X.xe s:=by
 have hq:=h (s.heap.objs.size+1) s.heap.objs.size (I.hok.fresh (zi _)) (I.hok.fresh (aT _)) (dy (wY _));have I2:=Inv.made (C:=C) I;have r2:Vals (V.ref (s.heap.objs.size+1)::(vs++gM)) (Value.ref (s.heap.objs.size+1)::(us++ds)):=.cons rfl (r.append hd);have hl:(Value.ref (s.heap.objs.size+1)::us++ds).length=ps.length:=by
  have e:=r2.length;rw[F.len _ _ _ _ hq]at e;exact e.symm
 refine Bp (zbb (f:=f) I.kIn M.makes M.init (ka.mp M.fn) (rV (F.run _ X.stack _ _ ⟨Value.ref (s.heap.objs.size+1) :: us,[]⟩ (Value.ref (s.heap.objs.size+1) :: (us++ds)) _ _ E (hr.make C us []) (I2.env0.make C us []) (hb _ (Value.ref (s.heap.objs.size+1)::us) I2.kIn hl) r2 hq) λr s' fF=>?_))
 cases r with
 |error e=>exact hx ae σ _ _ e s' I2 fF
 |ok fl =>
  cases fl with
  |ret u =>
   obtain⟨v,H',I3,rv,ev,q3⟩:=I2.after fF;subst ev;nomatch rv,⟨V.ref (s.heap.objs.size+1),H',I3,rfl,q3⟩
  |next=>exact False.elim fF
  |brk=>exact False.elim fF
  |cont=>exact False.elim fF
def zeg(M:Mk X.K C f)(F:ja X.prog X.w X.K X.mg X.base CX k f fd ps sp)(hr:cN (k+1) X.A)(hg:Gl X x)(hm:X.mg x=some (.ref C))(hb:Binds X.K fd ps ds)(hd:Vals gM ds)(hx:sq CX X E)
  (oH:(x == ("__debug__" : Str))=false:=by decide):PE X (.Call (.Name x p) [] [] pos) (zbH C sp gM E sy):=by
 intro ae s σ H Q I h;refine Cn (xn I hg hm ?_ oH);exact PySem.W.callWith_K0 I.kIn M.kp (Xw (us:=[]) M F hr hb hd hx I .nil h)
end
structure oW(N P:List Str)(sc:Scope):Prop where
 kind:sc.kind=.function
 co:sc.isCoroutine=false
 gen:sc.isGenerator=false
 nd:N.Nodup
 pre:N.take P.length=P
 par:∀x∈P,sc.names.lookup x=some .local\/sc.names.lookup x=some .cell
 nofree:∀y∈sc.names,y.2≠.free
theorem Jv{kindOf:Str->Option NameKind}{x:Str}:∀{binds:List (Str×Value)}{m:Str->Option Value},(∀v,(x,v)∉binds)->bindL kindOf binds m x=m x
 |[],_,_=>rfl
 |(n,v)::r,m,h=>by
  unfold bindL;rw[Jv λw hw=>h w (dM _ hw)];split
  ·have:x≠n:=by rintro rfl;exact h v kF
   simp[this]
  ·rfl
theorem K2{kindOf:Str->Option NameKind}{x:Str}:∀{binds:List (Str×Value)}{m:Str->Option Value},(∀v,(x,v)∉binds)->bindC kindOf binds m x=m x
 |[],_,_=>rfl
 |(n,v)::r,m,h=>by
  unfold bindC;rw[K2 λw hw=>h w (dM _ hw)];split
  ·rfl
  ·have:x≠n:=by rintro rfl;exact h v kF
   simp[this]
theorem KA{kindOf:Str->Option NameKind}{x:Str}{v:Value}:∀{P:List Str}{vs:List Value}{i:Nat}{m:Str->Option Value},P.Nodup->P[i]?=some x->vs[i]?=some v->kindOf x=some .local ->
  bindL kindOf (P.zip vs) m x=some v
 |[],_,_,_,_,h,_,_=>by simp at h
 |_::_,[],_,_,_,_,h,_=>by simp at h
 |p::P,w::vs,0,m,nd,h1,h2,hk=>by
  simp at h1 h2;subst h1;subst h2;show bindL kindOf ((p,w)::P.zip vs) m p=_;unfold bindL;rw[Jv λv hv=>(j7.mp nd).1 (C5 hv).1,aC hk];simp
 |p::P,w::vs,i+1,m,nd,h1,h2,hk=>by
  unfold bindL;exact KA (i:=i) (j7.mp nd).2 (by simpa using h1) (by simpa using h2) hk
theorem Sy{kindOf:Str->Option NameKind}{x:Str}{v:Value}:∀{P:List Str}{vs:List Value}{i:Nat}{m:Str->Option Value},P.Nodup->P[i]?=some x->vs[i]?=some v->kindOf x≠some .local ->
  bindC kindOf (P.zip vs) m x=some v
 |[],_,_,_,_,h,_,_=>by simp at h
 |_::_,[],_,_,_,_,h,_=>by simp at h
 |p::P,w::vs,0,m,nd,h1,h2,hk=>by
  simp at h1 h2;subst h1;subst h2;show bindC kindOf ((p,w)::P.zip vs) m p=_;unfold bindC;rw[K2 λv hv=>(j7.mp nd).1 (C5 hv).1,av hk];simp
 |p::P,w::vs,i+1,m,nd,h1,h2,hk=>by
  unfold bindC;exact Sy (i:=i) (j7.mp nd).2 (by simpa using h1) (by simpa using h2) hk
noncomputable def start(N:List Str)(vs:List V):St:=vs.map some++List.replicate (N.length-vs.length) none
def j1(CX:mf)(P:Program)(w:World)(K:Frag)(mg:Str->Option Value)(base:Heap)(N:List Str)(qual:Str)(scope:Scope)(f:Addr)(cd:Value)(A:Around)(outer:List Env)(s:Shared)(H:Hp)(E:XK):Cx where
 prog:=P
 w:=w
 K:=K
 mg:=mg
 base:=base
 A:=A.deeper (envOfC qual scope s.heap.objs.size f cd)
 N:=N
 s₀:=s
 H₀:=H
 env:=envOfC qual scope s.heap.objs.size f cd
 outer:=outer
 stack:=envOfC qual scope s.heap.objs.size f cd::outer
 ex:=[]
 calm:=true
 fn:=λ_=>true
 pn:=[]
 xe:=λe s'=>wpAny (model P w) (A.deeper (envOfC qual scope s.heap.objs.size f cd)) (leaving (envOfC qual scope s.heap.objs.size f cd) e) (λ_ lS=>CX outer H s E e lS) (λe' lS=>CX outer H s E e' lS) s'
def SE{sc:Scope}{n:Nat}{x:Str}(h:sc.names.lookup x=some .cell):∃c,(cellsFrom n sc.names []).lookup x=some c:=by
 have q:=Ke sc.names n [] (.inl h);exact KZ.mp q
def zbD{CX:mf}{P:Program}{w:World}{K:Frag}{mg:Str->Option Value}{base:Heap}{N ps:List Str}{qual:Str}{scope:Scope}{f:Addr}{cd:Value}{A:Around}{outer:List Env}{s s1:Shared}{H:Hp}{E:XK}{us:List Value}{vs:List V}
  (S:oW N ps scope) (hd:A.handled=none) (e0:qI P w K mg base A outer s H) (hl:vs.length=ps.length) (r:Vals vs us)
  (x:InCallC s s.heap.objs.size (bindL (envOfC qual scope s.heap.objs.size f cd).kindOf (ps.zip us) λ_=>none) (cellsFrom (s.heap.objs.size+1) scope.names []) (bindC (envOfC qual scope s.heap.objs.size f cd).kindOf (ps.zip us) λ_=>none) s1) :
  Inv (j1 CX P w K mg base N qual scope f cd A outer s H E) [] (start N vs) H s1:=by
 have cX:ps.length<=N.length:=by have:=congrArg List.length S.pre;rw[fR]at this;lia
 obtain⟨h1,tk,rfl,hk⟩:=x.done;have vj:∀b:Addr,b∉(j1 CX P w K mg base N qual scope f cd A outer s H E).ex:=λb z=>absurd (show b∈([]:List Addr) from z) tS
 refine⟨⟨e0.mod,S.kind,rfl,rfl,aT _,λy z c h1 h2=>?_,λy hy=>?_,λy c _ h=>?_,λ_=>hd,Around.frames_deeper e0.frames,.inr ⟨rfl,rfl⟩,λb z=>absurd z (vj b),e0.bs,e0.bsz,λb _ _=>vj b,λb z=>absurd z (vj b),e0.funs,e0.frf⟩,rfl,e0.bare,Un.kept hk,⟨_,x.toInCall.ns,λi y v h1 h2 h3=>?_⟩,λy c h=>⟨_,x.cell y c h⟩,e0.hok.fresh (aT _),λy c h=>?_,λp hp=>absurd (show p∈([]:List (Addr×Obj)) from hp) tS,e0.hok.kept hk,?_⟩
 ·exact name_of_addr x.apart (rE h1) (rE h2)
 ·have hy:=hy;rcases hy with hy|hy
  ·exact SE hy
  ·exact absurd rfl (S.nofree _ (rE hy))
 ·exact bE (x.above y c (rE h))
 ·have hi:i<vs.length:=by
   unfold start at h2;by_cases hi:i<vs.length
   ·exact hi
   ·rw[F0 (by simpa using hi)]at h2;rw[RW]at h2;split at h2<;>cases h2
  have ha:vs[i]?=some v:=by
   unfold start at h2;rw[HN (by simpa using hi),cQ]at h2;cases e:vs[i]? with
   |none=>rw[e]at h2;cases h2
   |some a=>rw[e]at h2;cases h2;rfl
  obtain⟨u,hu,rv⟩:=r.get ha;have hp:ps[i]?=some y:=by
   rw[<-S.pre,List.getElem?_take_of_lt tL];exact h1
  have MH:ps.Nodup:=by rw[<-S.pre];exact S.nd.sublist (List.take_sublist _ _)
  exists u,rv,?_;rcases S.par y (cM hp)with k|k
  ·exact .inl ⟨k,KA MH hp hu k⟩
  ·obtain⟨c,e⟩:=SE (n:=s.heap.objs.size+1) k;refine .inr ⟨.inl k,c,e,?_⟩;have q:=x.cell y c e;rw[Sy MH hp hu (by show scope.names.lookup y≠_;rw[k];decide)]at q;exact q
 ·exact e0.hok.fresh (bE (x.above y c (rE h)))
 ·unfold start;show _=N.length;rw[bh,ax,yN];lia
set_option tactic.hygienic true in
def JI{CX:mf}{P:Program}{w:World}{K:Frag}{mg:Str->Option Value}{base:Heap}{k:Nat}{f:Addr}{name qual:Str}{params:Arguments}{body:List Stmt}{scope:Scope}{dV kV doc pm bZ ct oc:Value}{an od:Option Addr}
  {nU:Array (Option Value)}{N ps:List Str}{sp:Sp} (lk:K.lookup f=some ⟨oc,od,.func (PySem.W.fnOf name qual params body scope dV kV doc pm an bZ ct),nU⟩) (kh:PySem.W.codeIn K bZ qual=true) (S:oW N ps scope)
  (len:∀vs H Q E,sp vs H Q E->vs.length=ps.length)
  (Eg:∀ (A:Around) (outer:List Env) (s:Shared) (H:Hp) (vs:List V) (Q:VK) (E:XK),cN k (A.deeper (envOfC qual scope s.heap.objs.size f bZ))->sp vs H Q E -> ∃t,fA (j1 CX P w K mg base N qual scope f bZ A outer s H E) body t/\t {nx:=λ_ H'=>Q .non H',rt:=Q} (start N vs) H) :
  ja P w K mg base CX (k+1) f (PySem.W.fnOf name qual params body scope dV kV doc pm an bZ ct) ps sp:=by
 exists len,λA outer s H args us vs Q E hr e0 hb r iF=>?_;have hl:=len _ _ _ _ iF;have KX:=e0.mod.kin.keeps λb o e=>(e0.bs b o e).1
 have lim:=e0.mod.nolimit.keeps λb o e=>(e0.bs b o e).1
 have EH:∀y∈ps.zip us,scope.names.lookup y.1=some .local\/(scope.names.lookup y.1=some .cell/\((cellsFrom (s.heap.objs.size+1) scope.names []).lookup y.1).isSome=true):=λ⟨n,v⟩ hy=>by
  rcases S.par n (C5 hy).1 with q|q
  ·exact .inl q
  ·exact .inr ⟨q,Ke _ _ _ (.inl q)⟩
 refine codeAny_call_function hr.depth (KX _ _ lk) rfl S.co S.gen rfl (PySem.W.codeRec_of KX kh) (hb _ _ _ _ ?_);refine wpAny_newFunctionEnv_cells S.kind EH λenv he s1 x=>?_
 subst he;exists lim.keeps x.toInCall.keep,codeAny_func ?_;obtain⟨t,ht,hq⟩:=Eg A outer s H vs Q E (hr.deeper _) iF;have I:Inv (j1 CX P w K mg base N qual scope f bZ A outer s H E) [] (start N vs) H s1:=zbD S hr.hd e0 hl r x;refine dS (ht [] s1 (start N vs) H _ I hq) (λfl s' hs=>?_) λe s' hs=>hs
 have fin:∀{σ':St}{H':Hp}{v:V}{u:Value},Inv (j1 CX P w K mg base N qual scope f bZ A outer s H E) [] σ' H' s'->RelV v u->Q v H'->CE outer P w H s Q u s' :=
  fun {σ' H' v u} J rv q=>⟨v,H',J.os,J.bare,J.base,J.hok,rv,q⟩
 cases fl with
 |ret u =>
  obtain⟨v,σ',H',J,rv,q⟩:=hs;exact fin J rv q
 |next =>
  obtain⟨σ',H',J,q⟩:=hs;exact fin (v:=V.non) (u:=Value.none) J rfl q
 |brk =>
  obtain⟨_,_,_,q⟩:=hs;exact False.elim q
 |cont =>
  obtain⟨_,_,_,q⟩:=hs;exact False.elim q
section
variable{X:Cx}{x:Str}{p pos:Pos}{e:Expr}{es:List Expr}{t:TA}{id T:String}{r:List V->Hp->VK->Prop}
def yt(r:List V->Hp->VK->Prop)(t:TA):TE:=λσ H Q=>t σ H λvs H1=>r vs H1 Q
def bq(hc:gx X (.builtin id) r)(hg:Gl X x)(hm:X.mg x=none)(hv:bootBuiltins x=some (.builtin id))(ha:PA X (e::es) t)(hn:x ≠ "__name__" := by decide)(oH:(x == ("__debug__" : Str))=false:=by decide)
  (he:starEach (e::es) X.env=(false,eval e X.env)::starEach es X.env:=by rfl) (cX:(backTo pos (starEach es X.env)).any (·.1)=false:=by rfl):PE X (.Call (.Name x p) (e::es) [] pos) (yt r t):=by
 intro ae s σ H Q I h;refine Cn (qq I hg hm hv ?_ hn oH);exact Ug (aO (ha pos ae s σ H _ I h) λus s1 ⟨vs,H1,I1,r1,q1⟩=>hc ae s1 σ H1 vs us Q I1 r1 q1) he cX
def eA(hc:gx X (.type T) r)(hg:Gl X x)(hm:X.mg x=none)(hv:bootBuiltins x=some (.type T))(ha:PA X (e::es) t)(hn:x ≠ "__name__" := by decide)(oH:(x == ("__debug__" : Str))=false:=by decide)
  (he:starEach (e::es) X.env=(false,eval e X.env)::starEach es X.env:=by rfl) (cX:(backTo pos (starEach es X.env)).any (·.1)=false:=by rfl):PE X (.Call (.Name x p) (e::es) [] pos) (yt r t):=by
 intro ae s σ H Q I h;refine Cn (qq I hg hm hv ?_ hn oH);exact tY (aO (ha pos ae s σ H _ I h) λus s1 ⟨vs,H1,I1,r1,q1⟩=>hc ae s1 σ H1 vs us Q I1 r1 q1) he cX
end
end L2
namespace HT
open PySem PyProof.Rows
section
variable{prog:Program}{w:World}{A:Around}{E:Value->Shared->Prop}{s:Shared}
def cat_tup(ht:IsTup s.heap t vs.toArray)(hb:IsTup s.heap b ws.toArray)(hv:vs≠[])
  (h1:ws=[]->Q (.ref t) s) (h2:ws≠[]->Q (.ref s.heap.objs.size) {s with heap:=s.heap.push {cls:=.type "tuple",data:=.seq (vs++ws).toArray}})
  (hsz:vs.length+ws.length<=sizeLine):wpAny (model prog w) A (binaryOp .Add (.ref t) (.ref b)) Q E s:=by
 obtain⟨⟨cls,dd,data,sl⟩,ho,hc,n,hd⟩:=id ht;obtain⟨⟨cls2,oN,data2,bL⟩,i0,uu,n2,hd2⟩:=id hb;simp only at hc hd uu hd2;subst hc hd uu hd2;have e:vs.toArray++ws.toArray=(vs++ws).toArray:=by simp
 by_cases hw:ws=[]
 ·exact concat_meets ⟨_,ho,rfl⟩ ⟨_,i0,rfl⟩ noFill_tuple_add seq_tuple_add Pl Nd (Rh _ _)
   (tuple_addW1 t b vs.toArray ws.toArray n n2 dd oN sl bL (by simpa using hv) (by simp[hw])) ⟨ho,i0,h1 hw⟩
 ·refine concat_meets ⟨_,ho,rfl⟩ ⟨_,i0,rfl⟩ noFill_tuple_add seq_tuple_add Pl Nd (Rh _ _)
   (tuple_addW2 t b vs.toArray ws.toArray n n2 dd oN sl bL (by simpa using hv) (by simpa using hw) (by assumption)) ⟨ho,i0,?_⟩
  rw[e];exact h2 hw
noncomputable def sIx(n d:Nat):Option Int->Nat
 |none=>d
 |some v=>if v<0 then (v+(n:Int)).toNat else min v.toNat n
def sIx_none(n d:Nat):sIx n d none=d:=rfl
def sIx_nat(n d k:Nat):sIx n d (some (k:Int))=min k n:=by
 show (if (k:Int)<0 then ((k:Int)+(n:Int)).toNat else min (k:Int).toNat n)=min k n;rw[av tL,oM]
def TX(n d:Nat)(hd:d<=n)(o:Option Int):sIx n d o<=n:=by
 cases o with
 |none=>exact hd
 |some v =>
  show (if v<0 then (v+(n:Int)).toNat else min v.toNat n)<=n;by_cases hv:v<0
  ·rw[aC hv];lia
  ·rw[av hv];exact NU _ _
def Nr(v:Int)(n d:Nat):(if v<0 then max (v+(n:Int)) 0 else min v (n:Int))=((sIx n d (some v):Nat):Int):=by
 show (if v<0 then max (v+(n:Int)) 0 else min v (n:Int))=(((if v<0 then (v+(n:Int)).toNat else min v.toNat n):Nat):Int);by_cases hv:v<0
 ·simp only[aC hv];lia
 ·simp only[av hv];lia
def zaI(lo hi:Option Int)(n:Nat):Builtin.Slice.sliceAdjust lo hi 1 (n:Int)=(((sIx n 0 lo:Nat):Int),((sIx n n hi:Nat):Int)):=by
 have h1:¬((1:Int)<0):=by lia
 unfold Builtin.Slice.sliceAdjust;simp only[h1,jZ];refine Cm ?_ ?_
 ·cases lo with
  |none=>rfl
  |some v=>exact Nr v n 0
 ·cases hi with
  |none=>rfl
  |some v=>exact Nr v n n
def ZX(i j:Nat):Builtin.Slice.slicePlaces (i:Int) (j:Int) 1=j-i:=by
 unfold Builtin.Slice.slicePlaces;have h1:(1:Int)>0:=by lia
 simp only[h1,iI,Int.ediv_one];split<;>lia
def PD(p:IsPart v o)(h:Q o s):wpAny (model prog w) A (Builtin.Slice.slicePartIndex v) Q E s:=by
 cases p with
 |none=>exact slicePart_none h
 |int i t=>exact slicePart_int h
def XZ{sl:Addr}{vl vu:Value}{lo hi:Option Int}{n:Nat}{Q:Int×Int×Nat->Shared->Prop}(hs:s.heap.IsSliceOf sl vl vu .none)(pl:IsPart vl lo)(pu:IsPart vu hi)
  (h:Q (((sIx n 0 lo:Nat):Int),1,sIx n n hi-sIx n 0 lo) s):wpAny (model prog w) A (Builtin.Slice.sliceApplied (.ref sl) (pure (n:Int))) Q E s:=by
 obtain⟨os,rT,jc,qQ⟩:=id hs;refine au (au (jb rT qQ (x:=vl) rfl (au (jb rT qQ (x:=vu) rfl (au (jb rT qQ (x:=.none) rfl (aJ ?_)))))));refine au (slicePart_none ?_);rw[av tD];refine au (PD pl (au (PD pu (au (aJ ?_)))));show wpAny _ _ (match Builtin.Slice.sliceAdjust lo hi 1 (n:Int)with|(lo,hi)=>pure (lo,(1:Int),Builtin.Slice.slicePlaces lo hi 1)) _ _ s;rw[zaI lo hi n];show wpAny _ _ (pure (((sIx n 0 lo:Nat):Int),(1:Int),Builtin.Slice.slicePlaces ((sIx n 0 lo:Nat):Int) ((sIx n n hi:Nat):Int) 1)) _ _ s;rw[ZX];exact aJ h
def TR(xs:Array Value)(i k:Nat):((List.range k).filterMap λ(m:Nat)=>xs[((i:Int)+(m:Int)*1).toNat]?).toArray=((xs.toList.drop i).take k).toArray:=by
 have e:(λ(m:Nat)=>xs[((i:Int)+(m:Int)*1).toNat]?)=λm=>xs[i+m]?:=by grind
 rw[e]
 have:=pick_run xs i k
 rw[R5]at this;have e2:((λx=>xs[x]?) ∘ λx=>i+x)=λm=>xs[i+m]?:=rfl
 rw[e2]at this;rw[this]
def getItem_tuple_cut{t sl:Addr}{items:Array Value}{vl vu:Value}{lo hi:Option Int}{Q:Value->Shared->Prop}(ht:IsTup s.heap t items)(hs:s.heap.IsSliceOf sl vl vu .none)(pl:IsPart vl lo)(pu:IsPart vu hi)
  (hw:¬(sIx items.size 0 lo=0/\sIx items.size items.size hi=items.size))
  (h:Q (.ref s.heap.objs.size) {s with heap:=s.heap.push {cls:=.type "tuple",data:=.seq ((items.toList.drop (sIx items.size 0 lo)).take (sIx items.size items.size hi-sIx items.size 0 lo)).toArray}})
  (hsz:items.size<=sizeLine):wpAny (model prog w) A (getItem (.ref t) (.ref sl)) Q E s:=by
 have A0:sizeOk (.seq ((items.toList.drop (sIx items.size 0 lo)).take (sIx items.size items.size hi-sIx items.size 0 lo)).toArray):=by
  show ((items.toList.drop (sIx items.size 0 lo)).take (sIx items.size items.size hi-sIx items.size 0 lo)).toArray.size<=sizeLine;rw[fz,fR,pL,gL];omega
 have hj:sIx items.size items.size hi<=items.size:=TX _ _ (aT _) hi;obtain⟨os,rT,jc,qQ⟩:=id hs;have WJ:s.TypeIs (.ref sl) "slice" := ⟨os,rT,jc⟩;unfold getItem
 try with_reducible refine lj ?_
 first|refine au (aJ ?_)|skip
 refine au (wpAny_sequenceKey ht.typeIs tD ?_);refine au (tm (name:=ofString "__getitem__") ht.typeIs Ll (l8 Ll ht.typeIs entry_tuple_getitem ?_ (args_tuple_getitem _ _)))
 show wpAny _ _ (Builtin.Tuple.tupleItemsOf (.ref t) >>= _) _ _ s;refine au (tupleItemsOf_ ht ?_);refine au (wN WJ ?_);rw[aC tD];refine au (XZ hs pl pu ?_);have mI:¬((((sIx items.size 0 lo:Nat):Int) == 0&&(1:Int) == 1&&(sIx items.size items.size hi-sIx items.size 0 lo) == items.size)=true):=by simp_all
 show wpAny _ _ (if (((sIx items.size 0 lo:Nat):Int) == 0&&(1:Int) == 1&&(sIx items.size items.size hi-sIx items.size 0 lo) == items.size)=true then _ else _) _ _ s;rw[av mI,TR]
 first
  |exact au (m:=Builtin.Tuple.tupleExact _) (lD (aJ ⟨_,rfl,aJ h⟩) A0)
  |exact au (m:=Builtin.Tuple.tupleExact _) (lD (au (aJ (aJ ⟨_,rfl,aJ h⟩))) A0)
  |exact au (au (m:=Builtin.Tuple.tupleExact _) (lD (aJ (aJ ⟨_,rfl,aJ h⟩)) A0))
  |exact au (au (m:=Builtin.Tuple.tupleExact _) (lD (aJ ⟨_,rfl,aJ h⟩) A0))
end
end HT
namespace L2
open PySem PySem.Spec PyProof.Rows
abbrev TO:=St->Hp->(Option Int->Hp->Prop)->Prop
def PO(X:Cx)(e:Option Expr)(t:TO):Prop :=
 ∀(ae:List (Addr×Obj)) (s:Shared) (σ:St) (H:Hp) (Q:Option Int->Hp->Prop),Inv X ae σ H s->t σ H Q ->
  wpAny (model X.prog X.w) X.A (evalPart e X.env) (λu s'=>∃o H',Inv X ae σ H' s'/\IsPart u o/\Q o H') X.xe s
def Xv:TO:=λ_ H Q=>Q none H
def T3(t:TE):TO:=λσ H Q=>t σ H λx H1=>∃i,x=.int i/\Q (some i) H1
def uH:∀{us:List Value},Vals (ns.map V.int) us->IntsAre us ns:=by
 induction ns with
 |nil=>intro us r;rw[pD]at r;cases r;exact .nil
 |cons n ns ih =>
  intro us r;rw[bN]at r;cases r with
  |cons r1 r2 =>
   obtain⟨t,e⟩:=r1;subst e;exact .cons n t (ih r2)
section
variable{X:Cx}{e:Expr}{te:TE}{lo hi:Option Expr}{tl th:TO}{pos p2:Pos}
def lX:PO X none Xv:=by
 intro ae s σ H Q I h;rw[En];exact aJ ⟨none,H,I,.none,h⟩
def Su(h:PE X e te):PO X (some e) (T3 te):=by
 intro ae s σ H Q I hw;rw[evalPart_some];refine aO (h ae s σ H _ I hw) ?_;rintro u s1 ⟨x,H1,I1,r1,q1⟩;obtain⟨i,rfl,q⟩:=q1;obtain⟨t,rfl⟩:=r1;nomatch some i,H1,I1,.int i t,q
def yT(X:Cx)(r:V->Option Int->Option Int->Hp->VK->Prop):Prop :=
 ∀(ae:List (Addr×Obj)) (s:Shared) (σ:St) (H:Hp) (x:V) (v vl vu:Value) (lo hi:Option Int) (sl:Addr) (Q:VK),Inv X ae σ H s->RelV x v->s.heap.IsSliceOf sl vl vu .none->IsPart vl lo->IsPart vu hi->r x lo hi H Q ->
  ∃T id,typeLookup (.type T) "__getitem__" = pure (some (.builtin id))/\s.TypeIs v T/\wpAny (model X.prog X.w) X.A (getItem v (.ref sl)) (EP X ae σ Q) X.xe s
def T1(r:V->Option Int->Option Int->Hp->VK->Prop)(te:TE)(tl th:TO):TE:=λσ H Q=>te σ H λx H1=>tl σ H1 λl H2=>th σ H2 λu H3=>r x l u H3 Q
def j4(hr:yT X r)(he:PE X e te)(hl:PO X lo tl)(hu:PO X hi th):PE X (.Subscript e (.Slice lo hi none p2) pos) (T1 r te tl th):=by
 intro ae s σ H Q I h;refine Ba (aO (he ae s σ H _ I h) ?_);rintro v s1 ⟨x,H1,I1,r1,q1⟩;refine wpAny_Slice (aO (hl ae s1 σ H1 _ I1 q1) ?_);rintro vl s2 ⟨l,H2,I2,pl,q2⟩;refine aO (hu ae s2 σ H2 _ I2 q2) ?_;rintro vu s3 ⟨u,H3,I3,pu,q3⟩;rw[En];refine aJ ?_;have I4:Inv X ae σ H3 {s3 with heap:=s3.heap.push {cls:=.type "slice",data:=.fields #[vl,vu,.none]}}:=I3.kept (t':=s3.toks) λb ob q=>cq _ q
 obtain⟨T,id,hT,ht,hg⟩:=hr ae {s3 with heap:=s3.heap.push {cls:=.type "slice",data:=.fields #[vl,vu,.none]}} σ H3 x v vl vu l u s3.heap.objs.size Q I4 r1 (Oq ..) pl pu q3;exact tail_any (ops:=[.ref s3.heap.objs.size,v]) ht hT hg (by with_unfolding_all rfl)
def gk(xs:List V)(lo hi:Option Int):List V:=(xs.drop (HT.sIx xs.length 0 lo)).take (HT.sIx xs.length xs.length hi-HT.sIx xs.length 0 lo)
def N7(xs:List V)(lo hi:Option Int):(gk xs lo hi).length<=xs.length:=by
 unfold gk;rw[fR,pL];exact aX (NU _ _) (HC _ _)
def Yq(K:Frag):V->Option Int->Option Int->Hp->VK->Prop:=λx lo hi H Q=>∃a xs,x=.ref a/\az K H a xs /\
 ¬(HT.sIx xs.length 0 lo=0/\HT.sIx xs.length xs.length hi=xs.length)/\∀p,H p=none->Q (.ref p) (upd H p (.tup (gk xs lo hi)))
def zaz:yT X (Yq X.K):=by
 intro ae s σ H x v vl vu lo hi sl Q I rx hs pl pu h;obtain⟨a,xs,rfl,hx,hw,q⟩:=h;cases rx;obtain⟨ah,r,ht,hz⟩:=I.tuple hx;have aK:ah.toArray.size=xs.length:=by rw[fz];exact r.length.symm
 exists "tuple",_,PyProof.Rows.slot_tuple_getitem.lookup,ht.typeIs,?_;refine HT.getItem_tuple_cut ht hs pl pu (by rw[aK];exact hw) ?_ (by rw[aK];exact hz);rw[aK];exists .ref s.heap.objs.size,_,I.laid (t':=s.toks) (o:=.tup (gk xs lo hi)) (λb ob q=>cq _ q) (aT _) ?_,rfl,q _ (I.hok.fresh (aT _));nomatch aX (N7 xs lo hi) hz,_,(r.drop (HT.sIx xs.length 0 lo)).take (HT.sIx xs.length xs.length hi-HT.sIx xs.length 0 lo),JM _ _
def UP(K:Frag):R2:=λx y H Q=>∃a b xs ys,x=.ref a/\y=.ref b/\az K H a xs/\az K H b ys/\xs≠[]/\xs.length+ys.length<=sizeLine /\
 (ys=[]->Q (.ref a) H)/\(ys≠[]->∀p,H p=none->Q (.ref p) (upd H p (.tup (xs++ys))))
def Vals.nil_iff(r:Vals xs us):us=[]↔xs=[]:=by
 cases r with
 |nil=>simp
 |cons _ _=>simp
def NR:bV X (binaryOp .Add) (UP X.K):=by
 intro ae s σ H x y v u Q I rx ry h;obtain⟨a,b,xs,ys,rfl,rfl,ha,hb,hx,hz,q1,q2⟩:=h;cases rx;cases ry;obtain⟨ah,r1,p1,_⟩:=I.tuple ha;obtain⟨dQ,r2,p2,_⟩:=I.tuple hb;refine HT.cat_tup p1 p2 (λz=>hx (r1.nil_iff.mp z)) (λz=>⟨.ref a,H,I,rfl,q1 (r2.nil_iff.mp z)⟩) (λz=>?_) (by rw[<-r1.length,<-r2.length];exact hz);exists .ref s.heap.objs.size,_,I.laid (t':=s.toks) (o:=.tup (xs++ys)) (λb ob q=>cq _ q) (aT _) ?_,rfl,q2 (λw=>z (r2.nil_iff.mpr w)) _ (I.hok.fresh (aT _));nomatch by simp_all,_,r1.append r2,JM _ _
end
noncomputable def j9(n:Nat)(i:Int):Option Nat:=if 0<=i then (if i<n then some i.toNat else none)else if -(n:Int)<=i then some (i+n).toNat else none
def dN{α:Type}(xs:List α)(i:Int):Option α:=(j9 xs.length i).bind λj=>xs[j]?
def Si(h:j9 n i=some j):seqIndex? i n=some j/\j<n /\ -(n:Int)<=i/\i<n:=by
 unfold j9 at h;by_cases h0:0<=i
 ·rw[aC h0]at h;by_cases h1:i<n
  ·rw[aC h1]at h;have e:=gd h;nomatch by rw[seqIndex_of h0 h1,e],tL,tL,h1
  ·rw[av h1]at h;cases h
 ·rw[av h0]at h;by_cases h1 : -(n:Int)<=i
  ·rw[aC h1]at h;have e:=gd h;nomatch by rw[seqIndex_neg tL h1,e],tL,h1,tL
  ·rw[av h1]at h;cases h
def Iu(h:dN xs i=some v):∃j,seqIndex? i xs.length=some j/\xs[j]?=some v/\j<xs.length /\ -(xs.length:Int)<=i/\i<xs.length:=by
 unfold dN at h;cases e:j9 xs.length i with
 |none=>rw[e]at h;cases h
 |some j =>
  rw[e]at h;obtain⟨h1,h2,h3,h4⟩:=Si e;nomatch j,h1,h,h2,h3,h4
def bc{α:Type}{xs:List α}{j:Nat}{v:α}(h:xs[j]?=some v):dN xs (j:Int)=some v:=by
 have hj:=(dO.mp h).1;have e:j9 xs.length (j:Int)=some j:=by
  unfold j9;rw[aC tL,aC tL];simp
 unfold dN;rw[e];exact h
def vm(b:Expr):Prop:=∀o i,subscripted b false o i=operate [o,i] (getItem o i)
def lV(X:Cx)(r:R2):Prop :=
 ∀(value slice:Expr) (ae:List (Addr×Obj)) (s:Shared) (σ:St) (H:Hp) (x y:V) (v u:Value) (Q:VK),Inv X ae σ H s->RelV x v->RelV y u->r x y H Q ->
  subscripted slice false v u=operate [v,u] (getItem v u)->wpAny (model X.prog X.w) X.A (subscriptTail value slice v u) (EP X ae σ Q) X.xe s
def Nq(X:Cx)(id:String)(r:V->List V->Hp->VK->Prop):Prop :=
 ∀(ae:List (Addr×Obj)) (s:Shared) (σ:St) (H:Hp) (x:V) (xs:List V) (v:Value) (us:List Value) (Q:VK),Inv X ae σ H s->RelV x v->Vals xs us->r x xs H Q ->
  wpAny (model X.prog X.w) X.A (call (.builtin id) (v::us)) (EP X ae σ Q) X.xe s
section
variable{X:Cx}{a b:Expr}{ta tb:TE}{pos:Pos}
def Bb(hr:lV X r)(ha:PE X a ta)(hb:PE X b tb)(hs:vm b):PE X (.Subscript a b pos) (jS r ta tb):=by
 intro ae s σ H Q I h;exact Ba (D9 ha hb I h λv u s2 x y H2 I2 rx ry q=>hr a b ae s2 σ H2 x y v u Q I2 rx ry q (hs _ _))
def L8(K:Frag):R2:=λx y H Q=>∃p xs i v,x=.ref p/\y=.int i/\aj K H p xs/\dN xs i=some v/\Q v H
def zb5(K:Frag):R2:=λx y H Q=>∃p xs i v,x=.ref p/\y=.int i/\az K H p xs/\dN xs i=some v/\Q v H
def zcv:R2:=λx y H Q=>∃z i c,x=.str z/\y=.int i/\z.length<=sizeLine/\dN z.cps.toList i=some c/\Q (.str ⟨#[c]⟩) H
def PK:lV X (L8 X.K):=by
 intro value slice ae s σ H x y v u Q I rx ry h hs;obtain⟨p,xs,i,z,rfl,rfl,hq,he,q⟩:=h;cases rx;obtain⟨t,rfl⟩:=ry;obtain⟨ah,r,pl,hz⟩:=I.list hq;obtain⟨j,h1,h2,h3,h4,h5⟩:=Iu he;obtain⟨w,ew,hJ⟩:=r.get h2;have hl:=r.length;have hn:=qg;have fin:EP X ae σ Q w s:=⟨z,H,I,hJ,q⟩;by_cases h0:0<=i
 ·have hj:i.toNat=j:=by
   rw[seqIndex_of h0 h5]at h1;exact gd h1
  exact item_listR pl.isList h0 tL (by rw[hj];simpa using ew) fin hs
 ·have hj:(i+(ah.toArray.size:Int)).toNat=j:=by
   rw[seqIndex_neg tL h4]at h1;rw[fz,<-hl];exact gd h1
  exact subscriptTail_builtinR (x:=w) pl.isList.typeIs slot_list_getitem.lookup
   (wpAny_getItem_list_neg (Q:=λr s'=>r=w/\EP X ae σ Q r s') pl.isList tO (by simp_all) tL (by rw[hj];simpa using ew) ⟨rfl,fin⟩) hs
def zbB:lV X (zb5 X.K):=by
 intro value slice ae s σ H x y v u Q I rx ry h hs;obtain⟨p,xs,i,z,rfl,rfl,hq,he,q⟩:=h;cases rx;obtain⟨t,rfl⟩:=ry;obtain⟨ah,r,pl,hz⟩:=I.tuple hq;obtain⟨j,h1,h2,h3,h4,h5⟩:=Iu he;obtain⟨w,ew,hJ⟩:=r.get h2;have hl:=r.length;have hn:=qg;have fin:EP X ae σ Q w s:=⟨z,H,I,hJ,q⟩;exact subscriptTail_builtinR (x:=w) pl.typeIs slot_tuple_getitem.lookup
  (getItem_tuple (j:=j) (Q:=λr s'=>r=w/\EP X ae σ Q r s') pl tL tL (by simp_all) (by simpa using ew) ⟨rfl,fin⟩) hs
def qe:lV X zcv:=by
 intro value slice ae s σ H x y v u Q I rx ry h hs;obtain⟨z,i,c,rfl,rfl,hz,he,q⟩:=h;obtain⟨t,rfl⟩:=rx;obtain⟨t',rfl⟩:=ry;obtain⟨j,h1,h2,h3,h4,h5⟩:=Iu he;have hl:z.cps.toList.length=z.length:=by simp[Str.length]
 rw[hl]at h1 h4 h5;have hn:=qg;exact tail_any (pJ s z t) slot_str_getitem.lookup (getItem_str (c:=c) (by lia) (by rw[h1];simpa using h2) ⟨.str ⟨#[c]⟩,H,I.tok _,⟨_,rfl⟩,q⟩) hs
def za2(ah:List Value)(n j:Nat)(u:Value):Obj.mapSeq (·.setIfInBounds j u) {cls:=.type "list",data:=.seq ah.toArray n}={cls:=.type "list",data:=.seq (ah.set j u).toArray n}:=by
 simp[Obj.mapSeq]
def Inv.lst(I:Inv X ae σ H s)(h:H p=some (.lst xs)) :
  ∃(ah:List Value) (n:Nat),Vals xs ah/\s.heap.get? p=some {cls:=.type "list",data:=.seq ah.toArray n}/\xs.length<=sizeLine:=by
 obtain⟨z,ah,n,r,e⟩:=I.hok p _ h;nomatch ah,n,r,e,z
def Inv.lstUpd{ae:List (Addr×Obj)}{σ:St}{H:Hp}{s:Shared}{p:Addr}{xs ys:List V}{ah its':List Value}{n n':Nat}{f:Obj->Obj}(I:Inv X ae σ H s)(h:H p=some (.lst xs))
  (ho:s.heap.get? p=some {cls:=.type "list",data:=.seq ah.toArray n}) (hf:f {cls:=.type "list",data:=.seq ah.toArray n}={cls:=.type "list",data:=.seq its'.toArray n'}) (r:Vals ys its') (hz:ys.length<=sizeLine) (t:Nat) :
  Inv X ae σ (upd H p (.lst ys)) {s with heap:=s.heap.update p f,toks:=t}:=by
 have e:(s.heap.update p f).get? p=some {cls:=.type "list",data:=.seq its'.toArray n'}:=by
  rw[xI f ho (by rw[hf]<;>rfl),hf]
 refine I.write (x:=p) (e:=p) (by rw[h];trivial) (.inl rfl) (λb u hb q=>(nQ _ _ (Ne.symm hb)).trans q) ⟨_,e⟩ ?_;nomatch hz,its',n',r,e
def zby:V->V->V->Hp->(Hp->Prop)->Prop:=λo i v H Q=>∃p xs k j,o=.ref p/\i=.int k/\H p=some (.lst xs)/\j9 xs.length k=some j/\Q (upd H p (.lst (xs.set j v)))
def Q9:Q0 X zby:=by
 intro ae s σ H o i v ov iv u Q I ro ri rv h;obtain⟨p,xs,k,j,rfl,rfl,hp,hj,q⟩:=h;cases ro;obtain⟨t,rfl⟩:=ri;obtain⟨ah,n,r,ho,hz⟩:=I.lst hp;obtain⟨h1,h2,h3,h4⟩:=Si hj;have hl:=r.length;have hn:=qg;have I':Inv X ae σ (upd H p (.lst (xs.set j v))) {s with heap:=s.heap.update p (Obj.mapSeq (·.setIfInBounds j u))} :=
  I.lstUpd hp ho (za2 ah n j u) (r.set rv j) (by rw[GS];exact hz) s.toks
 by_cases h0:0<=k
 ·have hk:k.toNat=j:=by
   rw[seqIndex_of h0 h4]at h1;exact gd h1
  exact PySem.W.ki_setAt ho h0 tL (by simp_all) (by rw[hk];nomatch _,I',q)
 ·have hk:(k+(ah.toArray.size:Int)).toNat=j:=by
   rw[seqIndex_neg tL h3]at h1;rw[fz,<-hl];exact gd h1
  exact PySem.W.ki_setBack ho tO (by simp_all) tL (by rw[hk];nomatch _,I',q)
def Me(h:i<0):max 0 (min (i+(n:Int)) n)=(((i+n).toNat:Nat):Int):=by
 rw[Ou tL,Int.ofNat_toNat,Int.max_comm]
def LW{i:Int}{n:Nat}(h:¬i<0):max 0 (min i (n:Int))=((min i.toNat n:Nat):Int):=by
 obtain⟨k,rfl⟩:=xC (Int.not_lt.mp h);rw[oM];rcases Nat.le_total k n with h|h
 ·rw[mT h,Ou (LC.mpr h),CA (iC _)]
 ·rw[u7 h,Int.min_eq_right (LC.mpr h),CA (iC _)]
def zeo(lo hi:Option Int)(n:Nat):(sliceBounds lo hi none n).1=((HT.sIx n 0 lo:Nat):Int)/\(sliceBounds lo hi none n).2.1=((HT.sIx n n hi:Nat):Int)/\(sliceBounds lo hi none n).2.2=1:=by
 exists ?_,?_,rfl
 ·cases lo with
  |none=>simp[sliceBounds,HT.sIx]
  |some i =>
   simp only[sliceBounds,HT.sIx,Sk,show (1:Int)>0 by decide,iI];by_cases h:i<0
   ·simp only[h,iI];exact Me h
   ·simp only[h,jZ];exact LW h
 ·cases hi with
  |none=>simp[sliceBounds,HT.sIx]
  |some i =>
   simp only[sliceBounds,HT.sIx,Sk,show (1:Int)>0 by decide,iI];by_cases h:i<0
   ·simp only[h,iI];exact Me h
   ·simp only[h,jZ];exact LW h
def zd1(ah:List Value)(lo hi:Option Int):slicePick ah.toArray lo hi none=((ah.drop (HT.sIx ah.length 0 lo)).take (HT.sIx ah.length ah.length hi-HT.sIx ah.length 0 lo)).toArray:=by
 obtain⟨h1,h2,h3⟩:=zeo lo hi ah.toArray.size;unfold slicePick;rw[h1,h2,h3];simp only[sliceRange_one,pick_run,fz]<;>rfl
def zdU(K:Frag):V->Option Int->Option Int->Hp->VK->Prop:=λx lo hi H Q=>∃a xs,x=.ref a/\aj K H a xs/\∀p,H p=none->Q (.ref p) (upd H p (.lst (gk xs lo hi)))
def oY:yT X (zdU X.K):=by
 intro ae s σ H x v vl vu lo hi sl Q I rx hs pl pu h;obtain⟨a,xs,rfl,hx,q⟩:=h;cases rx;obtain⟨ah,r,ht,hz⟩:=I.list hx;have aK:=r.length;exists "list",_,slot_list_getitem.lookup,ht.isList.typeIs,?_;refine Qf ht.isList hs pl pu .none tS ?_ (by simp_all);rw[zd1,<-aK];exists .ref s.heap.objs.size,_,I.laid (t':=s.toks) (o:=.lst (gk xs lo hi)) (λb ob q=>cq _ q) (aT _) ?_,rfl,q _ (I.hok.fresh (aT _));nomatch aX (N7 xs lo hi) hz,_,0,(r.drop (HT.sIx xs.length 0 lo)).take (HT.sIx xs.length xs.length hi-HT.sIx xs.length 0 lo),da _ rfl
noncomputable def lM:V->Bool
 |.non=>true
 |.bl _=>true
 |.int _=>true
 |.str _=>true
 |_=>false
noncomputable def jC:V->V->Bool
 |.non,.non=>true
 |.bl a,.bl b=>a == b
 |.bl a,.int b=>(if a then 1 else 0) == b
 |.int a,.bl b=>a == (if b then 1 else 0)
 |.int a,.int b=>a == b
 |.str a,.str b=>a == b
 |_,_=>false
def zc0(ry:RelV y u)(rx:RelV x v)(fy:lM y=true)(fx:lM x=true):SeqAt.EqAt A s u v (jC y x):=by
 cases y with
 |non =>
  cases ry;cases x with
  |non=>cases rx;exact zg _
  |bl b=>cases rx;exact jhA b
  |int b=>obtain⟨t,rfl⟩:=rx;exact XS b t
  |str b=>obtain⟨t,rfl⟩:=rx;exact ZT b t
  |_=>exact absurd (show false=true from fx) c9
 |bl a =>
  cases ry;cases x with
  |non=>cases rx;exact jhy a
  |bl b=>cases rx;exact jhz a b
  |int b=>obtain⟨t,rfl⟩:=rx;exact WR a b t
  |str b=>obtain⟨t,rfl⟩:=rx;exact jhM a b t
  |_=>exact absurd (show false=true from fx) c9
 |int a =>
  obtain⟨t',rfl⟩:=ry;cases x with
  |non=>cases rx;exact Xk a t'
  |bl b=>cases rx;exact jhJ a t' b
  |int b=>obtain⟨t,rfl⟩:=rx;exact U0 a t' b t
  |str b=>obtain⟨t,rfl⟩:=rx;exact O6 a t' b t
  |_=>exact absurd (show false=true from fx) c9
 |str a =>
  obtain⟨t',rfl⟩:=ry;cases x with
  |non=>cases rx;exact jhN a t'
  |bl b=>cases rx;exact V3 a t' b
  |int b=>obtain⟨t,rfl⟩:=rx;exact Md a t' b t
  |str b=>obtain⟨t,rfl⟩:=rx;exact Xh a t' b t
  |_=>exact absurd (show false=true from fx) c9
 |_=>exact absurd (show false=true from fy) c9
def jX(x:V)(u:Value):Bool:=match u with
 |.none=>jC .non x
 |.bool b=>jC (.bl b) x
 |.int i _=>jC (.int i) x
 |.str z _=>jC (.str z) x
 |_=>false
def IF(r:RelV y u)(f:lM y=true):jX x u=jC y x:=by
 cases y with
 |non=>cases r;rfl
 |bl b=>cases r;rfl
 |int i=>obtain⟨t,rfl⟩:=r;rfl
 |str z=>obtain⟨t,rfl⟩:=r;rfl
 |_=>exact absurd (show false=true from f) c9
theorem Cv:∀{xs:List V}{us:List Value},Vals xs us->xs.all lM=true->us.any (jX x)=xs.any λy=>jC y x
 |_,_,.nil,_=>rfl
 |y::xs,u::us,.cons r t,f=>by
  rw[EW,ff]at f;rw[qo,qo,IF r f.1,Cv t f.2]
theorem zI(rx:RelV x v)(fx:lM x=true):∀{xs:List V}{us:List Value},Vals xs us->xs.all lM=true->∀u∈us,SeqAt.EqAt A s u v (jX x u)
 |_,_,.nil,_=>λu hu=>by cases hu
 |y::xs,u::us,.cons r t,f=>λu' hu=>by
  rw[EW,ff]at f;rcases bC.mp hu with rfl|hu
  ·rw[IF r f.1];exact zc0 r rx f.1 fx
  ·exact zI rx fx t f.2 u' hu
def iY(x:V)(xs:List V):Bool:=xs.any λy=>jC y x
def rIn(K:Frag)(neg:Bool):R2:=λx y H Q=>∃p xs,y=.ref p/\(aj K H p xs\/az K H p xs)/\lM x=true/\xs.all lM=true/\Q (.bl (if neg then !iY x xs else iY x xs)) H
def ph:bV X (compareOp .In) (rIn X.K false):=by
 intro ae s σ H x y v u Q I rx ry h;obtain⟨p,xs,rfl,hq,fx,fs,q⟩:=h;cases ry;rcases hq with hq|hq
 ·obtain⟨ah,r,pl,hz⟩:=I.list hq;refine SeqAt.in_listAt (jX x) pl.isList (λw hw=>zI rx fx r fs w (by simpa using hw)) ⟨.bl _,H,I,rfl,?_⟩;rw[show ah.toArray.any (jX x)=ah.any (jX x) by simp,Cv r fs];exact q
 ·obtain⟨ah,r,pl,hz⟩:=I.tuple hq;refine SeqAt.in_tupleAt (jX x) pl (λw hw=>zI rx fx r fs w (by simpa using hw)) ⟨.bl _,H,I,rfl,?_⟩;rw[show ah.toArray.any (jX x)=ah.any (jX x) by simp,Cv r fs];exact q
def fO:gx X (.builtin "len") (λxs H Q=>∃p ys,xs=[.ref p]/\(aj X.K H p ys\/az X.K H p ys)/\Q (.int ys.length) H):=by
 intro ae s σ H xs us Q I r h;obtain⟨p,ys,rfl,hq,q⟩:=h;obtain⟨u,rfl,rx⟩:=gO r;cases rx;have hn:=qg;rcases hq with hq|hq
 ·obtain⟨ah,r',pl,hz⟩:=I.list hq;have aK:=r'.length;exact Calls.call_len_list pl.isList (by simp only[fz]<;>lia) ⟨.int ys.length,H,I.tok _,⟨s.toks+1,by simp_all⟩,q⟩
 ·obtain⟨ah,r',pl,hz⟩:=I.tuple hq;have aK:=r'.length;exact len_tuple pl (by grind) ⟨.int ys.length,H,I.tok _,⟨s.toks+1,by simp_all⟩,q⟩
def m7:gx X (.builtin "len") (λxs H Q=>∃z,xs=[.str z]/\z.length<=sizeLine/\Q (.int z.length) H):=by
 intro ae s σ H xs us Q I r h;obtain⟨z,rfl,hz,q⟩:=h;obtain⟨u,rfl,t,rfl⟩:=gO r;have hn:=qg;exact len_str tL ⟨.int z.length,H,I.tok _,⟨_,rfl⟩,q⟩
def E5(K:Frag)(T:String)(x:V)(H:Hp):Prop:=match x with
 |.str _=>T = "str"
 |.int _=>T = "int"
 |.ref p=>(T = "list" /\ ∃xs,aj K H p xs)\/(T = "tuple" /\ ∃o,K.lookup p=some o/\o.cls=.type "tuple" /\ o.dict=none) \/
   (T = "dict" /\ ((∃kvs,H p=some (.dK kvs))\/∃kvs,H p=some (.dT kvs)))\/(T = "set" /\ ∃S n,H p=some (.set S n))
 |_=>False
def Kt(I:Inv X ae σ H s)(r:RelV x v)(ty:E5 X.K T x H) :
  s.TypeIs v T/\∀a,v=.ref a->∃ob,s.heap.get? a=some ob/\ob.dict=none:=by
 cases x with
 |str z =>
  obtain⟨t,rfl⟩:=r;cases (show T = "str" from ty);nomatch pJ s z t,λ_ e=>nomatch e
 |int i =>
  obtain⟨t,rfl⟩:=r;cases (show T = "int" from ty);nomatch xp s i t,λ_ e=>nomatch e
 |ref p =>
  cases r;rcases ty with ⟨rfl,xs,hq⟩|⟨rfl,o,hk,hc,hd⟩|⟨rfl,hk⟩|⟨rfl,S,n,hk⟩
  ·obtain⟨ah,_,pl,_⟩:=I.list hq;exists pl.isList.typeIs,λa e=>?_;cases e;obtain⟨o,n,e,c,hd,_⟩:=pl;nomatch o,e,hd
  ·exists ⟨o,I.kIn p o hk,hc⟩,λa e=>?_;cases e;nomatch o,I.kIn _ o hk,hd
  ·have z:∃o,s.heap.get? p=some o/\o.ExactDict:=by
    rcases hk with ⟨kvs,hk⟩|⟨kvs,hk⟩
    ·obtain⟨_,_,_,_,o,_,_,e,ex,_⟩:=I.hok p _ hk;nomatch o,e,ex
    ·obtain⟨_,_,_,_,o,_,_,e,ex,_⟩:=I.hok p _ hk;nomatch o,e,ex
   obtain⟨o,e,ex⟩:=z;exists ⟨o,e,ex.1⟩,λa e2=>?_;cases e2;nomatch o,e,ex.2.1
  ·obtain⟨o,_,_,_,e,ex,_⟩:=I.hok p _ hk;exists ⟨o,e,ex.1⟩,λa e2=>?_;cases e2;nomatch o,e,ex.2.1
 |_=>exact False.elim ty
def zeh(K:Frag)(T:String)(r:V->List V->Hp->VK->Prop)(to:TE):TE:=λσ H Q=>to σ H λx H1=>E5 K T x H1/\r x [] H1 Q
def Y5(K:Frag)(T:String)(r:V->List V->Hp->VK->Prop)(to:TE)(t:TA):TE:=λσ H Q=>to σ H λx H1=>E5 K T x H1/\t σ H1 λxs H2=>r x xs H2 Q
variable{o e:Expr}{es:List Expr}{to:TE}{t:TA}{name:Str}{dY cD:Pos}{T id:String}{r:V->List V->Hp->VK->Prop}
def gy(pa:PlainAttrs T)(slot:Slot T name id)(Hm:typeOf (.builtin id)=pure (.type "method_descriptor"))(hm:Nq X id r)(ho:PE X o to)
  (Ge:attributeBase o name X.env (eval o X.env)=eval o X.env:=by rfl) (EL:(dY.endLine == cD.line)=true:=by rfl):PE X (.Call (.Attribute o name dY) [] [] cD) (zeh X.K T r to):=by
 intro ae s σ H Q I h;refine wpAny_Call_method0_late Ge EL (aO (ho ae s σ H _ I h) ?_);rintro v s1 ⟨x,H1,I1,r1,ty,q1⟩;obtain⟨h1,h2⟩:=Kt I1 r1 ty;nomatch T,id,pa,slot,Hm,h1,h2,AX rfl (PySem.evalArgs_none (hm ae s1 σ H1 x [] v [] Q I1 r1 .nil q1))
def bO(pa:PlainAttrs T)(slot:Slot T name id)(Hm:typeOf (.builtin id)=pure (.type "method_descriptor"))(hm:Nq X id r)(ho:PE X o to)(ha:PA X (e::es) t)
  (Ge:attributeBase o name X.env (eval o X.env)=eval o X.env:=by rfl)
  (xM:((backTo cD (starEach (e :: es) X.env)).all (fun x => !x.1) && (backToKw cD (keywordEach [] X.env)).all (fun x=>x.1.isSome) && decide ((e::es).length+([]:List Keyword).length+(if ([]:List Keyword).isEmpty then 0 else 1)<30))=true:=by rfl)
  (EL:(dY.endLine == cD.line)=true:=by rfl) (hs:starEach (e::es) X.env=(false,eval e X.env)::starEach es X.env:=by rfl) (hplain:(backTo cD (starEach es X.env)).any (·.1)=false:=by rfl) :
  PE X (.Call (.Attribute o name dY) (e::es) [] cD) (Y5 X.K T r to t):=by
 intro ae s σ H Q I h;refine wpAny_Call_method_late Ge xM EL rfl (aO (ho ae s σ H _ I h) ?_);rintro v s1 ⟨x,H1,I1,r1,ty,q1⟩;obtain⟨h1,h2⟩:=Kt I1 r1 ty;exists T,id,pa,slot,Hm,h1,h2,?_;have hA:=ha cD ae s1 σ H1 _ I1 q1;rw[hs]at hA ⊢;refine AX (by assumption) (Bi ?_);exact aO hA λus s2 ⟨vs,H2,I2,r2,q2⟩=>hm ae s2 σ H2 x vs v us Q I2 r1 r2 q2
end
def gT(X:Cx)(id:String)(r:V->List V->Hp->VK->Prop):Prop :=
 ∀(ae:List (Addr×Obj)) (s:Shared) (σ:St) (H:Hp) (x:V) (xs:List V) (v:Value) (us:List Value) (Q:VK),Inv X ae σ H s->RelV x v->Vals xs us->r x xs H Q ->
  wpAny (model X.prog X.w) X.A (call (.builtin id) (v::us)) (EP X ae σ Q) X.xe s
def Vals.one(h:Vals [x] us):∃u,us=[u]/\RelV x u:=by
 cases h with|cons r t=>cases t;nomatch _,rfl,r
def Vals.two(h:Vals [x,y] us):∃u v,us=[u,v]/\RelV x u/\RelV y v:=by
 cases h with|cons r t=>cases t with|cons q t=>cases t;nomatch _,_,rfl,r,q
theorem Vals.zero:∀{us:List Value},Vals [] us->us=[]
 |_,.nil=>rfl
def Vals.dropLast(h:Vals xs us):Vals xs.dropLast us.dropLast:=by
 induction h with
 |nil=>exact .nil
 |cons r t ih =>
  cases t with
  |nil=>exact .nil
  |cons q t'=>exact .cons r ih
def YL(l:List α):l.eraseIdx (l.length-1)=l.dropLast:=by simp
section
variable{X:Cx}{ae:List (Addr×Obj)}{σ:St}{H:Hp}{s:Shared}{l b:Addr}{xs ys zs:List V}
def Inv.lset{ah its':List Value}{n:Nat}{f:Array Value->Array Value}{t':Nat}(I:Inv X ae σ H s)(hH:H l=some (.lst xs))
  (e:s.heap.get? l=some {cls:=.type "list",data:=.seq ah.toArray n}) (hf:f ah.toArray=its'.toArray) (hv:Vals ys its') (hz:ys.length<=sizeLine) :
  Inv X ae σ (upd H l (.lst ys)) {s with heap:=s.heap.update l (Obj.mapSeq f),toks:=t'}:=by
 have q:=PySem.IsL.update e f;rw[hf]at q;refine I.write (x:=l) (e:=l) (by rw[hH];exact trivial) (.inl rfl) (λb' u hb hu=>(nQ s.heap (Obj.mapSeq f) (Ne.symm hb)).trans hu) ⟨_,q⟩ ?_;nomatch hz,its',_,hv,q
def Inv.lnew(I:Inv X ae σ H s)(hv:Vals ys ah)(hz:ys.length<=sizeLine) :
  Inv X ae σ (upd H s.heap.objs.size (.lst ys)) {s with heap:=s.heap.push {cls:=.type "list",data:=.seq ah.toArray},toks:=t'} :=
 I.laid (λ_ _ q=>cq _ q) (aT _) ⟨hz,ah,0,hv,da _ rfl⟩
def Inv.fresh(I:Inv X ae σ H s):H s.heap.objs.size=none:=I.hok.fresh (aT _)
def Inv.lstM(I:Inv X ae σ H s)(hH:H l=some (.lst xs)):xs.length<=sizeLine/\∃(ah:List Value) (n:Nat),Vals xs ah/\xs.length=ah.length/\s.heap.get? l=some {cls:=.type "list",data:=.seq ah.toArray n}:=by
 obtain⟨z,ah,n,r,e⟩:=I.hok l _ hH;nomatch z,ah,n,r,r.length,e
def VB(h:n<=sizeLine):Builtin.List.listTooLong n=false:=by
 exact bo tL
end
section
variable{X:Cx}
def zcO:V->List V->Hp->VK->Prop:=λx vs H Q=>∃l xs y,x=.ref l/\vs=[y]/\H l=some (.lst xs)/\xs.length<sizeLine/\Q .non (upd H l (.lst (xs++[y])))
def zcG:gT X "list.append" zcO:=by
 intro ae s σ H x vs v us Q I rx rv h;obtain⟨l,xs,y,rfl,rfl,hH,hz,q⟩:=h;cases rx;obtain⟨u,rfl,ru⟩:=rv.one;obtain⟨z,ah,n,r,hl,e⟩:=I.lstM hH;refine nH Ls ⟨_,e,rfl⟩ Pj (Pr _ _) (Rt l ah.toArray n u (by simp_all)) ⟨e,?_⟩;exists .non,_,I.lset (its':=ah++[u]) hH e tS (r.append (.cons ru .nil)) ?_,rfl,q;rw[bh,List.length_singleton];assumption
def U4:V->List V->Hp->VK->Prop:=λx vs H Q=>∃l xs y,x=.ref l/\vs=[]/\H l=some (.lst xs)/\xs[xs.length-1]?=some y/\Q y (upd H l (.lst xs.dropLast))
def kP:gT X "list.pop" U4:=by
 intro ae s σ H x vs v us Q I rx rv h;obtain⟨l,xs,y,rfl,rfl,hH,hy,q⟩:=h;cases rx;have hus:=rv.zero;subst hus;obtain⟨z,ah,n,r,hl,e⟩:=I.lstM hH;obtain⟨u,hu,ru⟩:=r.get hy;have Bu:ah.toArray[ah.toArray.size-1]?=some u:=by simp_all
 refine nH F.slot_list_pop ⟨_,e,rfl⟩ F.entry_list_pop (F.args_list_pop_1 _) (MeetsSeq.list_pop_last l ah.toArray n u Bu (by simp_all)) ⟨e,?_⟩;exists y,_,I.lset (its':=ah.dropLast) hH e ?_ r.dropLast ?_,ru,q
 ·show ah.toArray.eraseIdxIfInBounds (ah.toArray.size-1)=ah.dropLast.toArray;rw[fz,List.eraseIdxIfInBounds_toArray,YL]
 ·rw[sU];lia
def TK:R2:=λx y H Q=>∃l b xs zs,x=.ref l/\y=.ref b/\H l=some (.lst xs)/\H b=some (.lst zs)/\xs.length+zs.length<=sizeLine/\∀p,H p=none->Q (.ref p) (upd H p (.lst (xs++zs)))
def sr:bV X (binaryOp .Add) TK:=by
 intro ae s σ H x y v u Q I rx ry h;obtain⟨l,b,xs,zs,rfl,rfl,hH,hB,hz,q⟩:=h;cases rx;cases ry;obtain⟨z,ah,n,r,hl,e⟩:=I.lstM hH;obtain⟨z2,dQ,n2,r2,fS,e2⟩:=I.lstM hB;refine PySem.P.add_list e e2 ?_ (by simp_all);have ea:ah.toArray++dQ.toArray=(ah++dQ).toArray:=by simp
 rw[ea];nomatch .ref _,_,I.lnew (t':=s.toks) (r.append r2) (by rw[bh];assumption),rfl,q _ I.fresh
end
section
variable{κ:Type}[DecidableEq κ]
noncomputable def iz(kvs:List (κ×V))(k:κ):Option V:=(kvs.find? λkv=>decide (kv.1=k)).map (·.2)
noncomputable def d8(kvs:List (κ×V))(k:κ)(v:V):List (κ×V) :=
 if (kvs.any λkv=>decide (kv.1=k))=true then kvs.map (λkv=>if kv.1=k then (kv.1,v)else kv)else kvs++[(k,v)]
def xy{p:κ×V}{r:List (κ×V)}{k:κ}(e:p.1=k):iz (p::r) k=some p.2:=by simp[iz,df,e]
def xB{p:κ×V}{r:List (κ×V)}{k:κ}(e:¬p.1=k):iz (p::r) k=iz r k:=by simp[iz,df,e]
theorem Iq(k:κ):∀kvs:List (κ×V),(kvs.any λkv=>decide (kv.1=k))=(iz kvs k).isSome
 |[]=>rfl
 |p::r=>by
  rw[qo];by_cases e:p.1=k
  ·simp only[xy e,aU e,Bool.true_or,Option.isSome_some]
  ·rw[xB e,bo e,O1];exact Iq k r
def Jf(kvs:List (κ×V))(k:κ)(v:V):(d8 kvs k v).length<=kvs.length+1:=by
 unfold d8;split
 ·rw[ax];lia
 ·rw[bh,bH,nk];lia
def gP.isSome_eq(r:gP o u):o.isSome=u.isSome:=by
 cases o with
 |none=>cases u with
  |none=>rfl
  |some _=>exact (show False from r).elim
 |some _=>cases u with
  |none=>exact (show False from r).elim
  |some _=>rfl
def gP.getD(r:gP o u)(rd:RelV d d'):RelV (o.getD d) (u.getD d'):=by
 cases o with
 |none=>cases u with
  |none=>exact rd
  |some _=>exact (show False from r).elim
 |some _=>cases u with
  |none=>exact (show False from r).elim
  |some _=>exact r
def KV.val{kvs:List (κ×V)}{vs:List (κ×Value)}(r:KV kvs vs)(k:κ):gP (iz kvs k) (valueAt vs k):=by
 induction r with
 |nil=>exact True.intro
 |@cons p q ps qs h t ih =>
  obtain⟨h1,h2⟩:=h;by_cases e:p.1=k
  ·have e':=h1.symm.trans e;have b:valueAt (q::qs) k=some q.2:=by simp[valueAt,df,e']
   rw[xy e,b];exact h2
  ·have e':¬q.1=k:=λz=>e (h1.trans z)
   have b:valueAt (q::qs) k=valueAt qs k:=by simp[valueAt,df,e']
   rw[xB e,b];exact ih
def KV.any(r:KV kvs vs)(k:κ):(kvs.any λkv=>decide (kv.1=k))=vs.any λkv=>decide (kv.1=k):=by
 induction r with
 |nil=>rfl
 |cons h t ih=>rw[qo,qo,ih,h.1]
def KV.repl(r:KV kvs vs)(k:κ)(ry:RelV y u) :
  KV (kvs.map λkv=>if kv.1=k then (kv.1,y)else kv) (vs.map λkv=>if kv.1=k then (kv.1,u)else kv):=by
 induction r with
 |nil=>exact .nil
 |@cons p q ps qs h t ih =>
  rw[bN,bN];refine .cons ?_ ih;obtain⟨h1,h2⟩:=h;by_cases e:p.1=k
  ·rw[aC e,aC (h1.symm.trans e)];nomatch h1,ry
  ·rw[av e,av (λz=>e (h1.trans z))];nomatch h1,h2
def KV.put(r:KV kvs vs)(k:κ)(ry:RelV y u):KV (d8 kvs k y) (stored vs k u):=by
 unfold d8 stored;rw[r.any k];by_cases e:(vs.any λkv=>decide (kv.1=k))=true
 ·rw[aC e,aC e];exact r.repl k ry
 ·rw[av e,av e];exact OJ r ⟨rfl,ry⟩
def KV.keys{kvs:List (κ×V)}{vs:List (κ×Value)}(r:KV kvs vs):kvs.map (·.1)=vs.map (·.1):=by
 induction r with
 |nil=>rfl
 |cons h t ih=>rw[bN,bN,ih,h.1]
def KV.length(r:KV kvs vs):kvs.length=vs.length:=eV r
end
def u5(r:RelV (kV k) u):(gi P w).is k u=true:=by
 cases k with
 |inl i=>obtain⟨t,e⟩:=(show ∃t,u=Value.int i t from r);subst e;exact L4 P w i t
 |inr x=>obtain⟨t,e⟩:=(show ∃t,u=Value.str x t from r);subst e;exact sI P w x t
theorem Nl:∀{ks:List cu}{us:List Value},Vals (ks.map kV) us->ItemsAre (gi P w) ks us
 |[],_,r=>by rw[pD]at r;cases r;exact .nil
 |k::ks,_,r=>by
  rw[bN]at r;cases r with
  |cons h t=>exact .cons (u5 h) (Nl t)
abbrev KT(H:Hp):List (List cu×V)->List (List cu×Addr×Value)->Prop:=Paired λp q=>p.1=q.1/\H q.2.1=some (.tup (p.1.map kV))/\RelV p.2 q.2.2
def KT.val(r:KT H kvs xs)(k:List cu):gP (iz kvs k) ((atKey xs k).map (·.2)):=by
 induction r with
 |nil=>exact True.intro
 |@cons p q ps qs h t ih =>
  obtain⟨h1,_,h2⟩:=h;by_cases e:p.1=k
  ·have e':=h1.symm.trans e;have b:atKey (q::qs) k=some q.2:=by simp[atKey,df,e']
   rw[xy e,b];exact h2
  ·have e':¬q.1=k:=λz=>e (h1.trans z)
   have b:atKey (q::qs) k=atKey qs k:=by simp[atKey,df,e']
   rw[xB e,b];exact ih
def KT.repl(r:KT H kvs xs)(k:List cu)(ry:RelV y u) :
  KT H (kvs.map λkv=>if kv.1=k then (kv.1,y)else kv) (xs.map (putAt k u)):=by
 induction r with
 |nil=>exact .nil
 |@cons p q ps qs h t ih =>
  rw[bN,bN];refine .cons ?_ ih;obtain⟨h1,h2,h3⟩:=h;unfold putAt;by_cases e:p.1=k
  ·rw[aC e,aC (h1.symm.trans e)];nomatch h1,h2,ry
  ·rw[av e,av (λz=>e (h1.trans z))];nomatch h1,h2,h3
def KT.put(r:KT H kvs xs)(k:List cu)(hb:H b=some (.tup (k.map kV)))(ry:RelV y u) :
  KT H (d8 kvs k y) (storedH xs k b u):=by
 have e:(kvs.any λkv=>decide (kv.1=k))=(atKey xs k).isSome:=by
  rw[Iq,(r.val k).isSome_eq,A3]
 unfold d8 storedH;rw[e];by_cases q:(atKey xs k).isSome=true
 ·rw[aC q,aC q];exact r.repl k ry
 ·rw[av q,av q];exact OJ r ⟨rfl,hb,ry⟩
def KT.keeps(r:KT H kvs xs)(ht:∀b ys,H b=some (.tup ys)->H' b=some (.tup ys)):KT H' kvs xs :=
 Paired.mapP r λ_ _ z=>⟨z.1,ht _ _ z.2.1,z.2.2⟩
section
variable{P:Program}{w:World}{H:Hp}{h:Heap}{a:Addr}
def Sz(ok:cW P w H h)(e:Rd H a u):dq P w H h a u:=e.ok ok
def sE(ok:cW P w H h)(e:Rd H a (.dK kvs)):kvs.length<=sizeLine/\(a == sysModules)=false/\∃vs,KV kvs vs/\h.DictOf (gi P w) a vs :=
 show dq P w H h a (.dK kvs) from Sz ok e
def Bz(ok:cW P w H h)(e:H a=some (.dK kvs)):kvs.length<=sizeLine/\(a == sysModules)=false/\∃vs,KV kvs vs/\h.DictOf (gi P w) a vs:=sE ok (.inl e)
def xV(ok:cW P w H h)(e:H a=some (.tup (ks.map kV))):(tupleKind (gi P w)).is h ks a:=by
 obtain⟨_,ah,r,o,h1,h2,n,h3⟩:=(show dq P w H h a (.tup (ks.map kV)) from ok a _ e);exact⟨o,ah.toArray,n,h1,h2,h3,by simpa using Nl r⟩
def uE(ok:cW P w H h)(e:Rd H a (.dT kvs)):kvs.length<=sizeLine/\(a == sysModules)=false /\
  ∃xs,KT H kvs xs/\h.DictOfH (tupleKind (gi P w)) a xs:=by
 obtain⟨z,y,xs,r,o,es,ep,h1,h2,h3,h4,h5⟩:=(show dq P w H h a (.dT kvs) from Sz ok e);exists z,y,xs,r,o,es,ep,h1,h2,h3,h4,λx hx=>?_,h5;have all:∀{l:List (List cu×V)}{m:List (List cu×Addr×Value)},KT H l m->∀x∈m,(tupleKind (gi P w)).is h x.1 x.2.1:=by
  intro l m q;induction q with
  |nil=>intro x hx;exact nomatch hx
  |@cons p q ps qs hq t ih =>
   intro x hx;rcases bC.mp hx with e|hx
   ·subst e;exact xV ok (by simp_all)
   ·exact ih x hx
 exact all r x hx
def zbl(ok:cW P w H h)(e:H a=some (.dT kvs)):kvs.length<=sizeLine/\(a == sysModules)=false /\
  ∃xs,KT H kvs xs/\h.DictOfH (tupleKind (gi P w)) a xs:=uE ok (.inl e)
end
def dj(H:Hp)(a:Addr)(y:V)(r:Option V):Prop :=
 (∃kvs k,Rd H a (.dK kvs)/\y=kV k/\r=iz kvs k)\/∃kvs k b,Rd H a (.dT kvs)/\y=.ref b/\H b=some (.tup (k.map kV))/\r=iz kvs k
def lH(H:Hp)(a:Addr)(y v:V)(H':Hp):Prop :=
 (∃kvs k,H a=some (.dK kvs)/\y=kV k/\kvs.length<sizeLine/\H'=upd H a (.dK (d8 kvs k v))) \/
 ∃kvs k b,H a=some (.dT kvs)/\y=.ref b/\H b=some (.tup (k.map kV))/\kvs.length<sizeLine/\H'=upd H a (.dT (d8 kvs k v))
theorem dj.k{H:Hp}{a:Addr}{kvs:List (cu×V)}{k:cu}(e:H a=some (.dK kvs)):dj H a (kV k) (iz kvs k):=.inl ⟨kvs,k,.inl e,rfl,rfl⟩
theorem lH.k{H:Hp}{a:Addr}{kvs:List (cu×V)}{k:cu}{v:V}(e:H a=some (.dK kvs))(hl:kvs.length<sizeLine):lH H a (kV k) v (upd H a (.dK (d8 kvs k v))):=.inl ⟨kvs,k,e,rfl,hl,rfl⟩
section
variable{X:Cx}{ae:List (Addr×Obj)}{σ:St}{H:Hp}{s:Shared}{a:Addr}{y v:V}{u r:Value}{o:Option V}{A:Around}{E:Value->Shared->Prop}
def Inv.big(I:Inv X ae σ H s):sysModules<s.heap.objs.size:=by
 have h:=(I.mod.glob.keeps I.bk).lt;exact lQ tD h
def zbd(hu:A.units+1<cLine)(I:Inv X ae σ H s)(g:dj H a y (some v))(ry:RelV y u)(h:∀w' s',Inv X ae σ H s'->RelV v w'->Q w' s') :
  wpAny (model X.prog X.w) A (getItem (.ref a) u) Q E s:=by
 rcases g with ⟨kvs,k,e,ey,l⟩|⟨kvs,k,b,e,ey,eb,l⟩
 ·subst ey;obtain⟨z,hd,vs,rel,dd⟩:=sE I.hok e;obtain⟨w',hw,hJ⟩:=gP.some_of (v:=v) (o:=valueAt vs k) (by rw[l];exact rel.val k);exact wpAny_getItem_of (u5 ry) dd.mapOf hw (h w' _ (I.tok _) hJ)
 ·subst ey;cases (show u=Value.ref b from ry);obtain⟨z,hd,xs,rel,dd⟩:=uE I.hok e;obtain⟨w',hw,hJ⟩:=gP.some_of (v:=v) (o:=(atKey xs k).map (·.2)) (by rw[l];exact rel.val k);obtain⟨p,hp,cg⟩:=B8.mp hw;refine wpAny_getItem_heap (AB hu) (xV I.hok eb) dd hp ?_;rw[cg];exact h w' _ (I.tok _) hJ
def zdd(hu:A.units+1<cLine)(I:Inv X ae σ H s)(g:dj H a y o)(ry:RelV y u)(h:∀s',Inv X ae σ H s'->Q (.bool (!o.isSome)) s') :
  wpAny (model X.prog X.w) A (compareOp .NotIn u (.ref a)) Q E s:=by
 rcases g with ⟨kvs,k,e,ey,l⟩|⟨kvs,k,b,e,ey,eb,l⟩
 ·subst ey;obtain⟨z,hd,vs,rel,dd⟩:=sE I.hok e;refine wpAny_notIn_of (u5 ry) hd dd.mapOf ?_;rw[<- (rel.val k).isSome_eq,<-l];exact h _ (I.tok _)
 ·subst ey;cases (show u=Value.ref b from ry);obtain⟨z,hd,xs,rel,dd⟩:=uE I.hok e;refine wpAny_notIn_heap (AB hu) (xV I.hok eb) hd dd ?_;have q:=(rel.val k).isSome_eq;rw[A3]at q;rw[<-q,<-l];exact h _ (I.tok _)
def HW(I:Inv X ae σ H s)(mu:xh (H a))(hs:Heap.SameBut a s.heap h')(he:∃q,h'.get? a=some q)(new:dq X.prog X.w (upd H a ob) h' a ob) :
  Inv X ae σ (upd H a ob) {s with heap:=h',toks:=t'} :=
 I.write (x:=a) (e:=a) mu (.inl rfl) (λb q hb z=>(hs.2 b hb).trans z) he new
def RF(z:kvs.length<=sizeLine)(hd:(a == sysModules)=false)(rel:KV kvs vs)(dd:h'.DictOf (gi P w) a vs) :
  dq P w H' h' a (.dK kvs):=⟨z,hd,vs,rel,dd⟩
def zeM(hu:A.units+1<cLine)(I:Inv X ae σ H s)(g:lH H a y v H')(ry:RelV y u)(rv:RelV v r)(h:∀s',Inv X ae σ H' s'->Q () s') :
  wpAny (model X.prog X.w) A (setItem (.ref a) u r) Q E s:=by
 rcases g with ⟨kvs,k,e,ey,l,eH⟩|⟨kvs,k,b,e,ey,eb,l,eH⟩
 ·subst ey eH;obtain⟨z,hd,vs,rel,dd⟩:=Bz I.hok e;have hz:vs.length<=sizeLine:=by rw[<-rel.length];exact z
  have hl:(d8 kvs k v).length<=sizeLine:=by have:=Jf kvs k v;lia
  refine wpAny_setItem_pairs (hsz:=hz) (u5 ry) dd λh' ix hs=>h _ ?_
  have he:∃q,h'.get? a=some q:=let ⟨q,_,_,hq,_⟩:=ix; ⟨q,hq⟩
  exact HW I (by rw[e];exact True.intro) hs he (RF hl hd (rel.put k rv) ix)
 ·subst ey eH;cases (show u=Value.ref b from ry);obtain⟨z,hd,xs,rel,dd⟩:=zbl I.hok e;have hz:xs.length<=sizeLine:=by rw[<-eV rel];exact z
  have hl:(d8 kvs k v).length<=sizeLine:=by have:=Jf kvs k v;lia
  refine wpAny_setItem_heap (hsz:=hz) (AB hu) (xV I.hok eb) dd λh' ix hs=>h _ ?_
  obtain⟨q,es,ep,hq,h2,h3,h4,_,h5⟩:=ix;refine HW I (by rw[e];exact True.intro) hs ⟨q,hq⟩ ⟨hl,hd,_,(rel.put k eb rv).keeps λc ys ec=>?_,q,es,ep,hq,h2,h3,h4,h5⟩;rw[aS (SF ec e (λz=>nomatch z))];exact ec
end
def Bv(i:Expr):Prop:=∀ov iv,subscripted i false ov iv=operate [ov,iv] (getItem ov iv)
def MU{prog:Program}{w:World}{A:Around}{E:Value->Shared->Prop}{s:Shared}{env:Env}{value slice:Expr}{pos:Pos}{T id:String}{Q:Value->Shared->Prop}
  (hl:typeLookup (.type T) "__getitem__" = pure (some (.builtin id))) (hs:Bv slice)
  (h:wpAny (model prog w) A (eval value env) (λo s₁=>wpAny (model prog w) A (eval slice env) (λi s₂=>s₂.TypeIs o T/\wpAny (model prog w) A (getItem o i) Q E s₂) E s₁) E s) :
  wpAny (model prog w) A (eval (.Subscript value slice pos) env) Q E s:=by
 refine Ba (dS h (λo s₁ h₁=>dS h₁ (λi s₂ h₂=>?_) λ_ _ x=>x) λ_ _ x=>x);obtain⟨hT,h₂⟩:=h₂;refine au ?_;rw[getitemInPython_of_ne hT.not_modules];refine au (wpAny_specialOf hT hl ?_);have fin:wpAny (model prog w) A (subscripted slice false o i) (λr s₃=>wpAny (model prog w) A (letTemporaryGo value o r >>= λ_=>pure r) Q E s₃) E s₂:=by
  rw[hs o i];exact wpAny_operating (dS h₂ (λr s₃ h₃=>au (wpAny_letTemporaryGo (aJ h₃))) λ_ _ x=>x)
 first
  |exact aJ (au fin)
  |exact au (aJ (au fin))
  |exact au fin
def zbh(I:Inv X ae σ H s)(g:dj H a y o):s.TypeIs (.ref a) "dict" := by
 rcases g with ⟨kvs,k,e,_,_⟩|⟨kvs,k,b,e,_,_,_⟩
 ·obtain⟨_,_,vs,_,dd⟩:=sE I.hok e;exact dd.typeIs
 ·obtain⟨_,_,xs,_,dd⟩:=uE I.hok e;exact dd.typeIs
def zdr(td ty:TE):TE:=λσ H Q=>td σ H λx H1=>ty σ H1 λy H2=>∃a v,x=.ref a/\dj H2 a y (some v)/\Q v H2
def zcb(ty td:TE):TE:=λσ H Q=>ty σ H λy H1=>td σ H1 λx H2=>∃a o,x=.ref a/\dj H2 a y o/\Q (.bl (!o.isSome)) H2
def XD(td ty tv:TE):TS:=λD σ H=>tv σ H λv H1=>td σ H1 λx H2=>ty σ H2 λy H3=>∃a H4,x=.ref a/\lH H3 a y v H4/\D.nx σ H4
section
variable{X:Cx}{o i e value:Expr}{pos pos' WE:Pos}{td ty tv:TE}
def Vh(hu:X.A.units+1<cLine)(ho:PE X o td)(hi:PE X i ty)(hs:Bv i):PE X (.Subscript o i pos) (zdr td ty):=by
 intro ae s σ H Q I h;refine MU PySem.F.slot_dict_getitem.lookup hs (aO (ho ae s σ H _ I h) ?_);rintro u s1 ⟨x,H1,I1,rx,q1⟩;refine aO (hi ae s1 σ H1 _ I1 q1) ?_;rintro iv s2 ⟨y,H2,I2,ry,a,v,ex,g,q2⟩;subst ex;obtain rfl:u=Value.ref a:=rx;nomatch zbh I2 g,zbd hu I2 g ry λw' s3 I3 hJ=>⟨v,H2,I3,hJ,q2⟩
def wX(hu:X.A.units+1<cLine)(hi:PE X i ty)(ho:PE X o td):PC X .NotIn i o (zcb ty td):=by
 intro ae s σ H Q I h;refine aO (hi ae s σ H _ I h) ?_;rintro iv s1 ⟨y,H1,I1,ry,q1⟩;refine aO (ho ae s1 σ H1 _ I1 q1) ?_;rintro u s2 ⟨x,H2,I2,rx,a,ov,ex,g,q2⟩;subst ex;obtain rfl:u=Value.ref a:=rx;exact zdd hu I2 g ry λs3 I3=>⟨.bl (!ov.isSome),H2,I3,rfl,q2⟩
def rP(hu:X.A.units+1<cLine)(ho:PE X o td)(hi:PE X i ty)(hv:PE X value tv)(hs:swapsWith value (some (.Subscript o i pos')) pos.line X.env=pure false) :
  PS X (.Assign [.Subscript o i pos'] value pos) (XD td ty tv):=by
 intro ae s σ H D I h;refine wpAny_Assign_Subscript (aO (hv ae s σ H _ I h) ?_) hs;rintro r s1 ⟨v,H1,I1,rv,q1⟩;refine aO (ho ae s1 σ H1 _ I1 q1) ?_;rintro u s2 ⟨x,H2,I2,rx,q2⟩;refine aO (hi ae s2 σ H2 _ I2 q2) ?_;rintro iv s3 ⟨y,H3,I3,ry,a,H4,ex,g,q3⟩;subst ex;obtain rfl:u=Value.ref a:=rx;exact zeM hu I3 g ry rv λs4 I4=>⟨σ,H4,I4,q3⟩
end
def Jm(h:Heap)(hb:sysModules<h.objs.size):dq P w H (h.push {cls:=.type "dict",data:=.dict #[]}) h.objs.size (.dK []) :=
 ⟨bM _,Ay.mpr (Ne.symm (dy hb)),[],.nil,Ob h⟩
def zaP:TE:=λ_ H Q=>∀p,H p=none->Q (.ref p) (upd H p (.dK []))
section
variable{X:Cx}{pos:Pos}
def rY:PE X (.Dict [] [] pos) zaP:=λae s σ H Q I h =>
 wpAny_Dict_empty ⟨.ref s.heap.objs.size,_,I.laid (a:=s.heap.objs.size) (o:=.dK []) (t':=s.toks) (λ_ _ q=>cq _ q) (aT _) (Jm s.heap I.big),rfl,h _ (I.hok.fresh (aT _))⟩
end
structure M1(X:Cx)(o:Expr)(m:Str)(dY:Pos)(e:Expr)(cD:Pos):Prop where
 base:attributeBase o m X.env (eval o X.env)=eval o X.env
 few:((backTo cD (starEach [e] X.env)).all (fun x => !x.1) && (backToKw cD (keywordEach [] X.env)).all (fun x=>x.1.isSome) && decide (([e]:List Expr).length+([]:List Keyword).length+(if ([]:List Keyword).isEmpty then 0 else 1)<30))=true
 line:(dY.endLine == cD.line)=true
 trees:backTo cD (starEach [e] X.env)=[(false,eval e X.env)]
structure M2(X:Cx)(o:Expr)(m:Str)(dY:Pos)(e f:Expr)(cD:Pos):Prop where
 base:attributeBase o m X.env (eval o X.env)=eval o X.env
 few:((backTo cD (starEach [e,f] X.env)).all (fun x => !x.1) && (backToKw cD (keywordEach [] X.env)).all (fun x=>x.1.isSome) && decide (([e,f]:List Expr).length+([]:List Keyword).length+(if ([]:List Keyword).isEmpty then 0 else 1)<30))=true
 line:(dY.endLine == cD.line)=true
 trees:backTo cD (starEach [e,f] X.env)=[(false,eval e X.env),(false,eval f X.env)]
def P6(H:Hp)(a:Addr):Prop:=(∃kvs,Rd H a (.dK kvs))\/∃kvs,Rd H a (.dT kvs)
def zem(I:Inv X ae σ H s)(d:P6 H a) :
  s.TypeIs (.ref a) "dict" /\ (∀b,Value.ref a=.ref b->∃ob,s.heap.get? b=some ob/\ob.dict=none)/\(a == sysModules)=false:=by
 rcases d with ⟨kvs,e⟩|⟨kvs,e⟩
 ·obtain⟨_,hd,vs,_,dd⟩:=sE I.hok e;exists dd.typeIs,λb q=>?_,hd;cases q;obtain⟨ob,_,_,h1,h2,_⟩:=dd;nomatch ob,h1,h2.2.1
 ·obtain⟨_,hd,xs,_,dd⟩:=uE I.hok e;exists dd.typeIs,λb q=>?_,hd;cases q;obtain⟨ob,_,_,h1,h2,_⟩:=dd;nomatch ob,h1,h2.2.1
section
variable{X:Cx}{ae:List (Addr×Obj)}{σ:St}{H:Hp}{s:Shared}{a:Addr}{y d:V}{u r:Value}{o:Option V}{A:Around}{E:Value->Shared->Prop}
def Zv(hu:A.units+1<cLine)(I:Inv X ae σ H s)(g:dj H a y o)(ry:RelV y u)(rd:RelV d r)(h:∀w' s',Inv X ae σ H s'->RelV (o.getD d) w'->Q w' s') :
  wpAny (model X.prog X.w) A (call (.builtin "dict.get") [.ref a,u,r]) Q E s:=by
 rcases g with ⟨kvs,k,e,ey,l⟩|⟨kvs,k,b,e,ey,eb,l⟩
 ·subst ey;obtain⟨z,hd,vs,rel,dd⟩:=sE I.hok e;refine call_meetsIn wK dd.typeIs Fy (L7 _ _ _) (meets_dict_get_default (gi X.prog X.w) a (u5 ry) hd r) ⟨_,dd.mapOf,h _ _ (I.tok _) ?_⟩;rw[l];exact (rel.val k).getD rd
 ·subst ey;cases (show u=Value.ref b from ry);obtain⟨z,hd,xs,rel,dd⟩:=uE I.hok e;refine call_meetsIn wK dd.typeIs Fy (L7 _ _ _) (meetsH_dict_get_default (tupleKind (gi X.prog X.w)) a b hd r) ⟨AB hu,k,xs,xV I.hok eb,dd,h _ _ (I.tok _) ?_⟩;rw[l];exact (rel.val k).getD rd
end
def Vo(td ty tx:TE):TE:=λσ H Q=>td σ H λx H1=>∃a,x=.ref a/\P6 H1 a/\ty σ H1 λy H2=>tx σ H2 λz H3=>∃o,dj H3 a y o/\Q (o.getD z) H3
section
variable{X:Cx}{o e f:Expr}{dY cD:Pos}{td ty tx:TE}
def sh(hu:X.A.units+1<cLine)(ho:PE X o td)(he:PE X e ty)(hf:PE X f tx)(m:M2 X o "get" dY e f cD):PE X (.Call (.Attribute o "get" dY) [e,f] [] cD) (Vo td ty tx):=by
 intro ae s σ H Q I h;refine wpAny_Call_method m.base m.few m.line Kp wK P2 (aO (ho ae s σ H _ I h) ?_);rintro u s1 ⟨x,H1,I1,rx,a,ex,d,q1⟩;subst ex;obtain rfl:u=Value.ref a:=rx;obtain⟨t1,t2,_⟩:=zem I1 d;exists t1,t2,?_;rw[m.trees];refine AX rfl (Bi (BP (aO (he ae s1 σ H1 _ I1 q1) λiv s2 ⟨y,H2,I2,ry,q2⟩ =>
  BP (aO (hf ae s2 σ H2 _ I2 q2) λfv s3 ⟨z,H3,I3,rz,ov,g,q3⟩=>HZ ?_))))
 exact Zv hu I3 g ry rz λw' s4 I4 hJ=>⟨_,H3,I4,hJ,q3⟩
end
end L2
namespace Att
open PySem PySem.W PySem.Calls PyProof.Rows
def Zr:∀(ns:List Int) (vs:List Value),WellAll P h vs (ns.map WData.int)->IntsAre vs ns:=by
 intro ns;induction ns with
 |nil =>
  intro vs w;rw[pD]at w;cases w;exact .nil
 |cons n ns ih =>
  intro vs w;rw[bN]at w;cases w with
  |cons a b =>
   cases a;exact .cons _ _ (ih _ b)
def script_of{l:OpenLaw}{n:Nat}(hn:l.most=some n){P:Params}{h:Heap}{args:List WData}{vals:List Value}
  (Aa:l.row.toRowW.claim.pre args=true) (fu:WellAll P h vals args) :
  ∃a vs ns,vals=[Value.ref a]/\args=[WData.list (ns.map WData.int)]/\h.get? a=some {cls:=.type "list",data:=.seq vs.toArray}/\IntsAre vs ns/\ns.length<=n:=by
 have UB:=(pre_splitW Aa).1;have hc:=(pre_splitW Aa).2;obtain⟨d,r,rfl,h1,h2⟩:=hasAllW_cons UB;obtain rfl:=hasAllW_nil h2;obtain⟨xs,rfl,h3⟩:=hasW_list h1;obtain⟨ns,rfl⟩:=items_int h3;have aK:ns.length<=n:=by
  have h4:(WTm.not (.lt (.lit (.int (n:Int))) (.len (.arg 0)))).holds [] {args:=[.list (ns.map .int)]}=true:=by
   have h4:=(holds_andW hc).1;rw[hn]at h4;exact h4
  have h5:=condW_of h4 (w_not (w_lt w_lit (w_len_list (w_arg rfl))));rw[ax]at h5;refine Nat.le_of_not_lt λq=>?_
  have q':(n:Int)<((ns.length:Nat):Int):=by omega
  first
   |(rw[aU q']at h5;exact absurd h5 tD)
   |(simp at h5;omega)
 cases fu with
 |cons w1 w2 =>
  cases w2;cases w1 with
  |list ho mv=>nomatch _,_,ns,rfl,rfl,ho,Zr ns _ mv,aK
def post_true(l:OpenLaw)(args:List WData):l.row.toRowW.claim.post args (.bool true) args=true :=
 postW_of (r:=l.row.toRowW) (X:=(true == true))
  (show WShape.has [] (.bool true) .bool=true by first|rfl|decide|simp[WShape.has,WShape.arms,WShape.armsAll])
  (show (WTm.eq .res (.lit (.bool true))).value [] {args:=args,res:=some (.bool true),after:=args}=some (.bool (true == true)) from w_eq_bool (w_res rfl) w_lit) rfl
end Att
namespace L2
open PySem PySem.Spec PyProof.Rows
theorem Ic:∀{vs:List Value}{ns:List Int},IntsAre vs ns->Vals (ns.map V.int) vs
 |_,_,.nil=>.nil
 |_,_,.cons n t h=>.cons ⟨t,rfl⟩ (Ic h)
def Cz(H:Hp):Prop:=∀b,H b=none\/∃o xs,H b=some (.frz o (.lst xs))
set_option tactic.hygienic true in
def zeI{P:Program}{w:World}{K:Frag}{mg mb:Str->Option Value}{CX:mf}{k:Nat}{fa a:Addr}{fd:FuncData}{x:Str}{sp:Sp}{s₁:Shared}{vs:List Value}{ns:List Int}
  (KX:K.In s₁.heap) (kT:s₁.heap.Ns mainGlobals mg) (hb:s₁.heap.Ns builtinsNs mb) (Xf:∀x:Str,x ≠ "__name__" -> mb x=bootBuiltins x) (hlim:s₁.heap.NoLimit) (hg:s₁.gens = #[])
  (ha:s₁.heap.get? a=some {cls:=.type "list",data:=.seq vs.toArray}) (hi:IntsAre vs ns) (hl:ns.length<=sizeLine) (hr:cN k callerA)
  (F:∀base:Heap,K.In base->base.Ns mainGlobals mg->ja P w K mg base CX k fa fd [x] sp) (hbind:∀(s:Shared) (u:Value),BindsTo s fd ⟨[u],[]⟩ [(x,u)])
  (iF:∀H:Hp,Cz H->aj K H a (ns.map V.int)->sp [.ref a] H (λv _=>v=.bl true) λ_ _ _=>False)
  (FJ:∀H e s',CX [] H s₁ (λ_ _ _=>False) e s'->False) :
  codeAny (model P w) callerA (.call (.ref fa) ⟨[.ref a],[]⟩) (λr s'=>r=.ok (.ret (.bool true))/\OldK s₁.heap s'.heap/\s'.os=s₁.os/\AllBare s'.gens) s₁:=by
 have rv:=Ic hi;have lenV:=hi.length;have core:∀H:Hp,Cz H->aj K H a (ns.map V.int)->cW P w H s₁.heap->(∀b,H b≠none->b=a)->(H a≠none->K.lookup a=none) ->
   codeAny (model P w) callerA (.call (.ref fa) ⟨[.ref a],[]⟩) (λr s'=>r=.ok (.ret (.bool true))/\OldK s₁.heap s'.heap/\s'.os=s₁.os/\AllBare s'.gens) s₁:=by
  intro H hO hS hok hA hK;have Qp:∀{b:Addr}{o:Obj},s₁.heap.get? b=some o->H b=none->(n8 s₁.heap H).get? b=some o:=λe n=>zdT e n
  have vj:∀{b:Addr}{o:Obj}{es:Array DictEntry}{ep:Nat},s₁.heap.get? b=some o->o.data=.dict es ep->H b=none:=fun {b o es ep} e d=>by grind
  have BS:∀{b:Addr}{m:Str->Option Value},s₁.heap.Ns b m->(n8 s₁.heap H).Ns b m:=fun {b m} ⟨o,es,ep,e,d,r⟩=>⟨o,es,ep,Qp e (vj e d),d,r⟩
  have RO:K.In (n8 s₁.heap H):=λb o e=>Qp (KX b o e) (by grind)
  have hM:Mod K mg (n8 s₁.heap H):=⟨RO,BS kT,⟨mb,BS hb,Xf⟩,let ⟨mc,h1,h2⟩:=hlim; ⟨mc,BS h1,h2⟩⟩;have e0:qI P w K mg (n8 s₁.heap H) callerA [] s₁ H:=⟨rfl,hM,λb o e=>zan e,EK (ze1 _ _),trivial,λb hb=>absurd (show b∈([]:List Addr) from hb) tS,hok,.of_eq hg⟩;refine rV ((F _ RO (BS kT)).run callerA [] s₁ H ⟨[.ref a],[]⟩ [.ref a] [.ref a] _ _ hr e0 (hbind s₁ (.ref a)) (.cons rfl .nil) (iF H hO hS)) λr s' h=>?_
  cases r with
  |error e=>exact (FJ H e s' h).elim
  |ok fl =>
   cases fl with
   |next=>exact False.elim h
   |brk=>exact False.elim h
   |cont=>exact False.elim h
   |ret u =>
    obtain⟨v,H',os,bare,un,p8,r',q⟩:=h;have q':=q;subst q';obtain rfl:u=Value.bool true:=r';exists rfl,OldK.of_keep λb o e=>?_,os,bare;cases q:H b with
    |none=>exact un.keep b o e q (by intro z;exact absurd (show b∈([]:List Addr) from z) tS) tS
    |some u =>
     rcases hO b with z|⟨ob,xs,z⟩
     ·rw[q]at z;cases z
     ·have z2:=un.frzs b ob _ z;obtain⟨e1,_⟩:=hok b _ z;obtain⟨e2,_⟩:=p8 b _ z2;rw[e]at e1;cases e1;exact e2
 cases hk:K.lookup a with
 |some o =>
  have e:=KX a o hk;rw[ha]at e;cases e;refine core (λ_=>none) (λ_=>.inl rfl) (.inr ⟨_,vs.toArray,_,hk,rfl,rfl,rfl,by simp_all,by simpa using rv⟩) (λb u z=>by simp_all) (λb z=>absurd rfl z) λz=>absurd rfl z
 |none =>
  refine core (λb=>if b=a then some (.frz {cls:=.type "list",data:=.seq vs.toArray} (.lst (ns.map V.int)))else none) (λb=>?_) (.inl (.inr ⟨{cls:=.type "list",data:=.seq vs.toArray},aC rfl⟩)) (λb u z=>?_) (λb z=>?_) λ_=>hk
  ·by_cases hb:b=a
   ·exact .inr ⟨_,_,aC hb⟩
   ·exact .inl (av hb)
  ·by_cases hb:b=a
   ·have z':=(aC hb).symm.trans z;cases z';subst hb;nomatch ha,by simp_all,vs,_,rv,ha
   ·have z':=(av hb).symm.trans z;cases z'
  ·by_cases hb:b=a
   ·exact hb
   ·exact absurd (av hb) z
abbrev pd:mf:=λ_ _ _ _ _ _=>False
abbrev E0:XK:=λ_ _ _=>False
def SV:sq pd X E0:=λ_ _ _ _ _ _ _ h=>h.elim
structure ny(K:Frag)(x qual:Str)(st:Stmt)(f:Addr)(fd:FuncData):Prop where
 ex:∃(oc:Value) (od:Option Addr) (kV doc pm:Value) (an:Option Addr) (bZ ct:Value) (nU:Array (Option Value)),
  fd=PySem.W.fnOf x qual (wI st) (lP st) (cK st) .none kV doc pm an bZ ct/\K.lookup f=some ⟨oc,od,.func fd,nU⟩/\PySem.W.codeIn K bZ qual=true
 kp:PySem.W.keepIn K (.ref f)=true
section
variable{P:Program}{w:World}{K:Frag}{mg:Str->Option Value}{base:Heap}
def ny.ok{x qual:Str}{st:Stmt}{f:Addr}{fd:FuncData}{N ps:List Str}{k:Nat}{sp:Sp}(F:ny K x qual st f fd)(S:oW N ps (cK st))(len:∀vs H Q E,sp vs H Q E->vs.length=ps.length)
  (Eg:∀ (bZ:Value) (A:Around) (outer:List Env) (s:Shared) (H:Hp) (vs:List V) (Q:VK) (E:XK),cN k (A.deeper (envOfC qual (cK st) s.heap.objs.size f bZ))->sp vs H Q E -> ∃t,fA (j1 pd P w K mg base N qual (cK st) f bZ A outer s H E).nox (lP st) t/\t {nx:=λ_ H'=>Q .non H',rt:=Q} (start N vs) H):ja P w K mg base pd (k+1) f fd ps sp:=by
 obtain⟨oc,od,kV,doc,pm,an,bZ,ct,nU,rfl,lk,kh⟩:=F.ex;refine JI lk kh S len λA outer s H vs Q E hr iF=>?_
 obtain⟨t,h,q⟩:=Eg bZ A outer s H vs Q E hr iF;nomatch t,h.nox,q
def YT{x qual:Str}{st:Stmt}{f:Addr}{oc:Value}{od an:Option Addr}{nU:Array (Option Value)}{kV doc pm bZ ct:Value}(l:K.lookup f=some ⟨oc,od,.func (PySem.W.fnOf x qual (wI st) (lP st) (cK st) .none kV doc pm an bZ ct),nU⟩)
  (c:PySem.W.codeIn K bZ qual=true) (k:PySem.W.keepIn K (.ref f)=true):ny K x qual st f (PySem.W.fnOf x qual (wI st) (lP st) (cK st) .none kV doc pm an bZ ct):=⟨⟨oc,od,kV,doc,pm,an,bZ,ct,nU,rfl,l,c⟩,k⟩
end
def RG(hr:cN k A):A.units+1<cLine:=jm (Bq (by decide:1<=64) _) hr.units
section
variable{X:Cx}
def pv(i:Nat)(hN:X.N[i]?=some x:=by rfl)(hv:u4 X.env.scope x:=by first|exact Or.inl rfl|exact Or.inr (Or.inl rfl)|exact Or.inr (Or.inr rfl))(hd:(x == ("__debug__" : Str))=false:=by decide)
  (kh:(x == ("__classdict__" : Str))=false:=by decide):PE X (.Name x pos) (me i):=OZ hN hv hd kh
end
def gn{A B:Prop}(h:B):if false=true then A else B:=by assumption
def eh{A B:Prop}(h:A):if true=true then A else B:=by assumption
def dD{c A B:Prop}[Decidable c](h1:c->A)(h2:¬c->B):if c then A else B:=by simp_all
def Kh{c A B:Prop}[Decidable c](hc:c)(h:B):if (!decide c)=true then A else B:=by simp_all
def af(H H':Hp):Prop:=∀b o,H b=some o->H' b=some o
def af.refl(H:Hp):af H H:=λ_ _ h=>h
def af.trans(a:af H H1)(b:af H1 H2):af H H2:=λc o h=>b c o (a c o h)
def af.free(e:af H H')(h:H' l=Option.none):H l=Option.none:=by
 cases q:H l with
 |none=>rfl
 |some o =>
  rw[e l o q]at h;cases h
def af.seq{K:Frag}{H H':Hp}{a:Addr}{xs:List V}(e:af H H')(h:aj K H a xs):aj K H' a xs:=by
 rcases h with (h|⟨o,h⟩)|h
 ·exact .inl (.inl (e _ _ h))
 ·exact .inl (.inr ⟨o,e _ _ h⟩)
 ·exact .inr h
section
variable{κ:Type}[DecidableEq κ]
theorem Rx:∀{l:List κ}{k:κ},l.Nodup->¬k∈l->(l++[k]).Nodup
 |[],k,_,_=>by simp
 |a::r,k,h,hk=>by
  obtain⟨h1,h2⟩:=j7.mp h;refine j7.mpr ⟨λm=>?_,Rx h2 λm=>hk (bC.mpr (Or.inr m))⟩;rcases bA.mp m with q|q
  ·exact h1 q
  ·exact hk (bC.mpr (Or.inl (bw.mp q).symm))
end
end L2
namespace OF
abbrev aq:=List (Int×Int)
noncomputable def aL:aq->Int->Int
 |[],_=>0
 |p::r,k=>(if p.1=k then p.2 else 0)+aL r k
structure IsForm(f:aq):Prop where
 rise:f.Pairwise (λa b=>a.1<b.1)
 nz:∀p∈f,p.2≠0
theorem cG:∀(a b:aq) (k:Int),aL (a++b) k=aL a k+aL b k
 |[],b,k=>by simp[aL]
 |p::r,b,k=>by
  have ih:=cG r b k;simp only[yQ,aL,ih];lia
def YH(a:aq)(p:Int×Int)(k:Int):aL (a++[p]) k=aL a k+(if p.1=k then p.2 else 0):=by
 rw[cG];simp[aL]
theorem nL:∀(a:aq) (k:Int),aL (a.map λp=>(p.1,-p.2)) k = -aL a k
 |[],_=>rfl
 |p::r,k=>by
  simp only[bN,aL,nL r k];split<;>lia
theorem nF(n:Int):∀(a:aq) (k:Int),aL (a.map λp=>(p.1,n*p.2)) k=n*aL a k
 |[],k=>by simp[aL]
 |p::r,k=>by
  simp only[bN,aL,nF n r k,yX];split<;>simp
theorem uf:∀(a:aq) (k:Int),(∀p∈a,p.1≠k)->aL a k=0
 |[],_,_=>rfl
 |p::r,k,h=>by
  have h1:=h p tS;simp only[aL,av h1,uf r k λq hq=>h q (by simp[hq])];rfl
def sv(h:∀q∈r,p.1<q.1):aL (p::r) p.1=p.2:=by
 simp only[aL,aC];rw[uf r p.1 λq hq=>LF (h q hq)];lia
theorem NH:∀{f g:aq},IsForm f->IsForm g->(∀k,aL f k=aL g k)->f=g
 |[],[],_,_,_=>rfl
 |[],q::s,_,hg,h=>by
  have h1:=pf.mp hg.rise;have h2:=h q.1;rw[sv h1.1]at h2;exact absurd h2.symm (hg.nz q tS)
 |p::r,[],hf,_,h=>by
  have h1:=pf.mp hf.rise;have h2:=h p.1;rw[sv h1.1]at h2;exact absurd h2 (hf.nz p tS)
 |p::r,q::s,hf,hg,h=>by
  have f1:=pf.mp hf.rise;have g1:=pf.mp hg.rise;have mr:p.1=q.1:=by
   rcases Int.lt_trichotomy p.1 q.1 with hl|he|hl
   ·have h2:=h p.1;rw[sv f1.1,uf (q::s) p.1 (λz hz=>by grind)]at h2;exact absurd h2 (hf.nz p tS)
   ·exact he
   ·have h2:=h q.1;rw[sv g1.1,uf (p::r) q.1 (λz hz=>by grind)]at h2;exact absurd h2.symm (hg.nz q tS)
  have hv:p.2=q.2:=by
   have h2:=h p.1;rw[sv f1.1,mr,sv g1.1]at h2;exact h2
  have e:=Cm mr hv;subst e;have ih:=NH (f:=r) (g:=s) ⟨f1.2,λz hz=>hf.nz z (by simp[hz])⟩ ⟨g1.2,λz hz=>hg.nz z (by simp[hz])⟩ λk=>by
   have h2:=h k;simp only[aL]at h2;lia
  rw[ih]
noncomputable def look:aq->Int->Option Int
 |[],_=>none
 |p::r,k=>if p.1=k then some p.2 else look r k
def cB(d:aq)(k:Int):Int:=(look d k).getD 0
noncomputable def fh(d:aq)(k v:Int):aq:=if (d.any λp=>decide (p.1=k))=true then d.map (λp=>if p.1=k then (p.1,v)else p)else d++[(k,v)]
theorem wR(k:Int):∀d:aq,(d.any λp=>decide (p.1=k))=(look d k).isSome
 |[]=>rfl
 |p::r=>by
  rw[qo,look];by_cases e:p.1=k
  ·simp[e]
  ·simp[e,wR k r]
theorem OI(k j v:Int):∀d:aq,look (d.map λp=>if p.1=k then (p.1,v)else p) j=(look d j).map λx=>if j=k then v else x
 |[]=>rfl
 |p::r=>by
  have ih:=OI k j v r;rw[bN];by_cases h:p.1=k
  ·rw[aC h];by_cases e:p.1=j
   ·simp[look,e,show j=k from e.symm.trans h]
   ·simp[look,e,ih]
  ·rw[av h];by_cases e:p.1=j
   ·simp[look,e,show ¬j=k from λz=>h (e.trans z)]
   ·simp[look,e,ih]
theorem Pu(k j v:Int):∀d:aq,look d k=none->look (d++[(k,v)]) j=if j=k then some v else look d j
 |[],_=>by
  by_cases e:k=j
  ·simp[look,e]
  ·simp[look,e,show ¬j=k from λz=>e z.symm]
 |p::r,hn=>by
  have hk:¬p.1=k:=λz=>by simp[look,z]at hn
  have qW:look r k=none:=by simpa [look,hk] using hn
  have ih:=Pu k j v r qW;rw[yQ];by_cases e:p.1=j
  ·simp[look,e,show ¬j=k from λz=>hk (e.trans z)]
  ·simp[look,e,ih]
def Bw(d:aq)(k j v:Int):look (fh d k v) j=if j=k then some v else look d j:=by
 unfold fh;by_cases a:(d.any λp=>decide (p.1=k))=true
 ·rw[aC a,OI];rw[wR]at a;by_cases e:j=k
  ·obtain⟨x,hx⟩:=KZ.mp a;rw[e,hx];simp
  ·rw[av e];cases look d j<;>simp[e]
 ·rw[av a];refine Pu k j v d ?_;rw[wR]at a;cases q:look d k with
  |none=>rfl
  |some x=>rw[q]at a;exact (a rfl).elim
def MT(d:aq)(k v:Int):(fh d k v).length<=d.length+1:=by
 unfold fh;split
 ·rw[ax];lia
 ·simp
def ud:look d k≠none↔k∈d.map (·.1):=by
 induction d with
 |nil=>simp[look]
 |cons p r ih =>
  rw[bN,bC,look];by_cases e:p.1=k
  ·simp[e]
  ·have e':¬k=p.1:=λz=>e z.symm
   simp only[av e];rw[ih];simp[e']
def vD(d:aq)(k v:Int):(fh d k v).map (·.1)=if (look d k).isSome then d.map (·.1)else d.map (·.1)++[k]:=by
 unfold fh;rw[wR];by_cases a:(look d k).isSome=true
 ·rw[aC a,aC a,fk];congr 1
  funext p
  simp only[Function.comp];split<;>rfl
 ·rw[av a,av a,aQ];rfl
def QS(k v:Int)(h:(d.map (·.1)).Nodup):((fh d k v).map (·.1)).Nodup:=by
 rw[vD];by_cases a:(look d k).isSome=true
 ·rw[aC a];exact h
 ·rw[av a];have hk:¬k∈d.map (·.1):=λm=>a (by
   have:=ud.mpr m
   cases q:look d k with
   |none=>exact (this q).elim
   |some x=>rfl)
  exact FA.mpr ⟨h,tS,λa ha b hb=>by grind⟩
def zeT(d:aq)(k j v:Int):cB (fh d k v) j=if j=k then v else cB d j:=by
 unfold cB;rw[Bw];split<;>rfl
structure DictOf(d l:aq):Prop where
 nd:(d.map (·.1)).Nodup
 len:d.length<=l.length
 val:∀k,cB d k=aL l k
 src:∀k∈d.map (·.1),k∈l.map (·.1)
def A8:DictOf [] []:=⟨zt,aT _,λ_=>rfl,λ_ h=>h⟩
def DictOf.snoc(h:DictOf d l)(p:Int×Int):DictOf (fh d p.1 (cB d p.1+p.2)) (l++[p]):=by
 exists QS _ _ h.nd,?_,λk=>?_,λk hk=>?_
 ·have:=MT d p.1 (cB d p.1+p.2);have:=h.len;simp;lia
 ·rw[zeT,YH,<-h.val];by_cases e:k=p.1
  ·subst e;simp
  ·simp[e,show ¬p.1=k from λz=>e z.symm]
 ·rw[vD]at hk;rw[aQ,bA];split at hk
  ·exact .inl (h.src k hk)
  ·rcases bA.mp hk with hk|hk
   ·exact .inl (h.src k hk)
   ·exact .inr (by simpa using hk)
def dz(d:aq)(ks:List Int):aq:=(ks.filter λk=>decide (cB d k≠0)).map λk=>(k,cB d k)
theorem S7(d:aq):∀(ks:List Int),ks.Nodup->∀k,aL (dz d ks) k=if k∈ks then cB d k else 0
 |[],_,k=>by simp[dz,aL]
 |a::r,hn,k=>by
  have h1:=j7.mp hn;have ih:=S7 d r h1.2 k;have e0:dz d (a::r)=if cB d a≠0 then (a,cB d a)::dz d r else dz d r:=by
   unfold dz;rw[l7];by_cases e:cB d a=0<;>simp[e]
  rw[e0];by_cases e:a=k
  ·subst e;have:¬a∈r:=h1.1;by_cases z:cB d a=0
   ·simp[z,ih,this]
   ·simp[z,aL,ih,this]
  ·have e':¬k=a:=λz=>e z.symm
   by_cases z:cB d a=0
   ·simp[z,ih,e']
   ·simp[z,aL,ih,e,e']
def WN(d:aq)(h:ks.Pairwise (· < ·)):IsForm (dz d ks):=by
 exists ?_,λp hp=>?_
 ·unfold dz;rw[uk];exact (h.filter _)
 ·unfold dz at hp;obtain⟨k,hk,e⟩:=bp.mp hp;subst e;simpa using (gJ.mp hk).2
theorem OE:∀{ks:List Int},ks.Pairwise (· <= ·)->ks.Nodup->ks.Pairwise (· < ·)
 |[],_,_=>.nil
 |a::r,h,n=>by
  have h1:=pf.mp h;have n1:=j7.mp n;refine .cons (λb hb=>?_) (OE h1.2 n1.2)
  have:=h1.1 b hb
  have:a≠b:=λe=>n1.1 (e ▸ hb)
  lia
structure aZ(f l:aq):Prop extends IsForm f where
 val:∀k,aL f k=aL l k
 src:∀p∈f,p.1∈l.map (·.1)
set_option tactic.hygienic true in
def BX(h:DictOf d l)(hp:ks.Perm (d.map (·.1)))(hs:ks.Pairwise (· <= ·)):aZ (dz d ks) l:=by
 have nd:=hp.nodup_iff.mpr h.nd;exists WN d (OE hs nd),λk=>?_,λp hq=>?_
 ·rw[S7 d ks nd,<-h.val];split
  ·rfl
  ·rename_i hk;unfold cB
   have:look d k=none:=by
    cases q:look d k with
    |none=>rfl
    |some x=>exact (hk (hp.mem_iff.mpr (ud.mp (by rw[q];simp)))).elim
   rw[this];rfl
 ·unfold dz at hq;obtain⟨k,hk,e⟩:=bp.mp hq;subst e;exact h.src k (hp.mem_iff.mp (gJ.mp hk).1)
def aZ.unique(a:aZ f l)(b:aZ g m)(h:∀k,aL l k=aL m k):f=g :=
 NH a.toIsForm b.toIsForm λk=>by rw[a.val,b.val,h]
def aZ.self(h:IsForm f):aZ f f:=⟨h,λ_=>rfl,λp hp=>bp.mpr ⟨p,hp,rfl⟩⟩
def vW(d:aq)(ks:List Int):(dz d ks).length<=ks.length:=by
 unfold dz;rw[ax];exact lW _ _
end OF
namespace L2
open PySem PySem.Spec PyProof.Rows
section
variable{X:Cx}
def V4(i j:Int):Prop:=0<j/\j.natAbs.log2<9000
def gC:bV X (binaryOp .FloorDiv) (rI V4 λi j=>.int (i/j)):=sP λi j _ _ _ _ _ hc q=>by
 have h1:=hc.1;have e:=Int.fdiv_eq_ediv_of_nonneg i (Int.le_of_lt h1);exact floordiv_int (LF h1) (by rw[e];exact q) (.inl (PyProof.noPylong_of_log2 hc.2))
def fI:bV X (binaryOp .Mult) (rI IntMulOk λi j=>.int (i*j)):=sP λ_ _ _ _ _ _ _ hc q=>mul_int q hc
def ib{j:Int}(h1:0<j)(h2:j<2^250):0<j/\j.natAbs.log2<9000:=by
 exists h1,?_;have h3:j.natAbs<2^250:=by grind
 have h4:j.natAbs≠0:=by lia
 have:=(tP h4).mpr h3
 lia
def sJ(hc:X.calm=true):gx X (.builtin "sum") (λxs H Q=>∃(a:Addr) (ns:List Int),xs=[.ref a]/\aj X.K H a (ns.map V.int)/\Q (.int ns.sum) H):=by
 intro ae s σ H xs us Q I r h;obtain⟨a,ns,rfl,hq,q⟩:=h;obtain⟨u,rfl,ru⟩:=gO r;cases (show u=Value.ref a from ru);obtain⟨ah,rv,p,hz⟩:=I.list hq;have hi:=uH rv;obtain⟨zs,jE⟩:=hi.allInts.items;have hs:(PySem.numsOf ah.toArray.toList).sum=ns.sum:=by rw[show ah.toArray.toList=ah from rfl,hi.numsOf]
 rw[jE,PySem.nums_intItems]at hs;refine sum_intListG (I.ok.hd hc) (jE ▸ p.isList) λh' tk t' hk=>?_
 exists .int ns.sum,H,I.kept (t':=tk) hk,⟨t',?_⟩,q;rw[preSum_eq,kY tS,hs]
def zcI:V->List V->Hp->VK->Prop:=λx vs H Q=>∃l xs k y,x=.ref l/\vs=[.int (k:Nat),y]/\H l=some (.lst xs)/\k<=xs.length/\xs.length<sizeLine/\Q .non (upd H l (.lst (xs.take k++y::xs.drop k)))
def Tg:gT X "list.insert" zcI:=by
 intro ae s σ H x vs v us Q I rx rv h;obtain⟨l,xs,k,y,rfl,rfl,hH,hk,hz,q⟩:=h;cases rx;obtain⟨u,w',rfl,ru,hJ⟩:=rv.two;obtain⟨t,rfl⟩:=ru;obtain⟨z,ah,n,r,hl,e⟩:=I.lstM hH;have aK:=r.length;have EY:¬(!Builtin.List.listFitsIndex (k:Int))=true:=by
  have h1:(k:Int)<2^63:=by
   have:=qg
   have:k<2^63:=by lia
   exact_mod_cast this
  have h0:(0:Int)<=(k:Int):=iC _;simp[Builtin.List.listFitsIndex];omega
 have hsz:ah.toArray.size<=sizeLine:=by simp_all
 obtain⟨x,hx⟩:∃x:Int,x=(k:Int):=⟨_,rfl⟩;rw[<-hx]at EY ⊢;have M:=AutoSeq1.list_insert_list_int_val_1 l ah.toArray n x t w' EY hsz;refine nH F.slot_list_insert ⟨_,e,rfl⟩ F.entry_list_insert (F.args_list_insert_3 _ _ _) M ⟨e,?_⟩;exists .non,_,I.lset (its':=ah.take k++w'::ah.drop k) hH e ?_ (Vals.append (r.take k) (.cons hJ (r.drop k))) ?_,rfl,q
 ·have h1:¬(x<0):=by lia
  have h2:min x.toNat ah.toArray.size=k:=by simp_all
  apply Array.ext';simp only[av h1,h2];simp[List.extract_eq_take_drop];rw[kY (by simp)]
 ·rw[bh,bH,fR,pL];lia
end
def dq.there(x:dq P w H h a o):∃ob,h.get? a=some ob:=by
 cases o with
 |lst xs=>obtain⟨_,_,_,_,e⟩:=x;nomatch _,e
 |tup xs=>obtain⟨_,_,_,o,e,_⟩:=x;nomatch _,e
 |dK kvs=>obtain⟨_,_,_,_,o,_,_,e,_⟩:=x;nomatch _,e
 |dT kvs=>obtain⟨_,_,_,_,o,_,_,e,_⟩:=x;nomatch _,e
 |set S n=>obtain⟨o,_,_,_,e,_⟩:=x;nomatch _,e
 |ins C dx fs=>obtain⟨_,_,_,e,_⟩:=x;nomatch _,e
 |own y=>exact x
 |xd fs=>obtain⟨_,⟨_,_,_,e,_⟩,_⟩:=x;nomatch _,e
 |rng lo hi=>obtain⟨_,_,_,e⟩:=x;nomatch _,e
 |frz ob u=>obtain⟨e,_⟩:=x;nomatch _,e
 |tbl ps=>nomatch _,x
 |met f y=>nomatch _,x
 |ext φ=>obtain⟨_,e,_⟩:=x;exact e
def Inv.laidN(I:Inv X ae σ H s)(k:∀b u,s.heap.get? b=some u->h'.get? b=some u)(hn:s.heap.get? a=none)
  (new:dq X.prog X.w (upd H a o) h' a o):Inv X ae σ (upd H a o) {s with heap:=h',toks:=t'}:=by
 have hH:H a=none:=by
  cases q:H a with
  |none=>rfl
  |some u =>
   obtain⟨ob,e⟩:=(I.hok a u q).there;rw[hn]at e;cases e
 refine I.un ⟨λb u q _ _ _=>k b u q,λb u q _ _ _=>⟨u.slots,k b u q⟩,λb u q n _=>?_,λb u q _=>⟨u,k b u q⟩,λb xs q=>?_,λb u xs q=>?_,λb ps q=>⟨#[],?_⟩⟩ λb u e=>?_
 ·rw[aS (by lia)];exact n
 ·rw[aS (c7 q hH)];exact q
 ·rw[aS (c7 q hH)];exact q
 ·rw[aS (c7 q hH),q];simp
 ·by_cases hb:b=a
  ·subst hb;rw[ar]at e;cases e;exact new
  ·rw[aS hb]at e;exact (I.hok b u e).stay (λc v _ q=>k c v q) (λc q=>by rw[aS (c7 q hH)];exact q) λc xs q=>by rw[aS (c7 q hH)];exact q
theorem Bf:∀(names:List (Str×NameKind)) (acc:List (Str×Addr)),(∀x,(x,NameKind.free)∈names->∃c,env.cells.lookup x=some c) ->
  ∃cl,(forIn names acc λ(x:Str×NameKind) (cs:List (Str×Addr))=>(if (x.2 == NameKind.free)=true then (do let a <-cellOf env x.1;pure (ForInStep.yield ((x.1,a)::cs)))else pure (ForInStep.yield cs):Sem (ForInStep (List (Str×Addr)))))=pure cl /\
   ∀x,cl.lookup x=(if (x,NameKind.free)∈names then env.cells.lookup x else acc.lookup x)
 |[],acc,_=>⟨acc,rfl,λx=>tS⟩
 |(n,k)::r,acc,h=>by
  by_cases hk:k=NameKind.free
  ·subst hk;obtain⟨c,hc⟩:=h n tS;obtain⟨cl,e,l⟩:=Bf (env:=env) r ((n,c)::acc) λx hx=>h x (by simp[hx])
   exists cl,?_,λx=>?_
   ·rw[tF];have mK:cellOf env n=pure c:=by unfold cellOf;rw[hc]
    simp only[beq_self_eq_true,iI,mK,pure_bind];exact e
   ·rw[l x];by_cases hx:(x,NameKind.free)∈r
    ·simp[hx]
    ·by_cases hn:x=n
     ·subst hn;simp[hx,hc]
     ·have hb:(x == n)=false:=by simpa using hn
      simp[hx,hn,yr,hb]
  ·have hb:(k == NameKind.free)=false:=by simpa using hk
   obtain⟨cl,e,l⟩:=Bf (env:=env) r acc λx hx=>h x (by simp[hx])
   exists cl,?_,λx=>?_
   ·rw[tF];simp only[hb,my,jZ,pure_bind];exact e
   ·rw[l x];have:¬((x,NameKind.free)=(n,k)):=λz=>hk (by simp_all)
    simp[bC,this]
theorem GV(env:Env)(x:Str):∀(names:List (Str×NameKind)),(names.map λ(n,k)=>if (k == NameKind.free&&env.scope.kind == .function&&env.kindOf n == some .cell)then (n,NameKind.cell)else (n,k)).lookup x =
  (names.lookup x).map λk=>if (k == NameKind.free&&env.scope.kind == .function&&env.kindOf x == some .cell)then NameKind.cell else k
 |[]=>rfl
 |(n,k)::r=>by
  have ih:=GV env x r;show List.lookup x ((if (k == NameKind.free&&env.scope.kind == .function&&env.kindOf n == some .cell)=true then (n,NameKind.cell)else (n,k))::_)=_;by_cases hx:x=n
  ·subst hx;split<;>simp_all [yr]
  ·have hb:(x == n)=false:=by simpa using hx
   split
   ·simp only[yr,hb];exact ih
   ·simp only[yr,hb];exact ih
noncomputable abbrev hV(X:Cx)(N':List Str)(scope:Scope)(cl:List (Str×Addr))(C:Addr)(s₀:Shared)(H₀:Hp)(fp:List Addr):Cx :=
 {X with N:=N',s₀:=s₀,H₀:=H₀,env:=compEnvC scope cl C X.env,outer:=X.stack,ex:=fp,fn:=λ_=>false,pn:=[],xe:=λ_ _=>False}
structure qF(X:Cx)(scope:Scope)(N':List Str)(nT:Nat)(js:List Nat):Prop where
 kind:scope.kind=.function
 nocell:∀y∈scope.names,y.2≠.cell
 names:∀y∈scope.names,y.2=.local->scope.names.lookup y.1=some .local
 len:N'.length=nT+js.length
 frees:∀(k j:Nat) (x:Str),js[k]?=some j->N'[nT+k]?=some x->X.N[j]?=some x
 kinds:∀y∈scope.names,y.2=.free->X.env.scope.names.lookup y.1=some .cell
 vis:∀x∈N'.drop nT,scope.names.lookup x=some .free
noncomputable def sY(nT:Nat)(js:List Nat)(σ:St):St:=List.replicate nT none++js.map λj=>(σ[j]?).join
def Nw(wi:TI)(nT:Nat)(js:List Nat)(g:TG)(tc:TT)(te:TE):TE:=λσ H Q=>wi σ H λJ H1=>∃W:Nat->Nat->List V->St->Hp->Prop,(∃m,W 0 m [] (sY nT js σ) H1)/\∀i m ys σ H,W i m ys σ H ->
 (J.stop i H/\∀D,H D=none->Q (.ref D) (upd H D (.lst ys))) \/
 (J.go i H/\ys.length<sizeLine/\∃ N:List V->St->Hp->Prop,(∀ dJ σ' H',N dJ σ' H'->∃ m',m'<m/\W (i+1) m' dJ σ' H') /\ ∀x H',J.yld i H x H'->g x σ H' λσ2 H2=>tc σ2 H2 λb H3=>if b=true then te σ2 H3 λy H4=>N (ys++[y]) σ2 H4 else N ys σ2 H3)
def rq(X:Cx)(ifs:List Expr)(t:TT):Prop :=
 ∀(ae:List (Addr×Obj)) (s:Shared) (σ:St) (H:Hp) (Q:Bool->Hp->Prop),Inv X ae σ H s->t σ H Q ->
  wpAny (model X.prog X.w) X.A (forIn ifs true λc r=>if r=true then do let ok <-isTrue c X.env (eval c X.env);pure (ForInStep.yield ok)else pure (ForInStep.yield r)) (TP X ae σ Q) X.xe s
def GY:TT:=λ_ H Q=>Q true H
def gA:rq X [] GY:=λ_ _ _ H _ I h=>wpAny_tests_nil ⟨H,I,h⟩
def gH(h:PT X c t):rq X [c] t:=λae s σ H Q I q=>wpAny_tests_one (h ae s σ H Q I q)
section
variable{prog:Program}{w:World}{A:Around}{R:Result->Shared->Prop}{s:Shared}
theorem zdH(I:Nat->Shared->Prop)
  (turn:∀ n s,I n s->wpAny (model prog w) A (pyNext it) (fun r s₁=>match r with
   |none=>R (.ok .next) s₁
   |some v=>wpAny (model prog w) A (letOwnedTupleGo target it v) (λ_ s₁'=>wpAny (model prog w) A (assign target env v) (λ_ s₂ =>
     wpAny (model prog w) A (forIn ifs true λc r=>if r=true then do let ok <-isTrue c env (eval c env);pure (ForInStep.yield ok)else pure (ForInStep.yield r)) (λok s₃ =>
      if ok=true then wpAny (model prog w) A (eval elt env) (λx s₄ =>
       wpAny (model prog w) A (call (.builtin "list.append") [acc,x]) (λ_ s₅=>∃m,m<n/\I m s₅) (λ_ _=>False) s₄) (λ_ _=>False) s₃
      else ∃m,m<n/\I m s₃) (λ_ _=>False) s₂) (λ_ _=>False) s₁') (λ_ _=>False) s₁) (λ_ _=>False) s)
  (n:Nat) (h:I n s) :
  codeAny (model prog w) A (.compLoop (.ListComp elt [⟨target,iter,ifs,0⟩] scope pos) 0 it acc env) R s:=by
 refine codeAny_loop rfl I (λn s hI=>?_) n h;show wpAny _ A ((compTurn (.ListComp elt [⟨target,iter,ifs,0⟩] scope pos) 0 it acc env).onRaise (λx=>do noteFrame x env;theTreesLotGoes x)) _ _ s;refine wpAny_noted ?_;rw[compTurn_list];refine au (E8 (au (dS (turn n s hI) (λr s₁ h₁=>?_) λ_ _ h'=>h'.elim)));cases r with
 |none=>exact aJ h₁
 |some v =>
  refine au (dS h₁ (λ_ s₁' h₁'=>?_) λ_ _ h'=>h'.elim);refine au (dS h₁' (λ_ s₂ h₂=>au (dS h₂ (λok s₃ h₃=>?_) λ_ _ h'=>h'.elim)) λ_ _ h'=>h'.elim);cases ok with
  |false=>exact aJ ⟨rfl,h₃⟩
  |true =>
   exact au (au (dS h₃ (λx s₄ h₄=>au (dS h₄ (λ_ s₅ h₅=>aJ (aJ ⟨rfl,h₅⟩)) λ_ _ h'=>h'.elim)) λ_ _ h'=>h'.elim))
end
set_option maxHeartbeats 4000000 in
set_option tactic.hygienic true in
def J2{X:Cx}{tg iter elt:Expr}{ifs:List Expr}{scope:Scope}{pos:Pos}{N':List Str}{nT:Nat}{js:List Nat}{g:TG}{tc:TT}{te:TE}{RR:Value->Addr->Result->Shared->Prop}
  (hc:X.calm=true) (S:qF X scope N' nT js) {ae:List (Addr×Obj)}{σ:St}{H2:Hp}{s2:Shared}{cl:List (Str×Addr)}{it:Addr}{fp:List Addr}{tn:Nat->Heap->Prop}{J:It}
  (fG:∀x,cl.lookup x=(if (x,NameKind.free)∈scope.names then X.env.cells.lookup x else none))
  (hg:∀C s₀ H₀ fp,PG (hV X N' scope cl C s₀ H₀ fp) tg g) (ht:∀C s₀ H₀ fp,rq (hV X N' scope cl C s₀ H₀ fp) ifs tc) (he:∀C s₀ H₀ fp,PE (hV X N' scope cl C s₀ H₀ fp) elt te)
  (I2:Inv X ae σ H2 s2) (T:nB X.prog X.w X.K tg J fp it tn) (kb:tn 0 s2.heap) (f2:∀b∈fp,ij X ae H2 b) {QQ:Addr->List V->Hp->Prop}
  (W:Nat->Nat->List V->St->Hp->Prop) (w0:∃m,W 0 m [] (sY nT js σ) H2)
  (turn:∀ i m ys σ H,W i m ys σ H->(J.stop i H/\∀ D,H D=none->QQ D ys H) \/ (J.go i H/\ys.length<sizeLine/\∃ N:List V->St->Hp->Prop,(∀ dJ σ' H',N dJ σ' H'->∃ m',m'<m/\W (i+1) m' dJ σ' H') /\ ∀x H',J.yld i H x H'->g x σ H' λσ2 H2=>tc σ2 H2 λb H3=>if b=true then te σ2 H3 λy H4=>N (ys++[y]) σ2 H4 else N ys σ2 H3))
  (hRR:∀(D C:Addr) (s':Shared) (ys:List V) (H':Hp) (m:Str->Option Value),QQ D ys H'->s'.heap.Ns C m->s2.heap.get? C=none->s2.heap.objs.size<=C->D≠C->H' C=none->(∀h',Heap.SameBut C s'.heap h'->Inv X ae σ (upd H' D (.lst ys)) {s' with heap:=h'})->RR (.ref D) C (.ok .next) s') :
  wpAny (model X.prog X.w) X.A (newList []) (λacc s₃=>wpAny (model X.prog X.w) X.A (newFunctionEnv scope X.env.globals cl [] X.env.qual none .none (some X.env)) (λNx s₄ =>
   codeAny (model X.prog X.w) X.A (.compStart (.ListComp elt [⟨tg,iter,ifs,0⟩] scope pos) 0 (.ref it) acc {Nx with scope:=relabel scope X.env}) (RR acc Nx.locals) s₄) (λ_ _=>False) s₃) (λ_ _=>False) s2:=by
 refine lD (wpAny_newFunctionEnv S.nocell (by intro y hy;simp at hy) (λh₁ hns₁ hsb₁=>?_) S.kind);generalize hH2:s2.heap.push {cls:=.type "list",dict:=none,data:=.seq ([]:List Value).toArray}=G2 at hns₁ hsb₁ ⊢;have hC:G2.objs.size=s2.heap.objs.size+1:=by rw[<-hH2,kB]
 generalize hCC:G2.objs.size=C at hns₁ hsb₁ hC ⊢;generalize hDD:s2.heap.objs.size=D at hC ⊢;have lT:D≠C:=by lia
 have below:∀b o,s2.heap.get? b=some o->b≠C/\b≠D:=λb o e=>by
  have h:=bg e;exact⟨λz=>by lia,λz=>by simp_all⟩
 have old:∀b o,s2.heap.get? b=some o->h₁.get? b=some o:=λb o e=>hsb₁.extBut b o (below b o e).1 (cq _ (hH2 ▸ cq _ e))
 have zL:=hsb₁.extBut _ _ lT (cq _ (by rw[<-hH2,<-hDD];exact da _ rfl));have nC:s2.heap.get? C=none:=Fh tL;have nD:s2.heap.get? D=none:=Fh tL;have fC:H2 C=none:=I2.hok.fresh tO;have fD:H2 D=none:=I2.hok.fresh tO;have B0:∀b∈fp,b≠C/\b≠D:=λb hb=>by obtain⟨o,e,_⟩:=T.obj _ _ kb b hb;exact below b o e
 have Pb:∀b∈fp,b∉cC X.stack:=λb hb z=>by
  obtain⟨_,f1,f3,_⟩:=f2 b hb;rcases bC.mp (I2.stkSub b z)with e|e
  ·exact f1 e
  ·exact f3 e
 have uI:∀x c,cl.lookup x=some c->X.env.cells.lookup x=some c/\(x,NameKind.free)∈scope.names:=λx c e=>by simp_all
 have Xc:∀b∈cC X.stack,b≠D/\b≠C:=λb hb=>by
  have h:=I2.stkSub b hb;rcases bC.mp h with e|e
  ·have h1:@LT.lt Nat _ X.env.locals s2.heap.objs.size:=I2.lt;have h2:=e;exact⟨λz=>by simp_all,λz=>by lia⟩
  ·obtain⟨_,o,ho,_⟩:=I2.ok.funs.mem e;have h1:@LT.lt Nat _ b X.s₀.heap.objs.size:=bg ho;have h2:=I2.sz;exact⟨λz=>by lia,λz=>by lia⟩
 have ok':(hV X N' scope cl C s2 H2 fp).Ok:=by
  refine⟨I2.ok.mod,S.kind,I2.ok.glob,I2.ok.blt,(by show s2.heap.objs.size<=C;omega),λx y c h1 h2=>I2.ok.inj x y c (uI x c h1).1 (uI y c h2).1,λx hx=>?_,λx c hx _=>(c9 hx).elim,λ_=>I2.ok.hd hc,I2.ok.frames,.inl rfl,
   λb hb=>⟨(B0 b hb).1,λx c e=>(f2 b hb).2.2.2.2.1 x c (uI x c e).1⟩,I2.bs,aX I2.ok.bsz I2.sz,λb o e hb=>?_,Pb,I2.stack,I2.stkFree⟩
  ·have fL:(relabel scope X.env).names.lookup x=some .cell\/(relabel scope X.env).names.lookup x=some .free:=hx;have hk:(relabel scope X.env).names.lookup x=_:=GV X.env x scope.names;rw[hk]at fL;have hf:(x,NameKind.free)∈scope.names:=by
    cases q:scope.names.lookup x with
    |none=>rw[q]at fL;rcases fL with z|z<;>cases z
    |some k =>
     have hm:=rE q;cases k with
     |free=>exact hm
     |cell=>exact absurd rfl (S.nocell _ hm)
     |_=>rw[q]at fL;rcases fL with z|z<;>simp at z
   obtain⟨c,e⟩:=I2.ok.has x (.inl (S.kinds _ hf rfl));exact⟨c,by show cl.lookup x=some c;rw[fG,aC hf];exact e⟩
  ·rcases (f2 b hb).2.2.2.1 with z|z
   ·exact I2.ok.noex b o e z
   ·have h1:=bg (I2.ok.bs b o e).1;have h2:=z;lia
 have I0:Inv (hV X N' scope cl C s2 H2 fp) [] (sY nT js σ) H2 {s2 with heap:=h₁,toks:=s2.toks+([]:List (Str×Value)).length}:=by
  exists ok',rfl,I2.bare,Un.kept old,⟨_,hns₁,λi x v e1 e2 e3=>?_⟩,λx c e=>?_,fC,λx c e=>I2.freeC x c (uI x c e).1,λp hp=>absurd (show p∈([]:List (Addr×Obj)) from hp) tS,I2.hok.kept old,?_
  ·unfold sY at e2;by_cases hi:i<nT
   ·rw[HN (by simpa using hi),RW,aC hi]at e2;cases e2
   ·rw[F0 (by simpa using hi),yN,cQ]at e2;obtain⟨k,hk⟩:∃k,i=nT+k:=⟨i-nT,tL⟩;subst hk;rw[E3]at e2;cases q:js[k]? with
    |none=>rw[q]at e2;cases e2
    |some j =>
     rw[q]at e2;have yn:(σ[j]?).join=some v:=gd e2;have YS:σ[j]?=some (some v):=by
      cases z:σ[j]? with
      |none=>rw[z]at yn;cases yn
      |some a=>rw[z]at yn;exact congrArg some yn
     have hxN:=S.frees k j x q e1;have NZ:scope.names.lookup x=some .free:=S.vis x (by
      rw[List.mem_iff_getElem?];exact⟨k,by simp_all⟩)
     have rL:(x,NameKind.free)∈scope.names:=rE NZ;have mK:=S.kinds _ rL rfl;obtain⟨m,hn,hl⟩:=I2.loc;obtain⟨u,r,l⟩:=hl j x v hxN YS (.inr (.inl mK));exists u,r,?_;rcases l with ⟨l,_⟩|⟨_,c,ec,ic⟩
     ·have l':X.env.scope.names.lookup x=some .local:=l;rw[mK]at l';cases l'
     ·refine .inr ⟨?_,c,?_,?_⟩
      ·left;show (relabel scope X.env).names.lookup x=some .cell;have hk:(relabel scope X.env).names.lookup x=_:=GV X.env x scope.names;have EH:X.env.scope.kind=.function:=I2.ok.kind;have hko:X.env.kindOf x=some .cell:=mK;rw[hk,NZ,Option.map_some,EH,hko];rfl
      ·show cl.lookup x=some c;rw[fG,aC rL];exact ec
      ·exact ic.keeps old
  ·obtain⟨v,q⟩:=I2.cell x c (uI x c e).1;nomatch v,q.keeps old
  ·unfold sY;rw[bh,yN,ax];exact S.len.symm
 have lp:∀s₃:Shared,s₃={s2 with heap:=h₁,toks:=s2.toks+([]:List (Str×Value)).length} ->
   codeAny (model X.prog X.w) X.A (.compLoop (.ListComp elt [⟨tg,iter,ifs,0⟩] scope pos) 0 (.ref it) (.ref D) (compEnvC scope cl C X.env)) (RR (.ref D) C) s₃:=by
  rintro s₃ rfl;obtain⟨m0,w0⟩:=w0;refine zdH (λn s'=>∃(i:Nat) (ys:List V) (ah:List Value) (no:Nat) (σ':St) (H':Hp),Inv (hV X N' scope cl C s2 H2 fp) [(D,{cls:=.type "list",data:=.seq ah.toArray no})] σ' H' s'/\Vals ys ah/\tn i s'.heap/\(∀b∈fp,H' b=none)/\ys.length<=sizeLine/\W i n ys σ' H') ?_ m0
   ⟨0,[],[],0,sY nT js σ,H2,I0.pins_of λp hp=>?_,.nil,T.keep _ _ _ kb λb _ o e=>old b o e,λb hb=>(f2 b hb).1,bM _,w0⟩
  ·rintro n s3 ⟨i,ys,ah,no,σ3,H3,I3,rv,w9,vP,hz,w3⟩;have De:∀{H':Hp},(∀b∈fp,H' b=none)->∀b∈fp,ij (hV X N' scope cl C s2 H2 fp) [(D,{cls:=.type "list",data:=.seq ah.toArray no})] H' b:=λhn b hb =>
    ⟨hn b hb,(B0 b hb).1,Pb b hb,.inl hb,λx c e=>(f2 b hb).2.2.2.2.1 x c (uI x c e).1,λp hp=>by
     have e:p=(D,{cls:=.type "list",data:=.seq ah.toArray no}):=by simpa using hp
     rw[e];exact Ne.symm (B0 b hb).2⟩
   rcases turn i n ys σ3 H3 w3 with ⟨stop,q⟩|⟨go,ba,N,hN,step⟩
   ·refine dS (T.done (hV X N' scope cl C s2 H2 fp) rfl rfl rfl hc i _ s3 σ3 H3 (λ_ _=>False) I3 (De vP) w9 stop) (λr s4 ⟨hr,I4⟩=>?_) λ_ _ h=>h
    subst hr;obtain⟨UA,Ma,pD3,pD4,_⟩:=I4.pin (D,{cls:=.type "list",data:=.seq ah.toArray no}) tS;obtain⟨m,hn,_⟩:=I4.loc;have Fc:H3 C=none:=I4.free;refine hRR D C s4 ys H3 m (q D Ma) hn nC tL lT Fc λh' sb=>?_
    have k4:∀b o,b≠C->s4.heap.get? b=some o->h'.get? b=some o:=λb o hb e=>sb.extBut b o hb e
    have va:∀b u,H3 b=some u->b≠D:=λb u e=>c7 e Ma
    refine I2.call' (s':={s4 with heap:=h'}) (ch:=fp) I4.os ⟨λb o e n hb hx=>k4 b o (below b o e).1 (I4.base.keep b o e n hb hx),λb o e n hb hx=>?_,λb o e n hx=>?_,λb o e hx=>?_,λb xs e=>?_,λb o u e=>?_,λb ps e=>?_⟩ (λb u e=>?_) I4.bare λb hb=>?_
    ·obtain⟨sl,e'⟩:=I4.base.slot b o e n hb hx;nomatch sl,k4 b _ (below b o e).1 e'
    ·rw[aS (below b o e).2];exact I4.base.free b o e n hx
    ·obtain⟨o',e'⟩:=I4.base.there b o e hx;nomatch o',k4 b o' (below b o e).1 e'
    ·have e':=I4.base.tups b xs e;rw[aS (va b _ e')];exact e'
    ·have e':=I4.base.frzs b o u e;rw[aS (va b _ e')];exact e'
    ·obtain⟨more,e'⟩:=I4.base.tbls b ps e;exact⟨more,by rw[aS (va b _ e')];exact e'⟩
    ·by_cases hb:b=D
     ·subst hb;rw[ar]at e;cases e;nomatch hz,ah,no,rv,k4 b _ lT UA
     ·rw[aS hb]at e;refine (I4.hok b u e).stay (λc v mJ z=>k4 c v ?_ z) (λc z=>by rw[aS (va c _ z)];exact z) λc xs z=>by rw[aS (va c _ z)];exact z
      rcases mJ with rfl|mJ
      ·exact c7 e Fc
      ·exact c7 mJ Fc
    ·obtain⟨_,g1,_,g3,g4,g5⟩:=f2 b hb;nomatch g3,g1,g4,g5
   ·refine dS (T.item (hV X N' scope cl C s2 H2 fp) rfl rfl rfl hc i _ s3 σ3 H3 (λ_ _=>False) I3 (De vP) w9 go) (λr s4 ⟨u,hr,h4⟩=>?_) λ_ _ h=>h
    subst hr;refine dS h4 (?_) λ_ _ h=>h
    rintro _ s5 ⟨x,H5,I5,r5,y5,rW,Dv⟩;have Gh:=I5.pinned (De Dv) (T.obj _ _ rW);refine dS (hg C s2 H2 fp _ s5 σ3 H5 x u _ Gh r5 (step x H5 y5)) (λ_ s6 ⟨σ6,H6,I6,q6⟩=>?_) λ_ _ h=>h
    refine dS (ht C s2 H2 fp _ s6 σ6 H6 _ I6 q6) (λok s7 ⟨H7,I7,q7⟩=>?_) λ_ _ h=>h
    have back:∀{pp:List (Addr×Obj)}{s':Shared}{σ':St}{H':Hp},(∀b∈fp,∀o,s5.heap.get? b=some o->(b,o)∈pp)->Inv (hV X N' scope cl C s2 H2 fp) pp σ' H' s'->tn (i+1) s'.heap/\∀b∈fp,H' b=none:=fun {pp s' σ' H'} jg I'=>by
     exists T.keep _ _ _ rW λb hb o e=>(I'.pin (b,o) (f9 _ (jg b hb o e))).1,λb hb=>?_;obtain⟨o,e,d⟩:=T.obj _ _ rW b hb;exact (I'.pin (b,o) (f9 _ (jg b hb o e))).2.1
    have inpp:∀b∈fp,∀o,s5.heap.get? b=some o->(b,o)∈[(D,({cls:=.type "list",data:=.seq ah.toArray no}:Obj))]++qX fp s5.heap:=λb hb o e=>f9 _ (vH hb e)
    cases ok with
    |false =>
     rw[av c9];rw[av c9]at q7;obtain⟨m',hm,w7⟩:=hN _ _ _ q7;obtain⟨b1,b2⟩:=back inpp I7;nomatch m',hm,i+1,ys,ah,no,σ6,H7,I7.unpinned,rv,b1,b2,hz,w7
    |true =>
     rw[aC rfl];rw[aC rfl]at q7;refine dS (he C s2 H2 fp _ s7 σ6 H7 _ I7 q7) (?_) λ_ _ h=>h
     rintro v8 s8 ⟨y,H8,I8,r8,q8⟩;obtain⟨eD,LM,u6,nf,_⟩:=I8.pin (D,{cls:=.type "list",data:=.seq ah.toArray no}) (f9 _ (mz _ tS));have aK:=rv.length;refine nH Ls ⟨_,eD,rfl⟩ Pj (Pr _ _) (Rt D ah.toArray no v8 (by rw[fz];lia)) ⟨eD,?_⟩;obtain⟨m',hm,w8⟩:=hN _ _ _ q8;have I9:Inv (hV X N' scope cl C s2 H2 fp) (qX fp s5.heap) σ6 H8 s8:=I8.pins_of λp hp=>I8.pin p (f9 _ (f9 _ hp))
     have Cb:=get?_update_seq eD (λa=>a.push v8);have RI:=I9.turned (h':=s8.heap.update D (Obj.mapSeq λa=>a.push v8)) (t':=s8.toks) (it:=D) (λb o hb e=>(Heap.get?_update_ne _ _ _ _ hb).trans e) LM u6 (.inr (by show s2.heap.objs.size<=D;lia))
      (λx c e z=>by
       obtain⟨v,oc,ya,Za⟩:=I8.cell x c e;rw[z,eD]at ya;cases ya;cases Za) (λp hp z=>by
        have g0:p∈qX fp s5.heap:=by simpa using hp
        exact (B0 p.1 (JY g0).1).2 z)
     obtain⟨b1,b2⟩:=back (λb hb o e=>vH hb e) RI;exists m',hm,i+1,ys++[y],ah++[v8],(if ((ah.toArray.push v8).size == ah.toArray.size)=true then no else no+1),σ6,H8,RI.pins_of λp hp=>?_,rv.append (.cons r8 .nil),b1,b2,(by rw[bh];simp;assumption),w8;obtain rfl:=bw.mp hp;refine⟨?_,LM,u6,nf,λv z=>by cases z⟩;refine Cb.trans ?_;rw[List.push_toArray]
  ·have e:p=(D,{cls:=.type "list",data:=.seq ([]:List Value).toArray}):=by simpa using hp
   subst e;exact⟨zL,fD,lT,λz=>(Xc D z).1 rfl,λv z=>by cases z⟩
 exact codeAny_compStart_list (lp _ rfl) (T.self _ 0 _ _ _ (T.keep _ _ _ kb λb _ o e=>old b o e) (lp _ rfl))
def du{X:Cx}{tg iter elt:Expr}{ifs:List Expr}{scope:Scope}{pos:Pos}(N':List Str)(nT:Nat)(js:List Nat){wi:TI}{g:TG}{tc:TT}{te:TE}
  (hc:X.calm=true) (S:qF X.nox scope N' nT js) (hi:PI X.nox tg iter wi)
  (hg:∀cl C s₀ H₀ fp,PG (hV X.nox N' scope cl C s₀ H₀ fp) tg g) (ht:∀cl C s₀ H₀ fp,rq (hV X.nox N' scope cl C s₀ H₀ fp) ifs tc) (he:∀cl C s₀ H₀ fp,PE (hV X.nox N' scope cl C s₀ H₀ fp) elt te)
  (hs:∀x,foldedSetIterable iter X.env x=pure x:=by intro _;rfl) :
  PE X.nox (.ListComp elt [⟨tg,iter,ifs,0⟩] scope pos) (Nw wi nT js g tc te):=by
 intro ae s σ H Q I h;rw[eval_ListComp];obtain⟨cl,e,l⟩:=Bf (env:=X.env) scope.names [] λx hx=>I.ok.has x (.inl (S.kinds _ hx rfl))
 have Fw:closureFor scope X.env=pure cl:=by
  show (forIn scope.names [] λ(x:Str×NameKind) (cs:List (Str×Addr))=>(if (x.2 == NameKind.free)=true then (do let a <-cellOf X.env x.1;pure (ForInStep.yield ((x.1,a)::cs)))else pure (ForInStep.yield cs):Sem (ForInStep (List (Str×Addr))))) >>= (λs=>pure s)=pure cl;rw[e,pure_bind]
 refine Qu (cl:=cl) (use:=none) rfl hs Fw S.kind S.names ?_;refine aO (hi ae s σ H _ I h) λv s1 h1=>aO h1 λAe s2 h2=>?_
 obtain⟨it,fp,tn,J,H2,rfl,I2,T,kb,f2,W,w0,turn⟩:=h2;refine J2 (X:=X.nox) (QQ:=λD ys H'=>Q (.ref D) (upd H' D (.lst ys))) (RR:=λacc C=>compPost (model X.prog X.w) X.A (λ_ _=>False) none (EP X.nox ae σ Q) acc C) hc S (λx=>by rw[l x];rfl) (hg cl) (ht cl) (he cl) I2 T kb f2 W w0 turn λD C s' ys H' m q hn nC _ _ _ fin=>?_
 nomatch m,hn,λh' sb=>⟨.ref D,_,fin h' sb,rfl,q⟩
set_option tactic.hygienic true in
def uA{X:Cx}{tg iter elt:Expr}{ifs:List Expr}{scope:Scope}{cD pos pos':Pos}{x:Str}{i:Nat}(N':List Str)(nT:Nat)(js:List Nat){wi:TI}{g:TG}{tc:TT}{te:TE}
    (hN:X.nox.N.Nodup) (VW:X.nox.N[i]?=some x) (hx:rJ X.nox.env.scope x)
    (hc:X.calm=true) (S:qF X.nox scope N' nT js) (hi:PI X.nox tg iter wi)
    (hg:∀cl C s₀ H₀ fp,PG (hV X.nox N' scope cl C s₀ H₀ fp) tg g) (ht:∀cl C s₀ H₀ fp,rq (hV X.nox N' scope cl C s₀ H₀ fp) ifs tc) (he:∀cl C s₀ H₀ fp,PE (hV X.nox N' scope cl C s₀ H₀ fp) elt te)
    (hs:∀x,foldedSetIterable iter X.env x=pure x:=by intro _;rfl) (wD:swapsWith (.ListComp elt [⟨tg,iter,ifs,0⟩] scope cD) (some (.Name x pos')) pos.line X.env=pure true:=by rfl)
    (hf:X.nox.fn x=true\/X.nox.env.scope.names.lookup x=some .local:=by first|exact .inl rfl|exact .inr rfl|assumption) :
    PS X.nox (.Assign [.Name x pos'] (.ListComp elt [⟨tg,iter,ifs,0⟩] scope cD) pos) (uQ (Nw wi nT js g tc te) (aW i)):=by
  intro ae s σ H D0 I h;have hG:PG X.nox (.Name x pos') (aW i):=Kk hN VW hx hf;rw [exec_Assign_Name_used _ _ _ _ wD];obtain ⟨cl,e,l⟩:=Bf (env:=X.env) scope.names [] λx hx=>I.ok.has x (.inl (S.kinds _ hx rfl))
  have Fw:closureFor scope X.env=pure cl:=by
    show (forIn scope.names [] λ(x:Str×NameKind) (cs:List (Str×Addr))=>(if (x.2 == NameKind.free)=true then (do let a <-cellOf X.env x.1;pure (ForInStep.yield ((x.1,a)::cs)))else pure (ForInStep.yield cs):Sem (ForInStep (List (Str×Addr))))) >>= (λs=>pure s)=pure cl;rw [e,pure_bind]
  refine au (E8 (au ?_));refine au (dS (Qu (cl:=cl) (use:=some (assign (.Name x pos') X.env)) (Q:=λ_ s'=>SP X.nox ae D0 .next s') rfl hs Fw S.kind S.names ?_) (λ_ s' hq=>aJ (aJ hq)) λ_ _ e=>e);refine aO (hi ae s σ H _ I h) λv s1 h1=>aO h1 λAe s2 h2=>?_
  obtain ⟨it,fp,tn,J,H2,rfl,I2,T,kb,f2,W,w0,turn⟩:=h2;refine J2 (X:=X.nox) (QQ:=λD ys H'=>aW i (.ref D) σ (upd H' D (.lst ys)) D0.nx) (RR:=λacc C=>compPost (model X.prog X.w) X.A (λ_ _=>False) (some (assign (.Name x pos') X.env)) (λ_ s'=>SP X.nox ae D0 .next s') acc C) hc S (λx=>by rw [l x];rfl) (hg cl) (ht cl) (he cl) I2 T kb f2 W w0 turn λD C s' ys H' m q hn nC hC lT XQ fin=>?_
  have I3:=fin s'.heap ⟨rfl,λ_ _=>rfl⟩;have hHC':upd H' D (.lst ys) C=none:=by rw [aS (Ne.symm lT)];exact XQ
  have NI:∀{H3:Hp},H3 C=none->ij X.nox ae H3 C:=λh3=>I2.fpOk hC h3
  obtain ⟨oC,es,ep,MG,rC⟩:=id hn;have mK:∀v,oC.data≠.cell v:=λv z=>by simp_all
  have I4 := I3.pinned (fp := [C]) (fun b hb => by have z : b = C := by simpa using hb
                                                   subst z; exact NI  hHC') (fun b hb => by have z : b = C := by simpa using hb
                                                                                            subst z; exact ⟨oC, MG, mK⟩)
  refine aO (hG _ s' σ _ (.ref D) (.ref D) _ I4 rfl q) λ_ s5 ⟨σ5,H5,I5,q5⟩=>?_
  have pC:=I5.pin (C,oC) (f9 _ (f9 _ (vH tS MG)));refine ⟨m,⟨oC,es,ep,pC.1,rC⟩,λh' sb=>?_⟩;obtain ⟨f0,f1,f2',f3,f4,f5⟩:=NI pC.2.1;exact ⟨σ5,H5,(I5.unpinned).turned (t':=s5.toks) (λb o hb e=>(sb.2 b hb).trans e) f0 f1 f3 f4 f5,q5⟩
def gW{K:Frag}{a:Addr}{xs:List V}{g:TG}{tc:TT}{te:TE}{σ:St}{H:Hp}{R:List V->Hp->Addr->Prop}(Pv:Nat->List V->St->Hp->Prop)(h0:Pv 0 [] σ H)(hl:∀i ys σ H,i<=xs.length->Pv i ys σ H->aj K H a xs/\ys.length<=i)(hz:xs.length<=sizeLine)
  (hs:∀i x ys σ H,xs[i]?=some x->Pv i ys σ H->g x σ H λσ2 H2=>tc σ2 H2 λb H3=>if b=true then te σ2 H3 λy H4=>Pv (i+1) (ys++[y]) σ2 H4 else Pv (i+1) ys σ2 H3)
  (hd:∀ys σ H,Pv xs.length ys σ H->∀D,H D=none->R ys H D) :
  ∃W:Nat->Nat->List V->St->Hp->Prop,(∃m,W 0 m [] σ H)/\∀i m ys σ H,W i m ys σ H ->
   ((iZ K a).stop i H/\∀D,H D=none->R ys H D) \/
   ((iZ K a).go i H/\ys.length<sizeLine/\∃ N:List V->St->Hp->Prop,(∀ dJ σ' H',N dJ σ' H'->∃ m',m'<m/\W (i+1) m' dJ σ' H') /\ ∀x H',(iZ K a).yld i H x H'->g x σ H' λσ2 H2=>tc σ2 H2 λb H3=>if b=true then te σ2 H3 λy H4=>N (ys++[y]) σ2 H4 else N ys σ2 H3):=by
 exists λi m ys σ H=>m=xs.length-i/\i<=xs.length/\Pv i ys σ H,⟨xs.length,tS,bM _,h0⟩,?_;rintro i m ys σ H ⟨rfl,hi,p⟩;have q:=hl i ys σ H hi p;by_cases ba:i<xs.length
 ·refine .inr ⟨⟨xs,xs[i],q.1,by simp[ba]⟩,tL,Pv (i+1),λdJ σ' H' p'=>⟨xs.length-(i+1),tL,rfl,ba,p'⟩,λx H' y=>?_⟩;obtain⟨e,y⟩:=y;subst e;exact hs i x ys σ _ (y xs q.1) p
 ·have e:i=xs.length:=by lia
  subst e;exact .inl ⟨⟨xs,q.1,aT _⟩,hd ys σ H p⟩
def tH{lo:Int}{n:Nat}{g:TG}{tc:TT}{te:TE}{σ:St}{H:Hp}{R:List V->Hp->Addr->Prop}(Pv:Nat->List V->St->Hp->Prop)(h0:Pv 0 [] σ H)(hl:∀i ys σ H,Pv i ys σ H->ys.length<=i)(hz:n<=sizeLine)
  (hs:∀i ys σ H,i<n->Pv i ys σ H->g (.int (lo+i)) σ H λσ2 H2=>tc σ2 H2 λb H3=>if b=true then te σ2 H3 λy H4=>Pv (i+1) (ys++[y]) σ2 H4 else Pv (i+1) ys σ2 H3)
  (hd:∀ys σ H,Pv n ys σ H->∀D,H D=none->R ys H D) :
  ∃W:Nat->Nat->List V->St->Hp->Prop,(∃m,W 0 m [] σ H)/\∀i m ys σ H,W i m ys σ H ->
   ((oV lo n).stop i H/\∀D,H D=none->R ys H D) \/
   ((oV lo n).go i H/\ys.length<sizeLine/\∃ N:List V->St->Hp->Prop,(∀ dJ σ' H',N dJ σ' H'->∃ m',m'<m/\W (i+1) m' dJ σ' H') /\ ∀x H',(oV lo n).yld i H x H'->g x σ H' λσ2 H2=>tc σ2 H2 λb H3=>if b=true then te σ2 H3 λy H4=>N (ys++[y]) σ2 H4 else N ys σ2 H3):=by
 exists λi m ys σ H=>m=n-i/\i<=n/\Pv i ys σ H,⟨n,tS,bM _,h0⟩,?_;rintro i m ys σ H ⟨rfl,hi,p⟩;have q:=hl i ys σ H p;by_cases ba:i<n
 ·refine .inr ⟨ba,tL,Pv (i+1),λdJ σ' H' p'=>⟨n-(i+1),tL,rfl,ba,p'⟩,λx H' y=>?_⟩;obtain⟨e,y⟩:=y;subst e y;exact hs i ys σ _ ba p
 ·have e:i=n:=by lia
  subst e;exact .inl ⟨aT _,hd ys σ H p⟩
end L2
namespace OS
open PySem PyProof.Rows
class KO where
 num:Value->Int
 ok:Value->Prop
 kind:SortKind
class KL [KO] (prog:Program) (w:World) (A:Around) (s:Shared):Prop where
 lt:∀{E:Value->Shared->Prop}{Q:Bool->Shared->Prop}{u v:Value},KO.ok u->KO.ok v->Q (decide (KO.num u<KO.num v)) s->wpAny (model prog w) A (keyLt' KO.kind u v) Q E s
variable [KO]
end OS
namespace L2
open PySem PySem.Spec PyProof.Rows
def cn(H:Hp):List Addr->List (Int×Int)->Prop:=Paired λp t=>H p=some (.tup [.int t.1,.int t.2])
def cn.length(h:cn H ps l):ps.length=l.length:=eV h
def cn.keep(h:cn H ps l)(k:∀b xs,H b=some (.tup xs)->H' b=some (.tup xs)):cn H' ps l:=Paired.mapP h λp t e=>k p _ e
theorem cn.at:∀{H:Hp}{ps:List Addr}{l:List (Int×Int)}{i:Nat}{t:Int×Int},cn H ps l->l[i]?=some t->∃p,ps[i]?=some p/\H p=some (.tup [.int t.1,.int t.2])
 |_,_,_,_,_,.nil,e=>by simp at e
 |_,_,_,0,_,.cons r _,e=>by simp at e;subst e;nomatch _,rfl,r
 |_,_,_,i+1,t,.cons _ q,e=>by
  obtain⟨p,h1,h2⟩:=cn.at (i:=i) (t:=t) q (by simpa using e);nomatch p,by simpa using h1,h2
def cn.at'{H:Hp}{ps:List Addr}{l:List (Int×Int)}{i:Nat}{p:Addr}(h:cn H ps l)(e:ps[i]?=some p):∃t,l[i]?=some t/\H p=some (.tup [.int t.1,.int t.2]):=by
 have hi:i<l.length:=by
  have:=(dO.mp e).1
  have:=h.length
  lia
 obtain⟨q,h1,h2⟩:=h.at (i:=i) (t:=l[i]) (by simp[hi]);rw[e]at h1;cases h1;nomatch l[i],by simp[hi],h2
theorem cn.append:∀{H:Hp}{ps qs:List Addr}{l m:List (Int×Int)},cn H ps l->cn H qs m->cn H (ps++qs) (l++m)
 |_,_,_,_,_,.nil,s=>s
 |_,_,_,_,_,.cons r t,s=>.cons r (cn.append t s)
def cn.snoc(h:cn H ps l)(e:H p=some (.tup [.int t.1,.int t.2])):cn H (ps++[p]) (l++[t]):=cn.append h (.cons e .nil)
def TL(K:Frag)(H:Hp)(a:Addr)(l:List (Int×Int)):Prop:=∃ps:List Addr,aj K H a (ps.map V.ref)/\cn H ps l
def aG(H:Hp)(a:Addr)(l:List (Int×Int)):Prop:=∃ps:List Addr,H a=some (.lst (ps.map V.ref))/\cn H ps l
def aG.tl{K:Frag}{H:Hp}{a:Addr}{l:List (Int×Int)}(h:aG H a l):TL K H a l:=let ⟨ps,h1,h2⟩:=h; ⟨ps,.of h1,h2⟩
def aG.keep(h:aG H a l)(k:af H H'):aG H' a l:=let ⟨ps,h1,h2⟩:=h; ⟨ps,k _ _ h1,h2.keep λb xs e=>k b _ e⟩
def af.upd(h:H p=none):af H (upd H p o):=λc o' e=>by rw[aS (c7 e h)];exact e
def Uu(r:Vals [.int a,.int b] us):∃t u,us=[Value.int a t,Value.int b u]:=by
 obtain⟨u,w,rfl,⟨t,rfl⟩,⟨t',rfl⟩⟩:=xg r;nomatch t,t',rfl
theorem PR:∀(ns:List Int),PySem.W.WData.weightAll (ns.map PySem.W.WData.int)<=2^20->∀n∈ns,intBits n<=2^20
 |[],_,_,h=>by simp at h
 |m::r,hw,n,hn=>by
  have e:PySem.W.WData.weightAll ((m::r).map PySem.W.WData.int)=PySem.W.WData.weight (.int m)+1+PySem.W.WData.weightAll (r.map PySem.W.WData.int):=rfl;rw[e]at hw;rcases bC.mp hn with z|z
  ·subst z;have e2:PySem.W.WData.weight (.int n)=if n == 0 then 0 else n.natAbs.log2+1:=rfl
   rw[e2]at hw;unfold intBits;split at hw<;>split<;>simp_all<;>lia
  ·exact PR r tL n z
def zbr{l:PySem.W.OpenLaw}{n k:Nat}{q:Program}{loose:List Str}{XP:(Str->Option Value)->Heap->Prop}{YP:World->Heap->Prop}{d:DefRec}{K:Params->Frag}{CX:World->mf}{sp:World->Sp}{x:Str}
  (hn:l.most=some n) (t9:n<=sizeLine) (DE:d.params.defaults=[]) (hr:cN k callerA)
  (hY:∀(w:World) (h:Heap),YP w h->(K w.params).In h)
  (F:∀ (w:World) (mg:Str->Option Value) (fa:Addr) (h:Heap),(K w.params).In h->h.Ns mainGlobals mg->mg d.name=some (.ref fa) -> ∃fd:FuncData,(∀(s:Shared) (u:Value),BindsTo s fd ⟨[u],[]⟩ [(x,u)]) /\ ∀base:Heap,(K w.params).In base->base.Ns mainGlobals mg->ja l.prog w (K w.params) mg base (CX w) k fa fd [x] (sp w))
  (iF:∀(w:World) (H:Hp) (a:Addr) (ns:List Int),ns.length<=n->(∀z∈ns,intBits z<=2^20)->Cz H->aj (K w.params) H a (ns.map V.int)->sp w [.ref a] H (λv _=>v=.bl true) λ_ _ _=>False)
  (FJ:∀(w:World) (H:Hp) (s:Shared) (e:Value) (s':Shared),CX w [] H s (λ_ _ _=>False) e s'->False) :
  PySem.W.WalkO q loose XP YP l.row.toRowW d [] (λf vs=>PySem.call f vs):=by
 intro w s₀ s₁ mg mb G Y fa o pm cd doc dV kV ho hd kh hD Ar hg args vals as Aa hlay Hy fu uL;obtain rfl:dV=.none:=U3 hD DE;obtain rfl:kV=.none:=W9 hD;obtain⟨a,vs,ns,rfl,rfl,hobj,hints,aK⟩:=Att.script_of hn Aa fu;have K1:∀z∈ns,intBits z<=2^20:=by
  have h1:(PySem.W.WData.list (ns.map PySem.W.WData.int)).layable=true:=fN.mp hlay _ tS;have h2:=bP (wM.mp h1).2;exact PR ns h2
 have KX:=hY w _ Y;obtain⟨fd,hb,hF⟩:=F w mg fa _ KX G.T.g Ar;refine PySem.W.enter_call (rV (zeI KX G.T.g G.T.b G.T.builtins G.T.nolimit hg hobj hints (aX aK t9) hr hF hb (λH hO hS=>iF w H a ns aK K1 hO hS) λH e s'=>FJ w H s₁ e s') λr s' hq=>?_);obtain⟨rfl,h2,h3,h4⟩:=hq;nomatch .inl ⟨.bool true,.bool true,[],rfl,λ_=>rfl,.bool true,Att.post_true l _,λ_=>⟨List.Pairwise.nil,λ_ hm=>(nomatch hm)⟩⟩,h2,h3,h4
noncomputable def cV(p:Int×Int):cu×V:=(Sum.inl p.1,V.int p.2)
theorem ni(k:Int):∀d:OF.aq,iz (d.map cV) (Sum.inl k)=(OF.look d k).map V.int
 |[]=>rfl
 |p::r=>by
  rw[bN,OF.look];by_cases e:p.1=k
  ·rw[xy (show (cV p).1=Sum.inl k by simp[cV,e]),aC e];rfl
  ·rw[xB (show ¬(cV p).1=Sum.inl k by simp[cV,e]),av e];exact ni k r
def wu(d:OF.aq)(k v:Int):d8 (d.map cV) (Sum.inl k:cu) (V.int v)=(OF.fh d k v).map cV:=by
 unfold d8 OF.fh;rw[Iq,ni,OF.wR,A3];split
 ·rw[fk,fk];congr 1
  funext p
  simp only[Function.comp,cV];by_cases e:p.1=k
  ·simp[e]
  ·simp[e]
 ·rw[aQ];rfl
def Hl(d:OF.aq):(d.map cV).map (·.1)=(d.map (·.1)).map Sum.inl:=by
 rw[fk,fk];rfl
end L2
namespace OF
open PySem
def Tx(hx:0<=x)(hy:0<=y):Builtin.bitOr x y=((x.toNat|||y.toNat:Nat):Int):=by
 have n1:¬0<=Builtin.bitNot x:=by unfold Builtin.bitNot;lia
 have n2:¬0<=Builtin.bitNot y:=by unfold Builtin.bitNot;lia
 have e:∀z:Int,Builtin.bitNot (Builtin.bitNot z)=z:=λz=>by unfold Builtin.bitNot;lia
 unfold Builtin.bitOr;rw[jhk n1 n2,e,e,e]
def HI(h:z/2^i%2=0):z+2^i=z|||2^i:=by
 have hb:z%2^i<2^i:=qG _ (jk i);have hz:z=2^(i+1)*(z/2^(i+1))+z%2^i:=by
  have h1:=RD z (2^(i+1));have h2:z%2^(i+1)=z%2^i+2^i*(z/2^i%2):=Nat.mod_pow_succ;rw[h,zf,yC]at h2;lia
 generalize z/2^(i+1)=a at hz;generalize z%2^i=b at hz hb;have hp:2^i+b<2^(i+1):=by rw[ml];lia
 have dv:b<2^(i+1):=by lia
 have e1:z+2^i=2^(i+1)*a+(2^i+b):=by lia
 have e2:2^i+b=2^i|||b:=by
  have:=CD hb 1
  rw[Nat.mul_one]at this;exact this
 rw[e1,hz,CD hp,CD dv,e2,Nat.or_assoc,Ki b]
noncomputable def cT:List (Int×Int)->Nat->Nat
 |[],a=>a
 |t::r,a=>cT r (a|||t.1.toNat)
theorem CH:∀(l:List (Int×Int)) (t:Int×Int) (a:Nat),cT (l++[t]) a=cT l a|||t.1.toNat
 |[],_,_=>rfl
 |p::r,t,a=>CH r t _
noncomputable def fw(l:List (Int×Int))(g:Int):Int:=((l.filter λt=>decide (Builtin.bitAnd t.1 g=t.1)).map (·.2)).sum
end OF
namespace L2
open PySem PySem.Spec PyProof.Rows
def aM{c A B:Prop}[Decidable c](h:¬c)(b:B):if c then A else B:=by simp_all
def a7{c A B:Prop}[Decidable c](h:c)(a:A):if c then A else B:=by simp_all
def qF.of(sc₀:Scope)(N₀:List Str)(h1:X.env.scope=sc₀)(h2:X.N=N₀)(hk:scope.kind=.function)
  (mv:(scope.names.all λy=>y.2 != .cell&&(y.2 != .local || scope.names.lookup y.1 == some .local)&&(y.2 != .free || sc₀.names.lookup y.1 == some .cell))=true)
  (aK:N'.length=nT+js.length) (hf:(js.map λj=>N₀[j]?)=(N'.drop nT).map some) (hv:((N'.drop nT).all λx=>scope.names.lookup x == some .free)=true):qF X scope N' nT js:=by
 have Hz:=fN.mp mv;exists hk,λy hy e=>?_,λy hy e=>?_,aK,λk j x e1 e2=>?_,λy hy e=>?_,λx hx=>?_
 ·have:=Hz y hy;rw[e]at this;simp at this
 ·have:=Hz y hy;rw[e]at this;simp at this;exact this
 ·have e3:(js.map λj=>N₀[j]?)[k]?=some (N₀[j]?):=by rw[cQ,e1];rfl
  rw[hf,cQ,List.getElem?_drop,e2]at e3;rw[h2];exact (gd e3).symm
 ·have:=Hz y hy;rw[e]at this;simp at this;rw[h1];exact this
 ·have:=fN.mp hv x hx;simpa using this
end L2
namespace OF
theorem pP:∀{l B:List Int},l.Nodup->(∀x∈l,x∈B)->l.length<=B.length
 |[],_,_,_=>bM _
 |a::r,B,hn,hs=>by
  have h1:=j7.mp hn;have ha:=hs a tS;have h2:=pP h1.2 λx hx=>by
   have cx:x≠a:=λz=>h1.1 (z ▸ hx)
   exact (LX cx).mpr (hs x (by simp[hx]))
  have h3:=List.length_erase_of_mem ha;have h4:=CF ha;rw[bH];lia
end OF
namespace L2
open PySem PySem.Spec PyProof.Rows
inductive D where
 |non|bl (b:Bool)|int (n:Int)|str (x:Str)|tup (ds:List D)|lst (ds:List D)
mutual
def Is(H:Hp):V->D->Prop
 |v,.non=>v=.non
 |v,.bl b=>v=.bl b
 |v,.int n=>v=.int n
 |v,.str x=>v=.str x
 |v,.tup ds=>∃a xs,v=.ref a/\H a=some (.tup xs)/\cY H xs ds
 |v,.lst ds=>∃a xs,v=.ref a/\H a=some (.lst xs)/\cY H xs ds
def cY(H:Hp):List V->List D->Prop
 |xs,[]=>xs=[]
 |xs,d::ds=>∃x r,xs=x::r/\Is H x d/\cY H r ds
end
mutual
theorem Is.keep(k:af H H'):∀{v:V}{d:D},Is H v d->Is H' v d
 |v,.non,h=>by assumption
 |v,.bl _,h=>by assumption
 |v,.int _,h=>by assumption
 |v,.str _,h=>by assumption
 |v,.tup ds,h=>by
  obtain⟨a,xs,e,h1,h2⟩:=h;nomatch a,xs,e,k _ _ h1,cY.keep k h2
 |v,.lst ds,h=>by
  obtain⟨a,xs,e,h1,h2⟩:=h;nomatch a,xs,e,k _ _ h1,cY.keep k h2
theorem cY.keep(k:af H H'):∀{xs:List V}{ds:List D},cY H xs ds->cY H' xs ds
 |xs,[],h=>by assumption
 |xs,d::ds,h=>by
  obtain⟨x,r,e,h1,h2⟩:=h;nomatch x,r,e,Is.keep k h1,cY.keep k h2
end
theorem cY.length:∀{xs:List V}{ds:List D},cY H xs ds->xs.length=ds.length
 |xs,[],h=>by unfold cY at h;rw[h];rfl
 |xs,d::ds,h=>by
  obtain⟨x,r,rfl,_,h2⟩:=h;rw[bH,bH,cY.length h2]
theorem cY.at:∀{xs:List V}{ds:List D}{i:Nat}{d:D},cY H xs ds->ds[i]?=some d->∃x,xs[i]?=some x/\Is H x d
 |xs,[],i,d,h,e=>by simp at e
 |xs,d'::ds,0,d,h,e=>by
  obtain⟨x,r,rfl,h1,h2⟩:=h
  have:d'=d:=by simpa using e
  subst this;nomatch x,rfl,h1
 |xs,d'::ds,i+1,d,h,e=>by
  obtain⟨x,r,rfl,h1,h2⟩:=h;obtain⟨x',e1,e2⟩:=cY.at (i:=i) (d:=d) h2 (by simpa using e);nomatch x',by simpa using e1,e2
noncomputable def ON(b:Bool):Int:=if b then 1 else 0
mutual
noncomputable def fH:D->D->Bool
 |.non,.non=>true
 |.bl a,.bl b=>a == b
 |.bl a,.int n=>ON a == n
 |.int n,.bl a=>n == ON a
 |.int n,.int m=>n == m
 |.str x,.str y=>x == y
 |.tup ds,.tup es=>l9 ds es
 |.lst ds,.lst es=>l9 ds es
 |_,_=>false
noncomputable def l9:List D->List D->Bool
 |[],[]=>true
 |d::ds,e::es=>fH d e&&l9 ds es
 |_,_=>false
end
mutual
noncomputable def k7:D->Nat
 |.tup ds=>mG ds+1
 |.lst ds=>mG ds+1
 |_=>0
noncomputable def mG:List D->Nat
 |[]=>0
 |d::ds=>max (k7 d) (mG ds)
end
theorem EZ:∀{ds:List D}{j:Nat}{d:D},ds[j]?=some d->k7 d<=mG ds
 |[],j,d,e=>by simp at e
 |d'::ds,0,d,e=>by
  have:d'=d:=by simpa using e
  subst this;unfold mG;lia
 |d'::ds,j+1,d,e=>by
  have:=EZ (ds:=ds) (j:=j) (d:=d) (by simpa using e)
  rw[mG];lia
def VC(ds es:List D):fH (.tup ds) (.tup es)=l9 ds es:=rfl
def F2(ds es:List D):fH (.lst ds) (.lst es)=l9 ds es:=rfl
def Gq(d e:D)(ds es:List D):l9 (d::ds) (e::es)=(fH d e&&l9 ds es):=rfl
def k9(ds es:List D)(j:Nat):Bool:=match ds[j]?,es[j]? with
 |some d,some e=>fH d e
 |_,_=>false
theorem BR:∀(ds es:List D),l9 ds es=((List.range (min ds.length es.length)).all (k9 ds es)&&(ds.length == es.length))
 |[],[]=>rfl
 |[],e::es=>by show false=_;simp
 |d::ds,[]=>by show false=_;simp
 |d::ds,e::es=>by
  have ih:=BR ds es;rw[Gq,ih,bH,bH,Nat.add_min_add_right,RE,EW,Ii];have e1:k9 (d::ds) (e::es) 0=fH d e:=rfl;have e2:(k9 (d::ds) (e::es)) ∘ Nat.succ=k9 ds es:=by funext j;rfl
  rw[e1,e2,Bool.and_assoc];congr 2;simp
def zbi(h:ds.length≠es.length):l9 ds es=false:=by
 rw[BR]
 have:(ds.length == es.length)=false:=by simpa using h
 rw[this,pY]
mutual
theorem xS:∀d:D,fH d d=true
 |.non=>rfl
 |.bl b=>by show (b == b)=true;simp
 |.int n=>by show (n == n)=true;simp
 |.str x=>by show (x == x)=true;simp
 |.tup ds=>DZ ds
 |.lst ds=>DZ ds
theorem DZ:∀ds:List D,l9 ds ds=true
 |[]=>rfl
 |d::ds=>by rw[Gq,xS d,DZ ds];rfl
end
mutual
theorem Is.inj:∀{v:V}{d e:D},Is H v d->Is H v e->d=e
 |v,.non,e,h,h'=>by
  unfold Is at h;subst h;cases e<;>unfold Is at h' <;>first|rfl|(cases h';done)|(obtain⟨_,_,z,_⟩:=h';cases z)
 |v,.bl b,e,h,h'=>by
  unfold Is at h;subst h;cases e<;>unfold Is at h' <;>first|(cases h';rfl)|(cases h';done)|(obtain⟨_,_,z,_⟩:=h';cases z)
 |v,.int n,e,h,h'=>by
  unfold Is at h;subst h;cases e<;>unfold Is at h' <;>first|(cases h';rfl)|(cases h';done)|(obtain⟨_,_,z,_⟩:=h';cases z)
 |v,.str x,e,h,h'=>by
  unfold Is at h;subst h;cases e<;>unfold Is at h' <;>first|(cases h';rfl)|(cases h';done)|(obtain⟨_,_,z,_⟩:=h';cases z)
 |v,.tup ds,e,h,h'=>by
  obtain⟨a,xs,rfl,h1,h2⟩:=h;cases e with
  |tup es =>
   obtain⟨b,ys,z,g1,g2⟩:=h';cases z;rw[h1]at g1;cases g1;rw[cY.inj h2 g2]
  |lst es =>
   obtain⟨b,ys,z,g1,g2⟩:=h';cases z;rw[h1]at g1;cases g1
  |_=>unfold Is at h';cases h'
 |v,.lst ds,e,h,h'=>by
  obtain⟨a,xs,rfl,h1,h2⟩:=h;cases e with
  |lst es =>
   obtain⟨b,ys,z,g1,g2⟩:=h';cases z;rw[h1]at g1;cases g1;rw[cY.inj h2 g2]
  |tup es =>
   obtain⟨b,ys,z,g1,g2⟩:=h';cases z;rw[h1]at g1;cases g1
  |_=>unfold Is at h';cases h'
theorem cY.inj:∀{xs:List V}{ds es:List D},cY H xs ds->cY H xs es->ds=es
 |xs,[],es,h,h'=>by
  subst h;cases es with
  |nil=>rfl
  |cons e es=>unfold cY at h';obtain⟨_,_,z,_⟩:=h';cases z
 |xs,d::ds,es,h,h'=>by
  obtain⟨x,r,rfl,h1,h2⟩:=h;cases es with
  |nil=>unfold cY at h';cases h'
  |cons e es =>
   obtain⟨x',r',z,g1,g2⟩:=h';cases z;rw[Is.inj h1 g1,cY.inj h2 g2]
end
section
variable{X:Cx}{ae:List (Addr×Obj)}{σ:St}{H:Hp}{s:Shared}
structure Ej(A:Around)(s:Shared)(u w:Value)(b:Bool):Prop where
 rc:SeqAt.RcAt A s u w b
 ne:SeqAt.RcNeAt A s u w (!b)
def Ag(r:Vals xs ah)(h:cY H xs ds)(hj:j<ah.toArray.size):∃d x,ds[j]?=some d/\Is H x d/\RelV x ah.toArray[j]:=by
 have fV:j<ah.length:=by simpa using hj
 have l1:=r.length;have l2:=h.length;have ed:ds[j]?=some ds[j]:=by simp
 obtain⟨x,ex,hx⟩:=h.at ed;obtain⟨u,eu,ru⟩:=r.get ex;exists _,x,ed,hx,?_;rw[d4 fV]at eu
 have:ah.toArray[j]=u:=by simpa using gd eu
 rw[this];exact ru
inductive Kd (s:Shared) (H:Hp):Value->D->Prop where
 |none:Kd s H .none .non
 |bool (b:Bool):Kd s H (.bool b) (.bl b)
 |int (n:Int) (t:Tok):Kd s H (.int n t) (.int n)
 |str (x:Str) (t:Tok):Kd s H (.str x t) (.str x)
 |tuple {a:Addr}{xs:List V}{ah:List Value}{ds:List D} (h:H a=some (.tup xs)) (r:Vals xs ah) (p:s.heap.IsTuple a ah.toArray) (q:cY H xs ds):Kd s H (.ref a) (.tup ds)
 |list {a:Addr}{xs:List V}{ah:List Value}{ds:List D} (h:H a=some (.lst xs)) (r:Vals xs ah) (p:s.heap.IsList a ah.toArray) (q:cY H xs ds):Kd s H (.ref a) (.lst ds)
def pZ(I:Inv X ae σ H s)(h:Is H v d)(r:RelV v u):Kd s H u d:=by
 cases d with
 |non=>unfold Is at h;subst h;cases (show u=Value.none from r);exact .none
 |bl b=>unfold Is at h;subst h;cases (show u=Value.bool b from r);exact .bool b
 |int n=>unfold Is at h;subst h;obtain⟨t,e⟩:=(show ∃t,u=Value.int n t from r);cases e;exact .int n t
 |str x=>unfold Is at h;subst h;obtain⟨t,e⟩:=(show ∃t,u=Value.str x t from r);cases e;exact .str x t
 |tup ds =>
  obtain⟨a,xs,rfl,h1,h2⟩:=h;cases (show u=Value.ref a from r);obtain⟨_,ah,r1,t1⟩:=(show dq X.prog X.w H s.heap a (.tup xs) from I.hok a _ h1);exact .tuple h1 r1 t1 h2
 |lst ds =>
  obtain⟨a,xs,rfl,h1,h2⟩:=h;cases (show u=Value.ref a from r);obtain⟨ah,r1,p1,_⟩:=I.list (aj.of (K:=X.K) h1);exact .list h1 r1 p1.isList h2
def Sc:D->Prop
 |.tup _=>False
 |.lst _=>False
 |_=>True
set_option maxHeartbeats 4000000 in
def pA(hu:A.units<cLine)(k1:Kd s H u d)(hs:Sc d)(k2:Kd s H u' e):Ej A s u u' (fH d e)/\SeqAt.EqAt A s u u' (fH d e):=by
 cases k1 with
 |tuple=>exact hs.elim
 |list=>exact hs.elim
 |none  =>
  cases k2 with
  |none  => nomatch ⟨.none_none ,.none_none ⟩,zg _
  |bool c=>nomatch ⟨.none_bool c,.none_bool c⟩,.none_bool c
  |int k v=>nomatch ⟨.none_int k v,.none_int k v⟩,.none_int k v
  |str y v=>nomatch ⟨.none_str y v,.none_str y v⟩,.none_str y v
  |list h r p q=>nomatch ⟨.none_list  p hu,.none_list  p hu⟩,.none_list  p hu
  |tuple h r p q=>nomatch ⟨.none_tuple  p hu,.none_tuple  p hu⟩,.none_tuple  p hu
 |bool b =>
  cases k2 with
  |none  => nomatch ⟨.bool_none b,.bool_none b⟩,.bool_none b
  |bool c=>nomatch ⟨.bool_bool b c,.bool_bool b c⟩,.bool_bool b c
  |int k v=>nomatch ⟨.bool_int b k v,.bool_int b k v⟩,.bool_int b k v
  |str y v=>nomatch ⟨.bool_str b y v,.bool_str b y v⟩,.bool_str b y v
  |list h r p q=>nomatch ⟨.bool_list b p hu,.bool_list b p hu⟩,.bool_list b p hu
  |tuple h r p q=>nomatch ⟨.bool_tuple b p hu,.bool_tuple b p hu⟩,.bool_tuple b p hu
 |int m t =>
  cases k2 with
  |none  => nomatch ⟨.int_none m t,.int_none m t⟩,.int_none m t
  |bool c=>nomatch ⟨.int_bool m t c,.int_bool m t c⟩,.int_bool m t c
  |int k v=>nomatch ⟨.int_int m t k v,.int_int m t k v⟩,.int_int m t k v
  |str y v=>nomatch ⟨.int_str m t y v,.int_str m t y v⟩,.int_str m t y v
  |list h r p q=>nomatch ⟨.int_list m t p hu,.int_list m t p hu⟩,.int_list m t p hu
  |tuple h r p q=>nomatch ⟨.int_tuple m t p hu,.int_tuple m t p hu⟩,.int_tuple m t p hu
 |str x t =>
  cases k2 with
  |none  => nomatch ⟨.str_none x t,.str_none x t⟩,.str_none x t
  |bool c=>nomatch ⟨.str_bool x t c,.str_bool x t c⟩,.str_bool x t c
  |int k v=>nomatch ⟨.str_int x t k v,.str_int x t k v⟩,.str_int x t k v
  |str y v=>nomatch ⟨.str_str x t y v,.str_str x t y v⟩,.str_str x t y v
  |list h r p q=>nomatch ⟨.str_list x t p hu,.str_list x t p hu⟩,.str_list x t p hu
  |tuple h r p q=>nomatch ⟨.str_tuple x t p hu,.str_tuple x t p hu⟩,.str_tuple x t p hu
set_option maxHeartbeats 4000000 in
def LU(I:Inv X ae σ H s):∀(n:Nat) (d e:D) (A:Around) {u u':Value},k7 d<=n->A.units+n<cLine->Kd s H u d->Kd s H u' e->Ej A s u u' (fH d e)/\SeqAt.EqAt A s u u' (fH d e):=by
 intro n;induction n with
 |zero =>
  intro d e A u u' hd hu k1 k2;cases k1 with
  |tuple=>unfold k7 at hd;lia
  |list=>unfold k7 at hd;omega
  |none=>exact pA (by assumption) .none trivial k2
  |bool b=>exact pA (by assumption) (.bool b) trivial k2
  |int m t=>exact pA (by assumption) (.int m t) trivial k2
  |str y t=>exact pA (by assumption) (.str y t) trivial k2
 |succ n ih =>
  intro d e A u u' hd hu k1 k2;have cw:A.units<cLine:=by lia
  have sW:A.in1.units+n<cLine:=by lia
  cases k1 with
  |@tuple a xs ah ds h1 r1 p1 q1 =>
   cases k2 with
   |@tuple b ys dQ es h2 r2 p2 q2 =>
    have bU:mG ds<=n:=by unfold k7 at hd;lia
    have n1:ah.length=ds.length:=by have:=r1.length;have:=q1.length;lia
    have n2:dQ.length=es.length:=by have:=r2.length;have:=q2.length;lia
    have he:∀j (g1:j<ah.toArray.size) (g2:j<dQ.toArray.size),SeqAt.EqAt A.in1 s ah.toArray[j] dQ.toArray[j] (k9 ds es j):=λj g1 g2=>by
     obtain⟨d1,x1,e1,i1,v1⟩:=Ag r1 q1 g1;obtain⟨d2,x2,e2,i2,v2⟩:=Ag r2 q2 g2;have e3:k9 ds es j=fH d1 d2:=by unfold k9;rw[e1,e2]
     rw[e3];exact (ih d1 d2 A.in1 (aX (EZ e1) bU) sW (pZ I i1 v1) (pZ I i2 v2)).2
    have ev:((List.range (min ah.toArray.size dQ.toArray.size)).all (k9 ds es)&&(ah.toArray.size == dQ.toArray.size))=fH (.tup ds) (.tup es):=by
     rw[fz,fz,n1,n2,VC,BR]
    have R1:=WT p1 p2 cw he;have R2:=Vp p1 p2 cw he;rw[ev]at R1 R2;exists ⟨R1,R2⟩,?_;by_cases je:a=b
    ·subst je;rw[h1]at h2;cases h2;rw[cY.inj q1 q2,xS];exact zg _
    ·exact LI je R1
   |@list b ys dQ es h2 r2 p2 q2=>nomatch ⟨.tuple_list p1 p2 cw,.tuple_list p1 p2 cw⟩,.tuple_list p1 p2 cw
   |none=>nomatch ⟨.tuple_none p1 cw,.tuple_none p1 cw⟩,.tuple_none p1 cw
   |bool b=>nomatch ⟨.tuple_bool b p1 cw,.tuple_bool b p1 cw⟩,.tuple_bool b p1 cw
   |int m t=>nomatch ⟨.tuple_int m t p1 cw,.tuple_int m t p1 cw⟩,.tuple_int m t p1 cw
   |str y t=>nomatch ⟨.tuple_str y t p1 cw,.tuple_str y t p1 cw⟩,.tuple_str y t p1 cw
  |@list a xs ah ds h1 r1 p1 q1 =>
   cases k2 with
   |@list b ys dQ es h2 r2 p2 q2 =>
    have bU:mG ds<=n:=by unfold k7 at hd;omega
    have n1:ah.length=ds.length:=by have:=r1.length;have:=q1.length;omega
    have n2:dQ.length=es.length:=by have:=r2.length;have:=q2.length;omega
    have R:Ej A s (.ref a) (.ref b) (fH (.lst ds) (.lst es)):=by
     by_cases hn:ds.length=es.length
     ·have he:∀j (g1:j<ah.toArray.size) (g2:j<dQ.toArray.size),SeqAt.EqAt A.in1 s ah.toArray[j] dQ.toArray[j] (k9 ds es j):=λj g1 g2=>by
       obtain⟨d1,x1,e1,i1,v1⟩:=Ag r1 q1 g1;obtain⟨d2,x2,e2,i2,v2⟩:=Ag r2 q2 g2;have e3:k9 ds es j=fH d1 d2:=by unfold k9;rw[e1,e2]
       rw[e3];exact (ih d1 d2 A.in1 (aX (EZ e1) bU) sW (pZ I i1 v1) (pZ I i2 v2)).2
      have hsz:ah.toArray.size=dQ.toArray.size:=by simp;lia
      have ev:(List.range ah.toArray.size).all (k9 ds es)=fH (.lst ds) (.lst es):=by
       rw[fz,n1,F2,BR,hn,Gp];simp
      have R1:=Vm p1 p2 hsz cw he;have R2:=jhQ p1 p2 hsz cw he;rw[ev]at R1 R2;nomatch R1,R2
     ·have hsz:(ah.toArray.size != dQ.toArray.size)=true:=by simp;lia
      rw[F2,zbi hn];nomatch ZG p1 p2 hsz cw,Yz p1 p2 hsz cw
    exists R,?_;by_cases je:a=b
    ·subst je;rw[h1]at h2;cases h2;rw[cY.inj q1 q2,xS];exact zg _
    ·exact LI je R.rc
   |@tuple b ys dQ es h2 r2 p2 q2=>nomatch ⟨.list_tuple p1 p2 cw,.list_tuple p1 p2 cw⟩,.list_tuple p1 p2 cw
   |none=>nomatch ⟨.list_none p1 cw,.list_none p1 cw⟩,.list_none p1 cw
   |bool b=>nomatch ⟨.list_bool b p1 cw,.list_bool b p1 cw⟩,.list_bool b p1 cw
   |int m t=>nomatch ⟨.list_int m t p1 cw,.list_int m t p1 cw⟩,.list_int m t p1 cw
   |str y t=>nomatch ⟨.list_str y t p1 cw,.list_str y t p1 cw⟩,.list_str y t p1 cw
  |none=>exact pA cw .none trivial k2
  |bool b=>exact pA cw (.bool b) trivial k2
  |int m t=>exact pA cw (.int m t) trivial k2
  |str y t=>exact pA cw (.str y t) trivial k2
def RX(f:Bool->Bool):R2:=λx y H Q=>∃d e,Is H x d/\Is H y e/\k7 d<=60/\Q (.bl (f (fH d e))) H
def BN(hu:X.A.units+60<cLine):bV X (compareOp .Eq) (RX id):=by
 intro ae s σ H x y v u Q I rx ry h;obtain⟨d,e,h1,h2,h3,q⟩:=h;exact (LU I 60 d e X.A h3 hu (pZ I h1 rx) (pZ I h2 ry)).1.rc _ _ _ _ ⟨.bl (fH d e),H,I,rfl,q⟩
def Bx(hu:X.A.units+60<cLine):bV X (compareOp .NotEq) (RX not):=by
 intro ae s σ H x y v u Q I rx ry h;obtain⟨d,e,h1,h2,h3,q⟩:=h;exact (LU I 60 d e X.A h3 hu (pZ I h1 rx) (pZ I h2 ry)).1.ne _ _ _ _ ⟨.bl (!(fH d e)),H,I,rfl,q⟩
def pz(hr:cN k A):A.units+60<cLine:=jm (Bq (by decide:60<=64) _) hr.units
end
open PySem PySem.Spec PyProof.Rows
section
variable{X:Cx}{st:Stmt}{sts:List Stmt}{t:TS}{e:Expr}{te:TE}
def Yo(t:TS):TS:=λD σ H=>∃M:St->Hp->Prop,t {D with nx:=M} σ H/\∀σ' H',M σ' H'->D.nx σ' H'
set_option tactic.hygienic true in
def kx(h:PS X st t):PS X st (Yo t):=by
 rintro ae s σ H D I ⟨M,q,w⟩;refine aO (h ae s σ H {D with nx:=M} I q) λr s' z=>?_
 cases r with
 |next=>obtain⟨σ',H',I',m⟩:=z;nomatch σ',H',I',w _ _ m
 |_=>exact z
end
end L2
namespace My
open PySem L2 OF
def bD(h:n<=1000000):n<sizeLine:=jm h tD
def gG(h1 : -(2^64)<a)(h2:a<2^64):IntMulOk a b:=BB.ok (.inl ⟨h1,h2⟩)
def kZ(h1 : -(2^64)<b)(h2:b<2^64):IntMulOk a b:=BB.ok (.inr ⟨h1,h2⟩)
def sO(m:Nat):(1:Int)*2^((m:Int)).toNat=2^m:=by simp
def fQ{ps:List Addr}{i:Nat}{y:V}(hi:(ps.map V.ref)[i]?=some y):∃p,ps[i]?=some p/\y=V.ref p:=by
 rw[cQ]at hi;cases e:ps[i]? with
 |none=>rw[e]at hi;cases hi
 |some p=>rw[e]at hi;nomatch p,rfl,(gd hi).symm
def so{ns:List Int}{i:Nat}{y:V}(hi:(ns.map V.int)[i]?=some y):∃n,ns[i]?=some n/\y=V.int n:=by
 rw[cQ]at hi;cases e:ns[i]? with
 |none=>rw[e]at hi;cases hi
 |some p=>rw[e]at hi;nomatch p,rfl,(gd hi).symm
def Lz(K:Frag):Sp:=λvs H Q _=>∃(a:Addr) (l:aq) (g:Int),vs=[.ref a,.int g]/\TL K H a l/\l.length<=100000/\∀H',af H H'->Q (.int (fw l g)) H'
def Nj(K:Frag):Sp:=λvs H Q _=>∃(a:Addr) (ns:List Int),vs=[.ref a]/\aj K H a (ns.map V.int)/\ns.length<=63/\(∀n∈ns,intBits n<=2^20)/\∀H',Q (.bl true) H'
noncomputable def dT(t:Int×Int):D:=.tup [.int t.1,.int t.2]
def dF(l:aq):D:=.lst (l.map dT)
theorem Kc:∀{ps:List Addr}{l:aq},cn H ps l->cY H (ps.map V.ref) (l.map dT)
 |_,_,.nil=>by unfold cY;rfl
 |_,_,.cons (a:=p) (b:=t) r q=>by
  rw[bN,bN];exists _,_,rfl,?_,Kc q;exists p,_,rfl,r,?_;exists _,_,rfl,(by unfold Is;rfl),?_;exists _,_,rfl,(by unfold Is;rfl),?_;rfl
def _root_.L2.aG.is(h:aG H a l):Is H (.ref a) (dF l):=by
 obtain⟨ps,h1,h2⟩:=h;nomatch a,_,rfl,h1,Kc h2
def ZR(t:Int×Int):k7 (dT t)=1:=rfl
theorem Nb:∀l:aq,mG (l.map dT)<=1
 |[]=>bM _
 |t::r=>by
  rw[bN,mG,ZR]
  have:=Nb r
  lia
def Cp(l:aq):k7 (dF l)<=2:=by
 unfold dF;rw[k7];have:=Nb l;lia
def YB(t u:Int×Int):fH (dT t) (dT u)=decide (t=u):=by
 obtain⟨a,b⟩:=t;obtain⟨c,d⟩:=u;show ((a == c)&&((b == d)&&true))=decide ((a,b)=(c,d));by_cases e1:a=c<;>by_cases e2:b=d<;>simp[e1,e2]
theorem MD:∀l m:aq,l9 (l.map dT) (m.map dT)=decide (l=m)
 |[],[]=>rfl
 |[],_::_=>rfl
 |_::_,[]=>rfl
 |t::l,u::m=>by
  rw[bN,bN,Gq,YB,MD l m];by_cases e1:t=u<;>by_cases e2:l=m<;>simp[e1,e2]
def Ti(l m:aq):fH (dF l) (dF m)=decide (l=m):=by unfold dF;rw[F2];exact MD l m
def zcd(h1:H a=some (.lst xs))(h2:cY H xs ds):Is H (.ref a) (.lst ds):=by
 unfold Is;nomatch a,xs,rfl,h1,h2
set_option tactic.hygienic true in
def Xo(h1:a.natAbs<2^j)(h2:b.natAbs<2^k)(h:j+k<=134217728):IntMulOk a b:=by
 have f:∀{x:Int}{m:Nat},x.natAbs<2^m->intBits x<=m:=fun {x m} hx=>by
  unfold intBits;split
  ·exact bM _
  ·rename_i h0;have Zg:x.natAbs≠0:=by simpa using h0
   exact (tP Zg).mpr hx
 exact jgE (f h1) (f h2) h
def Ui(B:Nat)(l:aq):Prop:=∀t∈l,t.2.natAbs<=B
theorem Hq:∀{f:aq},IsForm f->∀t∈f,aL f t.1=t.2
 |[],_,t,h=>by simp at h
 |p::r,hf,t,h=>by
  have h1:=pf.mp hf.rise;rcases bC.mp h with e|e
  ·rw[e];exact sv h1.1
  ·have hr:IsForm r:=⟨h1.2,λq hq=>hf.nz q (by simp[hq])⟩
   have:=Hq hr t e
   have h2:=h1.1 t e;rw[aL,av tL,this];lia
def _root_.L2.af.write(h:af HB H)(ha:HB a=none):af HB (upd H a o):=λb u e=>by
 rw[aS (c7 e ha)];exact h b u e
def aG.cat{H H':Hp}{a b c:Addr}{l m:aq}{ps qs:List Addr}(h1:cn H ps l)(h2:cn H qs m)(s:af H H')(hc:H' c=some (.lst (ps.map V.ref++qs.map V.ref))):aG H' c (l++m) :=
 ⟨ps++qs,by simp_all,cn.append (h1.keep λb xs z=>s b _ z) (h2.keep λb xs z=>s b _ z)⟩
def _root_.L2.TL.seq{K:Frag}{H:Hp}{a:Addr}{l:aq}(h:TL K H a l):∃xs,aj K H a xs:=let ⟨ps,h1,_⟩:=h; ⟨_,h1⟩
def Dy{K:Frag}{a:Addr}{l:aq}{H:Hp}{te:TE}{R:List V->Hp->Addr->Prop}(f:Int×Int->Int×Int)(hT:TL K H a l)(hl:l.length<=1000000)(rest:List (Option V)){σ:St}(hσ:σ=none::none::rest)
  (he:∀t∈l,∀(H2:Hp) (R:V->Hp->Prop),af H H2->(∀w,H2 w=none->R (.ref w) (upd H2 w (.tup [.int (f t).1,.int (f t).2])))->te (some (.int t.1)::some (.int t.2)::rest) H2 R)
  (q:∀(D:Addr) (ys:List V) (H2:Hp),H D=none->aG (upd H2 D (.lst ys)) D (l.map f)->af H (upd H2 D (.lst ys))->R ys H2 D) :
  ∃W:Nat->Nat->List V->St->Hp->Prop,(∃m,W 0 m [] σ H)/\∀i m ys σ H,W i m ys σ H ->
   ((iZ K a).stop i H/\∀D,H D=none->R ys H D) \/
   ((iZ K a).go i H/\ys.length<sizeLine/\∃ N:List V->St->Hp->Prop,(∀ dJ σ' H',N dJ σ' H'->∃ m',m'<m/\W (i+1) m' dJ σ' H') /\ ∀x H',(iZ K a).yld i H x H'->eI K 2 (bT (aW 0) (bT (aW 1) e7)) x σ H' λσ2 H2=>GY σ2 H2 λb H3=>if b=true then te σ2 H3 λy H4=>N (ys++[y]) σ2 H4 else N ys σ2 H3):=by
 obtain⟨ps,hS,hP⟩:=hT;subst hσ;refine gW (K:=K) (a:=a) (xs:=ps.map V.ref) (R:=R) (λi ys σ H2=>∃(v0 v1:Option V) (qs:List Addr),σ=v0::v1::rest/\ys=qs.map V.ref/\cn H2 qs ((l.take i).map f)/\af H H2)
  ⟨none,none,[],rfl,rfl,.nil,af.refl _⟩ (by rintro i ys σ H2 hi ⟨_,_,qs,_,e1,e2,e3⟩;exact⟨e3.seq hS,by rw[e1,ax,e2.length,ax,fR];lia⟩) (by rw[ax,hP.length];exact bE (bD hl)) ?_ ?_
 ·rintro i z ys σ H2 hi ⟨v0,v1,qs,rfl,rfl,g2,g4⟩;obtain⟨p,DS,rfl⟩:=fQ hi;obtain⟨t,aY,cj⟩:=hP.at' DS;have bB:l.take (i+1)=l.take i++[t]:=by rw[cZ,aY];rfl
  exists p,_,rfl,az.of (g4 _ _ cj),rfl,_,_,rfl,_,_,rfl,rfl,?_;refine he t (cM aY) H2 _ g4 λw hw=>?_
  have lu:af H2 (upd H2 w (.tup [.int (f t).1,.int (f t).2])):=af.upd hw;exists _,_,qs++[w],rfl,(by rw[aQ];rfl),?_,g4.trans lu;rw[bB,aQ];exact cn.snoc (g2.keep λb xs z=>lu b _ z) ar
 ·rintro ys σ H2 ⟨v0,v1,qs,rfl,rfl,g2,g4⟩ w hw;have vz:l.take (ps.map V.ref).length=l:=by rw[ax,hP.length,dG]
  rw[vz]at g2;have lu:af H2 (upd H2 w (.lst (qs.map V.ref))):=af.upd hw;exact q w _ _ (g4.free hw) ⟨qs,ar,g2.keep λb xs z=>lu b _ z⟩ (g4.trans lu)
def wC{H:Hp}{a b:Addr}{o:HO}(h:H a=some o)(hb:H b=none):b≠a:=(c7 h hb).symm
end My
namespace OF
open PySem
noncomputable def fq(t:Int×Int)(m:aq):aq:=m.map λu=>(Builtin.bitOr t.1 u.1,t.2*u.2)
def bK(l m:aq):aq:=l.flatMap λt=>fq t m
def RJ(t:Int×Int)(m:aq):(fq t m).length=m.length:=ax _
def zcn(t u:Int×Int)(m:aq):fq t (m++[u])=fq t m++[(Builtin.bitOr t.1 u.1,t.2*u.2)]:=by unfold fq;rw[aQ];rfl
def P7(l m:aq)(t:Int×Int):bK (l++[t]) m=bK l m++fq t m:=by unfold bK;rw[Px];simp
theorem oX:∀(l m:aq),(bK l m).length=l.length*m.length
 |[],m=>by simp[bK]
 |t::l,m=>by
  have:=oX l m
  have e:bK (t::l) m=fq t m++bK l m:=by unfold bK;rw[ky]
  rw[e,bh,RJ,this,bH,Hb,QP,A2]
def Mq(h:x∈bK l m):∃t∈l,∃u∈m,x=(Builtin.bitOr t.1 u.1,t.2*u.2):=by
 obtain⟨t,ht,h⟩:=Bs.mp h;obtain⟨u,hu,e⟩:=bp.mp h;nomatch t,ht,u,hu,e.symm
noncomputable def cm(φ:Int->Int):aq->Int
 |[]=>0
 |t::r=>φ t.1*t.2+cm φ r
theorem C3(φ:Int->Int):∀a b:aq,cm φ (a++b)=cm φ a+cm φ b
 |[],b=>by simp[cm]
 |t::r,b=>by rw[yQ,cm,cm,C3 φ r b];lia
theorem Qy(φ:Int->Int)(k:Int):∀l:aq,cm φ l=φ k*aL l k+cm φ (l.filter λt=>decide (t.1≠k))
 |[]=>by simp[cm,aL]
 |t::r=>by
  have ih:=Qy φ k r;rw[cm,aL,ih];by_cases h:t.1=k
  ·rw[aC h,Am (by simp[h]),h,yX];lia
  ·rw[av h,DI (by simp[h]),cm,pF];lia
theorem Ms(k j:Int):∀l:aq,aL (l.filter λt=>decide (t.1≠k)) j=if j=k then 0 else aL l j
 |[]=>by simp[aL]
 |t::r=>by
  have ih:=Ms k j r;by_cases h:t.1=k
  ·rw[Am (by simp[h]),ih,aL];by_cases hj:j=k
   ·simp[hj]
   ·rw[av hj,av hj,av tL];lia
  ·rw[DI (by simp[h]),aL,aL,ih];by_cases hj:j=k
   ·rw[aC hj,aC hj,av tL];rfl
   ·rw[av hj,av hj]
theorem Lv(φ:Int->Int):∀(n:Nat) (l:aq),l.length<=n->(∀k,aL l k=0)->cm φ l=0
 |_,[],_,_=>rfl
 |0,t::r,h,_=>by simp at h
 |n+1,t::r,h,hc=>by
  rw[Qy φ t.1,hc,Int.mul_zero,pF];have e:((t::r).filter λu=>decide (u.1≠t.1))=r.filter λu=>decide (u.1≠t.1):=Am tS
  rw[e];refine Lv φ n _ ?_ λk=>?_
  ·have:=lW (λu:Int×Int=>decide (u.1≠t.1)) r
   rw[bH]at h;lia
  ·rw[<-e,Ms];split
   ·rfl
   ·exact hc k
theorem Jn(φ:Int->Int):∀l:aq,cm φ (l.map λp=>(p.1,-p.2)) = -cm φ l
 |[]=>rfl
 |t::r=>by
  rw[bN,cm,cm,Jn φ r];rw[Int.mul_neg];lia
def SG(φ:Int->Int)(h:∀k,aL l k=aL m k):cm φ l=cm φ m:=by
 have:=Lv φ _ (l++m.map λp=>(p.1,-p.2)) (aT _) λk=>by rw[cG,nL,h];lia
 rw[C3,Jn]at this;lia
theorem BI(φ:Int->Int)(c:Int):∀l:aq,cm φ (l.map λp=>(p.1,p.2*c))=cm φ l*c
 |[]=>by simp[cm]
 |t::r=>by rw[bN,cm,cm,BI φ c r,Int.add_mul,He]
noncomputable def iN(g k:Int):Int:=if Builtin.bitAnd k g=k then 1 else 0
theorem mB(g:Int):∀l:aq,fw l g=cm (iN g) l
 |[]=>rfl
 |t::r=>by
  have ih:=mB g r;unfold fw at ih ⊢;rw[cm,<-ih,iN];by_cases h:Builtin.bitAnd t.1 g=t.1
  ·rw[aC h,DI (by simp[h]),bN,mm,qt]
  ·rw[av h,Am (by simp[h]),Gw,pF]
def zad(g:Int)(h:∀k,aL l k=aL m k):fw l g=fw m g:=by rw[mB,mB,SG _ h]
def vw(a b:Nat):Builtin.bitAnd (a:Int) (b:Int)=((a&&&b:Nat):Int):=by
 have:=jhl (x:=(a:Int)) (y:=(b:Int)) (iC _) (iC _)
 simpa using this
def As(a b:Nat):Builtin.bitOr (a:Int) (b:Int)=((a|||b:Nat):Int):=by
 have:=Tx (x:=(a:Int)) (y:=(b:Int)) (iC _) (iC _)
 simpa using this
def tN(l:aq)(k:Int):aL l k=cm (λj=>if j=k then 1 else 0) l:=by
 induction l with
 |nil=>rfl
 |cons t r ih =>
  rw[aL,cm,ih];split<;>simp_all
def Xm(a b:Int):Builtin.bitAnd a b=Builtin.bitAnd b a:=by
 unfold Builtin.bitAnd;by_cases h1:0<=a<;>by_cases h2:0<=b<;>simp[h1,h2,Nat.and_comm,Ki]
def zcs(a b:Int):Builtin.bitOr a b=Builtin.bitOr b a:=by unfold Builtin.bitOr;rw[Xm]
def Qx(l m:aq)(k:Int):aL (bK l m) k=aL (bK m l) k:=by
 have e0:∀l:aq,aL (bK l []) k=0:=λl=>by
  induction l with
  |nil=>rfl
  |cons t r ih =>
   have e:bK (t::r) []=fq t []++bK r []:=(by unfold bK;rw[ky]);rw[e];exact ih
 have step:∀(l m:aq) (t:Int×Int),aL (bK m (t::l)) k=aL (fq t m) k+aL (bK m l) k:=by
  intro l m t;induction m with
  |nil=>rfl
  |cons u r ih =>
   have e1:bK (u::r) (t::l)=fq u (t::l)++bK r (t::l):=by unfold bK;rw[ky]
   have e2:bK (u::r) l=fq u l++bK r l:=by unfold bK;rw[ky]
   have e3:fq u (t::l)=(Builtin.bitOr u.1 t.1,u.2*t.2)::fq u l:=rfl;have e4:fq t (u::r)=(Builtin.bitOr t.1 u.1,t.2*u.2)::fq t r:=rfl;rw[e1,cG,ih,e2,cG,e3,e4,aL,aL,zcs u.1 t.1,Fg u.2 t.2];lia
 induction l with
 |nil=>rw[e0];rfl
 |cons t r ih =>
  have e:bK (t::r) m=fq t m++bK r m:=by unfold bK;rw[ky]
  rw[e,cG,ih,step]
end OF
namespace L2
open PySem PySem.Spec PyProof.Rows
def Inv.turnedT(I:Inv X ae σ H s)(k:∀b u,b≠e->b≠it->s.heap.get? b=some u->h'.get? b=some u)
  (fe:ij X ae H e) (fi:ij X ae H it) (hT:s.heap.objs.size<=T) (new:dq X.prog X.w (upd H T o) h' T o):Inv X ae σ (upd H T o) {s with heap:=h',toks:=t'}:=by
 have hn:=I.hok.fresh hT;have ne1:∀b u,H b=some u->b≠e/\b≠it:=λb u q=>⟨c7 q fe.1,c7 q fi.1⟩
 have nm:∀b,b∉[e,it]->b≠e/\b≠it:=λb hb=>⟨λz=>hb (by simp[z]),λz=>hb (by simp[z])⟩
 have lt:∀b u,s.heap.get? b=some u->b≠T:=λb u q=>dy (cS (bg q) hT)
 refine I.step (g':=s.gens) (d':=s.drawn) (ch:=[e,it]) (λb hb=>?_) (λb u _ _ hc q _=>k b u (nm b hc).1 (nm b hc).2 q) (λb u _ _ hc q _=>⟨u.slots,k b u (nm b hc).1 (nm b hc).2 q⟩) (λb u _ q n=>by rw[aS (lt b u q)];exact n)
  (λb u hc q=>⟨u,k b u (nm b hc).1 (nm b hc).2 q⟩) (λb xs q=>by rw[aS (c7 q hn)];exact q) (λb u xs q=>by rw[aS (c7 q hn)];exact q) (λb ps q=>⟨#[],by rw[aS (c7 q hn),q];simp⟩) (λm hm=>?_) (λb u q=>?_) I.bare
 ·rcases bC.mp hb with z|z
  ·subst z;nomatch fe.2.2.2.1,fe.2.1,fe.2.2.2.2.1,fe.2.2.2.2.2
  ·have z':b=it:=by simpa using z
   subst z';nomatch fi.2.2.2.1,fi.2.1,fi.2.2.2.2.1,fi.2.2.2.2.2
 ·obtain⟨u,es,ep,ho,r⟩:=hm;nomatch u,es,ep,k _ u (Ne.symm fe.2.1) (Ne.symm fi.2.1) ho,r
 ·by_cases hb:b=T
  ·subst hb;rw[ar]at q;cases q;exact new
  ·rw[aS hb]at q;refine (I.hok b u q).stay (λc v hc z=>?_) (λc z=>by rw[aS (c7 z hn)];exact z) λc xs z=>by rw[aS (c7 z hn)];exact z
   rcases hc with w|w
   ·rw[w]at z ⊢;exact k b v (ne1 b u q).1 (ne1 b u q).2 z
   ·exact k c v (ne1 c _ w).1 (ne1 c _ w).2 z
def vJ(K:Frag)(a:Addr):It :=
 ⟨λi H=>∃xs x,aj K H a xs/\xs[i]?=some x,λi H y H'=>∃T x,H T=none/\y=.ref T/\H'=upd H T (.tup [.int (i:Nat),x])/\∀xs,aj K H a xs->xs[i]?=some x,λi H=>∃xs,aj K H a xs/\xs.length<=i⟩
def YJ{P:Program}{w:World}{K:Frag}{elts:List Expr}{x1:Nat}{pos:Pos}(a e it:Addr)(JX:e≠it):nB P w K (.Tuple elts x1 pos) (vJ K a) [e,it] e (λi h=>(∃old,IsEnum h e it i old)/\h.IsListIter it a i) where
 mem:=by simp
 obj:=λi h st b hb=>by
  obtain⟨⟨old,he⟩,o,ho,c,d⟩:=st;rcases bC.mp hb with z|z
  ·subst z;exact⟨_,he,λv z=>by cases z⟩
  ·have z':b=it:=by simpa using z
   subst z';exact⟨o,ho,λv z=>by simp_all⟩
 keep:=λi h h' st k=>by
  obtain⟨⟨old,he⟩,hit⟩:=st;nomatch ⟨old,k e tS _ he⟩,hit.at λo q=>k it tS o q
 item:=by
  intro X hP hw hK hc i ae s σ H E I hf st hg;subst hP hw hK;obtain⟨⟨old,he⟩,hit⟩:=st;obtain⟨xs,x,hq,hx⟩:=hg;obtain⟨ah,rv,p,hz⟩:=I.list hq;obtain⟨u,hu,ru⟩:=rv.get hx;have fe:=hf e tS;have fi:=hf it tS;refine wpAny_pyNext_enum_item he hit p.isList (x:=u) (by simpa using hu) JX λh1 ho hit1 hT hsz k1=>⟨_,rfl,?_⟩
  have helt:=bg he;have Kq:=qH helt;have gD:it<s.heap.objs.size:=by obtain⟨o,q,_⟩:=hit;exact bg q
  refine wpAny_letOwnedTupleGo_enum ho λh2 jJ sb=>?_
  have kk:∀b v,b≠e->b≠it->s.heap.get? b=some v->h2.get? b=some v:=λb v bJ d9 q=>(sb.2 b bJ).trans (k1 b v bJ d9 q)
  have bF:=(sb.2 _ Kq).trans hT;exists .ref s.heap.objs.size,upd H s.heap.objs.size (.tup [.int (i:Nat),x]),I.turnedT (t':=s.toks+1) kk fe fi (aT _) ⟨by show 2<=sizeLine;decide,[.int i s.toks,u],.cons ⟨_,rfl⟩ (.cons ru .nil),?_⟩,rfl,⟨_,x,I.hok.fresh (aT _),rfl,rfl,λys hy=>by rw[I.list_inj hy hq];exact hx⟩,⟨⟨_,by simpa using jJ⟩,?_⟩,λb hb=>?_
  ·nomatch _,bF,rfl,0,rfl
  ·exact hit1.at λo q=>(sb.2 it JX.symm).trans q
  ·rcases bC.mp hb with z|z
   ·subst z;rw[aS (Ne.symm Kq)];exact fe.1
   ·have z':b=it:=by simpa using z
    subst z';rw[aS (dy gD)];exact fi.1
 done:=by
  intro X hP hw hK hc i ae s σ H E I hf st hg;subst hP hw hK;obtain⟨⟨old,he⟩,hit⟩:=st;obtain⟨xs,hq,hx⟩:=hg;obtain⟨ah,rv,p,hz⟩:=I.list hq;obtain⟨f0,f1,f2,f3,f4,f5⟩:=hf it tS;have hl:=rv.length;exact wpAny_pyNext_enum_end (I.ok.hd hc) he hit p.isList (by simp;lia) λh' eb=>⟨rfl,I.turned (t':=s.toks) (λb o hb q=>eb b o hb q) f0 f1 f3 f4 f5⟩
 self:=λ_ _ _ _ _ st h=>by
  obtain⟨⟨old,he⟩,_⟩:=st;exact wpAny_pyIter_enum he h
def zei(K:Frag)(ta:TA):TI:=λσ H R=>ta σ H λvs H1=>∃a,vs=[.ref a]/\(∃xs,aj K H1 a xs)/\R (vJ K a) H1
def zey:bootBuiltins "enumerate" = some (.type "enumerate"):=by decide+kernel
def zcT{X:Cx}{elts:List Expr}{x1:Nat}{p0 p pos:Pos}{a:Expr}{ta:TA}(hg:Gl X "enumerate")(hm:X.mg "enumerate" = none)(ha:PA X [a] ta)(hs:starEach [a] X.env=[(false,eval a X.env)]:=by rfl) :
  PI X (.Tuple elts x1 p0) (.Call (.Name "enumerate" p) [a] [] pos) (zei X.K ta):=by
 intro ae s σ H R I h;refine Call_ (qq I hg hm zey (tY (aO (ha pos ae s σ H _ I h) ?_) hs rfl));rintro us s1 ⟨vs,H1,I1,r1,q1⟩;obtain⟨b,rfl,⟨xs,hq⟩,q⟩:=q1;obtain⟨u,rfl,ru⟩:=gO r1;cases (show u=Value.ref b from ru);obtain⟨ah,rv,p,hz⟩:=I1.list hq;refine call_enumerate_list p.isList λh' he hit hsz k=>wpAny_pyIter_enum he ?_
 have I2:=I1.kept (t':=s1.toks) k;have cx:s1.heap.objs.size+1≠s1.heap.objs.size:=Nat.succ_ne_self _;exists s1.heap.objs.size+1,[s1.heap.objs.size+1,s1.heap.objs.size],_,_,H1,rfl,I2,YJ b _ _ cx,⟨⟨_,he⟩,hit⟩,λc hc=>?_,q;have fr:∀c,s1.heap.objs.size<=c->ij X ae H1 c:=λc hc=>I1.fpOk hc (I1.hok.fresh hc)
 rcases bC.mp hc with z|z
 ·subst z;exact fr _ (zi _)
 ·have z':c=s1.heap.objs.size:=by simpa using z
  subst z';exact fr _ (aT _)
def zeX{K:Frag}{a:Addr}{xs:List V}{g:TG}{tc:TT}{te:TE}{σ:St}{H:Hp}{R:List V->Hp->Addr->Prop}(Pv:Nat->List V->St->Hp->Prop)(h0:Pv 0 [] σ H)(hl:∀i ys σ H,i<=xs.length->Pv i ys σ H->aj K H a xs/\ys.length<=i)(hz:xs.length<=sizeLine)
  (hs:∀i x ys σ H T,xs[i]?=some x->Pv i ys σ H->H T=none->g (.ref T) σ (upd H T (.tup [.int (i:Nat),x])) λσ2 H2=>tc σ2 H2 λb H3=>if b=true then te σ2 H3 λy H4=>Pv (i+1) (ys++[y]) σ2 H4 else Pv (i+1) ys σ2 H3)
  (hd:∀ys σ H,Pv xs.length ys σ H->∀D,H D=none->R ys H D) :
  ∃W:Nat->Nat->List V->St->Hp->Prop,(∃m,W 0 m [] σ H)/\∀i m ys σ H,W i m ys σ H ->
   ((vJ K a).stop i H/\∀D,H D=none->R ys H D) \/
   ((vJ K a).go i H/\ys.length<sizeLine/\∃ N:List V->St->Hp->Prop,(∀ dJ σ' H',N dJ σ' H'->∃ m',m'<m/\W (i+1) m' dJ σ' H') /\ ∀x H',(vJ K a).yld i H x H'->g x σ H' λσ2 H2=>tc σ2 H2 λb H3=>if b=true then te σ2 H3 λy H4=>N (ys++[y]) σ2 H4 else N ys σ2 H3):=by
 exists λi m ys σ H=>m=xs.length-i/\i<=xs.length/\Pv i ys σ H,⟨xs.length,tS,bM _,h0⟩,?_;rintro i m ys σ H ⟨rfl,hi,p⟩;have q:=hl i ys σ H hi p;by_cases ba:i<xs.length
 ·refine .inr ⟨⟨xs,xs[i],q.1,by simp[ba]⟩,tL,Pv (i+1),λdJ σ' H' p'=>⟨xs.length-(i+1),tL,rfl,ba,p'⟩,λx H' y=>?_⟩;obtain⟨T,z,hT,rfl,rfl,y⟩:=y;exact hs i z ys σ _ T (y xs q.1) p hT
 ·have e:i=xs.length:=by lia
  subst e;exact .inl ⟨⟨xs,q.1,aT _⟩,hd ys σ H p⟩
open PySem PySem.Spec PyProof.Rows
def T4:typeLookup (.type "list") "keys" = pure none:=by rw[Ad,yE];kernel_rfl
section
variable{prog:Program}{w:World}{A:Around}{E:Value->Shared->Prop}{s:Shared}{a:Addr}
def WU(hx:s.heap.get? a=some {cls:=.type "list",dict:=none,data:=.seq ah n,slots:=sl})(hA:A.handled=none)
  (h:∀h' tk e,Heap.NewExcOf s.heap h' e "AttributeError" -> Q none {s with heap:=h',toks:=tk}):wpAny (model prog w) A (getAttr? (.ref a) "keys") Q E s:=by
 obtain⟨hp,g,d,tk,os⟩:=s;have hT:∀mM,(⟨hp,g,d,mM,os⟩:Shared).TypeIs (.ref a) "list" := λ_=>⟨_,hx,rfl⟩
 have f1:=sub_AttributeError;have f3:=PySem.F.slot_list_getattribute.lookup;have f4:=PySem.F.slot_list_getattribute.bind (.ref a);have f5:=am_list_getattr_none;repeat (any_goals (first|assumption|exact hT _|((with_reducible show wpAny _ _ (call (Value.builtin "list.__getattribute__") _ _) _ _ _);refine nH PySem.F.slot_list_getattribute (hT _) am_entry_list_getattribute (PySem.F.args_list_getattribute_2 _ _) (meets_getattribute_miss_list a ah n sl "keys" _ T4 tE tE) ⟨hx,hA,λh' mM e fL=>?_⟩)|wp_step))
 obtain⟨t',u',he⟩:=fL.there;unfold getattributeRaised;repeat (any_goals (first|assumption|wp_step))
 exact h _ _ _ fL.of
end
def JS:entryFor table "dict.update.loop" = some Builtin.«dict.update.loop» := entryFor_of_tree tK
def nP(d:OF.aq)(l:OF.aq):OF.aq:=l.foldl (λd t=>OF.fh d t.1 t.2) d
section
variable{X:Cx}{ae:List (Addr×Obj)}{σ:St}{H:Hp}
def zax(hh:A.handled=none)(hS:∀o,aj X.K (upd H d o) l (ps.map V.ref))(hP:∀o,cn (upd H d o) ps tt)(hF:∀o,ij X ae (upd H d o) it)(qQ:(d == sysModules)=false) :
  ∀(r i:Nat) (kv:OF.aq) (s:Shared),i+r=tt.length->kv.length+r<sizeLine->Inv X ae σ (upd H d (.dK (kv.map cV))) s->s.heap.IsListIter it l i ->
   (∀s',Inv X ae σ (upd H d (.dK ((nP kv (tt.drop i)).map cV))) s'->R (.ok (.ret .none)) s') ->
   codeAny (model X.prog X.w) A (.builtin "dict.update.loop" ⟨[.ref d,.ref it,rawInt i,.none],[]⟩) R s:=by
 intro r;induction r with
 |zero =>
  intro i kv s hi hz I st q;obtain⟨ah,rv,p,jQ⟩:=I.list (hS _);have hl:=rv.length;have fS:=(hP (.dK (kv.map cV))).length;rw[ax]at hl;obtain⟨f0,f1,f2,f3,f4,f5⟩:=hF (.dK (kv.map cV));refine mL JS ?_;refine au (wpAny_pyNext_list_end (A:=A.under _) hh st p.isList (by simp;lia) λh' eb=>?_);refine au (m:=Builtin.Dict.addKeywords d []) (aJ (aJ ?_));have I':=I.turned (t':=s.toks) (λb o hb e=>eb b o hb e) f0 f1 f3 f4 f5;refine q _ ?_;rw[SR tL];exact I'
 |succ r ih =>
  intro i kv s hi hz I st q;obtain⟨ah,rv,p,jQ⟩:=I.list (hS _);have fS:=(hP (.dK (kv.map cV))).length;have gD:i<tt.length:=by lia
  obtain⟨pa,hpa,tQ⟩:=(hP (.dK (kv.map cV))).at (i:=i) (t:=tt[i]) (by simp[gD]);obtain⟨u,hu,ru⟩:=rv.get (i:=i) (x:=V.ref pa) (by rw[cQ,hpa];rfl);cases (show u=Value.ref pa from ru);obtain⟨f0,f1,f2,f3,f4,f5⟩:=hF (.dK (kv.map cV));refine mL JS ?_;refine au (wpAny_pyNext_list_item st p.isList (x:=.ref pa) (by simpa using hu) λh1 rj sb=>?_);have I1:=I.turned (t':=s.toks) (λb o hb e=>(sb.2 b hb).trans e) f0 f1 f3 f4 f5;obtain⟨_,dQ,r2,t2⟩:=(show dq X.prog X.w _ h1 pa (.tup _) from I1.hok pa _ tQ);obtain⟨x1,x2,rfl⟩:=Uu r2;obtain⟨ot,aY,cj,nt,ht3⟩:=id t2;refine au (lj (au (xk ?_)));refine au (wN (T := "tuple") ⟨ot,aY,cj⟩ ?_);rw[aC tD];refine au (lJ aY ht3 (aJ ?_));refine lj ?_;obtain⟨z,hd,vs,rel,dd⟩:=Bz I1.hok (show upd H d (.dK (kv.map cV)) d=some (.dK (kv.map cV)) from ar);have hvl:=rel.length;rw[ax]at hvl;refine wpAny_dictSet_pairs (knd:=gi X.prog X.w) (k:=Sum.inl tt[i].1) (L4 _ _ _ _) dd (λh2 oN kz=>?_) tL;have mS:=OF.MT kv tt[i].1 tt[i].2;have I2:Inv X ae σ (upd (upd H d (.dK (kv.map cV))) d (.dK ((OF.fh kv tt[i].1 tt[i].2).map cV))) {s with heap:=h2,toks:=s.toks+1}:=by
   refine HW (s:={s with heap:=h1}) I1 (by rw[ar];exact True.intro) kz (let ⟨q,_,_,hq,_⟩:=oN; ⟨q,hq⟩) (RF (by rw[ax];lia) hd ?_ oN);rw[<-wu];exact rel.put (Sum.inl tt[i].1) ⟨x2,rfl⟩
  rw[vp]at I2;refine aJ ⟨BH _ tE,?_⟩;have hdi:it≠d:=by
   intro z
   have:=(hF (.dK (kv.map cV))).1
   rw[z,ar]at this;cases this
  have kb:=rj.at λo e=>(kz.2 it hdi).trans e
  have:=ih (i+1) (OF.fh kv tt[i].1 tt[i].2) _ tL tL I2 kb λs' I'=>q s' (by
   have e:=qS gD;rw[e];exact I')
  simpa using this
def Zl(hc:X.calm=true):gx X (.type "dict") (λxs H Q=>∃(a:Addr) (l:OF.aq),xs=[.ref a]/\TL X.K H a l/\l.length<=1000000/\∀d,H d=none->Q (.ref d) (upd H d (.dK ((nP [] l).map cV)))):=by
 intro ae s σ H xs us Q I r h;obtain⟨a,l,rfl,⟨ps,hS,hP⟩,hz,q⟩:=h;obtain⟨u,rfl,ru⟩:=gO r;cases (show u=Value.ref a from ru);have hA:=I.ok.hd hc;refine callType_codes (Q₁:=λobj s₁=>obj=.ref s.heap.objs.size/\s₁={s with heap:=s.heap.push {cls:=.type "dict",data:=.dict #[]}}) PySem.F.kt_called_dict (PySem.F.kt_typeCall_dict_1 _) PySem.F.entry_dict_init (kt_code_dict_new _ ⟨rfl,rfl⟩) ?_;rintro obj s₁ ⟨rfl,rfl⟩;have SM:(s.heap.push {cls:=.type "dict",data:=.dict #[]}).DictOf (gi X.prog X.w) s.heap.objs.size []:=Ob s.heap;have I1:Inv X ae σ (upd H s.heap.objs.size (.dK [])) {s with heap:=s.heap.push {cls:=.type "dict",data:=.dict #[]}} :=
  I.laid (a:=s.heap.objs.size) (o:=.dK []) (t':=s.toks) (λ_ _ q=>cq _ q) (aT _) (Jm s.heap I.big)
 have hn:=I.hok.fresh (aT _);have qQ:=(Bz I1.hok ar).2.1;have mF:∀o,aj X.K (upd H s.heap.objs.size o) a (ps.map V.ref):=λo=>(af.upd hn).seq hS
 have Xg:∀o,cn (upd H s.heap.objs.size o) ps l:=λo=>hP.keep λb xs z=>af.upd hn b _ z
 generalize rB:s.heap.objs.size=d at *;exists SM.typeIs,PySem.F.args_dict_init_2 _ _,?_;refine au ?_;refine au (wpAny_notOrdered_dict SM.typeIs ?_);refine aJ ?_;obtain⟨ah,rv,p,jQ⟩:=I1.list (mF _);obtain⟨ol,nl,dI,fS,ma,xX⟩:=id p;refine au (wN (T := "list") ⟨ol,dI,fS⟩ ?_);rw[aC tD];obtain⟨oc,od,odt,nU⟩:=ol;subst fS ma xX;refine au (WU dI hA λh2 tk e ne=>?_);have I2:=I1.kept (t':=tk) λb o q=>ne.keeps b o q
 obtain⟨dQ,rv2,p2,_⟩:=I2.list (mF _);rw[aC (by rfl)];refine au (qM (au (qB p2.isList ?_)));have I3:Inv X ae σ (upd H d (.dK [])) {s with heap:=h2.push {cls:=.type "list_iterator",data:=.fields #[.ref a,.int 0 0]},toks:=tk}:=I2.kept (t':=tk) λb o q=>cq _ q
 have jF:=I2.hok.fresh (aT _);have pN:h2.objs.size≠d:=λz=>by rw[z,ar]at jF;cases jF
 refine aJ ⟨BH _ tE,?_⟩;refine zax (A:=X.A.in1) (it:=h2.objs.size) hA mF Xg (λo=>?_) qQ l.length 0 [] _ tL ?_ I3 ⟨_,da _ rfl,rfl,rfl⟩ λs' I'=>?_
 ·have hH:H h2.objs.size=none:=by rw[aS pN]at jF;exact jF
  exact I2.fpOk (s:={s with heap:=h2,toks:=tk}) (aT _) (by rw[aS pN];exact hH)
 ·have:(1000000:Nat)<sizeLine:=by decide
  simp;lia
 ·rw[Mu]at I';nomatch rfl,⟨.ref d,_,I',rfl,q d hn⟩
end
end L2
namespace OF
open PySem
noncomputable def jH(s:Int)(j:Nat)(v:Nat->Int):Nat->Int:=λg=>v g+if g.testBit j then s*v (g-2^j)else 0
def zdV(h:g.testBit j=true):g-2^j=g^^^2^j:=by
 have h1:(g^^^2^j)/2^j%2=0:=by
  have:(g^^^2^j).testBit j=false:=by simp_all
  rw[uS]at this
  have:=of_decide_eq_false this
  lia
 have h2:=HI h1;have h3:(g^^^2^j)|||2^j=g:=by
  apply qk;intro i;rw[xG,K9,uB];by_cases e:j=i
  ·subst e;simp[h]
  ·simp[e]
 lia
def nM(h:g.testBit j=true)(i:Nat):(g-2^j).testBit i=(g.testBit i&&decide (i≠j)):=by
 rw[zdV h,K9,uB];by_cases e:j=i
 ·subst e;simp[h]
 ·have e':¬i=j:=λz=>e z.symm
  simp[e,e']
def gw(s:Int)(v:Nat->Int):Nat->Nat->Int
 |0=>v
 |m+1=>jH s m (gw s v m)
def zaD(s:Int)(j:Nat)(v w:Nat->Int):jH s j (λg=>v g+w g)=λg=>jH s j v g+jH s j w g:=by
 funext g
 show v g+w g+(if g.testBit j then s*(v (g-2^j)+w (g-2^j))else 0)=(v g+if g.testBit j then s*v (g-2^j)else 0)+(w g+if g.testBit j then s*w (g-2^j)else 0);split
 ·rw[yX];lia
 ·lia
theorem QX(s:Int)(v w:Nat->Int):∀m,gw s (λg=>v g+w g) m=λg=>gw s v m g+gw s w m g
 |0=>rfl
 |m+1=>by
  show jH s m (gw s (λg=>v g+w g) m)=_;rw[QX s v w m,zaD];rfl
theorem NT(s:Int):∀m,gw s (λ_=>0) m=λ_=>0
 |0=>rfl
 |m+1=>by
  show jH s m (gw s (λ_=>0) m)=_;rw[NT s m];funext g;unfold jH;split<;>simp
def jv(a g j:Nat):Prop:=(∀i,i<j->a.testBit i=true->g.testBit i=true)/\∀i,j<=i->a.testBit i=g.testBit i
open Classical in
theorem Ij(a:Nat)(c:Int):∀(j g:Nat),gw 1 (λk=>if k=a then c else 0) j g=if jv a g j then c else 0
 |0,g=>by
  have h:jv a g 0↔g=a:=by
   constructor
   ·intro h;apply qk;intro i;exact (h.2 i (bM _)).symm
   ·intro h;subst h;nomatch λi hi=>tL,λ_ _=>rfl
  show (if g=a then c else 0)=_;by_cases e:g=a
  ·rw[aC e,aC (h.mpr e)]
  ·rw[av e,av (λz=>e (h.mp z))]
 |j+1,g=>by
  show jH 1 j (gw 1 (λk=>if k=a then c else 0) j) g=_;unfold jH;rw[Ij a c j g];by_cases hg:g.testBit j=true
  ·rw[aC hg,Ij a c j (g-2^j),qt];by_cases ha:a.testBit j=true
   ·have n2:¬jv a (g-2^j) j:=λz=>by
     have:=z.2 j (aT _)
     rw[nM hg,ha]at this;simp at this
    have e:jv a g j↔jv a g (j+1):=by
     constructor
     ·intro z;exists λi hi h=>?_,λi hi=>z.2 i tL;by_cases q:i<j
      ·exact z.1 i q h
      ·rw[<-z.2 i tL];exact h
     ·intro z;exists λi hi h=>z.1 i tL h,λi hi=>?_;by_cases q:i=j
      ·subst q;rw[ha,hg]
      ·exact z.2 i tL
    rw[av n2];by_cases q:jv a g j
    ·rw[aC q,aC (e.mp q)];lia
    ·rw[av q,av (λz=>q (e.mpr z))];lia
   ·have n1:¬jv a g j:=λz=>by
     have:=z.2 j (aT _)
     rw[hg]at this;exact ha this
    have e:jv a (g-2^j) j↔jv a g (j+1):=by
     constructor
     ·intro z;exists λi hi h=>?_,λi hi=>?_
      ·by_cases q:i<j
       ·have:=z.1 i q h
        rw[nM hg]at this;simp at this;exact this.1
       ·have:i=j:=by lia
        subst this;exact hg
      ·have:=z.2 i tO
       rw[nM hg]at this;rw[this];simp;lia
     ·intro z;exists λi hi h=>?_,λi hi=>?_
      ·rw[nM hg,z.1 i tO h];simp;lia
      ·rw[nM hg];by_cases q:i=j
       ·subst q;simp[ha]
       ·rw[z.2 i tO];simp[q]
    rw[av n1];by_cases q:jv a (g-2^j) j
    ·rw[aC q,aC (e.mp q)];lia
    ·rw[av q,av (λz=>q (e.mpr z))];omega
  ·rw[av hg,N3];have e:jv a g j↔jv a g (j+1):=by
    constructor
    ·intro z;exists λi hi h=>?_,λi hi=>z.2 i tO;by_cases q:i<j
     ·exact z.1 i q h
     ·rw[<-z.2 i tO];exact h
    ·intro z;exists λi hi h=>z.1 i tO h,λi hi=>?_;by_cases q:i=j
     ·subst q;cases ha:a.testBit i with
      |true=>exact absurd (z.1 i tL ha) hg
      |false=>simpa using hg
     ·exact z.2 i tO
   by_cases q:jv a g j
   ·rw[aC q,aC (e.mp q)]
   ·rw[av q,av (λz=>q (e.mpr z))]
def zbY(ha:a<2^m)(hg:g<2^m):jv a g m↔a&&&g=a:=by
 have hi:∀{x:Nat},x<2^m->∀i,m<=i->x.testBit i=false:=λhx i h=>qR (cS hx (dB tD h))
 constructor
 ·intro z;apply qk;intro i;rw[ql];by_cases q:i<m
  ·cases h:a.testBit i with
   |true=>rw[z.1 i q h];rfl
   |false=>rfl
  ·rw[hi ha i tL,hi hg i tO];rfl
 ·intro z;refine⟨λi _ h=>?_,λi h=>by simp_all⟩
  have:=congrArg (λx=>x.testBit i) z
  simp only[ql,h]at this;simpa using this
theorem NV:∀{l:aq},(∀t∈l,0<=t.1/\t.1<2^m)->∀g,g<2^m->gw 1 (λk=>aL l (k:Int)) m g=fw l (g:Int)
 |[],_,g,_=>by
  show gw 1 (λ_=>0) m g=0;rw[NT]
 |t::r,h,g,hg=>by
  have ih:=NV (l:=r) (λu hu=>h u (by simp[hu])) g hg;obtain⟨h0,h1⟩:=h t tS;obtain⟨a,ha⟩:=xC h0;have ha2:a<2^m:=by grind
  have e1:(λk:Nat=>aL (t::r) (k:Int))=λk=>(if k=a then t.2 else 0)+aL r (k:Int):=by
   funext k
   rw[aL,ha];by_cases q:k=a
   ·rw[aC q,aC tL]
   ·rw[av q,av tL]
  rw[e1,QX];show gw 1 (λk=>if k=a then t.2 else 0) m g+gw 1 (λk=>aL r (k:Int)) m g=_;rw[Ij,ih,mB,mB,cm,iN,ha,vw];have e2:=zbY ha2 hg;by_cases q:a&&&g=a
  ·rw[aC (e2.mpr q),aC tL,qt]
  ·rw[av (λz=>q (e2.mp z)),av tL,Gw]
noncomputable def cv(ns:List Int)(p:Nat):Int:=ns.getD p 0
def Di(s:Int)(j:Nat)(ns:List Int):List Int:=(List.range ns.length).map (jH s j (cv ns))
def Uo(v:Nat->Int)(h:p<n):cv ((List.range n).map v) p=v p:=by
 unfold cv;rw[m8,cQ,vE h];rfl
def zak(h:∀p,p<n->v p=w p)(hg:g<n):jH s j v g=jH s j w g:=by
 unfold jH;rw[h g hg,h (g-2^j) (jm (HC _ _) hg)]
def Wj(s:Int)(j n:Nat)(v:Nat->Int):Di s j ((List.range n).map v)=(List.range n).map (jH s j v):=by
 unfold Di;rw[ax,kQ];refine qi λp hp=>?_
 have g0:=ji.mp hp;exact zak (n:=n) (λq hq=>Uo v hq) g0
def Jg(ns:List Int):ns=(List.range ns.length).map (cv ns):=by
 refine List.ext_getElem tS λi h1 h2=>?_
 simp[cv,h1]
def sk(s:Int)(ns:List Int):Nat->List Int
 |0=>ns
 |j+1=>Di s j (sk s ns j)
theorem Fd(s:Int)(n:Nat)(v:Nat->Int):∀j,sk s ((List.range n).map v) j=(List.range n).map (gw s v j)
 |0=>rfl
 |j+1=>by rw[sk,Fd s n v j,Wj];rfl
theorem Rm:∀(l d:aq),(l.map (·.1)).Nodup->(∀t∈l,look d t.1=none)->∀k,look (L2.nP d l) k=(look l k).or (look d k)
 |[],d,_,_,k=>by simp[L2.nP,look]
 |t::r,d,hn,hd,k=>by
  rw[bN,j7]at hn;have e:L2.nP d (t::r)=L2.nP (fh d t.1 t.2) r:=rfl;have cx:∀u∈r,¬u.1=t.1:=λu hu z=>hn.1 (bp.mpr ⟨u,hu,z⟩)
  rw[e,Rm r _ hn.2 (λu hu=>by rw[Bw,av (cx u hu)];exact hd u (by simp[hu])),Bw,look];by_cases q:t.1=k
  ·have hr:look r k=none:=by
    cases z:look r k with
    |none=>rfl
    |some x =>
     obtain⟨u,hu,eu⟩:=bp.mp (ud.mp (by rw[z];simp));exact absurd (eu.trans q.symm) (cx u hu)
   rw[hr,aC q.symm,aC q];rfl
  ·rw[av (λz=>q z.symm),av q]
theorem NX:∀{l:aq},(l.map (·.1)).Nodup->∀k,(look l k).getD 0=aL l k
 |[],_,_=>rfl
 |t::r,hn,k=>by
  rw[bN,j7]at hn;have ih:=NX hn.2 k;rw[look,aL];by_cases q:t.1=k
  ·have hr:=uf r k λp hp z=>hn.1 (bp.mpr ⟨p,hp,z.trans q.symm⟩)
   rw[aC q,aC q,hr];simp
  ·rw[av q,av q,ih];lia
def yJ(h:IsForm f):(f.map (·.1)).Nodup:=by
 rw[List.Nodup,uk];exact h.rise.imp λh=>by lia
def ZU(h:IsForm f)(k:Int):cB (L2.nP [] f) k=aL f k:=by
 unfold cB;rw[Rm f [] (yJ h) (λ_ _=>rfl),<-NX (yJ h) k];cases look f k<;>rfl
noncomputable def pc(n:Nat):Nat:=if h:n=0 then 0 else n%2+pc (n/2)
termination_by n
decreasing_by lia
def ur:pc 0=0:=by rw[pc];rfl
def Gy(h:n≠0):pc n=n%2+pc (n/2):=by rw[pc,dif_neg h]
def Ca(b e:Nat)(he:e<2):pc (2*b+e)=e+pc b:=by
 by_cases h:2*b+e=0
 ·have:b=0:=by lia
  have:e=0:=by lia
  subst b e;rw[ur]
 ·rw[Gy h,show (2*b+e)%2=e by lia,show (2*b+e)/2=b by lia]
def PJ(b c e f:Nat)(he:e<2)(hf:f<2):(2*b+e)&&&(2*c+f)=2*(b&&&c)+e*f:=by
 apply qk;intro i;have hef:e*f<2:=by
  have:e=0\/e=1:=by lia
  have:f=0\/f=1:=by lia
  rcases ‹e=0\/e=1› with rfl|rfl<;>rcases ‹f=0\/f=1› with rfl|rfl<;>decide
 cases i with
 |zero =>
  rw[ql,AS,AS,AS,show (2*b+e)%2=e by lia,show (2*c+f)%2=f by lia,show (2*(b&&&c)+e*f)%2=e*f by lia]
  have:e=0\/e=1:=by omega
  have:f=0\/f=1:=by omega
  rcases ‹e=0\/e=1› with rfl|rfl<;>rcases ‹f=0\/f=1› with rfl|rfl<;>decide
 |succ i =>
  rw[ql,AY,AY,AY,show (2*b+e)/2=b by lia,show (2*c+f)/2=c by lia,show (2*(b&&&c)+e*f)/2=b&&&c by lia,ql]
theorem Q8:∀(n a:Nat),a<=n->a≠0->(a&&&(a-1))<a/\pc (a&&&(a-1))+1=pc a
 |0,a,h,h0=>by lia
 |n+1,a,h,h0=>by
  obtain⟨b,e,he,rfl⟩:∃b e,e<2/\a=2*b+e:=⟨a/2,a%2,tL,tL⟩
  have:e=0\/e=1:=by lia
  rcases this with rfl|rfl
  ·have hb:b≠0:=by lia
   obtain⟨h1,h2⟩:=Q8 n b tL hb;rw[show 2*b+0-1=2*(b-1)+1 by lia,PJ b (b-1) 0 1 tD tD,Ca b 0 tD]
   have:=Ca (b&&&(b-1)) 0 tD
   simp only[Nat.zero_mul,yC,Kx]at *;lia
  ·have e1:=PJ b b 1 0 tD tD;rw[Nat.and_self]at e1;rw[show 2*b+1-1=2*b+0 by lia,e1,Ca b 1 tD]
   have:=Ca b 0 tD
   simp only[zf,yC]at *;lia
theorem Gv:∀(m a:Nat),a<2^m->pc a<=m
 |0,a,h=>by
  have:a=0:=by simpa using h
  subst this;rw[ur];exact aT _
 |m+1,a,h=>by
  by_cases h0:a=0
  ·subst h0;rw[ur];lia
  ·rw[Gy h0]
   have:=Gv m (a/2) (by rw[ml]at h;lia)
   lia
def wa(m:Nat)(l:aq):Int:=(l.map λt=>t.2*2^(m-pc t.1.toNat)).sum
def zaK(i j:Nat):i&&&2^j=if i.testBit j then 2^j else 0:=by
 apply qk;intro k;rw[ql,uB];by_cases e:j=k
 ·subst e;cases h:i.testBit j<;>simp
 ·cases h:i.testBit j<;>simp[e]
end OF
namespace My
open PySem L2 OF
def tt{σ:St}{H:Hp}{F G:Hp->Prop}(h:F H):GY σ H λb H3=>if b=true then F H3 else G H3:=by assumption
end My
namespace L2
open PySem OF
def za8(hf:∀t∈f,0<=t.1/\t.1<2^m):sk 1 ((List.range (2^m)).map λk:Nat=>aL f (k:Int)) m=(List.range (2^m)).map λg:Nat=>fw f (g:Int):=by
 rw[Fd];exact qi λg hg=>NV hf g (ji.mp hg)
end L2
namespace My
open PySem L2 OF
def tX{K:Frag}{a:Addr}{l:aq}{H:Hp}{tc:TT}{te:TE}{R:List V->Hp->Addr->Prop}(p:Int×Int->Bool)(f:Int×Int->Int×Int)(hT:TL K H a l)(hl:l.length<=1000000)(rest:List (Option V)){σ:St}(hσ:σ=none::none::rest)
  (hc:∀t∈l,∀(H2:Hp) (R:Bool->Hp->Prop),af H H2->R (p t) H2->tc (some (.int t.1)::some (.int t.2)::rest) H2 R)
  (he:∀t∈l,p t=true->∀(H2:Hp) (R:V->Hp->Prop),af H H2->(∀w,H2 w=none->R (.ref w) (upd H2 w (.tup [.int (f t).1,.int (f t).2])))->te (some (.int t.1)::some (.int t.2)::rest) H2 R)
  (q:∀(D:Addr) (ys:List V) (H2:Hp),H D=none->aG (upd H2 D (.lst ys)) D ((l.filter p).map f)->af H (upd H2 D (.lst ys))->R ys H2 D) :
  ∃W:Nat->Nat->List V->St->Hp->Prop,(∃m,W 0 m [] σ H)/\∀i m ys σ H,W i m ys σ H ->
   ((iZ K a).stop i H/\∀D,H D=none->R ys H D) \/
   ((iZ K a).go i H/\ys.length<sizeLine/\∃ N:List V->St->Hp->Prop,(∀ dJ σ' H',N dJ σ' H'->∃ m',m'<m/\W (i+1) m' dJ σ' H') /\ ∀x H',(iZ K a).yld i H x H'->eI K 2 (bT (aW 0) (bT (aW 1) e7)) x σ H' λσ2 H2=>tc σ2 H2 λb H3=>if b=true then te σ2 H3 λy H4=>N (ys++[y]) σ2 H4 else N ys σ2 H3):=by
 obtain⟨ps,hS,hP⟩:=hT;subst hσ;refine gW (K:=K) (a:=a) (xs:=ps.map V.ref) (R:=R) (λi ys σ H2=>∃(v0 v1:Option V) (qs:List Addr),σ=v0::v1::rest/\ys=qs.map V.ref/\cn H2 qs (((l.take i).filter p).map f)/\af H H2)
  ⟨none,none,[],rfl,rfl,.nil,af.refl _⟩ (λi ys σ H2 hi ⟨_,_,qs,_,e1,e2,e3⟩=>⟨e3.seq hS,by
   rw[e1,ax,e2.length,ax];exact aX (lW _ _) (by rw[fR];lia)⟩) (by rw[ax,hP.length];exact bE (bD hl)) ?_ ?_
 ·rintro i z ys σ H2 hi ⟨v0,v1,qs,rfl,rfl,g2,g4⟩;obtain⟨b,DS,rfl⟩:=fQ hi;obtain⟨t,aY,cj⟩:=hP.at' DS;have gv:=cM aY;have bB:l.take (i+1)=l.take i++[t]:=by rw[cZ,aY];rfl
  exists b,_,rfl,az.of (g4 _ _ cj),rfl,_,_,rfl,_,_,rfl,rfl,?_;refine hc t gv H2 _ g4 ?_;by_cases hp:p t=true
  ·rw[hp];refine a7 rfl ?_;refine he t gv hp H2 _ g4 λw hw=>?_
   have lu:af H2 (upd H2 w (.tup [.int (f t).1,.int (f t).2])):=af.upd hw;exists _,_,qs++[w],rfl,(by rw[aQ];rfl),?_,g4.trans lu;rw[bB,dX,aQ];simp only[l7,hp,HF,iI,bN,pD];exact cn.snoc (g2.keep λb xs z=>lu b _ z) ar
  ·refine aM hp ⟨_,_,qs,rfl,rfl,?_,g4⟩;rw[bB,dX,aQ];simp only[l7,hp,HF,pD,iD];simpa using g2
 ·rintro ys σ H2 ⟨v0,v1,qs,rfl,rfl,g2,g4⟩ w hw;have vz:l.take (ps.map V.ref).length=l:=by rw[ax,hP.length,dG]
  rw[vz]at g2;have lu:af H2 (upd H2 w (.lst (qs.map V.ref))):=af.upd hw;exact q w _ _ (g4.free hw) ⟨qs,ar,g2.keep λb xs z=>lu b _ z⟩ (g4.trans lu)
def _root_.OF.IsForm.filter(h:IsForm f)(p:Int×Int->Bool):IsForm (f.filter p):=⟨h.rise.filter _,λt ht=>h.nz t (gJ.mp ht).1⟩
noncomputable def eO(k:Nat)(t:Int×Int):Bool:=t.1.toNat.testBit k
def gm(k:Nat)(l:aq):aq:=l.filter λt => !eO k t
def eF(k:Nat)(l:aq):aq:=(l.filter λt=>eO k t).map λt=>(t.1-2^k,t.2)
def iG(k:Nat)(b:Int)(l:aq):aq:=gm k l++if b=0 then []else eF k l
theorem Pz(k:Nat)(b:Int):∀l:aq,(iG k b l).length<=l.length
 |[]=>by unfold iG gm eF;split<;>simp
 |t::l=>by
  have ih:=Pz k b l;unfold iG gm eF at *;by_cases h:eO k t=true<;>split<;>simp_all<;>lia
def xJ(k:Nat)(l:aq):(gm k l).length<=l.length:=lW _ _
def yx(k:Nat)(l:aq):(eF k l).length<=l.length:=by unfold eF;rw[ax];exact lW _ _
theorem QZ(k:Nat):∀l:aq,(gm k l).length+(eF k l).length=l.length
 |[]=>rfl
 |t::l=>by
  have ih:=QZ k l;unfold gm eF at *;by_cases h:eO k t=true<;>simp_all<;>lia
def NP(h:0<=t.1)(k:Nat):Builtin.bitAnd t.1 (2^k)=if eO k t then 2^k else 0:=by
 have e:=gh h;have pw:((2:Int)^k)=((2^k:Nat):Int):=by norm_cast
 unfold eO;rw[<-e,pw,vw,zaK,oM];split<;>rfl
def zbz(k:Nat):(2:Int)^k≠0:=by
 have pw:((2:Int)^k)=((2^k:Nat):Int):=by norm_cast
 have:=jk k
 lia
def GD(h:0<=t.1)(k:Nat):decide (V.int (Builtin.bitAnd t.1 (2^k))=V.int 0) = !eO k t:=by
 rw[NP h];cases eO k t
 ·simp
 ·have:=zbz k
  simp[this]
def SQ(h:0<=t.1)(hb:eO k t=true):2^k<=t.1:=by
 have e:=gh h;have pw:((2:Int)^k)=((2^k:Nat):Int):=by norm_cast
 have:=uq hb
 lia
noncomputable def nI(g k:Nat)(b:Bool):Nat:=if b then (if g.testBit k then g else g+2^k)else (if g.testBit k then g-2^k else g)
def q9(g k:Nat)(b:Bool)(i:Nat):(nI g k b).testBit i=if i=k then b else g.testBit i:=by
 unfold nI;by_cases h:g.testBit k=true
 ·cases b
  ·simp only[h,iI,my,jZ];rw[nM h];by_cases e:i=k<;>simp[e]
  ·simp only[h,iI];by_cases e:i=k<;>simp[e,h]
 ·have h':g.testBit k=false:=by simpa using h
  cases b
  ·simp only[h',my,jZ];by_cases e:i=k<;>simp[e,h']
  ·simp only[h',iI,my,jZ];have hd:g/2^k%2=0:=by grind
   rw[HI hd,xG,uB];by_cases e:i=k
   ·simp[e]
   ·have:¬k=i:=λz=>e z.symm
    simp[e,this]
def wx(a g:Nat):a&&&g=a↔∀i,a.testBit i=true->g.testBit i=true:=by
 constructor
 ·intro h i hi;rw[<-h,ql]at hi;exact (ff _ _ ▸ hi).2
 ·intro h;refine qk λi=>?_
  rw[ql];cases e:a.testBit i
  ·rfl
  ·rw[h i e];rfl
def zcY(a g k:Nat)(b:Bool):(a&&&nI g k b=a)↔(if a.testBit k then b=true/\(a-2^k)&&&g=a-2^k else a&&&g=a):=by
 rw[wx];by_cases h:a.testBit k=true
 ·rw[aC h,wx];constructor
  ·intro H;exists by have:=H k h;rw[q9,aC rfl]at this;exact this,λi hi=>?_;rw[nM h]at hi;have gY:a.testBit i=true/\i≠k:=by simpa using hi
   have:=H i gY.1
   rw[q9,av gY.2]at this;exact this
  ·rintro⟨hb,H⟩ i hi;rw[q9];by_cases e:i=k
   ·rw[aC e];exact hb
   ·rw[av e];exact H i (by rw[nM h];simp[hi,e])
 ·rw[av h,wx];constructor
  ·intro H i hi;have e:i≠k:=λz=>h (z ▸ hi)
   have:=H i hi
   rw[q9,av e]at this;exact this
  ·intro H i hi;have e:i≠k:=λz=>h (z ▸ hi)
   rw[q9,av e];exact H i hi
def uo{g a:Nat}:iN (g:Int) (a:Int)=if a&&&g=a then 1 else 0:=by
 unfold iN;rw[vw];by_cases h:a&&&g=a
 ·rw[aC h,aC (by rw[h])]
 ·rw[av h,av (by intro z;exact h (by exact_mod_cast z))]
def zbK{t:Int×Int}(h:0<=t.1)(g k:Nat)(b:Bool):iN ((nI g k b:Nat):Int) t.1=if eO k t then (if b then iN (g:Int) (t.1-2^k)else 0)else iN (g:Int) t.1:=by
 have e:=gh h;have pw:((2:Int)^k)=((2^k:Nat):Int):=by norm_cast
 have hs:=zcY t.1.toNat g k b;by_cases hb:eO k t=true
 ·have uD:=uq hb;have dv:t.1.toNat.testBit k=true:=hb;rw[aC dv]at hs;rw[aC hb,<-e,pw,uo,show ((t.1.toNat:Nat):Int)-((2^k:Nat):Int)=((t.1.toNat-2^k:Nat):Int) by omega,uo];cases b
  ·rw[av (by rw[hs];simp)];rfl
  ·by_cases h2:(t.1.toNat-2^k)&&&g=t.1.toNat-2^k
   ·rw[aC (hs.mpr ⟨rfl,h2⟩),aC rfl,aC h2]
   ·rw[av (λz=>h2 (hs.mp z).2),aC rfl,av h2]
 ·have dv:¬t.1.toNat.testBit k=true:=hb;rw[av dv]at hs;rw[av hb,<-e,uo,uo];by_cases h2:t.1.toNat&&&g=t.1.toNat
  ·rw[aC (hs.mpr h2),aC h2]
  ·rw[av (λz=>h2 (hs.mp z)),av h2]
theorem Of(g k:Nat)(b:Bool):∀{l:aq},(∀t∈l,0<=t.1)->cm (iN ((nI g k b:Nat):Int)) l=cm (iN (g:Int)) (gm k l)+if b then cm (iN (g:Int)) (eF k l)else 0
 |[],_=>by unfold gm eF;cases b<;>rfl
 |t::l,h=>by
  have ih:=Of g k b (l:=l) λt ht=>h t (dM _ ht)
  have h0:=zbK (h t (kF ..)) g k b;unfold gm eF at *;rw[cm,h0,ih];by_cases hb:eO k t=true<;>cases b<;>simp[hb,cm]<;>lia
def zeG{g k:Nat}{b:Int}(hb:b=0\/b=1){l:aq}(h:∀t∈l,0<=t.1):fw (iG k b l) (g:Int)=fw l ((nI g k (decide (b=1)):Nat):Int):=by
 rw[mB,mB,Of g k _ h];unfold iG;rw[C3];rcases hb with rfl|rfl<;>simp[cm]
def _root_.OF.aZ.keys(h:aZ f l)(hl:∀t∈l,0<=t.1/\t.1<2^m):∀t∈f,0<=t.1/\t.1<2^m:=λt ht=>by
 obtain⟨u,hu,e⟩:=bp.mp (h.src t ht);rw[<-e];exact hl u hu
open PySem L2 OF
noncomputable def xH(a i:Nat):Nat:=((List.range i).filter λk => !a.testBit k).length
def Z8(a i:Nat):xH a (i+1)=(if a.testBit 0 then 0 else 1)+xH (a/2) i:=by
 unfold xH;rw[RE,l7,List.filter_map];have e:((λk => !a.testBit k) ∘ Nat.succ)=λk => !(a/2).testBit k:=by
  funext k
  show (!a.testBit (k+1))=_;rw[AY]
 rw[e];cases h:a.testBit 0<;>simp[h]<;>lia
theorem Ld:∀(m a:Nat),a<2^m->xH a m+pc a=m
 |0,a,h=>by
  have:a=0:=by simpa using h
  subst this;rw[ur];rfl
 |m+1,a,h=>by
  have h2:a/2<2^m:=by rw[ml]at h;lia
  have ih:=Ld m (a/2) h2;rw[Z8,AS];by_cases h0:a=0
  ·subst h0;rw[ur]at ih ⊢;simp at ih ⊢;lia
  ·rw[Gy h0];by_cases h1:a%2=1
   ·simp[h1];lia
   ·have:a%2=0:=by lia
    simp[this];lia
end My
namespace L2
open PySem PySem.Spec PyProof.Rows
section
variable{X:Cx}
def YY:V->List V->Hp->VK->Prop:=λx vs H Q=>∃n:Int,x=.int n/\vs=[]/\Q (.int (intBits n)) H
def wb:gT X "int.bit_length" YY:=by
 intro ae s σ H x xs v us Q I rx rv h;obtain⟨n,rfl,rfl,q⟩:=h;obtain⟨t,rfl⟩:=rx;obtain rfl:=rv.zero;exact call_int_bit_length ⟨.int _,H,I.tok _,⟨_,rfl⟩,q⟩
end
end L2
namespace My
open PySem L2 OF
def Ey(n:Nat):intBits (n:Int)=if n=0 then 0 else n.log2+1:=by
 unfold intBits;by_cases h:n=0
 ·subst h;rfl
 ·rw[av h,av (by simp;assumption)];rfl
def Dd(n:Nat):n<2^intBits (n:Int):=by
 rw[Ey];by_cases h:n=0
 ·subst h;decide
 ·rw[av h];exact Nat.lt_log2_self
def Hv{n m:Nat}(h:n<2^m):intBits (n:Int)<=m:=by
 rw[Ey];by_cases h0:n=0
 ·subst h0;simp
 ·rw[av h0];exact (tP h0).mpr h
def zd7(m:Nat):intBits ((2^m:Nat):Int)=m+1:=by
 rw[Ey,av (by simp),Nat.log2_two_pow]
theorem Iz:∀(l:aq) (s j:Nat),(cT l s).testBit j=true↔s.testBit j=true\/∃t∈l,t.1.toNat.testBit j=true
 |[],s,j=>by simp[cT]
 |t::l,s,j=>by
  rw[cT,Iz l,xG,za];constructor
  ·rintro ((h|h)|⟨u,h1,h2⟩)
   ·exact .inl h
   ·exact .inr ⟨t,kF ..,h⟩
   ·exact .inr ⟨u,dM _ h1,h2⟩
  ·rintro (h|⟨u,h1,h2⟩)
   ·exact .inl (.inl h)
   ·rcases bC.mp h1 with z|z
    ·subst z;exact .inl (.inr h2)
    ·exact .inr ⟨u,z,h2⟩
def EA(h:∀t∈l,0<=t.1/\t.1<2^m):cT l 0<2^m:=by
 refine zr _ λj hj=>?_
 cases e:(cT l 0).testBit j
 ·rfl
 ·rcases (Iz l 0 j).mp e with z|⟨t,h1,h2⟩
  ·simp at z
  ·have:=h t h1
   have pw:((2:Int)^m)=((2^m:Nat):Int):=by norm_cast
   have h3:=cS (by lia:t.1.toNat<2^m) (dB tD hj);rw[qR h3]at h2;cases h2
noncomputable def lst(a:Nat):List Nat:=(List.range (intBits (a:Int))).filter λk=>a.testBit k
def xv:k∈lst a↔a.testBit k=true:=by
 unfold lst;rw[gJ,ji];constructor
 ·exact λh=>h.2
 ·intro h;exists ?_,h;rcases kU k (intBits (a:Int))with z|z
  ·exact z
  ·have:=qR (cS (Dd a) (dB tD z))
   rw[this]at h;cases h
end My
namespace L2
open PySem PySem.Spec PyProof.Rows
def Inv.turnedN(ch:List Addr)(I:Inv X ae σ H s)(k:∀b u,b∉ch->s.heap.get? b=some u->h'.get? b=some u)
  (f:∀b∈ch,ij X ae H b):Inv X ae σ H {s with heap:=h',toks:=t'}:=by
 have out:∀b u,H b=some u->b∉ch:=λb u q z=>by rw[(f b z).1]at q;cases q
 refine I.step (g':=s.gens) (d':=s.drawn) (ch:=ch) (λb hb=>⟨(f b hb).2.2.2.1,(f b hb).2.1,(f b hb).2.2.2.2.1,(f b hb).2.2.2.2.2⟩) (λb u _ _ hc q _=>k b u hc q) (λb u _ _ hc q _=>⟨u.slots,k b u hc q⟩) (λ_ _ _ _ n=>n)
  (λb u hc q=>⟨u,k b u hc q⟩) (λ_ _ e=>e) (λ_ _ _ e=>e) (λb ps e=>⟨#[],by rw[e];simp⟩) (λm hm=>?_) (λb u e=>?_) I.bare
 ·obtain⟨u,es,ep,ho,r⟩:=hm;nomatch u,es,ep,k _ u (λz=>(f _ z).2.1 rfl) ho,r
 ·refine (I.hok b u e).stay (λc v hc q=>k c v ?_ q) (λ_ q=>q) λ_ _ q=>q
  rcases hc with z|z
  ·rw[z];exact out b u e
  ·exact out c _ z
def Inv.turnedL(ch:List Addr)(I:Inv X ae σ H s)(k:∀b u,b∉ch->s.heap.get? b=some u->h'.get? b=some u)
  (f:∀b∈ch,ij X ae H b) (hT:s.heap.objs.size<=T) (new:dq X.prog X.w (upd H T o) h' T o):Inv X ae σ (upd H T o) {s with heap:=h',toks:=t'}:=by
 have hn:=I.hok.fresh hT;have out:∀b u,H b=some u->b∉ch:=λb u q z=>by rw[(f b z).1]at q;cases q
 have lt:∀b u,s.heap.get? b=some u->b≠T:=λb u q=>dy (cS (bg q) hT)
 have up:∀{b:Addr}{u:HO},H b=some u->upd H T o b=some u:=λq=>by rw[aS (c7 q hn)];exact q
 refine I.step (g':=s.gens) (d':=s.drawn) (ch:=ch) (λb hb=>⟨(f b hb).2.2.2.1,(f b hb).2.1,(f b hb).2.2.2.2.1,(f b hb).2.2.2.2.2⟩) (λb u _ _ hc q _=>k b u hc q) (λb u _ _ hc q _=>⟨u.slots,k b u hc q⟩) (λb u _ q n=>by rw[aS (lt b u q)];exact n)
  (λb u hc q=>⟨u,k b u hc q⟩) (λb xs q=>up q) (λb u xs q=>up q) (λb ps q=>⟨#[],by rw[up q];simp⟩) (λm hm=>?_) (λb u q=>?_) I.bare
 ·obtain⟨u,es,ep,ho,r⟩:=hm;nomatch u,es,ep,k _ u (λz=>(f _ z).2.1 rfl) ho,r
 ·by_cases hb:b=T
  ·subst hb;rw[ar]at q;cases q;exact new
  ·rw[aS hb]at q;refine (I.hok b u q).stay (λc v hc z=>?_) (λc z=>up z) λc xs z=>up z
   rcases hc with w|w
   ·rw[w]at z ⊢;exact k b v (out b u q) z
   ·exact k c v (out c _ w) z
def xi(K:Frag)(a b:Addr):It :=
 ⟨λi H=>∃xs ys x y,aj K H a xs/\aj K H b ys/\xs[i]?=some x/\ys[i]?=some y,λi H v H'=>∃T x y,H T=none/\v=.ref T/\H'=upd H T (.tup [x,y])/\(∀xs,aj K H a xs->xs[i]?=some x)/\∀ys,aj K H b ys->ys[i]?=some y,λi H=>∃xs ys,aj K H a xs/\aj K H b ys/\(xs.length<=i\/ys.length<=i)⟩
def zbO{P:Program}{w:World}{K:Frag}{elts:List Expr}{x1:Nat}{pos:Pos}(a b z TI TO i1 i2:Addr)(D:ZipApart z TI TO i1 i2 a b) :
  nB P w K (.Tuple elts x1 pos) (xi K a b) [z,TI,TO,i1,i2] z (λi h=>IsZip h z TI TO .none/\IsPair h TI (.ref i1) (.ref i2)/\(∃u v,IsPair h TO u v)/\h.IsListIter i1 a i/\h.IsListIter i2 b i) where
 mem:=by simp
 obj:=λi h st c hc=>by
  obtain⟨hz,fm,⟨u,v,fK⟩,⟨o1,e1,c1,d1⟩,⟨o2,e2,c2,d2⟩⟩:=st;simp only[bC,jU,jW]at hc;rcases hc with rfl|rfl|rfl|rfl|rfl
  ·exact⟨_,hz,λv z=>by cases z⟩
  ·exact⟨_,fm,λv z=>by cases z⟩
  ·exact⟨_,fK,λv z=>by cases z⟩
  ·exact⟨o1,e1,λv z=>by simp_all⟩
  ·exact⟨o2,e2,λv z=>by simp_all⟩
 keep:=λi h h' st k=>by
  obtain⟨hz,fm,⟨u,v,fK⟩,h1,h2⟩:=st;nomatch k z tS _ hz,k TI tS _ fm,⟨u,v,k TO tS _ fK⟩,h1.at λo q=>k i1 tS o q,h2.at λo q=>k i2 tS o q
 item:=by
  intro X hP hw hK hc i ae s σ H E I hf st hg;subst hP hw hK;obtain⟨hz,fm,⟨u,v,fK⟩,h1,h2⟩:=st;obtain⟨xs,ys,x,y,hq,fF,hx,hy⟩:=hg;obtain⟨ah,rv,p,hsz⟩:=I.list hq;obtain⟨its',ye,p',RU⟩:=I.list fF;obtain⟨ux,hu,ru⟩:=rv.get hx;obtain⟨uy,Cq,vO⟩:=ye.get hy;refine wpAny_pyNext_zip_item D hz fm fK h1 h2 p.isList p'.isList (x:=ux) (y:=uy) (by simpa using hu) (by simpa using Cq) λbJ iJ IK C2 wV hT uK k1=>⟨_,rfl,?_⟩
  refine SU iJ λd9 jQ sb=>?_
  have lz:=bg hz;have Fo:=qH lz;have kk:∀c o,c∉[z,TI,TO,i1,i2]->s.heap.get? c=some o->d9.get? c=some o:=λc o hc q=>by
   simp only[bC,jU,jW,not_or]at hc;exact (sb.2 c hc.1).trans (k1 c o hc.1 hc.2.2.1 hc.2.2.2.1 hc.2.2.2.2 q)
  have bF:=(sb.2 _ Fo).trans hT;have Ho:=(sb.2 _ D.TIz).trans (k1 _ _ D.TIz D.TITO D.TIi1 D.TIi2 fm);exists .ref s.heap.objs.size,upd H s.heap.objs.size (.tup [x,y]),I.turnedL (t':=s.toks) _ kk hf (aT _) ⟨by show 2<=sizeLine;decide,[ux,uy],.cons ru (.cons vO .nil),?_⟩,rfl,⟨_,x,y,I.hok.fresh (aT _),rfl,rfl,λzs h=>by rw[I.list_inj h hq];exact hx,λzs h=>by rw[I.list_inj h fF];exact hy⟩,⟨jQ,Ho,⟨ux,uy,(sb.2 _ D.TOz).trans IK⟩,?_,?_⟩,λc hc=>?_
  ·nomatch _,bF,rfl,0,rfl
  ·exact C2.at λo q=>(sb.2 _ D.i1z).trans q
  ·exact wV.at λo q=>(sb.2 _ D.i2z).trans q
  ·have fG:c<s.heap.objs.size:=by
    simp only[bC,jU,jW]at hc;rcases hc with rfl|rfl|rfl|rfl|rfl
    ·exact lz
    ·exact bg fm
    ·exact bg fK
    ·obtain⟨o,q,_⟩:=h1;exact bg q
    ·obtain⟨o,q,_⟩:=h2;exact bg q
   rw[aS (dy fG)];exact (hf c hc).1
 done:=by
  intro X hP hw hK hc i ae s σ H E I hf st hg;subst hP hw hK;obtain⟨hz,fm,⟨u,v,fK⟩,h1,h2⟩:=st;obtain⟨xs,ys,hq,fF,hx⟩:=hg;obtain⟨ah,rv,p,hsz⟩:=I.list hq;obtain⟨its',ye,p',RU⟩:=I.list fF;have hl:=rv.length;have xf:=ye.length;refine wpAny_pyNext_zip_end (I.ok.hd hc) D hz fm fK h1 h2 p.isList p'.isList ?_ λh' kk=>⟨rfl,I.turnedN (t':=s.toks) [z,TI,TO,i1,i2] (λc o hc q=>?_) hf⟩
  ·rcases hx with z|z
   ·left;simp;lia
   ·right;simp;lia
  ·simp only[bC,jU,jW,not_or]at hc;exact kk c o hc.1 hc.2.2.1 hc.2.2.2.1 hc.2.2.2.2 q
 self:=λ_ _ _ _ _ st h=>BA st.1 h
def zaN(K:Frag)(ta:TA):TI:=λσ H R=>ta σ H λvs H1=>∃a b,vs=[.ref a,.ref b]/\(∃xs,aj K H1 a xs)/\(∃ys,aj K H1 b ys)/\R (xi K a b) H1
def Ts:bootBuiltins "zip" = some (.type "zip"):=by decide+kernel
def Rc{X:Cx}{elts:List Expr}{x1:Nat}{p0 p pos:Pos}{a b:Expr}{ta:TA}(hg:Gl X "zip")(hm:X.mg "zip" = none)(ha:PA X [a,b] ta)(hs:starEach [a,b] X.env=(false,eval a X.env)::starEach [b] X.env:=by rfl)(kz:(backTo pos (starEach [b] X.env)).any (·.1)=false:=by rfl) :
  PI X (.Tuple elts x1 p0) (.Call (.Name "zip" p) [a,b] [] pos) (zaN X.K ta):=by
 intro ae s σ H R I h;refine Call_ (qq I hg hm Ts (tY (aO (ha pos ae s σ H _ I h) ?_) hs kz));rintro us s1 ⟨vs,H1,I1,r1,q1⟩;obtain⟨l1,l2,rfl,⟨xs,hq⟩,⟨ys,fF⟩,q⟩:=q1;obtain⟨u,v,rfl,ru,rv⟩:=xg r1;cases (show u=Value.ref l1 from ru);cases (show v=Value.ref l2 from rv);obtain⟨ah,rx,p,hz⟩:=I1.list hq;obtain⟨its',UL,p',Gn⟩:=I1.list fF;have n1:l1<s1.heap.objs.size:=by obtain⟨o,q,_⟩:=p.isList;exact bg q
 have n2:l2<s1.heap.objs.size:=by obtain⟨o,q,_⟩:=p'.isList;exact bg q
 refine call_zip_2 p.isList p'.isList λh' hz fm fK h1 h2 hsz k=>BA hz ?_
 have I2:=I1.kept (t':=s1.toks) k;exists _,_,_,_,H1,rfl,I2,zbO l1 l2 _ _ _ _ _ (zipApart_new n1 n2),⟨hz,fm,⟨_,_,fK⟩,h1,h2⟩,λc hc=>?_,q;have fr:∀c,s1.heap.objs.size<=c->ij X ae H1 c:=λc hc=>I1.fpOk hc (I1.hok.fresh hc)
 simp only[bC,jU,jW]at hc;rcases hc with rfl|rfl|rfl|rfl|rfl<;>exact fr _ tL
def Nt{K:Frag}{a b:Addr}{xs ys:List V}{g:TG}{tc:TT}{te:TE}{σ:St}{H:Hp}{R:List V->Hp->Addr->Prop}(Fs:xs.length=ys.length)(Pv:Nat->List V->St->Hp->Prop)(h0:Pv 0 [] σ H)
  (hl:∀i zs σ H,i<=xs.length->Pv i zs σ H->aj K H a xs/\aj K H b ys/\zs.length<=i) (hz:xs.length<=sizeLine)
  (hs:∀i x y zs σ H T,xs[i]?=some x->ys[i]?=some y->Pv i zs σ H->H T=none->g (.ref T) σ (upd H T (.tup [x,y])) λσ2 H2=>tc σ2 H2 λb H3=>if b=true then te σ2 H3 λy H4=>Pv (i+1) (zs++[y]) σ2 H4 else Pv (i+1) zs σ2 H3)
  (hd:∀zs σ H,Pv xs.length zs σ H->∀D,H D=none->R zs H D) :
  ∃W:Nat->Nat->List V->St->Hp->Prop,(∃m,W 0 m [] σ H)/\∀i m zs σ H,W i m zs σ H ->
   ((xi K a b).stop i H/\∀D,H D=none->R zs H D) \/
   ((xi K a b).go i H/\zs.length<sizeLine/\∃ N:List V->St->Hp->Prop,(∀ ve σ' H',N ve σ' H'->∃ m',m'<m/\W (i+1) m' ve σ' H') /\ ∀x H',(xi K a b).yld i H x H'->g x σ H' λσ2 H2=>tc σ2 H2 λb H3=>if b=true then te σ2 H3 λy H4=>N (zs++[y]) σ2 H4 else N zs σ2 H3):=by
 exists λi m zs σ H=>m=xs.length-i/\i<=xs.length/\Pv i zs σ H,⟨xs.length,tS,bM _,h0⟩,?_;rintro i m zs σ H ⟨rfl,hi,p⟩;obtain⟨q1,q2,q3⟩:=hl i zs σ H hi p;by_cases ba:i<xs.length
 ·have IP:i<ys.length:=by lia
  refine .inr ⟨⟨xs,ys,xs[i],ys[i],q1,q2,by simp[ba],by simp[IP]⟩,tL,Pv (i+1),λdJ σ' H' p'=>⟨xs.length-(i+1),tL,rfl,ba,p'⟩,λx H' y=>?_⟩;obtain⟨T,u,v,hT,rfl,rfl,y1,y2⟩:=y;exact hs i u v zs σ _ T (y1 xs q1) (y2 ys q2) p hT
 ·have e:i=xs.length:=by lia
  subst e;exact .inl ⟨⟨xs,ys,q1,q2,.inl (aT _)⟩,hd zs σ H p⟩
end L2
namespace My
open PySem L2 OF
noncomputable def wd:Nat->Str
 |0 => "and"
 |1 => "or"
 |_ => "xor"
end My
namespace L2
open PySem PySem.Spec PyProof.Rows
section
variable{X:Cx}{e st lo:Expr}{te:TE}{tl to:TO}{p2 pos:Pos}
noncomputable def mj{α:Type}(c n:Nat)(xs:List α):List α:=(List.range n).filterMap λk=>xs[c+2*k]?
theorem QB(r:Vals xs us)(f:Nat->Nat):∀ks:List Nat,Vals (ks.filterMap λk=>xs[f k]?) (ks.filterMap λk=>us[f k]?)
 |[]=>.nil
 |k::ks=>by
  have ih:=QB r f ks;have hl:=r.length;cases h:xs[f k]? with
  |none =>
   have h2:us[f k]?=none:=by simp_all
   rw[Rq (f:=λk=>xs[f k]?) h,Rq (f:=λk=>us[f k]?) h2];exact ih
  |some x =>
   obtain⟨u,hu,ru⟩:=r.get h;rw[IE (f:=λk=>xs[f k]?) h,IE (f:=λk=>us[f k]?) hu];exact .cons ru ih
def TB(c n:Nat)(hc:c<=n):sliceRange (c:Int) (n:Int) 2=(List.range ((n-c+1)/2)).map λk=>c+2*k:=by
 unfold sliceRange;have e:(if (2:Int)>0 then (if (c:Int)<(n:Int)then ((n:Int)-(c:Int)+2-1)/2 else 0)else (if (c:Int)>(n:Int)then ((c:Int)-(n:Int)-2-1)/(-2)else 0)).toNat=(n-c+1)/2:=by grind
 simp only[e];exact qi λk _=>by lia
def zct(items:Array Value)(c:Nat)(hc:c<=items.size):slicePick items (some (c:Int)) none (some 2)=(mj c ((items.size-c+1)/2) items.toList).toArray:=by
 unfold slicePick;have e:sliceBounds (some (c:Int)) none (some 2) items.size=((c:Int),(items.size:Int),2):=by
  show ((if (2:Int)>0 then max 0 (min (if (c:Int)<0 then (c:Int)+items.size else (c:Int)) items.size)else _),(if (2:Int)>0 then (items.size:Int)else -1),(2:Int))=_;have h1:max 0 (min (if (c:Int)<0 then (c:Int)+items.size else (c:Int)) items.size)=(c:Int):=by grind
  rw[h1];rfl
 rw[e,TB c items.size hc,R5];congr 1;congr 1
 funext k
 simp
def UO(K:Frag)(te:TE)(tl to:TO):TE:=λσ H Q=>te σ H λx H1=>tl σ H1 λo1 H2=>to σ H2 λo H3=>o=some 2/\∃(c:Nat) (a:Addr) (xs:List V),o1=some (c:Int)/\x=.ref a/\aj K H3 a xs/\c<=xs.length /\
 ∀p,H3 p=none->Q (.ref p) (upd H3 p (.lst (mj c ((xs.length-c+1)/2) xs)))
def zd(he:PE X e te)(uL:PO X (some lo) tl)(a8:PO X (some st) to):PE X (.Subscript e (.Slice (some lo) none (some st) p2) pos) (UO X.K te tl to):=by
 intro ae s σ H Q I h;refine Ba (aO (he ae s σ H _ I h) ?_);rintro v s1 ⟨x,H1,I1,r1,q1⟩;refine wpAny_Slice (aO (uL ae s1 σ H1 _ I1 q1) ?_);rintro vl s2 ⟨o1,H2,I2,pl,q2⟩;rw[En];refine aJ (aO (a8 ae s2 σ H2 _ I2 q2) ?_);rintro vk s3 ⟨o,H3,I3,pk,q3⟩;obtain⟨rfl,c,a,xs,rfl,rfl,hx,hc,q⟩:=q3;cases r1;have I4:Inv X ae σ H3 {s3 with heap:=s3.heap.push {cls:=.type "slice",data:=.fields #[vl,.none,vk]}}:=I3.kept (t':=s3.toks) λb ob q=>cq _ q
 obtain⟨ah,r,ht,hz⟩:=I4.list hx;have aK:=r.length;refine tail_any (ops:=[.ref a,.ref s3.heap.objs.size]) ht.isList.typeIs slot_list_getitem.lookup ?_ (by with_unfolding_all rfl);refine Qf ht.isList (Oq ..) pl .none pk tS ?_ (by simp_all);rw[zct _ c (by simp_all)];exists .ref _,_,I4.laid (o:=.lst (mj c ((xs.length-c+1)/2) xs)) (t':=s3.toks) (λb ob q=>cq _ q) (aT _) ?_,rfl,q _ (I4.hok.fresh (aT _));exists ?_,mj c ((xs.length-c+1)/2) ah,0,QB r (λk=>c+2*k) _,?_
 ·unfold mj;refine aX (List.length_filterMap_le _ _) ?_;rw[kQ];exact aX ((show ∀n c:Nat,(n-c+1)/2<=n by lia) _ _) hz
 ·rw[da _ rfl,fz,<-aK]
end
end L2
namespace My
open PySem L2 OF
def Vs(c n:Nat)(ns:List Int)(h:ns.length=2*n)(hc:c<2):mj c n (ns.map V.int)=((List.range n).map λk=>cv ns (2*k+c)).map V.int:=by
 rw[fk];have key:∀ks:List Nat,(∀k∈ks,k<n)->(ks.filterMap λk=>(ns.map V.int)[c+2*k]?)=ks.map (V.int ∘ λk=>cv ns (2*k+c)):=λks=>by
  induction ks with
  |nil=>intro _;rfl
  |cons k ks ih =>
   intro hk;have hkn:=hk k (kF ..);have e:(λk=>(ns.map V.int)[c+2*k]?) k=some (V.int (cv ns (2*k+c))):=by
    show (ns.map V.int)[c+2*k]?=_;rw[cQ,d4 (by lia:c+2*k<ns.length)];unfold cv;rw[m8,show 2*k+c=c+2*k by lia,d4 (by omega:c+2*k<ns.length)];rfl
   rw[IE (f:=λk=>(ns.map V.int)[c+2*k]?) e,ih λj hj=>hk j (dM _ hj)];rfl
 exact key _ λk hk=>ji.mp hk
def oq(s:Int)(n:Nat)(ns:List Int):List Int:=(List.range n).map (λk=>cv ns (2*k))++(List.range n).map λk=>cv ns (2*k+1)+s*cv ns (2*k)
def zce(s:Int)(n:Nat)(ns:List Int):(oq s n ns).length=2*n:=by unfold oq;simp;lia
def zbj(h:g<n):cv (oq s n ns) g=cv ns (2*g):=by
 unfold cv oq;rw[m8,HN (by simpa using h),cQ,vE h];rfl
def zdP(h:g<n):cv (oq s n ns) (g+n)=cv ns (2*g+1)+s*cv ns (2*g):=by
 conv=>lhs;unfold cv oq
 rw[m8,F0 tS,ax,kQ,LR,cQ,vE h];rfl
def oA(s:Int)(v:Nat->Int)(m i:Nat)(ns:List Int):Prop:=ns.length=2^m/\∀a b,a<2^(m-i)->b<2^i->cv ns (a+2^(m-i)*b)=gw s v i (2^i*a+b)
def oA.start(s:Int)(m:Nat)(ns:List Int)(h:ns.length=2^m):oA s (cv ns) m 0 ns:=by
 exists h,λa b ha hb=>?_
 have:b=0:=by simpa using hb
 subst this;simp[gw]
def RV(hb:b<2^i):(2^(i+1)*a+b).testBit i=false/\(2^(i+1)*a+(b+2^i)).testBit i=true:=by
 have p:=jk i;have e:2^(i+1)*a=2^i*(2*a):=by rw[ml,AD]
 constructor
 ·rw[uS,e,ID p,Tq hb];simp
 ·rw[uS,e,ID p,show b+2^i=2^i*1+b by lia,ID p,Tq hb];simp
def oA.next(h:oA s v m i ns)(hi:i<m):oA s v m (i+1) (oq s (2^(m-1)) ns):=by
 obtain⟨hl,hv⟩:=h;have em:2^m=2*2^(m-1):=by rw[<-Ai];congr 1;lia
 exists by rw[zce,em],λa b ha hb=>?_;have e1:2^(m-i)=2*2^(m-(i+1)):=by rw[<-Ai];congr 1;lia
 have e2:2^(m-1)=2^(m-(i+1))*2^i:=by rw[<-y9];congr 1;lia
 have e3:2^(i+1)=2*2^i:=by rw[Ai]
 have p0:=jk i;generalize hA:2^(m-(i+1))=A at *;generalize hB:2^i=B at *;have Jp:∀g,gw s v (i+1) g=gw s v i g+if g.testBit i then s*gw s v i (g-2^i)else 0:=λg=>rfl
 have low:∀b',b'<B->a+A*b'<2^(m-1):=λb' h'=>by
  rw[e2]
  have:A*b'+A<=A*B:=by rw[<-IZ];exact Nat.mul_le_mul_left _ h'
  lia
 have twice:∀b',2*(a+A*b')=2*a+2^(m-i)*b':=λb'=>by rw[e1,Dm,AD]
 rcases kU b B with dv|dv
 ·rw[zbj (low b dv),twice,hv (2*a) b (by rw[e1];lia) dv,Jp];have ht:=(RV (i:=i) (a:=a) (b:=b) (by simp_all)).1;rw[e3,AD,SS]at *;rw[show 2*(B*a)=B*(2*a) by rw[SS]]at *;simp only[ht,my,jZ,N3]
 ·obtain⟨c,rfl⟩:∃c,b=c+B:=⟨b-B,tL⟩;have hc:c<B:=by lia
  have pl:a+A*(c+B)=(a+A*c)+2^(m-1):=by rw[e2,Dm,Nat.add_assoc]
  rw[pl,zdP (low c hc),twice,show 2*a+2^(m-i)*c+1=(2*a+1)+2^(m-i)*c by lia,
   hv (2*a+1) c (by rw[e1];lia) hc,hv (2*a) c (by rw[e1];lia) hc,Jp]
  have ht:=(RV (i:=i) (a:=a) (b:=c) (by simp_all)).2;rw[e3,hB]at ht;have x1:2*B*a=B*(2*a):=by rw[GX 2 B,AD]
  have x2:B*(2*a+1)+c=2*B*a+(c+B):=by grind
  have x3:2*B*a+(c+B)-2^i=B*(2*a)+c:=by rw[hB,x1];lia
  rw[e3,aC ht,x3,x2]
def oA.all(h:oA s (cv ns) m m ms)(hn:ns.length=2^m):ms=sk s ns m:=by
 obtain⟨hl,hv⟩:=h;have e0:ns=(List.range (2^m)).map (cv ns):=by rw[<-hn];exact Jg ns
 conv=>rhs;rw[e0]
 rw[Fd]
 conv=>lhs;rw[Jg ms,hl]
 refine qi λg hg=>?_
 have:=hv 0 g tS (ji.mp hg)
 simpa using this
open PySem L2 OF
def qm(k:Nat)(o l:aq):aq:=gm k l++bK (eF k l) o
def ui(h0:∀t∈l,0<=t.1)(h:t∈eF k l):0<=t.1/\∃u∈l,t.2=u.2/\t.1=u.1-2^k/\eO k u=true:=by
 obtain⟨u,hu,rfl⟩:=bp.mp h;obtain⟨h1,h2⟩:=gJ.mp hu
 have:=SQ (h0 u h1) h2
 nomatch by simp_all,u,h1,rfl,rfl,h2
def Hn(h:t∈gm k l):t∈l/\eO k t=false:=by
 obtain⟨h1,h2⟩:=gJ.mp h;exact⟨h1,by simpa using h2⟩
theorem RY{m g:Nat}:∀{l:aq},(∀t∈l,0<=t.1/\t.1<2^m)->fw l (g:Int)=fw l ((g%2^m:Nat):Int)
 |[],_=>rfl
 |t::l,h=>by
  have ih:=RY (g:=g) (l:=l) λt ht=>h t (dM _ ht)
  have ht:=h t (kF ..);have pw:((2:Int)^m)=((2^m:Nat):Int):=by norm_cast
  have e:=gh ht.1;rw[mB,mB]at *;rw[cm,cm,ih];congr 1;have e1:iN (g:Int) t.1=iN ((g%2^m:Nat):Int) t.1:=by
   rw[<-e,uo,uo];have hs:t.1.toNat&&&g=t.1.toNat↔t.1.toNat&&&(g%2^m)=t.1.toNat:=by
    rw[wx,wx];refine forall_congr' λi=>?_
    constructor
    ·intro H hi;rw[Ta,H hi]
     have:i<m:=by
      rcases kU i m with z|z
      ·exact z
      ·rw[qR (cS (by lia:t.1.toNat<2^m) (dB tD z))]at hi;cases hi
     simp[this]
    ·intro H hi
     have:=H hi
     rw[Ta]at this;simp at this;exact this.2
   by_cases hc:t.1.toNat&&&g=t.1.toNat
   ·rw[aC hc,aC (hs.mp hc)]
   ·rw[av hc,av (λz=>hc (hs.mpr z))]
  rw[e1]
open PySem L2 OF
noncomputable def r9(m:Int)(f:aq):aq:=f.filter λt=>decide (t.2%m≠0)
noncomputable def zM:aq->V
 |[]=>.non
 |t::_=>.int t.1
open PySem L2 OF
def dP(H:Hp):List Addr->List aq->Prop:=Paired λp f=>aG H p f
def dP.length(h:dP H ps l):ps.length=l.length:=eV h
def dP.keep(h:dP H ps l)(k:af H H'):dP H' ps l:=Paired.mapP h λp t e=>e.keep k
theorem dP.snoc:∀{H:Hp}{ps:List Addr}{l:List aq}{p:Addr}{t:aq},dP H ps l->aG H p t->dP H (ps++[p]) (l++[t])
 |_,_,_,_,_,.nil,e=>.cons e .nil
 |_,_,_,_,_,.cons x r,e=>.cons x (dP.snoc r e)
def U2(H:Hp)(a:Addr)(l:List aq):Prop:=∃ps:List Addr,H a=some (.lst (ps.map V.ref))/\dP H ps l
def gR(w:Nat)(l o:aq):aq:=if w=0 then bK l o else (l++o)++(bK l o).map λt=>(t.1,t.2*(if w=1 then -1 else -2))
noncomputable def vv(l:aq):aq:=[(0,1)]++l.map λt=>(t.1,-t.2)
theorem EE(t:Int×Int)(j:Int):∀m:aq,aL (fq t m) j=t.2*cm (λi=>if Builtin.bitOr t.1 i=j then 1 else 0) m
 |[]=>by simp[fq,aL,cm]
 |u::m=>by
  have ih:=EE t j m;unfold fq at *;rw[bN];simp only[aL,cm];rw[ih,yX];by_cases h:Builtin.bitOr t.1 u.1=j
  ·rw[aC h,aC h];simp
  ·rw[av h,av h];simp
theorem Hi(h:∀j,aL m j=aL m' j)(j:Int):∀l:aq,aL (bK l m) j=aL (bK l m') j
 |[]=>rfl
 |t::l=>by
  have ih:=Hi h j l;show aL (fq t m++bK l m) j=aL (fq t m'++bK l m') j;rw[cG,cG,ih,EE,EE,SG _ h]
def JF(hf:IsForm f)(hk:∀t∈f,0<=t.1/\t.1<2^M):f.length<=2^M:=by
 have pw:((2:Int)^M)=((2^M:Nat):Int):=by norm_cast
 have h1:=pP (yJ hf) (B:=(List.range (2^M)).map λk:Nat=>(k:Int)) λx hx=>by
  obtain⟨t,ht,rfl⟩:=bp.mp hx
  have:=hk t ht
  exact bp.mpr ⟨t.1.toNat,ji.mpr tL,gh this.1⟩
 simpa using h1
theorem dP.keepU{H:Hp}{D:Addr}{xs:List V}{o:HO}(hD:H D=some (.lst xs)):∀{ps:List Addr}{l:List aq},dP H ps l->D∉ps->dP (upd H D o) ps l
 |_,_,.nil,_=>.nil
 |_,_,.cons e r,h=>by
  refine .cons ?_ (dP.keepU hD r λz=>h (dM _ z));obtain⟨qs,h1,h2⟩:=e;exact⟨qs,by rw[aS (λz=>h (by rw[z];exact kF ..))];exact h1,h2.keep λb zs z=>by rw[aS (SF z hD (by simp))];exact z⟩
open PySem L2 OF
def GC{l:aq}{U:Nat}(h0:∀t∈l,0<=t.1)(hU:∀j,(cT l 0).testBit j=true->U.testBit j=true):∀t∈l,0<=t.1/\t.1<2^intBits (U:Int):=λt ht=>by
 exists h0 t ht,?_;have h1:t.1.toNat<2^intBits (U:Int):=by
  refine zr _ λj hj=>?_
  cases e:t.1.toNat.testBit j
  ·rfl
  ·have h2:=hU j ((Iz l 0 j).mpr (.inr ⟨t,ht,e⟩));rw[qR (cS (Dd U) (dB tD hj))]at h2;cases h2
 have pw:((2:Int)^intBits (U:Int))=((2^intBits (U:Int):Nat):Int):=by norm_cast
 have:=h0 t ht
 lia
open PySem L2 OF
def zbq(K:Frag):Sp:=λvs H Q _=>∃(a:Addr) (ns:List Int) (k:Nat),vs=[.ref a,.int (k:Int)]/\aj K H a (ns.map V.int)/\Q (.int (ns.getD k 0)) H
def zde:Sp:=λvs H Q _=>∃c k:Int,vs=[.int c,.int k] /\ -(2^64)<k/\k<2^64/\∀r,0<=r->r<2147483587->Q (.int r) H
noncomputable def k6(t:Int×Int):Bool:=decide (t.1=0) || decide (t.2<0)
def xY(l:aq):Int:=((l.filter k6).map (·.2)).sum
def VV(K:Frag):Sp:=λvs H Q _=>∃(a:Addr) (l:aq),vs=[.ref a]/\TL K H a l/\l.length<=100000/\∀H',af H H'->Q (.int (xY l)) H'
end My
namespace L2
open PySem PySem.Spec PyProof.Rows
section
variable{X:Cx}{e st lo hi:Expr}{te:TE}{tl th to:TO}{p2 pos:Pos}
def mR(m:Int)(ns:List Int):Prop:=m∈ns/\∀n∈ns,m<=n
def YA(hi:IntsAre us ns)(jE:us.toArray=intItems xs)(cx:0<xs.size)(hP:(intItems xs)[argBest (λi j=>decide (numAt xs i<numAt xs j)) (xs.size-1)]?=some v) :
  ∃m t,v=.int m t/\mR m ns:=by
 obtain⟨t,rfl⟩:=intItems_at hP;exists _,t,rfl,?_,λn hn=>?_
 all_goals
  have hs:xs.toList.map (·.1)=ns:=by
   rw[<-nums_intItems,<-jE];exact (show numsOf us.toArray.toList=ns from hi.numsOf)
  obtain⟨b1,b2⟩:=argBest_lt (numAt xs) (xs.size-1);have kr:∀j,j<xs.size->ns[j]?=some (numAt xs j):=λj hj=>by
   rw[<-hs,cQ];unfold numAt;rw[DP,Dr hj];rfl
 ·exact cM (kr _ tO)
 ·obtain⟨j,hj⟩:=QM hn;have ki:j<xs.size:=by
   have:=(dO.mp hj).1
   rw[<-hs,ax,gL]at this;exact this
  rw[kr j ki]at hj;cases hj;exact b2 j tL
def IJ(hc:X.calm=true):gx X (.builtin "min") (λxs H Q=>∃(a:Addr) (ns:List Int),xs=[.ref a]/\aj X.K H a (ns.map V.int)/\0<ns.length/\∀m,mR m ns->Q (.int m) H):=by
 intro ae s σ H xs us Q I r h;obtain⟨a,ns,rfl,hq,cx,q⟩:=h;obtain⟨u,rfl,ru⟩:=gO r;cases (show u=Value.ref a from ru);obtain⟨ah,rv,p,hz⟩:=I.list hq;have hi:=uH rv;obtain⟨zs,jE⟩:=hi.allInts.items;have hsz:0<zs.size:=by
  have h1:=rv.length;rw[ax]at h1;have h2:ah.toArray.size=zs.size:=by rw[jE];simp[intItems]
  rw[fz]at h2;lia
 refine min_intList (I.ok.hd hc) (jE ▸ p.isList) hsz λv h' tk hP hk=>?_
 obtain⟨m,t,rfl,hm⟩:=YA hi jE hsz hP;nomatch .int m,H,I.kept (t':=tk) hk,⟨t,rfl⟩,q m hm
theorem C1:∀{bs:List Bool}{us:List Value},Vals (bs.map V.bl) us->∀(i:Nat) (v:Value),us[i]?=some v->∃b,bs[i]?=some b/\v=.bool b
 |[],us,r,i,v,h=>by rw[pD]at r;cases r;simp at h
 |b::bs,us,r,i,v,h=>by
  rw[bN]at r;cases r with
  |cons r1 r2 =>
   cases i with
   |zero =>
    have e:=gd h;subst e;nomatch b,rfl,r1
   |succ i=>exact C1 r2 i v h
def Q7(hc:X.calm=true):gx X (.builtin "all") (λxs H Q=>∃(a:Addr) (bs:List Bool),xs=[.ref a]/\aj X.K H a (bs.map V.bl)/\Q (.bl (bs.all id)) H):=by
 intro ae s σ H xs us Q I r h;obtain⟨a,bs,rfl,hq,q⟩:=h;obtain⟨u,rfl,ru⟩:=gO r;cases (show u=Value.ref a from ru);obtain⟨ah,rv,p,hz⟩:=I.list hq;have hl:=p.isList;have ba:a<s.heap.objs.size:=by obtain⟨_,e,_⟩:=hl;exact bg e
 have hh:=I.ok.hd hc;refine call_all_walk (qB hl ?_);refine⟨s.heap.objs.size,[s.heap.objs.size,a],[s.heap.objs.size],ah.toArray.size,_,_,λi=>(bs[i]?).getD true,rfl,Bt (A:=X.A.in1) hh _ a (dy ba) ah.toArray,⟨⟨_,da _ rfl,rfl,rfl⟩,hl.push _⟩,λi v s' Q' E' hP hQ=>?_,λh' tk hk=>?_⟩
 ·obtain⟨b,e,rfl⟩:=C1 rv i v (by simpa using hP);simp only[e,B3]at hQ;exact kA hQ
 ·have e:((List.range ah.toArray.size).all λi=>(bs[i]?).getD true)=bs.all id:=by
   have h1:=rv.length;rw[ax]at h1;rw[fz,<-h1];rw[rH,fN,fN];constructor
   ·intro z b hb;obtain⟨i,hi,rfl⟩:=zH hb
    have:=z i (ji.mpr hi)
    simpa [d4 hi] using this
   ·intro z i hi;have gY:=ji.mp hi;simp only[d4 gY,B3];exact z _ (jT gY)
  rw[e];exists .bl (bs.all id),H,I.kept (t':=tk) (λb o e=>hk b o (λhm=>?_) (cq _ e)),rfl,q;rw[bw.mp hm]at e;exact kS _ (bg e)
end
end L2
namespace My
open PySem L2 OF
noncomputable def bj(ls:List Nat):List V:=ls.map λy:Nat=>V.int (y:Int)
def qh(K:Nat):((2:Int)^K)=((2^K:Nat):Int):=by norm_cast
def zdZ{x:Nat}{ls:List Nat}:iY (.int (x:Int)) (ls.map λy:Nat=>V.int (y:Int))=decide (x∈ls):=by
 unfold iY;rw[rH,vF,decide_eq_true_iff];constructor
 ·rintro⟨y,hy,e⟩;obtain⟨z,hz,rfl⟩:=bp.mp hy
  have:(z:Int)=(x:Int):=by simpa [jC] using e
  have:z=x:=by lia
  rw[<-this];exact hz
 ·intro h;exact⟨_,bp.mpr ⟨x,h,rfl⟩,by simp[jC]⟩
def zeD(ls:List Nat):(ls.map λy:Nat=>V.int (y:Int)).all lM=true:=by
 rw[fN];intro y hy;obtain⟨z,_,rfl⟩:=bp.mp hy;rfl
open PySem L2 OF
noncomputable def vZ(k c:Int):Int:=if k=0 then c else if c<0 then c else 0
def yc:aq->Int
 |[]=>0
 |t::r=>vZ t.1 t.2+yc r
theorem Tv:∀l:aq,xY l=yc l
 |[]=>rfl
 |t::r=>by
  have ih:=Tv r;unfold xY at *;rw[yc,<-ih,l7];by_cases h:k6 t=true
  ·rw[aC h,bN,mm];unfold k6 at h;unfold vZ;by_cases h0:t.1=0
   ·rw[aC h0]
   ·rw[av h0,aC (by simp_all)]
  ·rw[av h];unfold k6 at h;unfold vZ;have h0:¬t.1=0:=λz=>h (by simp[z])
   have h1:¬t.2<0:=λz=>h (by simp[z])
   rw[av h0,av h1,pF]
open PySem L2 OF
inductive Sm where
 |bit (k:Nat)|fix (b:Int)|no (s:Sm)|two (w:Nat) (s t:Sm)
def Sm.d:Sm->D
 |.bit k=>.tup [.str "bit",.int (k:Int)]
 |.fix b=>.tup [.str "fix",.int b]
 |.no s=>.tup [.str "not",s.d]
 |.two w s t=>.tup [.str (wd w),s.d,t.d]
noncomputable def Sm.dp:Sm->Nat
 |.bit _=>0
 |.fix _=>0
 |.no s=>s.dp+1
 |.two _ s t=>max s.dp t.dp+1
def Sm.ok(P:Nat->Prop):Sm->Prop
 |.bit k=>P k
 |.fix b=>b=0\/b=1
 |.no s=>s.ok P
 |.two w s t=>w<3/\s.ok P/\t.ok P
theorem Sm.ok.imp(f:∀k,P k->R k):∀{s:Sm},s.ok P->s.ok R
 |.bit k,h=>f k h
 |.fix _,h=>h
 |.no s,h=>Sm.ok.imp (s:=s) f h
 |.two w s t,h=>⟨h.1,Sm.ok.imp f h.2.1,Sm.ok.imp f h.2.2⟩
def zw:Is H v (.tup [d,e])->∃p x y,v=.ref p/\H p=some (.tup [x,y])/\Is H x d/\Is H y e:=λh=>by
 obtain⟨p,xs,rfl,h1,h2⟩:=h;obtain⟨x0,r0,rfl,h3,h4⟩:=h2;obtain⟨x1,r1,rfl,h5,h6⟩:=h4;subst h6;nomatch p,x0,x1,rfl,h1,h3,h5
def zer:Is H v (.tup [d,e,f])->∃p x y z,v=.ref p/\H p=some (.tup [x,y,z])/\Is H x d/\Is H y e/\Is H z f:=λh=>by
 obtain⟨p,xs,rfl,h1,h2⟩:=h;obtain⟨x0,r0,rfl,h3,h4⟩:=h2;obtain⟨x1,r1,rfl,h5,h6⟩:=h4;obtain⟨x2,r2,rfl,h7,h8⟩:=h6;subst h8;nomatch p,x0,x1,x2,rfl,h1,h3,h5,h7
def j0(h:H p=some (.tup [x,y]))(h1:Is H x d)(h2:Is H y e):Is H (.ref p) (.tup [d,e]):=by
 exists p,_,rfl,h,?_;exists _,_,rfl,h1,?_;exists _,_,rfl,h2,?_;rfl
def yv(h:H p=some (.tup [x,y,z]))(h1:Is H x d)(h2:Is H y e)(h3:Is H z f):Is H (.ref p) (.tup [d,e,f]):=by
 exists p,_,rfl,h,?_;exists _,_,rfl,h1,?_;exists _,_,rfl,h2,?_;exists _,_,rfl,h3,?_;rfl
def dr:Is H v (.str x)↔v=.str x:=by unfold Is;exact Iff.rfl
def nE:Is H v (.int x)↔v=.int x:=by unfold Is;exact Iff.rfl
def qu(h:Is H v (Sm.bit k).d):∃p,v=.ref p/\H p=some (.tup [.str "bit",.int (k:Int)]):=by
 obtain⟨p,x,y,rfl,h1,h2,h3⟩:=zw h;rw[dr]at h2;rw[nE]at h3;subst h2 h3;nomatch p,rfl,h1
def qj(h:Is H v (Sm.fix b).d):∃p,v=.ref p/\H p=some (.tup [.str "fix",.int b]):=by
 obtain⟨p,x,y,rfl,h1,h2,h3⟩:=zw h;rw[dr]at h2;rw[nE]at h3;subst h2 h3;nomatch p,rfl,h1
def ow(h:Is H v (Sm.no s).d):∃p x,v=.ref p/\H p=some (.tup [.str "not",x])/\Is H x s.d:=by
 obtain⟨p,x,y,rfl,h1,h2,h3⟩:=zw h;rw[dr]at h2;subst h2;nomatch p,y,rfl,h1,h3
def oh(h:Is H v (Sm.two w s t).d):∃p x y,v=.ref p/\H p=some (.tup [.str (wd w),x,y])/\Is H x s.d/\Is H y t.d:=by
 obtain⟨p,x,y,z,rfl,h1,h2,h3,h4⟩:=zer h;rw[dr]at h2;subst h2;nomatch p,y,z,rfl,h1,h3,h4
theorem gS(k:∀p xs,H p=some (.tup xs)->H' p=some (.tup xs)):∀{s:Sm}{v:V},Is H v s.d->Is H' v s.d
 |.bit j,v,h=>by obtain⟨p,rfl,h1⟩:=qu h;exact j0 (k _ _ h1) (dr.mpr rfl) (nE.mpr rfl)
 |.fix j,v,h=>by obtain⟨p,rfl,h1⟩:=qj h;exact j0 (k _ _ h1) (dr.mpr rfl) (nE.mpr rfl)
 |.no s,v,h=>by obtain⟨p,x,rfl,h1,h2⟩:=ow h;exact j0 (k _ _ h1) (dr.mpr rfl) (gS k h2)
 |.two w s t,v,h=>by obtain⟨p,x,y,rfl,h1,h2,h3⟩:=oh h;exact yv (k _ _ h1) (dr.mpr rfl) (gS k h2) (gS k h3)
def BZ{H:Hp}{l:Addr}{xs:List V}{o:HO}{s:Sm}{v:V}(h:Is H v s.d)(hl:H l=some (.lst xs)):Is (upd H l o) v s.d:=gS (λp ys e=>by
 have cx:p≠l:=λz=>by simp_all
 rw[aS cx];exact e) h
theorem sX:∀(ls ks:List Nat),ks.Nodup->(∀k∈ks,∀j,k.testBit j=true->j∈ls)->ks.length<=2^ls.length
 |[],ks,hn,h=>by
  have h0:∀k∈ks,k=0:=λk hk=>qk λj=>by simp_all
  match ks,hn,h0 with
  |[],_,_=>exact bM _
  |[_],_,_=>exact aT _
  |a::b::r,hn,h0 =>
   have h1:=h0 a tS;have h2:=h0 b tS;rw[j7]at hn;exact absurd (by rw[h1,h2];simp) hn.1
 |x::r,ks,hn,h=>by
  have hA:(ks.filter λk=>k.testBit x).length<=2^r.length:=by
   have:=sX r ((ks.filter λk=>k.testBit x).map λk=>k-2^x) (by
    rw[List.Nodup,uk];refine (hn.filter _).imp_of_mem fun {a b} ha hb je z=>je ?_
    have h1:=uq (gJ.mp ha).2;have h2:=uq (gJ.mp hb).2;omega) (λk hk j hj=>by
     obtain⟨k',uv,rfl⟩:=bp.mp hk;have jf:=gJ.mp uv;rw[nM jf.2]at hj;have fV:k'.testBit j=true/\j≠x:=by simpa using hj
     rcases bC.mp (h k' jf.1 j fV.1)with z|z
     ·exact absurd z fV.2
     ·exact z)
   rw[ax]at this;exact this
  have hB:(ks.filter λk => !k.testBit x).length<=2^r.length:=sX r _ (hn.filter _) λk hk j hj=>by grind
  have hs:∀l:List Nat,l.length=(l.filter λk=>k.testBit x).length+(l.filter λk => !k.testBit x).length:=λl=>by
   induction l with
   |nil=>rfl
   |cons a l ih =>
    rw[l7,l7,bH,ih];cases a.testBit x<;>simp<;>lia
  rw[bH,ml,hs ks];lia
def zdx{ls:List Nat}{x:Nat}(h:ls.length<16):∃m,(x+5*m)%16∉ls:=by
 by_cases z:∃m,(x+5*m)%16∉ls
 ·exact z
 ·exfalso;have mv:∀m,(x+5*m)%16∈ls:=λm=>F9 λw=>z ⟨m,w⟩
  have qP:∀y∈List.range 16,y∈ls:=λy hy=>by
   have Bu:=ji.mp hy;have h1:=mv (13*(y+15*x));have e:(x+5*(13*(y+15*x)))%16=y:=by lia
   rw[e]at h1;exact h1
  have:=pP (l:=(List.range 16).map λy:Nat=>(y:Int)) (B:=ls.map λy:Nat=>(y:Int)) (List.nodup_range.map (λy:Nat=>(y:Int)) (λa b h z=>h (F1 z))) λx hx=>by
   obtain⟨y,hy,rfl⟩:=bp.mp hx;exact bp.mpr ⟨y,qP y hy,rfl⟩
  rw[ax,ax,kQ]at this;lia
def uM:(wd w ≠ "bit")/\(wd w ≠ "fix")/\(wd w ≠ "not"):=by
 match w with
 |0=>decide
 |1=>decide
 |n+2=>show ("xor" : Str) ≠ "bit" /\ ("xor" : Str) ≠ "fix" /\ ("xor" : Str) ≠ "not";decide
def RP{j:Nat}(h:j<3):dN [V.str "and",V.str "or",V.str "xor"] (j:Int)=some (V.str (wd j)):=by
 obtain rfl|rfl|rfl:j=0\/j=1\/j=2:=by lia
 ·rfl
 ·rfl
 ·rfl
end My
namespace L2
open PySem PySem.Spec PyProof.Rows
def xE(K:Frag)(a:Addr)(n:Nat):It :=
 ⟨λi H=>∃xs x,aj K H a xs/\i<n/\xs[n-1-i]?=some x,λi H x H'=>H'=H/\∀xs,aj K H a xs->xs[n-1-i]?=some x,λi _=>n<=i⟩
def zdY{P:Program}{w:World}{K:Frag}{tg:Expr}(a it:Addr)(n:Nat) :
  nB P w K tg (xE K a n) [it] it (λi h=>i<=n/\h.IsRevIter it a ((n:Int)-1-(i:Int))) where
 mem:=bw.mpr rfl
 obj:=λi h st b hb=>by
  obtain⟨_,o,e,c,d⟩:=st;rw[bw.mp hb];exact⟨o,e,λv z=>by simp_all⟩
 keep:=λi h h' st k=>⟨st.1,st.2.at (k it (bw.mpr rfl))⟩
 item:=by
  intro X hP hw hK hc i ae s σ H E I hf st hg;subst hP hw hK;obtain⟨xs,x,hq,hi,hx⟩:=hg;obtain⟨ah,rv,p,_⟩:=I.list hq;obtain⟨u,hu,ru⟩:=rv.get hx;have fo:=hf it (bw.mpr rfl);have hit:=st.2;rw[show (n:Int)-1-(i:Int)=((n-1-i:Nat):Int) by omega]at hit;refine wpAny_pyNext_rev_item hit p.isList (x:=u) (by simpa using hu) λh' dE sb=>?_
  have J:=I.turned (t':=s.toks) (λb o hb z=>(sb.2 b hb).trans z) fo.1 fo.2.1 fo.2.2.2.1 fo.2.2.2.2.1 fo.2.2.2.2.2;rw[show ((n-1-i:Nat):Int)-1=(n:Int)-1-((i+1:Nat):Int) by omega]at dE;have kb:=dE;obtain⟨o,z1,z2,z3⟩:=dE;nomatch u,rfl,we (s:={s with heap:=h'}) z1 z2 z3 tD ⟨x,H,J,ru,⟨rfl,λys hy=>by rw[I.list_inj hy hq];exact hx⟩,⟨hi,kb⟩,λb hb=>(hf b hb).1⟩
 done:=by
  intro X hP hw hK hc i ae s σ H E I hf st hg;subst hP hw hK;have fo:=hf it (bw.mpr rfl);have hn:n<=i:=hg;have hit:=st.2;have hle:=st.1;rw[show (n:Int)-1-(i:Int) = -1 by lia]at hit;exact wpAny_pyNext_rev_end (I.ok.hd hc) hit λh' eb=>⟨rfl,I.turned (t':=s.toks) (λb o hb z=>eb b o hb z) fo.1 fo.2.1 fo.2.2.2.1 fo.2.2.2.2.1 fo.2.2.2.2.2⟩
 self:=λ_ _ _ _ _ st h=>wpAny_pyIter_revIter st.2 h
def Wa(K:Frag)(ta:TA):TI:=λσ H R=>ta σ H λvs H1=>∃a xs,vs=[.ref a]/\aj K H1 a xs/\R (xE K a xs.length) H1
def zdq{X:Cx}{tg a:Expr}{ta:TA}{p pos:Pos}(hg:Gl X "reversed")(hm:X.mg "reversed" = none)(ha:PA X [a] ta)(hs:starEach [a] X.env=[(false,eval a X.env)]:=by rfl) :
  PI X tg (.Call (.Name "reversed" p) [a] [] pos) (Wa X.K ta):=by
 intro ae s σ H R I h;refine Call_ (qq I hg hm boot_reversed (tY (aO (ha pos ae s σ H _ I h) ?_) hs rfl));rintro us s1 ⟨vs,H1,I1,r1,q1⟩;obtain⟨l,xs,rfl,hq,q⟩:=q1;obtain⟨u,rfl,ru⟩:=Vals.one r1;cases (show u=Value.ref l from ru);obtain⟨ah,rx,p,hz⟩:=I1.list hq;have ie:=rx.length;refine call_reversed_list p.isList (wpAny_pyIter_revIter (it:=s1.heap.objs.size) (l:=l) (i:=((ah.toArray.size:Nat):Int)-1) ⟨_,da _ rfl,rfl,rfl⟩ ?_);exists s1.heap.objs.size,[s1.heap.objs.size],_,_,H1,rfl,I1.kept (t':=s1.toks) λb o e=>cq _ e,zdY l _ xs.length,⟨bM _,?_⟩,λb hb=>?_,q
 ·rw[show ((xs.length:Nat):Int)-1-((0:Nat):Int)=((ah.toArray.size:Nat):Int)-1 by simp_all];nomatch _,da _ rfl,rfl,rfl
 ·rw[bw.mp hb];exact I1.fpOk (aT _) (I1.hok.fresh (aT _))
def zd5{K:Frag}{a:Addr}{xs:List V}{g:TG}{tb:TS}{D:mx}{σ:St}{H:Hp}(Pv:Nat->St->Hp->Prop)(h0:Pv 0 σ H)(hl:∀i σ H,i<=xs.length->Pv i σ H->aj K H a xs)
  (hs:∀i x σ H,xs.reverse[i]?=some x->Pv i σ H->g x σ H λσ2 H2=>tb {D with nx:=Pv (i+1),ct:=Pv (i+1),bk:=D.nx} σ2 H2) (hd:∀σ H,Pv xs.length σ H->D.nx σ H) :
  ∃W:Nat->Nat->St->Hp->Prop,(∃m,W 0 m σ H)/\∀i m σ H,W i m σ H ->
   ((xE K a xs.length).stop i H/\D.nx σ H)\/((xE K a xs.length).go i H/\∃N:St->Hp->Prop,(∀σ' H',N σ' H'->∃m',m'<m/\W (i+1) m' σ' H')/\∀x H',(xE K a xs.length).yld i H x H'->g x σ H' λσ2 H2=>tb {D with nx:=N,ct:=N,bk:=D.nx} σ2 H2):=by
 exists λi m σ H=>m=xs.length-i/\i<=xs.length/\Pv i σ H,⟨xs.length,tS,bM _,h0⟩,λi m σ H ⟨em,hi,p⟩=>?_;subst em;have q:=hl i σ H hi p;rcases kU i xs.length with ba|uD
 ·have hb:xs.length-1-i<xs.length:=by omega
  refine .inr ⟨⟨xs,xs[xs.length-1-i],q,ba,d4 hb⟩,Pv (i+1),λσ' H' p'=>⟨xs.length-(i+1),tL,rfl,ba,p'⟩,λx H' y=>?_⟩;rw[y.1];exact hs i x σ H (by rw[List.getElem?_reverse ba];exact y.2 xs q) p
 ·have e:i=xs.length:=by lia
  rw[e]at p;exact .inl ⟨uD,hd σ H p⟩
def zb4(K:Frag):V->List V->Hp->VK->Prop:=λx vs H Q=>∃l b xs zs,x=.ref l/\vs=[.ref b]/\H l=some (.lst xs)/\az K H b zs/\xs.length+zs.length<=sizeLine/\Q .non (upd H l (.lst (xs++zs)))
def XR{prog:Program}{w:World}{A:Around}{E:Value->Shared->Prop}{s:Shared}{l b:Addr}{ah dQ:List Value}{n:Nat}{Q:Value->Shared->Prop}
  (e:s.heap.get? l=some {cls:=.type "list",data:=.seq ah.toArray n}) (hb:IsTup s.heap b dQ.toArray) (hz:ah.length+dQ.length<=sizeLine)
  (h:Q .none {s with heap:=s.heap.update l (Obj.mapSeq λx=>x++dQ.toArray)}):wpAny (model prog w) A (call (.builtin "list.extend") [.ref l,.ref b]) Q E s:=by
 obtain⟨o,ho,hc,k,hd⟩:=hb;refine l8 F.slot_list_extend ⟨_,e,rfl⟩ F.entry_list_extend ?_ (F.args_list_extend_2 _ _);refine au (yk (a:=(Value.ref l,Value.ref b)) rfl ?_);refine au (wN (T := "tuple") ⟨o,ho,hc⟩ ?_);rw[aC (by simp)];refine au (wpAny_listItems ho hd ?_);refine au (wpAny_listItems e rfl ?_);have hlong:¬(!ah.toArray.isEmpty&&Builtin.List.listTooLong (ah.toArray.size+dQ.toArray.size))=true:=by
  rw[VB (by assumption),pY];exact c9
 rw[av hlong];refine au ?_;refine BM e rfl ?_ (by rw[fz];lia) (by grind);exact aJ ⟨_,rfl,h⟩
def V6{X:Cx}:gT X "list.extend" (zb4 X.K):=by
 intro ae s σ H x vs v us Q I rx rv h;obtain⟨l,b,xs,zs,rfl,rfl,hH,hB,hz,q⟩:=h;cases rx;obtain⟨u,rfl,ru⟩:=rv.one;cases ru;obtain⟨z,ah,n,r,hl,e⟩:=I.lstM hH;obtain⟨dQ,r2,pl,_⟩:=I.tuple hB;have fS:=r2.length;refine XR e pl tL ⟨.non,_,I.lset (its':=ah++dQ) hH e tS (r.append r2) ?_,rfl,q⟩;rw[bh];exact hz
end L2
namespace My
open PySem L2 OF
noncomputable def Sm.sz:Sm->Nat
 |.bit _=>1
 |.fix _=>1
 |.no s=>s.sz+1
 |.two _ s t=>s.sz+t.sz+1
noncomputable def Sm.pre:Sm->List Sm
 |.bit k=>[.bit k]
 |.fix b=>[.fix b]
 |.no s=>.no s::s.pre
 |.two w s t=>.two w s t::(t.pre++s.pre)
theorem Sm.pre_len:∀s:Sm,s.pre.length=s.sz
 |.bit _=>rfl
 |.fix _=>rfl
 |.no s=>by show s.pre.length+1=s.sz+1;rw[pre_len s]
 |.two w s t=>by show (t.pre++s.pre).length+1=s.sz+t.sz+1;rw[bh,pre_len s,pre_len t];lia
theorem Sm.sz_pos:∀s:Sm,0<s.sz
 |.bit _=>Nat.one_pos
 |.fix _=>Nat.one_pos
 |.no s=>CU _
 |.two w s t=>CU _
theorem Sm.sz_dp:∀s:Sm,s.sz+1<=2^(s.dp+1)
 |.bit _=>aT _
 |.fix _=>aT _
 |.no s=>by
  have:=sz_dp s
  show s.sz+1+1<=2^(s.dp+1+1);rw[ml]
  have:=sz_pos s
  lia
 |.two w s t=>by
  have h1:=sz_dp s;have h2:=sz_dp t;have k1:2^(s.dp+1)<=2^(max s.dp t.dp+1):=dB tD tL;have k2:2^(t.dp+1)<=2^(max s.dp t.dp+1):=dB tD tL;show s.sz+t.sz+1+1<=2^(max s.dp t.dp+1+1);rw[ml];lia
def zcq(st:List Sm):Sm->List Sm->Prop
 |.bit k,dE=>dE=st++[.bit k]
 |.fix b,dE=>dE=st++[.fix b]
 |.no s,dE=>∃a,st=a++[s]/\dE=a++[.no s]
 |.two w s t,dE=>∃a,st=a++[s,t]/\dE=a++[.two w s t]
def r6(fin:List Sm):List Sm->List Sm->Prop
 |st,[]=>st=fin
 |st,p::L=>∃dE,zcq st p dE/\r6 fin dE L
theorem yL:∀(s:Sm) (st L:List Sm),r6 fin (st++[s]) L->r6 fin st (s.pre.reverse++L)
 |.bit k,st,L,h=>⟨_,rfl,h⟩
 |.fix b,st,L,h=>⟨_,rfl,h⟩
 |.no s,st,L,h=>by
  show r6 fin st ((Sm.no s::s.pre).reverse++L);rw[Cs,gr];exact yL s st _ ⟨_,⟨st,rfl,rfl⟩,h⟩
 |.two w s t,st,L,h=>by
  show r6 fin st ((Sm.two w s t::(t.pre++s.pre)).reverse++L);rw[Cs,pH,gr,gr];exact yL s st _ (yL t _ _ ⟨_,⟨st,by simp,rfl⟩,h⟩)
abbrev eY(G:Hp):List V->List Sm->Prop:=Paired λx s=>Is G x s.d
theorem eY.snoc:∀{G:Hp}{xs:List V}{l:List Sm}{x:V}{s:Sm},eY G xs l->Is G x s.d->eY G (xs++[x]) (l++[s])
 |_,_,_,_,_,.nil,h=>.cons h .nil
 |_,_,_,_,_,.cons e r,h=>.cons e (eY.snoc r h)
theorem eY.last:∀{G:Hp}{xs:List V}{l:List Sm},eY G xs l->xs≠[]->∃ys y m s,xs=ys++[y]/\l=m++[s]/\eY G ys m/\Is G y s.d
 |_,_,_,.nil,h=>absurd rfl h
 |_,_,_,.cons (l₁:=[]) e .nil,h=>⟨[],_,[],_,rfl,rfl,.nil,e⟩
 |G,x::y::xs,s::l,.cons e r,h=>by
  obtain⟨ys,z,m,t,e1,e2,h1,h2⟩:=eY.last r tS;rw[e1,e2];nomatch x::ys,z,s::m,t,rfl,rfl,.cons e h1,h2
theorem eY.rev:∀{G:Hp}{xs:List V}{l:List Sm},eY G xs l->eY G xs.reverse l.reverse
 |_,_,_,.nil=>.nil
 |_,_,_,.cons e r=>by rw[Cs,Cs];exact (eY.rev r).snoc e
theorem eY.at:∀{G:Hp}{xs:List V}{l:List Sm}{i:Nat}{x:V},eY G xs l->xs[i]?=some x->∃s,l[i]?=some s/\Is G x s.d
 |_,_,_,_,_,.nil,h=>by cases h
 |_,_,_,0,_,.cons e r,h=>by cases h;nomatch _,rfl,e
 |_,_,_,i+1,_,.cons e r,h=>eY.at (i:=i) r h
theorem G9:∀{a b:List α}{m:List β},Paired R (a++b) m->∃m1 m2,m=m1++m2/\Paired R a m1/\Paired R b m2
 |[],b,m,h=>⟨[],m,rfl,.nil,h⟩
 |x::a,b,y::m,.cons e r=>by
  obtain⟨m1,m2,rfl,h1,h2⟩:=G9 (a:=a) r;nomatch y::m1,m2,rfl,.cons e h1,h2
theorem qO:∀{a:List α}{m:List β}{x:α}{y:β},Paired R a m->R x y->Paired R (a++[x]) (m++[y])
 |_,_,_,_,.nil,h=>.cons h .nil
 |_,_,_,_,.cons e r,h=>.cons e (qO r h)
open PySem L2 OF
theorem xN:∀{m a b:List β}{l:List α},Paired R l (a++b)->∃l1 l2,l=l1++l2/\Paired R l1 a/\Paired R l2 b
 |m,[],b,l,h=>⟨[],l,rfl,.nil,h⟩
 |m,y::a,b,x::l,.cons e r=>by
  obtain⟨l1,l2,rfl,h1,h2⟩:=xN (m:=m) (a:=a) r;nomatch x::l1,l2,rfl,.cons e h1,h2
theorem Sm.pre_ok:∀{s:Sm},s.ok P->∀p∈s.pre,p.ok P
 |.bit k,h,p,hp=>by rw[bw.mp hp];exact h
 |.fix b,h,p,hp=>by rw[bw.mp hp];exact h
 |.no s,h,p,hp=>by
  rcases bC.mp hp with rfl|z
  ·exact h
  ·exact Sm.pre_ok (s:=s) h p z
 |.two w s t,h,p,hp=>by
  rcases bC.mp hp with rfl|z
  ·exact h
  ·rcases bA.mp z with z|z
   ·exact Sm.pre_ok h.2.2 p z
   ·exact Sm.pre_ok h.2.1 p z
def Vu(w:Nat):iY (V.str (wd w)) [.str "and",.str "or",.str "xor"]=true:=by
 match w with
 |0=>decide
 |1=>decide
 |n+2=>show iY (V.str "xor") [.str "and",.str "or",.str "xor"]=true;decide
def rQ(h:n+1<=2^21):n<sizeLine:=cS (Nat.lt_of_succ_le h) tD
def Qe{s:Sm}(h:s.dp<=20):s.sz+1<=2^21:=aX s.sz_dp (dB tD tL)
end My
namespace OS
open PySem PySem.W PyProof.Rows
section
variable{prog:Program}{w:World}{A:Around}{E:Value->Shared->Prop}{s:Shared}
noncomputable def B6(h:Heap)(v:Value)(k:Int×Int):Prop:=∃x n dd sl t u,v=.ref x/\h.get? x=some {cls:=.type "tuple",dict:=dd,data:=.seq #[.int k.1 t,.int k.2 u] n,slots:=sl}
noncomputable def lexB(p q:Int×Int):Bool:=decide (p.1<q.1\/(p.1=q.1/\p.2<q.2))
def zdm(hA:A.units<cLine)(hu:B6 s.heap u p)(hv:B6 s.heap v q)(h:Q (.bool (lexB p q)) s):wpAny (model prog w) A (richCompare .Lt u v) Q E s:=by
 obtain⟨x,n,dd,sl,t,t',rfl,ho⟩:=hu;obtain⟨y,m,oN,bL,r,r',rfl,i0⟩:=hv;have LP:s.TypeIs (.ref x) "tuple" := ⟨_,ho,rfl⟩;have Jt:s.TypeIs (.ref y) "tuple" := ⟨_,i0,rfl⟩;refine wpAny_richCompare_same_room (op:=.Lt) LP Jt QA (l8 QA LP F.entry_tuple_lt ?_ (F.args_tuple_lt_2 _ _)) hA;show wpAny _ _ (isInstance (.ref y) (.type "tuple") >>= _) _ _ s;refine au (yW Jt isSubtype_tuple_tuple ?_);simp only[Gs,my,jZ];refine au (wpAny_tupleItemsOf ho rfl ?_);refine au (wpAny_tupleItemsOf i0 rfl ?_);refine au ?_;show wpAny _ _ (forIn [(Value.int p.1 t,Value.int q.1 r),(Value.int p.2 t',Value.int q.2 r')] _ _) _ _ s;rw[tF];refine au (au (Cw ?_));by_cases e1:p.1=q.1
 ·have b1:(p.1 == q.1)=true:=by simpa using e1
  rw[b1];simp only[Gs,my,jZ];refine aJ ?_;dsimp only;rw[tF];refine au (au (Cw ?_));by_cases e2:p.2=q.2
  ·have b2:(p.2 == q.2)=true:=by simpa using e2
   rw[b2];simp only[Gs,my,jZ];refine aJ ?_;dsimp only;rw[DU];refine aJ ?_;refine aJ ⟨_,rfl,(λz=>nomatch z),?_⟩;have hl:lexB p q=false:=bo tL;rw[hl]at h;exact h
  ·have b2:(p.2 == q.2)=false:=by simpa using e2
   rw[b2];simp only[IX,iI];refine au (qM (au (richCompare_gives (op:=.Lt) (xp s _ _) (xp s _ _) JG Mg (Mr _ _) (gives_int_lt _ _ _ _) (λx=>nomatch x) ?_)));refine au (aJ (aJ ?_));refine aJ ?_;refine aJ ⟨_,rfl,(λz=>nomatch z),?_⟩;have hl:lexB p q=decide (p.2<q.2):=by unfold lexB;exact decide_eq_decide.mpr tL
   rw[hl]at h;exact h
 ·have b1:(p.1 == q.1)=false:=by simpa using e1
  rw[b1];simp only[IX,iI];refine au (qM (au (richCompare_gives (op:=.Lt) (xp s _ _) (xp s _ _) JG Mg (Mr _ _) (gives_int_lt _ _ _ _) (λx=>nomatch x) ?_)));refine au (aJ (aJ ?_));refine aJ ?_;refine aJ ⟨_,rfl,(λz=>nomatch z),?_⟩;have hl:lexB p q=decide (p.1<q.1):=by unfold lexB;exact decide_eq_decide.mpr tL
  rw[hl]at h;exact h
end
section
variable{prog:Program}{w:World}{A:Around}{R:Result->Shared->Prop}{I:Addr}{fp wr:List Addr}{n N:Nat}{P:Nat->Value->Prop}{St:Nat->Heap->Prop}{val:Nat->Int×Int}
def vh(N:Nat)(P:Nat->Value->Prop)(val:Nat->Int×Int)(h:Heap):Prop:=∀i v,P i v->∃x,v=.ref x/\x<N/\B6 h v (val i)
def vh.keep(g:vh N P val h)(k:∀b o,b<N->h.get? b=some o->h'.get? b=some o):vh N P val h':=λi v hp=>by
 obtain⟨x,rfl,hx,y,m,dd,sl,t,u,e,ho⟩:=g i v hp;cases e;nomatch x,rfl,hx,x,m,dd,sl,t,u,rfl,k _ _ hx ho
def Y8(h1:lexB q p=false)(h2:lexB r p=true):lexB q r=false:=by
 have a:=of_decide_eq_false h1;have b:=bP h2;exact bo tL
def Nu(p:Int×Int):lexB p p=false:=bo tL
def zbW(W:Walks prog w A.in1 I fp wr n P St)(hA:A.in1.units<cLine)(oy:∀b∈wr,N<=b)(hS:N<=S)(mq:S∉fp) :
  ∀(k j best:Nat) (s:Shared) (vb:Value) (c:Nat),j+k=n->best<j->St j s.heap->P best vb->vh N P val s.heap->(∀i,i<j->lexB (val i) (val best)=false) ->
  s.heap.get? S=some {cls:=.type "list",dict:=none,data:=.seq #[vb,vb] c,slots := #[]} ->
  (∀b v h' tk,b<n->P b v->(∀i,i<n->lexB (val i) (val b)=false)->(∀a o,a<N->s.heap.get? a=some o->h'.get? a=some o)->R (.ok (.ret v)) {s with heap:=h',toks:=tk}) ->
  codeAny (model prog w) A (.builtin "min.loop" ⟨[.ref I,.none,.ref S],[]⟩) R s:=by
 have rS:S∉wr:=λz=>mq (W.sub _ z)
 have low:∀a:Nat,a<N->a∉wr/\a≠S:=λa ha=>⟨λz=>by have:=oy a z;lia,λz=>tL⟩
 have nm:(toString "min" ++ toString ".loop" : String) = "min.loop" := by decide
 intro k;induction k with
 |zero =>
  intro j best s vb c hk hb a8 hP hL hm ho q;obtain rfl:j=n:=by assumption
  refine mL IL ?_;rw[uO rh _];refine au (lJ ho rfl ?_);refine au (xk (W.done s _ _ a8 λh' tk kp=>?_));refine au (BM (kp S _ rS ho) rfl (au (sL (aJ ?_))));exact q best vb _ tk hb hP hm λa o ha e=>(nQ _ _ (Ne.symm (low a ha).2)).trans (kp a o (low a ha).1 e)
 |succ k ih =>
  intro j best s vb c hk hb a8 hP hL hm ho q;refine mL IL ?_;rw[uO rh _];refine au (lJ ho rfl ?_);refine au (xk (W.item j s _ _ tL a8 λv h' tk hv st kp=>?_));have iP:=kp S _ rS ho;have ym:=hL.keep λa o ha e=>kp a o (low a ha).1 e
  obtain⟨_,_,_,t1⟩:=ym j v hv;obtain⟨_,_,_,t2⟩:=ym best vb hP;show wpAny _ A.in1 (tryCatch (holding [v,v] (richCompare .Lt v vb >>= _)) _ >>= _) _ _ _;refine au (xk (lj (au (zdm hA t1 t2 ?_))));refine au (lj (kA (au (sL (aJ ?_)))));cases ik:lexB (val j) (val best)with
  |true =>
   simp only[iI];refine au (BM iP rfl (au (sL ?_)));rw[nm];refine aJ ⟨uV rh _,ih (j+1) j _ v _ tL tL (W.frame _ _ _ st λb hf o e=>?_) hv (ym.keep λa o ha e=>?_) (λi hi=>?_) (xI _ iP rfl) λb v' vA mM sD dv pR xA=>?_⟩
   ·exact (nQ _ _ (λz:S=b=>mq (by rw[z];exact hf))).trans e
   ·exact (nQ _ _ (Ne.symm (low a ha).2)).trans e
   ·rcases kU i j with z|z
    ·exact Y8 (hm i z) ik
    ·obtain rfl:i=j:=by lia
     exact Nu _
   ·exact q b v' vA mM sD dv pR λa o ha e=>xA a o ha ((nQ _ _ (Ne.symm (low a ha).2)).trans (kp a o (low a ha).1 e))
  |false =>
   simp only[my,jZ];refine au (sL ?_);rw[nm];refine aJ ⟨uV rh _,ih (j+1) best _ vb c tO tL st hP ym (λi hi=>?_) iP λb v' vA mM sD dv pR xA=>?_⟩
   ·rcases kU i j with z|z
    ·exact hm i z
    ·obtain rfl:i=j:=by omega
     exact ik
   ·exact q b v' vA mM sD dv pR λa o ha e=>xA a o ha (kp a o (low a ha).1 e)
def za3(W:Walks prog w A.in1 I fp wr n P St)(hA:A.in1.units<cLine)(oy:∀b∈wr,N<=b)(hS:N<=S)(mq:S∉fp)(hn:0<n)(a8:St 0 s.heap)(hL:vh N P val s.heap)
  (ho:s.heap.get? S=some {cls:=.type "list",dict:=none,data:=.seq #[] c,slots := #[]})
  (q:∀b v h' tk,b<n->P b v->(∀i,i<n->lexB (val i) (val b)=false)->(∀a o,a<N->s.heap.get? a=some o->h'.get? a=some o)->R (.ok (.ret v)) {s with heap:=h',toks:=tk}) :
  codeAny (model prog w) A (.builtin "min.loop" ⟨[.ref I,.none,.ref S],[]⟩) R s:=by
 have rS:S∉wr:=λz=>mq (W.sub _ z)
 have low:∀a:Nat,a<N->a∉wr/\a≠S:=λa ha=>⟨λz=>by have:=oy a z;lia,λz=>tL⟩
 have nm:(toString "min" ++ toString ".loop" : String) = "min.loop" := by decide
 refine mL IL ?_;rw[uO rh _];refine au (lJ ho rfl ?_);refine au (xk (W.item 0 s _ _ hn a8 λv h' tk hv st kp=>?_));have iP:=kp S _ rS ho;show wpAny _ A.in1 (updateSeq S (λ_ => #[v,v]) >>= _) _ _ _;refine au (BM iP rfl ?_);rw[nm];refine aJ ⟨uV rh _,zbW W hA oy hS mq (n-1) 1 0 _ v _ tL tL (W.frame _ _ _ st λb hf o e=>?_) hv (hL.keep λa o ha e=>?_) (λi hi=>?_) (xI _ iP rfl) λb v' vA mM sD dv pR xA=>?_⟩
 ·exact (nQ _ _ (λz:S=b=>mq (by rw[z];exact hf))).trans e
 ·exact (nQ _ _ (Ne.symm (low a ha).2)).trans (kp a o (low a ha).1 e)
 ·obtain rfl:i=0:=by lia
  exact Nu _
 ·exact q b v' vA mM sD dv pR λa o ha e=>xA a o ha ((nQ _ _ (Ne.symm (low a ha).2)).trans (kp a o (low a ha).1 e))
end
section
variable{prog:Program}{w:World}{A:Around}{E:Value->Shared->Prop}{s:Shared}
def min_pairs{a:Addr}{items:Array Value}{val:Nat->Int×Int}{Q:Value->Shared->Prop}(hh:A.in1.handled=none)(hA:A.in1.units<cLine)(hl:s.heap.IsList a items)(hn:0<items.size)
  (hT:∀i v,items[i]?=some v->B6 s.heap v (val i))
  (q:∀b v h' tk,b<items.size->items[b]?=some v->(∀i,i<items.size->lexB (val i) (val b)=false)->(∀x o,s.heap.get? x=some o->h'.get? x=some o)->Q v {s with heap:=h',toks:=tk}) :
  wpAny (model prog w) A (call (.builtin "min") [.ref a]) Q E s:=by
 have nm:(toString "min" ++ toString ".loop" : String) = "min.loop" := by decide
 have ba:a<s.heap.objs.size:=by obtain⟨_,e,_⟩:=hl;exact bg e
 refine call_function_tree F.kind_min F.plain_min F.entry_min (F.args_min1 _) ?_;show wpAny _ A.in1 (Builtin.Builtins.bindParams "min" ["key","default"] 0 ⟨[],[]⟩ >>= _) _ _ s;refine au (yk (show Builtin.Builtins.bindParams "min" ["key","default"] 0 ⟨[],[]⟩=pure [none,none] from rfl) ?_);refine au (aJ ?_);refine au (qB hl ?_);refine au (lD ?_);rw[nm];have W:=Bt (prog:=prog) (w:=w) (A:=A.in1) hh s.heap.objs.size a (dy ba) items;refine aJ ⟨uV rh _,za3 (N:=s.heap.objs.size) (val:=val) W hA (λb hb=>by simp_all) ?_ ?_ hn ?_ ?_ (da _ rfl) λb v h' tk h1 h2 h3 kp=>?_⟩
 ·show s.heap.objs.size<=(s.heap.push _).objs.size;rw[kB];lia
 ·show (s.heap.push _).objs.size∉[s.heap.objs.size,a];rw[kB];intro z;rcases bC.mp z with z|z
  ·lia
  ·exact kS _ (jm (EK (bw.mp z)) (yl ba))
 ·exact W.frame _ _ _ (show _ from ⟨⟨_,da _ rfl,rfl,rfl⟩,hl.push _⟩) λb _ o e=>cq _ e
 ·intro i v hv;obtain⟨x,m,dd,sl,t,u,rfl,ho⟩:=hT i v hv;nomatch x,rfl,bg ho,x,m,dd,sl,t,u,rfl,cq _ (cq _ ho)
 ·exact q b v h' tk h1 h2 h3 λx o e=>kp x o (bg e) (cq _ (cq _ e))
end
end OS
namespace L2
open PySem PySem.Spec PyProof.Rows OF
section
variable{X:Cx}
def Yu(hc:X.calm=true)(hu:X.A.units+1<cLine):gx X (.builtin "min") (λxs H Q=>∃(a:Addr) (ps:List Addr) (l:aq),xs=[.ref a]/\aj X.K H a (ps.map V.ref)/\cn H ps l/\0<l.length/\∀(b:Nat) (p:Addr) (t:Int×Int),ps[b]?=some p->l[b]?=some t->(∀u∈l,OS.lexB u t=false)->Q (.ref p) H):=by
 intro ae s σ H xs us Q I r h;obtain⟨a,ps,l,rfl,hq,hT,cx,q⟩:=h;obtain⟨u,rfl,ru⟩:=gO r;cases (show u=Value.ref a from ru);obtain⟨ah,rv,p,hz⟩:=I.list hq;have hl:=p.isList;have h1:=rv.length;rw[ax]at h1;have h2:=hT.length;have look:∀(i:Nat) (v:Value),ah.toArray[i]?=some v->∃(p':Addr) (t:Int×Int),ps[i]?=some p'/\v=Value.ref p'/\l[i]?=some t/\H p'=some (.tup [.int t.1,.int t.2]):=λi v hv=>by
  have ng:ah[i]?=some v:=by simpa using hv
  have hi:i<ps.length:=by grind
  have g0:=d4 hi;obtain⟨u,e1,e2⟩:=rv.get (i:=i) (x:=V.ref ps[i]) (by rw[cQ,g0];rfl);rw[ng]at e1;cases e1;obtain⟨t,g1,g2⟩:=hT.at' g0;nomatch _,t,g0,e2,g1,g2
 refine OS.min_pairs (val:=λi=>l.getD i (0,0)) (I.ok.hd hc) (by simp_all) hl (by simp_all) (λi v hv=>?_) λb v h' tk hb hv hm kp=>?_
 ·obtain⟨p',t,g1,rfl,g3,g4⟩:=look i v hv;obtain⟨_,dQ,r2,o,ho,fG,n,hd⟩:=I.hok _ _ g4;cases r2 with
  |cons r r' =>
   cases r' with
   |cons r' r'' =>
    cases r'';obtain⟨t1,rfl⟩:=r;obtain⟨t2,rfl⟩:=r';have ev:l.getD i (0,0)=t:=by simp_all
    exists p',n,o.dict,o.slots,t1,t2,rfl,?_;rw[ho,ev];cases o;simp only at fG hd;subst fG hd;rfl
 ·obtain⟨p',t,g1,rfl,g3,g4⟩:=look b v hv;have ev:l.getD b (0,0)=t:=by rw[m8,g3];rfl
  exists .ref p',H,I.kept (t':=tk) kp,rfl,q b p' t g1 g3 λu hu=>?_;obtain⟨i,hi,rfl⟩:=zH hu
  have:=hm i (by grind)
  rw[ev,m8,d4 hi]at this;exact this
end
open PySem PySem.Spec PyProof.Rows
section
variable{X:Cx}
def zdc:V->List V->Hp->VK->Prop:=λx vs H Q=>∃(l:Addr) (ns:List Int) (k:Int),x=.ref l/\vs=[.int k]/\H l=some (.lst (ns.map V.int))/\k∈ns/\Q (.int ((ns.idxOf k:Nat):Int)) H
def RL:gT X "list.index" zdc:=by
 intro ae s σ H x vs v us Q I rx rv h;obtain⟨l,ns,k,rfl,rfl,hH,hk,q⟩:=h;cases rx;obtain⟨u,rfl,t,rfl⟩:=rv.one;obtain⟨z,ah,n,r,hl,e⟩:=I.lstM hH;have hi:=uH r;have hn:=hi.length;have hj:=Pa.mpr hk;have hz:ah.length<2^40:=by rw[<-hl];exact jm z tD
 refine nH RH ⟨_,e,rfl⟩ RB (Pf _ _)
  (Mc l ah.toArray n none #[] (.int k t) (isInt k) (ns.idxOf k) (by simp_all) tL ?_ ?_) ⟨e,λy hy=>(eq_isInt k t hi y (by simpa using hy)).at _ _,⟨.int _,H,I.tok _,⟨_,rfl⟩,q⟩⟩
 ·show isInt k ah[ns.idxOf k]=true;rw[isInt_at k hi _ tO hj];simpa using List.getElem_idxOf hj
 ·intro m hm ba;show isInt k ah[m]=false;rw[isInt_at k hi _ (by simpa using hm) tL];exact ne_of_lt_idxOf ba _
end
end L2
namespace My
open PySem L2 OF
def Within(ks:List Nat)(f:aq):Prop:=∀t∈f,∀k,t.1.toNat.testBit k=true->k∈ks
def Wr{t:Int×Int}(h0:0<=t.1)(h:¬(t.2<0/\t.1≠0)):vZ t.1 t.2=iN ((0:Nat):Int) t.1*t.2:=by
 have e:=gh h0;have eb:Builtin.bitAnd t.1 ((0:Nat):Int)=0:=by rw[<-e,vw,Nat.and_zero];rfl
 unfold vZ iN;rw[eb];by_cases z:t.1=0
 ·rw[aC z,aC z.symm,qt]
 ·rw[av z,av (λy=>h ⟨y,z⟩),av (λy=>z y.symm),Gw]
theorem Ru:∀{f:aq},(∀t∈f,0<=t.1)->(∀t∈f,¬(t.2<0/\t.1≠0))->yc f=cm (iN ((0:Nat):Int)) f
 |[],_,_=>rfl
 |t::r,h,h'=>by
  rw[yc,cm,Ru (λu hu=>h u (by simp[hu])) (λu hu=>h' u (by simp[hu])),Wr (h t tS) (h' t tS)]
def Xj(h0:∀t∈f,0<=t.1)(hw:∀g:Nat,n<=fw f (g:Int))(hf:xY f<n):∃t∈f,t.2<0/\t.1≠0:=by
 refine F9 λz=>?_
 have e:=Ru h0 λt ht y=>z ⟨t,ht,y⟩
 rw[<-Tv,<-mB]at e
 have:=hw 0
 lia
def Ml(hb:b=0\/b=1)(h:∀t∈l,0<=t.1)(hf:aZ f (iG k b l))(hn:∀g:Nat,n<=fw l (g:Int)):∀g:Nat,n<=fw f (g:Int):=λg=>by
 rw[zad _ hf.val,zeG hb h];exact hn _
def J3(h:∀t∈l,0<=t.1/\t.1<2^m):∀t∈iG k b l,0<=t.1/\t.1<2^m:=λt ht=>by
 rcases bA.mp ht with z|z
 ·unfold gm at z;exact h t (gJ.mp z).1
 ·split at z
  ·cases z
  ·unfold eF at z;obtain⟨v,hv,rfl⟩:=bp.mp z;have ng:=gJ.mp hv;have h1:=h v ng.1;have h2:=SQ h1.1 ng.2;have h3:(0:Int)<2^k:=by rw[qh];have:=jk k;lia
   omega
def fT(f:aq)(m:Nat):List Int:=(List.range (2^m)).map λg:Nat=>fw f (g:Int)
def XI(h:∀t∈f,0<=t.1/\t.1<2^m)(hn:mR n (fT f m)):∀g:Nat,n<=fw f (g:Int):=λg=>by
 rw[RY (g:=g) h];exact hn.2 _ (bp.mpr ⟨g%2^m,ji.mpr (qG _ (jk m)),rfl⟩)
structure mZ(ks:List Nat)(d:aq):Prop where
 nd:(d.map (·.1)).Nodup
 src:∀x∈d.map (·.1),∃k:Nat,x=(k:Int)/\k∈ks
def mZ.nil(ks:List Nat):mZ ks []:=⟨zt,λx hx=>by cases hx⟩
def mZ.put(h:mZ ks d)(hk:k∈ks)(v:Int):mZ ks (fh d (k:Int) v):=by
 exists QS _ _ h.nd,λx hx=>?_;rw[vD]at hx;split at hx
 ·exact h.src x hx
 ·rcases bA.mp hx with z|z
  ·exact h.src x z
  ·nomatch k,by simpa using z,hk
def mZ.len(h:mZ ks d):d.length<=ks.length:=by
 have:=pP (B:=ks.map λk:Nat=>(k:Int)) h.nd λx hx=>by
  obtain⟨k,rfl,hk⟩:=h.src x hx;exact bp.mpr ⟨k,hk,rfl⟩
 rw[ax,ax]at this;exact this
def zdl(d:aq)(k v:Int):0<(fh d k v).length:=by
 have h:look (fh d k v) k=some v:=by rw[Bw,aC rfl]
 cases e:fh d k v with
 |nil=>rw[e]at h;cases h
 |cons a r=>simp
def zej(h:a≠0):0<(lst a).length:=by
 obtain⟨k,hk⟩:=Nat.exists_testBit_of_ne_zero h;exact CF (xv.mpr hk)
open PySem L2 OF
def QJ(h1:mR a l)(h2:mR b l):a=b:=by
 have:=h1.2 b h2.1
 have:=h2.2 a h1.1
 lia
open PySem L2 OF
theorem N9:∀(r l d:aq),DictOf d l->∃d',DictOf d' (l++r)
 |[],l,d,h=>⟨d,by simp_all⟩
 |p::r,l,d,h=>by
  have:=N9 r (l++[p]) _ (h.snoc p)
  rw[gr]at this;exact this
def Ri(l:aq):∃f,aZ f l:=by
 obtain⟨d,hd⟩:=N9 l [] [] A8;exists _,BX (ks:=(d.map (·.1)).mergeSort λa b=>decide (a<=b)) hd (List.mergeSort_perm _ _) ?_
 have:=List.pairwise_mergeSort (le:=λa b:Int=>decide (a<=b)) (λa b c h1 h2=>by simp at *;lia) (λa b=>by simp;lia) (d.map (·.1))
 exact this.imp λh=>by simpa using h
end My
namespace L2
open PySem PySem.Spec PyProof.Rows
section
variable{X:Cx}{tg:Expr}
def Tc:gT X "str.startswith" (λx vs H Q=>∃i j,x=.str i/\vs=[.str j]/\Q (.bl (Txt.startswith i j)) H):=by
 intro ae s σ H x xs v us Q I rx rv h;obtain⟨i,j,rfl,rfl,q⟩:=h;obtain⟨t,rfl⟩:=rx;obtain⟨u,rfl,⟨t2,rfl⟩⟩:=rv.one;exact SC.startswith ⟨.bl _,H,I,rfl,q⟩
def II:gT X "str.find" (λx vs H Q=>∃i j,x=.str i/\vs=[.str j]/\Q (.int (Txt.find i j)) H):=by
 intro ae s σ H x xs v us Q I rx rv h;obtain⟨i,j,rfl,rfl,q⟩:=h;obtain⟨t,rfl⟩:=rx;obtain⟨u,rfl,⟨t2,rfl⟩⟩:=rv.one;exact SC.find ⟨.int _,H,I.tok _,⟨_,rfl⟩,q⟩
def zbg:gT X "str.lstrip" (λx vs H Q=>∃i j,x=.str i/\vs=[.str j]/\i.length<=sizeLine/\Q (.str (Txt.lstripChars i j)) H):=by
 intro ae s σ H x xs v us Q I rx rv h;obtain⟨i,j,rfl,rfl,hz,q⟩:=h;obtain⟨t,rfl⟩:=rx;obtain⟨u,rfl,⟨t2,rfl⟩⟩:=rv.one;exact call_gives F.slot_str_lstrip (pJ _ _ _) F.entry_str_lstrip (F.args_str_lstrip_2 _ _) (gives_str_lstrip_chars i j t t2) (post_val_or_made (λ_=>fits_stripped _ _ _ hz) λt' k=>⟨.str _,H,I.tok _,⟨_,rfl⟩,q⟩)
theorem Oh:∀{ys:List Str}{ah:List Value},Vals (ys.map V.str) ah->StrsAre ah ys
 |[],_,h=>by cases h;exact .nil
 |y::r,_,h=>by
  cases h with
  |cons a b=>obtain⟨t,rfl⟩:=a;exact .cons _ _ (Oh b)
def lR:gT X "str.join" (λx vs H Q=>∃i l ys,x=.str i/\vs=[.ref l]/\aj X.K H l (ys.map V.str)/\(ys.map (·.length)).sum+ys.length*i.length<=16777216/\Q (.str (Txt.join i ys)) H):=by
 intro ae s σ H x xs v us Q I rx rv h;obtain⟨i,l,ys,rfl,rfl,hq,hz,q⟩:=h;obtain⟨t,rfl⟩:=rx;obtain⟨u,rfl,ru⟩:=rv.one;cases (show u=Value.ref l from ru);obtain⟨ah,r,p,hl⟩:=I.list hq;exact join_list p.isList (Oh r) hz λt' k=>⟨.str _,H,I.tok _,⟨_,rfl⟩,q⟩
theorem S8:∀{l:List (Str×Tok)},Vals ((l.map (·.1)).map V.str) (strValues l)
 |[]=>.nil
 |(x,t)::r=>.cons ⟨t,rfl⟩ (S8 (l:=r))
def zau(I:Inv X ae σ H s)(e:l.map (·.1)=ys)(hz:ys.length<=sizeLine) :
  Inv X ae σ (upd H s.heap.objs.size (.lst (ys.map V.str))) {s with heap:=s.heap.push {cls:=.type "list",data:=.seq (strValues l).toArray},toks:=tk}:=by
 subst e;exact I.laid (o:=.lst _) (t':=tk) (λb o q=>cq _ q) (aT _) ⟨by rw[ax];exact hz,strValues l,0,S8,da _ rfl⟩
def G8:gT X "str.split" (λx vs H Q=>∃i j,x=.str i/\vs=[.str j]/\(j.length == 0)=false/\i.length<sizeLine/\∀a,H a=none->Q (.ref a) (upd H a (.lst ((Txt.split i j).map V.str)))):=by
 intro ae s σ H x xs v us Q I rx rv h;obtain⟨i,j,rfl,rfl,hy,hz,q⟩:=h;obtain⟨t,rfl⟩:=rx;obtain⟨u,rfl,⟨t2,rfl⟩⟩:=rv.one;have hj:1<=j.length:=by lia
 have hw:=split_weight i j hj;have hn:(Txt.split i j).length<=sizeLine:=by lia
 have fin:∀(l:List (Str×Tok)) (tk:Nat),l.map (·.1)=Txt.split i j->EP X ae σ Q (.ref s.heap.objs.size) {s with heap:=s.heap.push {cls:=.type "list",data:=.seq (strValues l).toArray},toks:=tk}:=λl tk e =>
  ⟨.ref s.heap.objs.size,_,zau I e hn,rfl,q _ (I.hok.fresh (aT _))⟩
 cases h1:(decide (i.length<j.length) || decide (Builtin.Str.strKind i<Builtin.Str.strKind j))
 ·cases hf:(Builtin.Str.occurrences i j 0 i.length (i.length+1)).isEmpty
  ·have e:Txt.split i j=Builtin.Str.partsBetween i (Builtin.Str.occurrences i j 0 i.length (i.length+1)) j.length:=(av (GN h1)).trans (av (GN hf));refine nH Dk (pJ _ _ _) Gz (HP _ _) (meets_str_split_sep i j t t2 h1 hy hf tL (by simp_all)) ?_;rw[strsFrom_eq];exact fin _ _ ((numbered_texts _ _).trans e.symm)
  ·exact nH Dk (pJ _ _ _) Gz (HP _ _) (meets_str_split_not_found i j t t2 h1 hy hf)
    (fin [(i,t)] s.toks ((av (GN h1)).trans (aC hf)).symm)
 ·exact nH Dk (pJ _ _ _) Gz (HP _ _) (meets_str_split_cannot_occur i j t t2 h1)
   (fin [(i,t)] s.toks (aC h1).symm)
def zh:yT X (λx lo hi H Q=>∃z,x=.str z/\z.length<=sizeLine/\Q (.str (Txt.slice z lo hi)) H):=by
 intro ae s σ H x v vl vu lo hi sl Q I rx hs pl pu h;obtain⟨z,rfl,hz,q⟩:=h;obtain⟨t,rfl⟩:=rx;have part:∀{v:Value}{o:Option Int},IsPart v o->∃l:Option (Int×Tok),v=partValue l/\l.map (·.1)=o:=λp=>by
  cases p with
  |none=>nomatch none,rfl,rfl
  |int i t=>nomatch some (i,t),rfl,rfl
 obtain⟨l,rfl,rfl⟩:=part pl;obtain⟨u,rfl,rfl⟩:=part pu;exists "str",_,F.slot_str_getitem.lookup,pJ _ _ _,?_;exact wpAny_getItem_str_slice (l:=l) (u:=u) (st:=none) hs rfl (post_val_or_str ⟨aX (Txt.slice_le z _ _) hz,λt' k=>⟨.str _,H,I.tok _,⟨_,rfl⟩,q⟩⟩)
def Im:gx X (.type "int") (λxs H Q=>∃x n,xs=[.str x]/\intText? x=some n/\x.length<=640/\Q (.int n) H):=by
 intro ae s σ H xs us Q I r h;obtain⟨x,n,rfl,hn,hl,q⟩:=h;obtain⟨u,rfl,⟨t,rfl⟩⟩:=gO r;exact jhs hn hl ⟨.int n,H,I.tok _,⟨_,rfl⟩,q⟩
noncomputable def pQ(x:Str):It:=⟨λi _=>i<x.cps.size,λi H v H'=>H'=H/\∃c,x.cps[i]?=some c/\v=.str ⟨#[c]⟩,λi _=>x.cps.size<=i⟩
def K7(te:TE):TI:=λσ H R=>te σ H λv H1=>∃x,v=.str x/\x.cps.all (· < 128)=true/\R (pQ x) H1
def zdR{P:Program}{w:World}{K:Frag}{tg:Expr}(x:Str)(t:Tok)(it:Addr):nB P w K tg (pQ x) [it] it (λi h=>h.IsStrIter it "str_ascii_iterator" x t i) where
 mem:=by simp
 obj:=λi h st b hb=>by
  have e:b=it:=by simpa using hb
  subst e;obtain⟨o,e,c,d⟩:=st;exact⟨o,e,λv z=>by simp_all⟩
 keep:=λi h h' st k=>let ⟨o,e,c,d⟩:=st; ⟨o,k it tS o e,c,d⟩
 item:=by
  intro X hP hw hK hc i ae s σ H E I hf st hg;subst hP hw hK;obtain⟨f0,f1,f2,f3,f4,f5⟩:=hf it tS;have hx:x.cps[i]?=some (x.cps[i]'hg):=by rw[Dr hg]
  refine wpAny_pyNext_ascii_item st hx λh' dE sb=>?_
  have I1:Inv X ae σ H {s with heap:=h',toks:=s.toks+1}:=I.turned (λb o hb e=>(sb.2 b hb).trans e) f0 f1 f3 f4 f5;obtain⟨o,e,c,d⟩:=id dE;nomatch _,rfl,we (s:={s with heap:=h',toks:=s.toks+1}) e c d tD ⟨.str ⟨#[x.cps[i]'hg]⟩,H,I1,⟨_,rfl⟩,⟨rfl,_,hx,rfl⟩,dE,λb hb=>(hf b hb).1⟩
 done:=by
  intro X hP hw hK hc i ae s σ H E I hf st hg;subst hP hw hK;obtain⟨f0,f1,f2,f3,f4,f5⟩:=hf it tS;exact wpAny_pyNext_ascii_end (I.ok.hd hc) st (Array.getElem?_eq_none hg) λh' eb=>⟨rfl,I.turned (t':=s.toks) (λb o hb e=>eb b o hb e) f0 f1 f3 f4 f5⟩
 self:=λ_ _ _ _ _ st h=>wpAny_pyIter_striter_ascii st h
def yU{l:Expr}{tl:TE}(hl:PE X l tl):PI X tg l (K7 tl):=by
 intro ae s σ H R I h;refine aO (hl ae s σ H _ I h) ?_;rintro v s1 ⟨x,H1,I1,r1,q1⟩;obtain⟨z,e,ha,q⟩:=q1;subst e;obtain⟨t,rfl⟩:=r1;refine wpAny_pyIter_ascii ha ?_;exists s1.heap.objs.size,[s1.heap.objs.size],_,_,H1,rfl,I1.kept (t':=s1.toks) λb o e=>cq _ e,zdR z t _,⟨_,da _ rfl,rfl,rfl⟩,λb hb=>?_,q;have e:b=s1.heap.objs.size:=by simpa using hb
 subst e;exact I1.fpOk (aT _) (I1.hok.fresh (aT _))
end
end L2
namespace My
open PySem L2 OF
noncomputable def S(l:List Nat):Str:=⟨l.toArray⟩
def gf(l:List Nat):(S l).cps.toList=l:=rfl
def aH(l:List Nat):(S l).length=l.length:=rfl
def Y1(x:Str):x=S x.cps.toList:=rfl
def sC(h:x.cps.toList=l):x=S l:=by subst h;rfl
def dU(h:S a=S b):a=b:=congrArg (λx:Str=>x.cps.toList) h
def dH(a b:List Nat):S a++S b=S (a++b):=sC (by
 show (a.toArray++b.toArray).toList=_;rw[Array.toList_append])
noncomputable def bR(c:Nat):List (List Nat)->List Nat
 |[]=>[]
 |[x]=>x
 |x::y::r=>x++c::bR c (y::r)
theorem Hs(c:Nat):∀ws:List (List Nat),Str.join (S [c]) (ws.map S)=S (bR c ws)
 |[]=>rfl
 |[x]=>rfl
 |x::y::r=>by
  have ih:=Hs c (y::r);show S x++S [c]++Str.join (S [c]) ((y::r).map S)=_;rw[ih,dH,dH,bR];simp
theorem L3:∀ws:List (List Nat),Str.join (S []) (ws.map S)=S ws.flatten
 |[]=>rfl
 |[x]=>by show S x=_;simp
 |x::y::r=>by
  have ih:=L3 (y::r);show S x++S []++Str.join (S []) ((y::r).map S)=_;rw[ih,dH,dH];simp
def qY(c:Nat)(ws:List (List Nat)):Txt.join (S [c]) (ws.map S)=S (bR c ws):=by
 unfold Txt.join;rw[K3,Hs]
def Ql(ws:List (List Nat)):Txt.join (S []) (ws.map S)=S ws.flatten:=by
 unfold Txt.join;rw[K3,L3]
theorem Oi:∀{x y A B:List Nat},c∉x->c∉y->x++c::A=y++c::B->x=y/\A=B
 |[],[],_,_,_,_,h=>⟨rfl,by simpa using h⟩
 |[],b::y,_,_,_,h2,h=>by simp_all
 |a::x,[],_,_,h1,_,h=>by
  have:a=c:=by simpa using (Sq h).1
  exact absurd (this ▸ kF) h1
 |a::x,b::y,A,B,h1,h2,h=>by
  obtain⟨e1,e2⟩:=Sq h;obtain⟨e3,e4⟩:=Oi (λz=>h1 (dM _ z)) (λz=>h2 (dM _ z)) e2;nomatch by rw[e1,e3],e4
theorem DX:∀{ws vs:List (List Nat)},ws≠[]->vs≠[]->(∀w∈ws,c∉w)->(∀w∈vs,c∉w)->bR c ws=bR c vs->ws=vs
 |[],_,h,_,_,_,_=>absurd rfl h
 |_::_,[],_,h,_,_,_=>absurd rfl h
 |[x],[y],_,_,_,_,h=>by
  have:x=y:=h
  rw[this]
 |[x],y::z::r,_,_,h1,_,h=>by
  have h':x=y++c::bR c (z::r):=h;exact absurd (by rw[h'];simp) (h1 x tS)
 |x::z::r,[y],_,_,_,h2,h=>by
  have h':x++c::bR c (z::r)=y:=h;exact absurd (by rw[<-h'];simp) (h2 y tS)
 |x::x2::r,y::y2::r',_,_,h1,h2,h=>by
  have h':=h;obtain⟨e1,e2⟩:=Oi (h1 x tS) (h2 y tS) h';rw[e1,DX tS tS (λw hw=>h1 w (dM _ hw)) (λw hw=>h2 w (dM _ hw)) e2]
def CZ(h0:ws≠[])(hf:∀w∈ws,c∉w):Txt.split (S (bR c ws)) (S [c])=ws.map S:=by
 have e1:=StrLaws.join_split (S (bR c ws)) (S [c]);have e2:(Txt.split (S (bR c ws)) (S [c]))=((Txt.split (S (bR c ws)) (S [c])).map λp=>p.cps.toList).map S:=by
  rw[fk];exact (wk _).symm.trans (qi λp _=>Y1 p)
 have rL:=StrLaws.split_free (S (bR c ws)) c;have tG:=jhj (S (bR c ws)) (S [c]);rw[e2,Hs]at e1;have e3:=dU e1;have e4:=DX (c:=c) (λz=>by
   rw[List.map_eq_nil_iff]at z;rw[z]at tG;exact absurd tG tD) h0 (λw hw=>by
   obtain⟨p,hp,rfl⟩:=bp.mp hw;exact rL p hp) hf e3
 rw[e2,e4]
noncomputable def cb(n:Nat):List Nat:=(Nat.toDigits 10 n).map Char.toNat
def pq(n:Nat):ofString (toString ((n:Nat):Int))=S (cb n):=sC (jhx n)
def xO(n:Nat):digitsVal (cb n)=n:=WA n
def sV(h:c∈cb n):48<=c/\c<=57:=by
 obtain⟨ch,kC,e⟩:=bp.mp h;have r:=ZN (Nat.isDigit_of_mem_toDigits tD tD kC);rw[<-e];exact r
def Pw(h:¬m<10):cb m=cb (m/10)++[48+m%10]:=by
 have hm:m%10<10:=qG m tD;have t:Nat.toDigits 10 (m/10)++Nat.toDigits 10 (m%10)=Nat.toDigits 10 (10*(m/10)+m%10):=Nat.toDigits_append_toDigits tD tL hm;rw[RD]at t;unfold cb;rw[<-t,aQ,Rb hm]
 have:∀d:Nat,d<10->(Nat.digitChar d).toNat=48+d:=by decide
 rw[bN,pD,this _ hm]
def yZ(h:m<10):cb m=[48+m]:=by
 unfold cb;rw[Rb h]
 have:∀d:Nat,d<10->(Nat.digitChar d).toNat=48+d:=by decide
 rw[bN,pD,this _ h]
def F4:∀{m:Nat},0<m->∃d r,cb m=(49+d)::r/\d<9:=by
 intro m;induction m using Nat.strongRecOn with
 |_ m ih =>
  intro h0;by_cases h:m<10
  ·rw[yZ h];nomatch m-1,[],by congr 1;lia,tO
  ·obtain⟨d,r,e,hd⟩:=ih (m/10) tL tL;rw[Pw h,e];nomatch d,r++[48+m%10],rfl,hd
theorem lO:∀{k m:Nat},m<10^(k+1)->(cb m).length<=k+1
 |0,m,h=>by rw[yZ h];exact aT _
 |k+1,m,h=>by
  by_cases h1:m<10
  ·rw[yZ h1];exact Nat.le_add_left _ _
  ·have h2:m/10<10^(k+1):=by rw[Nat.div_lt_iff_lt_mul tD];rw[ml]at h;exact h
   rw[Pw h1,bh]
   have:=lO h2
   simp;assumption
def UD(h:cb m=[49]):m=1:=by
 have:=xO m
 rw[h]at this;exact this.symm
def cR(m:Nat):List Nat:=(lst m).map λk=>97+k
def rp(hm:m<2^16)(h:c∈cR m):97<=c/\c<113:=by
 obtain⟨k,hk,rfl⟩:=bp.mp h;have hb:=xv.mp hk
 have:k<16:=by
  rcases kU k 16 with y|y
  ·exact y
  ·rw[qR (cS hm (dB tD y))]at hb;cases hb
 lia
def S0(hm:m<2^16):(List.range 16).filter (λk=>m.testBit k)=lst m:=by
 have hb:=Hv hm;obtain⟨d,hd⟩:∃d,16=intBits (m:Int)+d:=⟨16-intBits (m:Int),tL⟩;unfold lst;rw[hd,List.range_add,dX]
 have:List.filter (λk=>m.testBit k) (List.map (intBits (m:Int) + ·) (List.range d))=[]:=by
  rw[List.filter_eq_nil_iff];intro k hk;obtain⟨j,_,rfl⟩:=bp.mp hk
  have:=qR (cS (Dd m) (dB tD (Nat.le_add_right _ j)):m<2^(intBits (m:Int)+j))
  rw[this];decide
 rw[this,iD]
def gj(m n:Nat):List Nat:=if n=1/\m≠0 then []else cb n
def mY(m n:Nat):List Nat:=(if n=1/\m≠0 then []else cb n)++cR m
def TH(hn:n<10^63):(gj m n).length<=63:=by
 unfold gj;split
 ·exact bM _
 ·exact lO (k:=62) hn
def zbQ(h:c∈gj m n):48<=c/\c<=57:=by
 unfold gj at h;split at h
 ·cases h
 ·exact sV h
def bz(t:Int×Int):List Nat:=mY t.1.toNat t.2.natAbs
noncomputable def bt(n:Int):Nat:=if n<0 then 45 else 43
def cE(t:Int×Int):List Nat:=[32,bt t.2,32]++bz t
noncomputable def dA(n:Int):List Nat:=if n<0 then [45]else []
def txt:aq->List Nat
 |[]=>[48]
 |t::r=>dA t.2++bz t++r.flatMap cE
def jx:aq->List (List Nat)
 |[]=>[[48]]
 |t::r=>(dA t.2++bz t)::r.flatMap λu=>[[bt u.2],bz u]
theorem SW(a:List Nat):∀r:aq,bR 32 (a::r.flatMap λu=>[[bt u.2],bz u])=a++r.flatMap cE
 |[]=>by show a=_;simp
 |u::r=>by
  have ih:=SW (bz u) r;show a++32::([bt u.2]++32::bR 32 (bz u::r.flatMap λu=>[[bt u.2],bz u]))=_;rw[ih];unfold cE;simp
def IC(f:aq):bR 32 (jx f)=txt f:=by
 cases f with
 |nil=>rfl
 |cons t r=>exact SW _ r
def gp(t:Int×Int):Prop:=0<=t.1/\t.1<2^16/\t.2≠0/\t.2.natAbs<10^63
def J1(hm:m<2^16)(h:c∈mY m n):(48<=c/\c<=57)\/(97<=c/\c<113):=by
 rcases bA.mp h with z|z
 ·split at z
  ·cases z
  ·exact .inl (sV z)
 ·exact .inr (rp hm z)
def p6(hm:m<2^16):(cR m).length<=16:=by
 unfold cR;rw[ax,<-S0 hm];exact aX (lW _ _) (by simp)
def Bg(hm:m<2^16)(hn:n<10^63):(mY m n).length<=79:=by
 unfold mY;rw[bh];have h1:=p6 hm;have h2:=lO (k:=62) hn;split
 ·simp;lia
 ·lia
open PySem L2 OF
def iy:("" : Str)=S []:=by decide+kernel
def jM:("0" : Str)=S [48]:=by decide+kernel
def xu:("1" : Str)=S [49]:=by decide+kernel
def mD:(" " : Str)=S [32]:=by decide+kernel
def wc:("+" : Str)=S [43]:=by decide+kernel
def kn:("-" : Str)=S [45]:=by decide+kernel
def zbm:(" + " : Str)=S [32,43,32]:=by decide+kernel
def zc7:(" - " : Str)=S [32,45,32]:=by decide+kernel
noncomputable def oj:List Nat:=[97,98,99,100,101,102,103,104,105,106,107,108,109,110,111,112]
noncomputable def kW:List Nat:=[48,49,50,51,52,53,54,55,56,57]
def kJ:("abcdefghijklmnop" : Str)=S oj:=by decide+kernel
def Pt:("0123456789" : Str)=S kW:=by decide+kernel
def AM:∀k:Nat,k<16->oj[k]?=some (97+k):=by decide
def Hh:∀k:Nat,k<16->Txt.find (S oj) (S [97+k])=(k:Int):=by decide+kernel
def DN:∀d:Nat,d<10->intText? (S [48+d])=some (d:Int):=by decide+kernel
def Q3(c:Nat):(S kW).cps.contains c=decide (48<=c/\c<=57):=by
 have:(S kW).cps.contains c=kW.contains c:=by
  show kW.toArray.contains c=_;simp
 rw[this];unfold kW;by_cases h:48<=c/\c<=57
 ·rw[aU h];obtain⟨d,rfl⟩:∃d,c=48+d:=⟨c-48,tL⟩
  have:∀d,d<10->([48,49,50,51,52,53,54,55,56,57]:List Nat).contains (48+d)=true:=by decide
  exact this d tL
 ·rw[bo h];simp only[List.contains_eq_mem,bC,jU,jW];exact bo tO
theorem Jb:∀{d l:List Nat},(∀c∈d,48<=c/\c<=57)->(∀c r,l=c::r->¬(48<=c/\c<=57))->((d++l).takeWhile (S kW).cps.contains).length=d.length
 |[],[],_,_=>rfl
 |[],c::r,_,h=>by
  rw[List.nil_append,Dj,Q3,bo (h c r rfl)];rfl
 |c::d,l,h,h'=>by
  rw[yQ,Dj,Q3,aU (h c tS)];simp only[iI,bH];rw[Jb (λx hx=>h x (dM _ hx)) h']
def za5(h:∀c∈d,48<=c/\c<=57)(h':∀c r,l=c::r->¬(48<=c/\c<=57)):Txt.lstripChars (S (d++l)) (S kW)=S l:=by
 have e:stripLo (S kW).cps.contains true (S (d++l))=d.length:=by
  unfold stripLo;rw[aC rfl,gf];exact Jb h h'
 have e2:stripHi (S kW).cps.contains false (S (d++l)) d.length=(d++l).length:=rfl;unfold Txt.lstripChars Txt.stripBy stripSame stripped;rw[e,e2];by_cases hd:d=[]
 ·subst hd;rw[aC (by simp[aH])];rfl
 ·have:d.length≠0:=λz=>hd (oi z)
  rw[av (by simp[this])];refine sC ?_;rw[StrLaws.strSub_toList,gf,LQ,bh];exact kY tL
def X4:Txt.slice (S (a++b)) none (some (a.length:Int))=S a:=by
 have:=StrLaws.sliceText_to (x:=S (a++b)) (j:=(a.length:Int)) ⟨iC _,by rw[gf,bh];lia⟩
 refine (show Txt.slice (S (a++b)) none (some (a.length:Int))=_ from this).trans ?_;rw[gf];exact sC tS
def Le:Txt.slice (S (a++b)) (some (a.length:Int)) none=S b:=by
 have:=StrLaws.sliceText_from (x:=S (a++b)) (i:=(a.length:Int)) ⟨iC _,by rw[gf,bh];omega⟩
 refine (show Txt.slice (S (a++b)) (some (a.length:Int)) none=_ from this).trans ?_;rw[gf];refine sC ?_;simp;exact kY tL
def Y0(x:List Nat):Txt.startswith (S x) (S [45])=match x with|[]=>false|c::_=>c == 45:=by
 unfold Txt.startswith;rw[HV,gf,gf,aH,aH];cases x with
 |nil=>rfl
 |cons c r=>simp
open PySem L2 OF
theorem DA(A B:α->β):∀(f:List α) (k:Nat),(f.flatMap λt=>[A t,B t])[2*k]?=f[k]?.map A/\(f.flatMap λt=>[A t,B t])[2*k+1]?=f[k]?.map B
 |[],k=>by simp
 |t::f,0=>by simp
 |t::f,k+1=>by
  obtain⟨h1,h2⟩:=DA A B f k;have e1:2*(k+1)=2*k+1+1:=by lia
  have e2:2*(k+1)+1=2*k+1+1+1:=by lia
  rw[ky];constructor
  ·rw[e1];simpa using h1
  ·rw[e2];simpa using h2
def sH(A B:α->β)(f:List α):(f.flatMap λt=>[A t,B t]).length=2*f.length:=by
 induction f with
 |nil=>rfl
 |cons t f ih=>rw[ky,bh,ih,bH];simp;lia
def Qa(A:α->β)(f:List α):(List.range f.length).filterMap (λk=>f[k]?.map A)=f.map A:=by
 apply List.ext_getElem?;intro i
 have:∀(n:Nat) (g:List α),n<=g.length->(List.range n).filterMap (λk=>g[k]?.map A)=(g.take n).map A:=λn g=>by
  induction n with
  |zero=>intro _;rfl
  |succ n ih =>
   intro h;rw[mw,List.filterMap_append,ih tL,cZ,aQ,d4 (by assumption:n<g.length)];simp[d4 (by assumption:n<g.length)]
 rw[this _ f (aT _),dG]
def WQ(A B:α->V)(f:List α):mj 0 (((f.flatMap λt=>[A t,B t]).length-0+1)/2) (f.flatMap λt=>[A t,B t])=f.map A:=by
 have e:((f.flatMap λt=>[A t,B t]).length-0+1)/2=f.length:=by rw[sH];lia
 unfold mj;rw[e,<-Qa A f];congr 1
 funext k
 rw[Kx];exact (DA A B f k).1
def zdk(A B:α->V)(f:List α):mj 1 (((f.flatMap λt=>[A t,B t]).length-1+1)/2) (f.flatMap λt=>[A t,B t])=f.map B:=by
 have e:((f.flatMap λt=>[A t,B t]).length-1+1)/2=f.length:=by rw[sH];lia
 unfold mj;rw[e,<-Qa B f];congr 1
 funext k
 rw[A2];exact (DA A B f k).2
def Eb(h:gp t):(cE t).length<=82:=by
 unfold cE
 have:(bz t).length<=79:=Bg (by have:=h.1;have:=h.2.1;lia) h.2.2.2
 simp;assumption
theorem FL:∀{r:aq},(∀t∈r,gp t)->(r.flatMap cE).length<=82*r.length
 |[],_=>by simp
 |t::r,h=>by
  rw[ky,bh,bH];have h1:=Eb (h t tS);have h2:=FL (r:=r) λu hu=>h u (by simp[hu])
  lia
def ZA(h:∀t∈f,gp t):(txt f).length<=82*f.length+1:=by
 cases f with
 |nil=>decide
 |cons t r =>
  show (dA t.2++bz t++r.flatMap cE).length<=_;rw[bh,bh,bH];have h1:(bz t).length<=79:=Bg (by have:=(h t tS).1;have:=(h t tS).2.1;omega) (h t tS).2.2.2;have h2:=FL (r:=r) λu hu=>h u (by simp[hu])
  have h3:(dA t.2).length<=1:=by unfold dA;split<;>simp
  lia
end My
namespace L2
open PySem PySem.Spec PyProof.Rows
def Mh{l:List Nat}{g:TG}{tb:TS}{D:mx}{σ:St}{H:Hp}(Pv:Nat->St->Hp->Prop)(h0:Pv 0 σ H)
  (hs:∀i c σ H,l[i]?=some c->Pv i σ H->g (.str (My.S [c])) σ H λσ2 H2=>tb {D with nx:=Pv (i+1),ct:=Pv (i+1),bk:=D.nx} σ2 H2) (hd:∀σ H,Pv l.length σ H->D.nx σ H) :
  ∃W:Nat->Nat->St->Hp->Prop,(∃m,W 0 m σ H)/\∀i m σ H,W i m σ H ->
   ((pQ (My.S l)).stop i H/\D.nx σ H)\/((pQ (My.S l)).go i H/\∃N:St->Hp->Prop,(∀σ' H',N σ' H'->∃m',m'<m/\W (i+1) m' σ' H')/\∀x H',(pQ (My.S l)).yld i H x H'->g x σ H' λσ2 H2=>tb {D with nx:=N,ct:=N,bk:=D.nx} σ2 H2):=by
 exists λi m σ H=>m=l.length-i/\i<=l.length/\Pv i σ H,⟨l.length,tS,bM _,h0⟩,?_;rintro i m σ H ⟨rfl,hi,p⟩;by_cases ba:i<l.length
 ·refine .inr ⟨ba,Pv (i+1),λσ' H' p'=>⟨l.length-(i+1),tO,rfl,ba,p'⟩,λx H' y=>?_⟩;obtain⟨rfl,c,hc,rfl⟩:=y;exact hs i c σ _ (by simpa [My.S] using hc) p
 ·have e:i=l.length:=by lia
  subst e;exact .inl ⟨aT _,hd σ H p⟩
end L2
namespace My
open PySem L2 OF
def Bc(h:∀c∈l,c<128):(S l).cps.all (· < 128)=true:=by
 show l.toArray.all _=true;simpa using h
def zeq(hm:m<2^16):∀c∈cR m,c<128:=λc hc=>by have:=rp hm hc;lia
end My
namespace L2
open PySem PySem.Spec PyProof.Rows
def cW.gone{P:Program}{w:World}{H:Hp}{h:Heap}{a:Addr}(x:cW P w H h)(e:h.get? a=none):H a=none:=by
 cases q:H a with
 |none=>rfl
 |some o=>obtain⟨ob,z⟩:=(x a o q).there;rw[e]at z;cases z
def vK(h:Heap)(a T:Addr)(C:Value):Prop :=
 ∃oe vs oT ts a0,h.get? a=some oe/\(oe.cls=C/\vs[0]?=some a0)/\oe.data=.fields vs/\vs[1]?=some (.ref T)/\T≠a/\h.get? T=some oT/\oT.data=.fields ts/\ts[3]?=some .none
def iR(P:Program)(w:World):mf:=λouter H s E e s'=>∃(a T:Addr) (C:Value) (H':Hp),e=.ref a/\s'.os=s.os/\AllBare s'.gens/\Un (cC outer) [] H H' s.heap s'.heap/\cW P w H' s'.heap /\
 s.heap.get? a=none/\s.heap.get? T=none/\H' a=none/\H' T=none/\vK s'.heap a T C/\E C none H'
section
variable{X:Cx}{ae:List (Addr×Obj)}{σ:St}{H:Hp}{s:Shared}
def LO{env:Env}{l:List Env}{L:Addr}(h:env.frame=some L):cC (env::l)=L::cC l:=by
 unfold cC;rw[zO,h]
structure jh(X:Cx):Prop where
 stk:X.stack=X.env::X.outer
 fr:X.env.frame=some X.env.locals
 ex:X.ex=[]
def wZ(X:Cx)(H:Hp)(h:Heap)(xs:List Addr):Prop:=∀b∈xs,X.s₀.heap.get? b=none/\H b=none/\∃o vs,h.get? b=some o/\o.data=.fields vs
def Inv.over(O:jh X)(J:Inv X ae σ H s){xs:List Addr}(j6:wZ X H s.heap xs){h3:Heap}(st:(PySem.W.hideAll s.heap (cC X.stack++xs)).StaysIn h3)(ups:∀b o,b∈cC X.stack->s.heap.get? b=some o->∃sl,h3.get? b=some {o with slots:=sl}) :
  cW X.prog X.w H h3/\Un (cC X.stack) xs H H s.heap h3:=by
 have stays:∀b o,s.heap.get? b=some o->b∉cC X.stack->b∉xs->h3.get? b=some o:=λb o e h1 h2=>st b o (E9 _ e λz=>(bA.mp z).elim h1 h2)
 have uG:∀b o,H b=some o->b∉cC X.stack/\b∉xs:=λb o e=>⟨λz=>(by rw[J.stkFree b z]at e;cases e),λz=>(by rw[(j6 b z).2.1]at e;cases e)⟩
 exists λb o e=>(J.hok b o e).stay (λc u hc q=>?_) (λ_ q=>q) λ_ _ q=>q,λb o e n hb hx=>stays b o e hb hx,λb o e n hb hx=>ups b o hb e,λ_ _ _ n _=>n,λb o e hx=>?_,λ_ _ q=>q,λ_ _ _ q=>q,λ_ ps q=>⟨#[],by rw[q];simp⟩
 ·have lY:∃o',H c=some o':=by
   rcases hc with rfl|hc
   ·nomatch _,e
   ·nomatch _,hc
  obtain⟨o',e'⟩:=lY;obtain⟨h1,h2⟩:=uG c o' e';exact stays c u q h1 h2
 ·by_cases hb:b∈cC X.stack
  ·obtain⟨sl,z⟩:=ups b o hb e;nomatch _,z
  ·nomatch o,stays b o e hb hx
def JP(O:jh X)(J:Inv X ae σ H s){xs:List Addr}(j6:wZ X H s.heap xs){a:Addr}{C a0:Value}{h3:Heap}
  (ups:∀b o,b∈cC X.stack->s.heap.get? b=some o->∃sl,h3.get? b=some {o with slots:=sl}) (fl:Heap.FlyingW (PySem.W.hideAll s.heap (cC X.stack++xs)) X.outer a C a0 h3) (ha:s.heap.get? a=none\/a∈xs) {E:XK} (hE:E C none H) :
  iR X.prog X.w X.outer X.H₀ X.s₀ E (.ref a) {s with heap:=h3}:=by
 obtain⟨st,hn,hfun,oe,vs,T,oT,ts,he,hc,hd,h1,hnT,ir,hT,uF,nW⟩:=fl;have fresh:∀b,s.heap.get? b=none->X.s₀.heap.get? b=none:=λb e=>by
  cases q:X.s₀.heap.get? b with
  |none=>rfl
  |some o=>obtain⟨o',z⟩:=J.base.there b o q (by rw[O.ex];simp);rw[e]at z;cases z
 have sR:cC X.stack=X.env.locals::X.fs:=by rw[O.stk,LO O.fr]
 obtain⟨hok,un⟩:=Inv.over O J j6 st ups;have young:∀b o,X.s₀.heap.get? b=some o->b∉xs:=λb o e z=>by rw[(j6 b z).1]at e;cases e
 have old:∀b o,X.s₀.heap.get? b=some o->b≠X.env.locals:=λb o e=>dy (cS (bg e) J.ok.above)
 have nx:∀b:Addr,b∉X.ex:=λb=>by rw[O.ex];simp
 have bF:s.heap.get? T=none\/T∈xs:=by
  by_cases hx:T∈xs
  ·exact .inr hx
  ·refine .inl ?_;cases q:s.heap.get? T with
   |none=>rfl
   |some o =>
    by_cases hf:T∈cC X.stack
    ·obtain⟨_,o2,i0,qC⟩:=J.stack.mem hf;obtain⟨sl,z⟩:=ups T o2 hf i0;rw[hT]at z;cases z;exact absurd uF (qC ts)
    ·have:=E9 (cC X.stack++xs) q λz=>(bA.mp z).elim hf hx
     rw[hnT]at this;cases this
 have both:∀b,(s.heap.get? b=none\/b∈xs)->X.s₀.heap.get? b=none/\H b=none:=λb hb=>by
  rcases hb with e|e
  ·nomatch fresh b e,J.hok.gone e
  ·nomatch (j6 b e).1,(j6 b e).2.1
 exists a,T,C,H,rfl,J.os,J.bare,⟨λb o e n hb hx=>?_,λb o e n hb hx=>?_,λb o e n _=>J.base.free b o e n (nx b),λb o e hx=>?_,J.base.tups,J.base.frzs,J.base.tbls⟩,hok,(both a ha).1,(both T bF).1,(both a ha).2,(both T bF).2,⟨oe,vs,oT,ts,a0,he,hc,hd,h1,ir,hT,uF,nW⟩,hE
 ·have e1:=J.base.keep b o e n hb (nx b);exact un.keep b o e1 (J.base.free b o e n (nx b)) (by rw[sR];exact λz=>(bC.mp z).elim (old b o e) hb) (young b o e)
 ·obtain⟨sl,e1⟩:=J.base.slot b o e n hb (nx b);obtain⟨wG,e2⟩:=un.slot b _ e1 (J.base.free b o e n (nx b)) (by rw[sR];exact dM _ hb) (young b o e);nomatch wG,e2
 ·obtain⟨o1,e1⟩:=J.base.there b o e (nx b);exact un.there b o1 e1 (young b o e)
def X9(O:jh X)(J:Inv X ae σ H s){h':Heap}{a:Addr}{C:Value}{vs:List Value}(hx:Heap.MadeExcOf s.heap h' a C vs){E:XK}(hE:E C none H){E':Value->Shared->Prop} :
  wpAny (model X.prog X.w) X.A (leaving X.env (.ref a)) (λ_ lS=>iR X.prog X.w X.outer X.H₀ X.s₀ E (.ref a) lS) E' {s with heap:=h'}:=by
 have jF:X.A.frames=some (X.env::X.outer):=by rw[<-O.stk];exact J.ok.frames
 have hl:s.heap.FunFrames (PySem.W.hideAll s.heap (cC X.stack++[])) (X.env::X.outer):=by
  rw[<-O.stk];exact ML J.stack λenv he b hb=>mz _ (AA.mpr ⟨env,he,hb⟩)
 refine wpAny_leaves_madeW (base:=PySem.W.hideAll s.heap (cC X.stack++[])) (h:=s.heap) (s:={s with heap:=h'}) jF O.fr (λb o e=>Il _ e) hl hx λh3 t fl _ _ ups=>?_
 exact JP O J (xs:=[]) (λb hb=>by cases hb) (λb o hb e=>ups b o (hx.keeps b o e) (by
  obtain⟨_,o2,i0,qC⟩:=J.stack.mem hb;rw[e]at i0;cases i0;exact qC)) fl (.inl hx.new) hE
def Lm(J:Inv X ae σ H s){E:XK}{e:Value}{s':Shared}(h:iR X.prog X.w X.stack H s E e s') :
  ∃(a T:Addr) (C:Value) (H':Hp),e=.ref a/\Inv X ae σ H' s'/\s.heap.get? a=none/\s.heap.get? T=none/\H' a=none/\H' T=none/\vK s'.heap a T C/\E C none H':=by
 obtain⟨a,T,C,H',rfl,ho,hg,un,hok,h1,h2,h3,h4,h5,h6⟩:=h;nomatch a,T,C,H',rfl,J.call' ho un hok hg (λb hb=>by cases hb),h1,h2,h3,h4,h5,h6
def N5(O:jh X)(J:Inv X ae σ H s){s1:Shared}{H1:Hp}{a T:Addr}{C:Value}(h1:s.heap.get? a=none)(h2:s.heap.get? T=none)(h3:H1 a=none)(h4:H1 T=none)(h5:vK s1.heap a T C):wZ X H1 s1.heap [a,T]:=by
 obtain⟨oe,vs,oT,ts,a0,he,hc,hd,_,_,hT,uF,_⟩:=h5;have fresh:∀b,s.heap.get? b=none->X.s₀.heap.get? b=none:=λb e=>by
  cases q:X.s₀.heap.get? b with
  |none=>rfl
  |some o=>obtain⟨o',z⟩:=J.base.there b o q (by rw[O.ex];simp);rw[e]at z;cases z
 intro b hb;rcases bC.mp hb with rfl|hb
 ·nomatch fresh _ h1,h3,oe,vs,he,hd
 ·have e:b=T:=by simpa using hb
  subst e;nomatch fresh _ h2,h4,oT,ts,hT,uF
def Qc(J:Inv X ae σ H s){a T:Addr}{C:Value}(h5:vK s.heap a T C):∃a0,Heap.FlyingW (PySem.W.hideAll s.heap (cC X.stack++[a,T])) X.stack a C a0 s.heap:=by
 obtain⟨oe,vs,oT,ts,a0,he,hc,hd,Zs,cx,hT,uF,h3⟩:=h5;have m1:a∈cC X.stack++[a,T]:=f9 _ tS;have m2:T∈cC X.stack++[a,T]:=f9 _ tS;nomatch a0,λb o e=>Il _ e,IH _ m1,ML J.stack λenv he b hb=>mz _ (AA.mpr ⟨env,he,hb⟩),oe,vs,T,oT,ts,he,hc,hd,Zs,IH _ m2,cx,hT,uF,h3
def Ew(J:Inv X ae σ H s){h3:Heap}(ups:s.heap.UpToSlots h3):∀b o,b∈cC X.stack->s.heap.get? b=some o->∃sl,h3.get? b=some {o with slots:=sl}:=λb o hb e=>ups b o e (by
 obtain⟨_,o2,i0,qC⟩:=J.stack.mem hb;rw[e]at i0;cases i0;exact qC)
def Vz(O:jh X)(J:Inv X ae σ H s){E:XK}{e:Value}{s':Shared}(h:iR X.prog X.w X.stack H s E e s'){E':Value->Shared->Prop} :
  wpAny (model X.prog X.w) X.A (leaving X.env e) (λ_ lS=>iR X.prog X.w X.outer X.H₀ X.s₀ E e lS) E' s':=by
 obtain⟨a,T,C,H',rfl,J',h1,h2,h3,h4,h5,h6⟩:=Lm J h;have ap:=N5 O J h1 h2 h3 h4 h5;obtain⟨a0,fl⟩:=Qc J' h5;have jF:X.A.frames=some (X.env::X.outer):=by rw[<-O.stk];exact J.ok.frames
 have fl2:=fl;rw[show X.stack=X.env::X.outer from O.stk]at fl;refine wpAny_leaves_onW (a0:=a0) (base:=PySem.W.hideAll s'.heap (cC (X.env::X.outer)++[a,T])) jF O.fr fl λnW Mm ups=>?_
 rw[<-O.stk]at Mm;exact JP O J' ap (Ew J' ups) Mm (.inr tS) h6
end
open PySem PySem.Spec PyProof.Rows
noncomputable def og:List Str:=["__init__","__getattribute__","__getattr__","__class__"]
noncomputable abbrev vB:List Value:=[.type "ValueError",.type "Exception",.type "BaseException",.type "object"]
inductive Tl (h:Heap):List Value->Prop
 |base:Tl h vB
 |own {D:Addr}{o:Obj}{c:ClassData}{m:Str->Option Value}{l:List Value} (e:h.get? D=some o) (k:o.data=.cls c) (n:h.Ns c.ns m) (q:∀x∈og,m x=none) (r:Tl h l):Tl h (.ref D::l)
def Tl.toOwn(T:Tl h l):OwnTail h vB l:=by
 induction T with
 |base=>exact .base
 |@own D o c m l e k n q r ih =>
  obtain⟨c0,dd,dt,sl⟩:=o;obtain rfl:dt=.cls c:=k;exact .own e n (q _ tD) ih
structure fZ(C:Addr)(bm:List Value)(h:Heap):Prop where
 ex:∃(nm q:Str) (N:Addr) (bs:List Value) (hd:Bool) (sn:List Str) (sub:List Value) (ab:Bool) (col:Option Bool) (dd:Option Addr) (k0 k1 k2 k3 k5:Option Value) (m:Str->Option Value),
  h.get? C=some (excClassObj nm q C N bs bm hd sn sub ab col dd k0 k1 k2 k3 k5 "ValueError.__new__")/\h.Ns N m/\(∀x∈og,m x=none)/\Tl h bm
def HG(K:Frag)(N:Addr):Bool:=PySem.W.nsOkIn K N&&og.all λx=>PySem.W.nsIn K N x == some none
def HA(K:Frag):List Value->Bool
 |[]=>false
 |v::l=>(v::l) == vB || match v with
  | .ref D=>(match K.lookup D with
   | some o=>(match o.data with
    |.cls c=>HG K c.ns&&HA K l
    |_=>false)
   |none=>false)
  |_=>false
def jK(K:Frag)(C:Addr)(bm:List Value):Bool:=match K.lookup C with
 | some o=>(match o.data with
  |.cls c=>o.cls == .type "type" && o.slots.toList.length == 6&&o.slots.toList[4]? == some (some (.builtin "ValueError.__new__"))&&c.mro == .ref C::bm && !c.hasDel&&HA K bm&&HG K c.ns
  |_=>false)
 |none=>false
def Qz{K:Frag}{h:Heap}{N:Addr}(X:K.In h)(e:HG K N=true):h.Ns N (h.nsMap N)/\∀x∈og,h.nsMap N x=none:=by
 obtain⟨a,b⟩:=wM.mp e;nomatch .of_isNs (PySem.W.isNs_of_in X a),λx hx=>PySem.W.nsMap_none_of_in X a (ka.mp (fN.mp b x hx))
set_option tactic.hygienic true in
theorem QD{K:Frag}{h:Heap}(X:K.In h):∀{l:List Value},HA K l=true->Tl h l
 |[],e=>by cases e
 |v::l,e=>by
  rcases Bool.or_eq_true_iff.mp e with z|z
  ·rw[ka.mp z];exact .base
  ·split at z
   ·split at z
    ·rename_i o ho;split at z
     ·rename_i c hc;obtain⟨z1,z2⟩:=wM.mp z;obtain⟨y1,y2⟩:=Qz X z1;exact .own (X _ _ ho) hc y1 y2 (QD X z2)
     ·cases z
    ·cases z
   ·cases z
def tI(h:l.length=n+1):∃a v,l=a::v/\v.length=n:=by
 cases l with
 |nil=>cases h
 |cons a v=>nomatch a,v,rfl,DL h
set_option tactic.hygienic true in
def uz{K:Frag}{h:Heap}{C:Addr}{bm:List Value}(X:K.In h)(e:jK K C bm=true):fZ C bm h:=by
 unfold jK at e;split at e
 ·rename_i o ho;split at e
  ·rename_i c hc;simp only[ff,ka,NB]at e;obtain⟨⟨⟨⟨⟨⟨e0,e6⟩,e2⟩,e1⟩,e3⟩,e4⟩,e5⟩:=e;obtain⟨cl,dd,dt,⟨sl⟩⟩:=o;subst hc e0;obtain⟨k0,l1,rfl,f1⟩:=tI e6;obtain⟨k1,l2,rfl,f2⟩:=tI f1;obtain⟨k2,l3,rfl,f3⟩:=tI f2;obtain⟨k3,l4,rfl,f4⟩:=tI f3;obtain⟨k4,l5,rfl,f5⟩:=tI f4;obtain⟨k5,l6,rfl,f6⟩:=tI f5;cases oi f6;cases e2;obtain⟨nm,bs,mro,ns,qn,hd,sn,sub,ab,col,del⟩:=c;subst e1 e3;obtain⟨y1,y2⟩:=Qz X e5;nomatch nm,qn,ns,bs,hd,sn,sub,ab,col,dd,k0,k1,k2,k3,k5,_,X _ _ ho,y1,y2,QD X e4
  ·cases e
 ·cases e
section
variable{M:Model}{A:Around}{E:Value->Shared->Prop}{h:Heap}{g:Array GenState}{d:Drawn}{t:Nat}{os:OsState}{C a:Addr}{bm:List Value}{o:Obj}{prog:Program}{w:World}
def Tl.along(T:Tl h l)(hn:n∈og)(hr:lookupAlong vB n=pure y)(hq:Q y ⟨h,g,d,t,os⟩):wpAny M A (lookupAlong l n) Q E ⟨h,g,d,t,os⟩:=by
 induction T with
 |base=>rw[hr];exact aJ hq
 |@own D ob c m l e k ns q r ih =>
  obtain⟨c0,dd,dt,sl⟩:=ob;obtain rfl:dt=.cls c:=k;rw[lookupAlong_cons];exact au (wpAny_classOwn_cls e ns (by rw[q n hn];exact ih))
def fZ.look(Z:fZ C bm h)(hn:n∈og)(hB:typeLookup (.type "ValueError") n=pure y)(hq:Q y ⟨h,g,d,t,os⟩):wpAny M A (typeLookup (.ref C) n) Q E ⟨h,g,d,t,os⟩:=by
 obtain⟨nm,q,N,bs,hd,sn,sub,ab,col,dd,k0,k1,k2,k3,k5,m,hC,hN,hm,T⟩:=Z.ex;have hr:lookupAlong vB n=pure y:=by assumption
 rw[typeLookup_eq];refine au (wpAny_mroOf_exc hC ?_);rw[lookupAlong_cons];exact au (wpAny_classOwn_exc hC hN (by rw[hm n hn];exact T.along hn hr hq))
def fZ.sub(Z:fZ C bm h)(hq:Q ((Value.ref C::bm).contains c) ⟨h,g,d,t,os⟩):wpAny M A (isSubtype (.ref C) c) Q E ⟨h,g,d,t,os⟩:=by
 obtain⟨nm,q,N,bs,hd,sn,sub,ab,col,dd,k0,k1,k2,k3,k5,m,hC,_⟩:=Z.ex;exact wpAny_isSubtype_exc hC hq
def fZ.has(Z:fZ C bm h)(hb:vB.contains (.type T)=b):(Value.ref C::bm).contains (.type T)=b:=by
 obtain⟨nm,q,N,bs,hd,sn,sub,ab,col,dd,k0,k1,k2,k3,k5,m,hC,hN,hm,T⟩:=Z.ex;rw[List.contains_cons,T.toOwn.hasType hb];rfl
def zdB:typeLookup (.type "ValueError") "__class__" = pure (some (.builtin "object.__class__")):=by rw[Ad,yE];kernel_rfl
def zd4(Z:fZ C bm h)(hx:h.get? a=some o)(hc:o.cls=.ref C)(hq:R (.ok (.ret (.ref C))) ⟨h,g,d,t,os⟩) :
  codeAny (model prog w) A (.call (.builtin "getset_descriptor.__get__") ⟨[.builtin "object.__class__",.ref a,.ref C],[]⟩) R ⟨h,g,d,t,os⟩:=by
 have z1:=Gx;have z2:(Value.ref C::bm).contains (.type (".".intercalate ("object.__class__".cutAt '.').dropLast))=true:=by rw[F.owner_object_class];exact Z.has tE
 refine Hw F.slot_gs_get.plain F.entry_gs_get (F.slot_gs_get.check _ _ _ _ _ _ _ _ z1 (F.args_gs_get _ _ _) ?_);repeat (any_goals (first|assumption|(with_reducible refine qD hx ?_;rw[hc])|(with_reducible refine fZ.sub Z ?_;rw[z2])|wp_step))
 exists BH _ tE,mL F.entry_object_class ?_;repeat (any_goals (first|assumption|(with_reducible refine qD hx ?_;rw[hc])|wp_step))
def Wh(Z:fZ C bm h)(hx:h.get? a=some o)(hc:o.cls=.ref C)(hq:Q (.done (.ret (.ref C))) ⟨h,g,d,t,os⟩) :
  wpAny (model prog w) A (Builtin.«object.__getattribute__» ⟨[.ref a,.str "__class__" tk],[]⟩) Q E ⟨h,g,d,t,os⟩:=by
 have z1:=Gx;have y5:=Gx;have y6:=F.slot_gs_get.lookup;have y7:=F.slot_gs_set.lookup;have zn:("__class__" : Str)∈og:=by decide
 repeat (any_goals (first|assumption|(with_reducible refine qD hx ?_;rw[hc])|with_reducible refine fZ.look Z zn zdB ?_|wp_step))
 refine zd4 Z hx hc ?_;repeat (any_goals (first|assumption|wp_step))
def Ye(Z:fZ C bm h)(hx:h.get? a=some o)(hc:o.cls=.ref C)(hq:Q () ⟨h,g,d,t,os⟩):wpAny M A (checkBuiltinCall "BaseException.__getattribute__" ⟨[.ref a,nv],[]⟩) Q E ⟨h,g,d,t,os⟩:=by
 have e1:builtinKind "BaseException.__getattribute__" = some .slot:=by decide+kernel
 have e2:splitId "BaseException.__getattribute__" = some ("BaseException","__getattribute__"):=by decide+kernel
 have e3:(Value.ref C::bm).contains (.type "BaseException")=true:=Z.has tE;have ha:=F.args_bexc_ga (.ref a) nv;simp only[checkBuiltinCall,e1,e2];refine au ?_;repeat (first|(with_reducible refine qD hx ?_;rw[hc])|(with_reducible refine fZ.sub Z ?_;rw[e3])|wp_step)
 exact hq
def YR(Z:fZ C bm h)(hx:h.get? a=some o)(hc:o.cls=.ref C){tk:Tok}{fill expr:Bool}{Q:Value->Shared->Prop}(hq:Q (.ref C) ⟨h,g,d,t,os⟩) :
  wpAny (model prog w) A (getAttrBy (.ref a) (.str "__class__" tk) fill expr) Q E ⟨h,g,d,t,os⟩:=by
 have FB:=PySem.F.attrBase_ValueError;have y3:=FB.ga.bind (.ref a);have x0:(expr&&onTheHeap (Value.builtin "BaseException.__getattribute__"))=false:=by cases expr<;>rfl
 have x2:(Value.builtin "BaseException.__getattribute__" == Value.builtin "object.__getattribute__")=false:=by decide+kernel
 have x1:(onTheHeap (Value.ref C)&&Value.builtin "BaseException.__getattribute__" == Value.builtin "object.__getattribute__")=false:=by rw[x2];rfl
 have n1:("__getattribute__" : Str)∈og:=by decide
 have n2:("__getattr__" : Str)∈og:=by decide
 repeat (any_goals (first|assumption|(with_reducible refine qD hx ?_;rw[hc])|with_reducible refine fZ.look Z n1 FB.ga.lookup ?_|with_reducible refine fZ.look Z n2 FB.noGetattr ?_|wp_step))
 refine Hw FB.ga.plain F.entry_bexc_ga (Ye Z hx hc (Wh Z hx hc ?_));repeat (any_goals (first|assumption|wp_step))
def VD(Z:fZ C bm h)(hx:h.get? a=some o)(hc:o.cls=.ref C){Q:Option Value->Shared->Prop}(hq:Q (some (.ref C)) ⟨h,g,d,t+1,os⟩):wpAny (model prog w) A (getAttr? (.ref a) "__class__") Q E ⟨h,g,d,t,os⟩:=by
 repeat (any_goals (first|assumption|with_reducible apply YR Z hx hc|wp_step))
def KS(a C:Addr)(h:Heap):Prop:=∃o,h.get? a=some o/\o.cls=.ref C
def QY{K:Frag}(e:jK K C bm=true):PySem.W.KitX K (.ref a) (.ref C) (KS a C) where
 ty:=λM h _ ⟨o,h1,h2⟩=>h2 ▸ (jh0 h1).andThen .now
 it:=λM h X _=>by
  obtain⟨nm,q,N,bs,hd,sn,sub,ab,col,dd,k0,k1,k2,k3,k5,m,hC,_⟩:=(uz X e).ex;intro A' Q' E' s' k q;exact au (wpAny_loadPart (k _ _ hC) (aJ q))
 ne:=λh tp dd ah n sl X zV=>by
  obtain⟨nm,q,N,bs,hd,sn,sub,ab,col,ix,k0,k1,k2,k3,k5,m,hC,_⟩:=(uz X e).ex;refine zC.mpr λz=>?_
  have z':=Value.ref.inj (ka.mp z);subst z';have y:Value.type "type" = Value.type "tuple" := congrArg (λo:Option Obj=>match o with|some o=>o.cls|none=>.none) (hC.symm.trans zV);exact absurd y tD
 ca:=fun {prog w A E Q s} X p k=>by
  obtain⟨h,g,d,t,os⟩:=s;obtain⟨o,h1,h2⟩:=p;exact VD (uz X e) h1 h2 k
end
noncomputable abbrev oF(a C:Addr):HO:=.ext (KS a C)
section
variable{X:Cx}
def o9:gx X (.builtin "isinstance") (fun xs H Q=>∃ (a C:Addr) (bm:List Value) (b:Bool),H a=some (oF a C)/\jK X.K C bm=true /\ ((∃D,xs=[.ref a,.ref D]/\kitOne X.K (.ref C) (.ref D)=some b)\/∃n,xs=[.ref a,.ty n]/\kitOne X.K (.ref C) (.type n)=some b)/\Q (.bl b) H):=by
 intro ae s σ H xs us Q I r h;obtain⟨a,C,bm,b,hH,he,hk,q⟩:=h;obtain⟨p,_,_⟩:=(show dq X.prog X.w H s.heap a (oF a C) from I.hok a _ hH);rcases hk with ⟨D,rfl,hk⟩|⟨n,rfl,hk⟩
 ·obtain⟨u,w',rfl,ru,hJ⟩:=xg r;cases (show u=Value.ref a from ru);cases (show w'=Value.ref D from hJ);exact Nh (QY he) I.kIn p hk (λz=>nomatch z) λtk=>⟨.bl b,H,I.tok _,rfl,q⟩
 ·obtain⟨u,w',rfl,ru,hJ⟩:=xg r;cases (show u=Value.ref a from ru);cases (show w'=Value.type n from hJ);exact Nh (QY he) I.kIn p hk (λz=>nomatch z) λtk=>⟨.bl b,H,I.tok _,rfl,q⟩
end
def Vk:bootBuiltins "ValueError" = some (.type "ValueError"):=by kernel_rfl
open PySem PySem.Spec PyProof.Rows
structure CT(X:Cx)(E:XK):Prop where
 own:jh X
 xe:∀e s',wpAny (model X.prog X.w) X.A (leaving X.env e) (λ_ lS=>iR X.prog X.w X.outer X.H₀ X.s₀ E e lS) (λ_ _=>False) s'->X.xe e s'
section
variable{P:Program}{w:World}{K:Frag}{mg:Str->Option Value}{base:Heap}
def Tt:jh (j1 CX P w K mg base N qual scope f cd A outer s H E):=⟨rfl,rfl,rfl⟩
def W5(O:jh X):jh X.nox:=⟨O.stk,O.fr,O.ex⟩
def iT:CT (j1 (iR P w) P w K mg base N qual scope f cd A outer s H E) E :=
 ⟨Tt,λ_ _ h=>dS h (λ_ _ z=>z) λ_ _ z=>False.elim z⟩
def ny.okE{x qual:Str}{st:Stmt}{f:Addr}{fd:FuncData}{N ps:List Str}{k:Nat}{sp:Sp}(F:ny K x qual st f fd)(S:oW N ps (cK st))(len:∀vs H Q E,sp vs H Q E->vs.length=ps.length)
  (hb:∀ (bZ:Value) (A:Around) (outer:List Env) (s:Shared) (H:Hp) (vs:List V) (Q:VK) (E:XK),cN k (A.deeper (envOfC qual (cK st) s.heap.objs.size f bZ))->sp vs H Q E -> ∃t,fA (j1 (iR P w) P w K mg base N qual (cK st) f bZ A outer s H E) (lP st) t/\t {nx:=λ_ H'=>Q .non H',rt:=Q} (start N vs) H):ja P w K mg base (iR P w) (k+1) f fd ps sp:=by
 obtain⟨oc,od,kV,doc,pm,an,bZ,ct,nU,rfl,lk,kh⟩:=F.ex;exact JI lk kh S len λA outer s H vs Q E hr iF=>hb bZ A outer s H vs Q E hr iF
end
section
variable{X:Cx}{E:XK}
def jR(L:CT X E):sq (iR X.prog X.w) X E:=λ_ _ _ _ _ _ I h=>L.xe _ _ (Vz L.own I h)
def Xp(C:Addr)(E:XK):TS:=λ_ _ H=>E (.ref C) none H
def C7{j}(L:CT X E)(hc:X.calm=true)(hg:Gl X x)(hm:X.mg x=some (.ref C))(ex:jK X.K C bm=true)(hd:(x == ("__debug__" : Str))=false:=by decide) :
  PS X (.Raise (some (.Call (.Name x np) [.Constant (.str msg) j cp] [] cD)) none pos) (Xp C E):=by
 intro ae s σ H D I h;obtain⟨nm,q,N,bs,bU,sn,sub,ab,col,dd,k0,k1,k2,k3,k5,m,hC,hN,hq,T⟩:=(uz I.ok.mod.kin ex).ex;have hb:bm.contains (.type "BaseException")=true:=T.toOwn.hasType tE;refine wpAny_Raise_call_subT (C:=C) (nm:=nm) (q:=q) (N:=N) (bs:=bs) (bm:=bm) (hdct:=bU) (sn:=sn) (sub:=sub) (ab:=ab) (col:=col) (dd:=dd) (k0:=k0) (k1:=k1) (k2:=k2) (k3:=k3) (k5:=k5)
  PySem.F.excBase_ValueError (mN:=m) hb (I.ok.hd hc) rfl (hq _ tD) (xn I hg hm ⟨rfl,?_⟩ hd)
 have ha:PA X [.Constant (.str msg) j cp] (pT (tC (.str msg)) sy):=aa aA ag;refine Bi (dS (ha cD ae s σ H (λvs H1=>vs=[.str msg]/\H1=H) I ⟨rfl,rfl⟩) (λus s1 h1=>?_) λ_ _ z=>z);obtain⟨vs,H1,I1,rv,rfl,rfl⟩:=h1;have rl:=rv.length;exists rfl,?_,I1.bk _ _ hC,hN.keeps I1.bk,T.toOwn.keeps I1.bk,λh' e hx=>L.xe _ _ (X9 L.own I1 hx h);rw[<-rl];show 1<=sizeLine;decide
end
def PS.nox{X:Cx}{st:Stmt}{t:TS}(h:PS X.nox st t):PS X st t:=λae s σ H D I hw =>
 dS (h ae s σ H D (I.wish _) hw) (λ_ _ q=>q.unwish) λ_ _ z=>False.elim z
section
variable{X:Cx}{ae:List (Addr×Obj)}{σ:St}{H:Hp}{s:Shared}
def yA(X:Cx)(ae:List (Addr×Obj))(xs:List Addr):Prop:=∀b∈xs,b≠X.env.locals/\∀p∈X.pn++ae,p.1≠b
def Inv.turn(O:jh X)(nc:∀x,X.env.cells.lookup x=none)(J:Inv X ae σ H s)(j6:wZ X H s.heap xs)(aw:yA X ae xs)(st:(PySem.W.hideAll s.heap (cC X.stack++xs)).StaysIn h3)
  (ups:∀b o,b∈cC X.stack->s.heap.get? b=some o->∃sl,h3.get? b=some {o with slots:=sl}):Inv X ae σ H {s with heap:=h3,toks:=t'}:=by
 obtain⟨hok,un⟩:=Inv.over O J j6 st ups;have sR:cC X.stack=X.env.locals::X.fs:=by rw[O.stk,LO O.fr]
 have young:∀b o,X.s₀.heap.get? b=some o->b∉xs:=λb o e z=>by rw[(j6 b z).1]at e;cases e
 have old:∀b o,X.s₀.heap.get? b=some o->b≠X.env.locals:=λb o e=>dy (cS (bg e) J.ok.above)
 have nx:∀b:Addr,b∉X.ex:=λb=>by rw[O.ex];simp
 exists J.ok,J.os,J.bare,⟨λb o e n hb hx=>?_,λb o e n hb hx=>?_,J.base.free,λb o e hx=>?_,J.base.tups,J.base.frzs,J.base.tbls⟩,?_,λx c e=>(by rw[nc x]at e;cases e),J.free,J.freeC,λp hp=>?_,hok,J.len
 ·have e1:=J.base.keep b o e n hb (nx b);exact un.keep b o e1 (J.base.free b o e n (nx b)) (by rw[sR];exact λz=>(bC.mp z).elim (old b o e) hb) (young b o e)
 ·obtain⟨sl,e1⟩:=J.base.slot b o e n hb (nx b);obtain⟨wG,e2⟩:=un.slot b _ e1 (J.base.free b o e n (nx b)) (by rw[sR];exact dM _ hb) (young b o e);nomatch wG,e2
 ·obtain⟨o1,e1⟩:=J.base.there b o e (nx b);exact un.there b o1 e1 (young b o e)
 ·obtain⟨m,⟨o,es,ep,ho,hd,r⟩,hl⟩:=J.loc;obtain⟨sl,e⟩:=ups X.env.locals o (by rw[sR];exact kF) ho;exists m,⟨_,es,ep,e,hd,r⟩,λi x v h1 h2 h3=>?_;obtain⟨u,ru,z⟩:=hl i x v h1 h2 h3;exists u,ru,?_;rcases z with z|⟨_,c,z,_⟩
  ·exact .inl z
  ·rw[nc x]at z;cases z
 ·obtain⟨e,n,ne,nf,d⟩:=J.pin p hp;have hx:p.1∉xs:=λz=>(aw p.1 z).2 p hp rfl
  nomatch un.keep p.1 p.2 e n (by simp_all) hx,n,ne,nf,d
def Inv.takeUp(O:jh X)(nc:∀x,X.env.cells.lookup x=none)(J:Inv X ae σ H s)(hn:H a=none)(h0:X.s₀.heap.get? a=none)(aw:yA X ae [a])(ho:dq X.prog X.w (upd H a o) s.heap a o):Inv X ae σ (upd H a o) s:=by
 have ne:∀b u,H b=some u->b≠a:=λb u e z=>by simp_all
 exists J.ok,J.os,J.bare,⟨J.base.keep,J.base.slot,λb ob e n hx=>?_,J.base.there,λb xs q=>?_,λb ob u q=>?_,λb ps q=>?_⟩,J.loc,J.cell,?_,λx c e=>(by rw[nc x]at e;cases e),λp hp=>?_,λb u e=>?_,J.len
 ·rw[aS (λz=>by simp_all)];exact J.base.free b ob e n hx
 ·have:=J.base.tups b xs q;rw[aS (ne b _ this)];exact this
 ·have:=J.base.frzs b ob u q;rw[aS (ne b _ this)];exact this
 ·obtain⟨more,this⟩:=J.base.tbls b ps q;exact⟨more,by rw[aS (ne b _ this)];exact this⟩
 ·rw[aS (Ne.symm (aw a tS).1)];exact J.free
 ·obtain⟨e,n,h1,h2,h3⟩:=J.pin p hp;nomatch e,by rw[aS ((aw a tS).2 p hp)];exact n,h1,h2,h3
 ·by_cases hb:b=a
  ·subst hb;rw[ar]at e;cases e;exact ho
  ·rw[aS hb]at e;exact (J.hok b u e).stay (λ_ _ _ q=>q) (λc q=>by rw[aS (ne c _ q)];exact q) λc xs q=>by rw[aS (ne c _ q)];exact q
def Inv.unbound(nc:∀x,X.env.cells.lookup x=none)(J:Inv X ae σ H s)(hN:X.N.Nodup)(hi:X.N[i]?=some n)(hm:∀(j:Nat) (x:Str) (v:V),X.N[j]?=some x->σ[j]?=some (some v)->u4 X.env.scope x->∃u,RelV v u/\MR X.env s.heap m x u)
  (hn:h'.Ns X.env.locals (λx=>if x=n then u else m x)) (hs:Heap.SameBut X.env.locals s.heap h'):Inv X ae (σ.set i none) H {s with heap:=h'}:=by
 have old:∀b o,X.s₀.heap.get? b=some o->b≠X.env.locals:=λb o e=>dy (cS (bg e) J.ok.above)
 refine⟨J.ok,J.os,J.bare,⟨λb o e q hb hx=>(hs.2 b (old b o e)).trans (J.base.keep b o e q hb hx),λb o e q hb hx=>?_,J.base.free,λb o e hx=>?_,J.base.tups,J.base.frzs,J.base.tbls⟩,⟨_,hn,λj x v h1 h2 h3=>?_⟩,λx c e=>(by rw[nc x]at e;cases e),J.free,J.freeC,λp hp=>?_,λb ob e=>?_,by rw[GS];exact J.len⟩
 ·obtain⟨sl,z⟩:=J.base.slot b o e q hb hx;nomatch sl,(hs.2 b (old b o e)).trans z
 ·obtain⟨o',z⟩:=J.base.there b o e hx;nomatch o',(hs.2 b (old b o e)).trans z
 ·by_cases hj:j=i
  ·subst hj;by_cases hl:j<σ.length
   ·rw[Bm hl]at h2;cases h2
   ·rw[GZ (by simp_all)]at h2;cases h2
  ·rw[Eu (Ne.symm hj)]at h2;obtain⟨u',ru,z⟩:=hm j x v h1 h2 h3;have hx:x≠n:=λe=>hj (CM hN h1 (e ▸ hi))
   exists u',ru,?_;rcases z with ⟨k,z⟩|⟨_,c,z,_⟩
   ·exact .inl ⟨k,by simp_all⟩
   ·rw[nc x]at z;cases z
 ·obtain⟨e,q,h1,h2,h3⟩:=J.pin p hp;nomatch (hs.2 p.1 h1).trans e,q,h1,h2,h3
 ·refine (J.hok b ob e).stay (λc v hc q=>(hs.2 c ?_).trans q) (λ_ q=>q) λ_ _ q=>q
  intro z;rcases hc with rfl|hc
  ·rw[z,J.free]at e;cases e
  ·rw[z,J.free]at hc;cases hc
def zd9{M:Model}{A:Around}{E:Value->Shared->Prop}{h:Heap}{g:Array GenState}{d:Drawn}{t:Nat}{os:OsState}{a B C:Addr}{bm uN:List Value}{o:Obj}{Q:Bool->Shared->Prop}(Z:fZ C bm h)(ZB:fZ B uN h)
  (hx:h.get? a=some o) (hc:o.cls=.ref C) (hb:(Value.ref C::bm).contains (.ref B)=true) (hq:Q true ⟨h,g,d,t,os⟩):wpAny M A (excMatches (.ref a) (.ref B)) Q E ⟨h,g,d,t,os⟩:=by
 have e1:(Value.ref B::uN).contains (.type "BaseException")=true:=ZB.has tE;have e2:=tc_notTuple;obtain⟨nm,q,N,bs,hd,sn,sub,ab,col,dd,k0,k1,k2,k3,k5,m,hB,_⟩:=ZB.ex;repeat (first|(with_reducible refine qD hx ?_;rw[hc])|with_reducible refine qD hB ?_|(with_reducible refine fZ.sub ZB ?_;rw[e1])|(with_reducible refine fZ.sub Z ?_;rw[hb])|wp_step)
 exact hq
noncomputable abbrev Cx.held(X:Cx)(a:Addr):Cx:={X with A:=X.A.mark (some (.ref a)),calm:=false,xe:=λ_ _=>False}
def Inv.held(I:Inv X ae σ H s)(a:Addr):Inv (X.held a) ae σ H s :=
 ⟨⟨I.ok.mod,I.ok.kind,I.ok.glob,I.ok.blt,I.ok.above,I.ok.inj,I.ok.has,I.ok.cab,(λz=>by cases z),I.ok.frames,I.ok.stk,I.ok.exf,I.ok.bs,I.ok.bsz,I.ok.noex,I.ok.exfs,I.ok.funs,I.ok.frf⟩,I.os,I.bare,I.base,I.loc,I.cell,I.free,I.freeC,I.pin,I.hok,I.len⟩
def Inv.unheld(O:X.Ok)(I:Inv (X.held a) ae σ H s):Inv X ae σ H s:=⟨O,I.os,I.bare,I.base,I.loc,I.cell,I.free,I.freeC,I.pin,I.hok,I.len⟩
def XP(X:Cx)(ae:List (Addr×Obj))(σ:St)(E:XK)(e:Value)(s':Shared):Prop :=
 ∃(a T:Addr) (C:Value) (H':Hp),e=.ref a/\Inv X ae σ H' s'/\wZ X H' s'.heap [a,T]/\yA X ae [a,T]/\vK s'.heap a T C/\E C none H'
def XP.of(O:jh X)(J:Inv X ae σ H s)(h:iR X.prog X.w X.stack H s E e s'):XP X ae σ E e s':=by
 obtain⟨a,T,C,H',rfl,J',h1,h2,h3,h4,h5,h6⟩:=Lm J h;exists a,T,C,H',rfl,J',N5 O J h1 h2 h3 h4 h5,λb hb=>?_,h5,h6;have dv:s.heap.get? b=none:=by grind
 exists λz=>?_,λp hp z=>?_
 ·obtain⟨m,⟨o,es,ep,ho,_⟩,_⟩:=J.loc;rw[<-z,dv]at ho;cases ho
 ·obtain⟨e,_⟩:=J.pin p hp;rw[z,dv]at e;cases e
set_option tactic.hygienic true in
def zbX{B:Addr}{uN:List Value}{x n y:Str}{i j:Nat}{np py pn pa hp:Pos}(O:jh X)(nc:∀x,X.env.cells.lookup x=none)(hN:X.N.Nodup)(hi:X.N[i]?=some n)(hj:X.N[j]?=some y)(Ec:i≠j)
    (hn:X.env.scope.names.lookup n=some .local) (hy:X.env.scope.names.lookup y=some .local) (hg:Gl X x) (hm:X.mg x=some (.ref B)) (eB:jK X.K B uN=true) (hd:(x == ("__debug__" : Str))=false) (hd2:(n == ("__debug__" : Str))=false) (Ed:(n == ("__classdict__" : Str))=false)
    (wD:swapsWith (.Name n pn) (some (.Name y py)) pa.line X.env=pure false) {E:XK}{D:mx}{e:Value}
    (hE:∀C H',E C none H'->∃(c:Addr) (bm:List Value),C=.ref c/\jK X.K c bm=true/\(Value.ref c::bm).contains (.ref B)=true/\∀a,H' a=none->D.nx ((σ.set j (some (.ref a))).set i none) (upd H' a (oF a c))) (h:XP X ae σ E e s) :
    wpAny (model X.prog X.w) X.A (noteFrame e X.env) (λ_ s₂=>wpAny (model X.prog X.w) X.A (setFlight e none) (λ_ s₃ =>
      wpAny (model X.prog X.w) X.A (handleBy e X.env [.ExceptHandler (some (.Name x np)) (some n) [.Assign [.Name y py] (.Name n pn) pa] hp]) (SP X ae D) X.xe s₃) X.xe s₂) X.xe s:=by
  obtain ⟨a,T,C,H,rfl,J,ap,aw,fly,Tw⟩:=h;obtain ⟨c,bm,rfl,ec,XM,Yr⟩:=hE C H Tw;obtain ⟨a0,fl⟩:=Qc J fly;have Sr:=fl;rw [show X.stack=X.env::X.outer from O.stk]at Sr;have jF:X.A.frames=some (X.env::X.outer):=by rw [<-O.stk];exact J.ok.frames
  refine wpAny_looks_onW (a0:=a0) jF O.fr Sr λh4 held4 ZL=>?_
  refine wpAny_landsW held4 λh5 AV ZO=>?_
  have sm:=ZL.trans ZO;rw [<-O.stk]at AV;have J5:=Inv.turn O nc J ap aw AV.1 (Ew J sm) (t':=s.toks);refine wpAny_handleBy_cons (codeAny_handlers_test (xn (X:=X.held a) (J5.held a) hg hm ?_ hd)) (by intro q;cases q);obtain ⟨ob,Zu,Wk⟩:=AV.there;refine zd9 (uz J5.kIn ec) (uz J5.kIn eB) Zu Wk XM (codeAny_handlers_suite_as ?_);refine lands_againW AV λh6 Ss sm6=>?_
  have J6:=Inv.turn O nc J ap aw Ss.1 (Ew J (sm.trans sm6)) (t':=s.toks);obtain ⟨Nk,PF,hobc6⟩:=Ss.there
  have Yl  : yA   X ae   [a] := fun b hb => aw b (by have e : b = a := by simpa using hb
                                                     rw [e]; simp)
  have Ja:Inv X ae σ (upd H a (oF a c)) {s with heap:=h6}:=Inv.takeUp O nc J6 (ap a tS).2.1 (ap a tS).1 Yl ⟨⟨Nk,PF,hobc6⟩,⟨Nk,PF⟩,λh1 h2 ⟨o,z1,z2⟩ k=>⟨o,k o z1,z2⟩⟩;refine wW (X:=X.held a) (Ja.held a) hN hi (.inl hn) (v:=.ref a) rfl (λs7 J7=>?_) (.inr hn);have hσ:i<σ.length:=by rw [J.len];exact (dO.mp hi).1
  have hσj:j<σ.length:=by rw [J.len];exact (dO.mp hj).1
  have WM:=ao (MZ (X:=X.held a) hN hj (.inl hy) (OZ hi (.inl hn) hd2 Ed) wD (.inr hy));refine dS (WM ae s7 _ _ {nx:=λσ' H'=>σ'=(σ.set i (some (.ref a))).set j (some (.ref a))/\H'=upd H a (oF a c),rt:=λ_ _=>False} J7 ⟨.ref a,by rw [Bm hσ],rfl,rfl⟩) (λf s8 h8=>?_) λ_ _ z=>False.elim z
  cases f with
  |next =>
    obtain ⟨σ8,H8,J8,rfl,rfl⟩:=h8;have U5:=Inv.unheld J.ok J8;refine au (wpAny_bindName (wW U5 hN hi (.inl hn) (v:=.non) rfl (λs9 J9=>?_) (.inr hn)));refine zD ?_;obtain ⟨m,kT,hl⟩:=id J9.loc;have kr:(((σ.set i (some (.ref a))).set j (some (.ref a))).set i (some V.non))[i]?=some (some .non):=by simp_all
    obtain ⟨u,_,z⟩:=hl i n .non hi kr (.inl hn);have X6:m n=some u:=by
      rcases z with ⟨_,z⟩|⟨_,c',z,_⟩
      · exact z
      · rw [nc n]at z;cases z
    refine wpAny_unbindName_local hn kT X6 (by rw [J.ok.kind];rfl) λh' u' qW sx=>?_
    have J10:=Inv.unbound nc J9 hN hi hl qW sx;refine ⟨_,_,J10,?_⟩;have e:((((σ.set i (some (.ref a))).set j (some (.ref a))).set i (some V.non)).set i none)=(σ.set j (some (.ref a))).set i none:=by
      rw [Np,List.set_comm _ _ Ec,Np]
    rw [e];exact Yr a (ap a tS).2.1
  |ret v=>obtain ⟨_,_,_,_,_,z⟩:=h8;exact False.elim z
  |brk=>obtain ⟨_,_,_,z⟩:=h8;exact False.elim z
  |cont=>obtain ⟨_,_,_,z⟩:=h8;exact False.elim z
def zeH(K:Frag)(B:Addr)(i j:Nat)(D:mx)(σ:St):XK:=λC _ H'=>∃(c:Addr) (bm:List Value),C=.ref c/\jK K c bm=true/\(Value.ref c::bm).contains (.ref B)=true/\∀a,H' a=none->D.nx ((σ.set j (some (.ref a))).set i none) (upd H' a (oF a c))
end
open PySem PySem.Spec PyProof.Rows
section
variable{X:Cx}
def zea(n k:Nat):fromIndex n (k:Int)=k:=by
 unfold fromIndex;rw[av tL,CA (iC _),oM]
def Xu:gT X "str.startswith" (λx vs H Q=>∃(i j:Str) (k:Nat),x=.str i/\vs=[.str j,.int (k:Int)]/\Q (.bl (decide (k+j.length<=i.length)&&Builtin.Str.subAt i j k)) H):=by
 intro ae s σ H x xs v us Q I rx rv h;obtain⟨i,j,k,rfl,rfl,q⟩:=h;obtain⟨t,rfl⟩:=rx;obtain⟨u,u',rfl,⟨t2,rfl⟩,⟨t3,rfl⟩⟩:=rv.two;have g:=gives_str_startswith_from i j (k:Int) t t2 t3;rw[zea]at g;exact call_gives F.slot_str_startswith (pJ _ _ _) F.entry_str_startswith (F.args_str_startswith_3 _ _ _) g ⟨.bl _,H,I,rfl,q⟩
def Qw:gT X "str.strip" (λx vs H Q=>∃i,x=.str i/\vs=[]/\i.length<=sizeLine/\Q (.str (Txt.strip i)) H):=by
 intro ae s σ H x xs v us Q I rx rv h;obtain⟨i,rfl,rfl,hz,q⟩:=h;obtain⟨t,rfl⟩:=rx;obtain rfl:=rv.zero;exact SC.strip (λt' k=>⟨.str _,H,I.tok _,⟨_,rfl⟩,q⟩) hz
end
end L2
namespace My
open PySem L2 OF
noncomputable def jw(w:Nat):List Nat:=if w=0 then [97,110,100]else if w=1 then [111,114]else [120,111,114]
noncomputable def mW:Sm->Bool
 |.two _ _ _=>true
 |_=>false
def dm:Sm->List (List Nat)
 |.bit k=>[[97+k]]
 |.fix b=>[[48+b.toNat]]
 |.no s=>[110,111,116,32]::(if mW s then [40]::(dm s++[[41]])else dm s)
 |.two w s t=>(if mW s then [40]::(dm s++[[41]])else dm s)++(([32]++jw w++[32])::(if mW t then [40]::(dm t++[[41]])else dm t))
def p9(s:Sm):List (List Nat):=if mW s then [40]::(dm s++[[41]])else dm s
def ET(s:Sm):dm (.no s)=[110,111,116,32]::p9 s:=by unfold p9;rw[dm]
def GH(w:Nat)(s t:Sm):dm (.two w s t)=p9 s++(([32]++jw w++[32])::p9 t):=by unfold p9;rw[dm]
noncomputable def kR(l:List Nat):List Nat :=
 if [110,111,116,32] <+: l then [110,111,116,32]else if [32,97,110,100,32] <+: l then [32,97,110,100,32]else if [32,111,114,32] <+: l then [32,111,114,32]else if [32,120,111,114,32] <+: l then [32,120,111,114,32]else l.take 1
def rb(l:List Nat):Prop:=l=[]\/(∃r,l=32::r)\/∃r,l=41::r
def Cuts:List (List Nat)->List Nat->Prop
 |[],_=>True
 |t::ts,r=>t≠[]/\kR (t++(ts.flatten++r))=t/\Cuts ts r
theorem Cuts.app:∀{a b:List (List Nat)}{r:List Nat},Cuts a (b.flatten++r)->Cuts b r->Cuts (a++b) r
 |[],b,r,_,h=>h
 |t::a,b,r,h,h'=>by
  obtain⟨h1,h2,h3⟩:=h;exists h1,?_,Cuts.app h3 h';show kR (t++((a++b).flatten++r))=t;rw[zF,gr];exact h2
def zb1(r:List Nat):kR ([110,111,116,32]++r)=[110,111,116,32]:=aC (List.prefix_append _ _)
def AG(zJ:c≠32)(hn:c≠110\/rb r):kR ([c]++r)=[c]:=by
 unfold kR;have e1:¬ [110,111,116,32] <+: [c]++r:=λz=>by
  obtain⟨t,ht⟩:=z;simp at ht;rcases hn with y|y
  ·exact y ht.1.symm
  ·rcases y with y|⟨r',y⟩|⟨r',y⟩
   ·rw[y]at ht;simp at ht
   ·rw[y]at ht;simp at ht
   ·rw[y]at ht;simp at ht
 have e2:∀l:List Nat,¬(32::l) <+: [c]++r:=λl z=>by simp_all
 rw[av e1,av (e2 _),av (e2 _),av (e2 _)];rfl
def zdb(hw:w<3)(r:List Nat):kR (([32]++jw w++[32])++r)=[32]++jw w++[32]:=by
 rcases (show w=0\/w=1\/w=2 by lia)with rfl|rfl|rfl
 ·rfl
 ·rfl
 ·rfl
theorem AN{r:List Nat}:∀{s:Sm},s.ok (λk=>k<16)->(∀r,rb r->Cuts (dm s) r)/\(∀r,rb r->Cuts (p9 s) r)
 |.bit k,h=>by
  have hk:=h
  have:∀r,rb r->Cuts (dm (.bit k)) r:=λr hr=>⟨tS,AG tL (.inr hr),trivial⟩
  nomatch this,this
 |.fix b,h=>by
  have hb:=h
  have:∀r,rb r->Cuts (dm (.fix b)) r:=λr hr=>⟨tS,AG tL (.inr hr),trivial⟩
  nomatch this,this
 |.no s,h=>by
  have ih:=(AN (r:=r) (s:=s) h).2
  have:∀r,rb r->Cuts (dm (.no s)) r:=λr hr=>by
   rw[ET];nomatch tS,zb1 _,ih r hr
  nomatch this,this
 |.two w s t,h=>by
  obtain⟨hw,h1,h2⟩:=h;have i1:=(AN (r:=r) (s:=s) h1).2;have i2:=(AN (r:=r) (s:=t) h2).2;have go:∀r,rb r->Cuts (dm (.two w s t)) r:=λr hr=>by
   rw[GH];refine Cuts.app (i1 _ (.inr (.inl ⟨_,rfl⟩))) ⟨tS,?_,i2 r hr⟩;exact zdb hw _
  exists go,λr hr=>?_;exists tS,AG tD (.inl tD),?_;exact Cuts.app (go _ (.inr (.inr ⟨_,rfl⟩))) ⟨tS,AG tD (.inl tD),trivial⟩
def bY:Sm->List Nat
 |.bit k=>[97+k]
 |.fix b=>cb b.natAbs
 |.no s=>[110,111,116,32]++(if mW s then [40]++bY s++[41]else bY s)
 |.two w s t=>(if mW s then [40]++bY s++[41]else bY s)++[32]++jw w++[32]++(if mW t then [40]++bY t++[41]else bY t)
def gB(s:Sm):List Nat:=if mW s then [40]++bY s++[41]else bY s
def D3(s:Sm):(gB s).length<=(bY s).length+2:=by unfold gB;split<;>simp<;>omega
def GW(s:Sm):(bY s).length<=(gB s).length:=by
 unfold gB;split
 ·simp;lia
 ·exact aT _
def Zq:("and" : Str)=S [97,110,100]:=by decide+kernel
def zeF:("or" : Str)=S [111,114]:=by decide+kernel
def UH:("xor" : Str)=S [120,111,114]:=by decide+kernel
def rG:("not " : Str)=S [110,111,116,32]:=by decide+kernel
def wg:("(" : Str)=S [40]:=by decide+kernel
def CL:(")" : Str)=S [41]:=by decide+kernel
def zcQ(h:w<3):wd w=S (jw w):=by
 rcases (show w=0\/w=1\/w=2 by omega)with rfl|rfl|rfl
 ·exact Zq
 ·exact zeF
 ·exact UH
def Cy(w:Nat):(jw w).length<=3:=by unfold jw;split<;>(try split)<;>simp
def zcH(h:w<3):decide (V.str (wd w)=V.str "bit")=false/\decide (V.str (wd w)=V.str "fix")=false/\decide (V.str (wd w)=V.str "not")=false:=by
 rcases (show w=0\/w=1\/w=2 by omega)with rfl|rfl|rfl<;>decide
def xP(s:Sm):bY (.no s)=[110,111,116,32]++gB s:=by unfold gB;rw[bY]
def xW(w:Nat)(s t:Sm):bY (.two w s t)=gB s++[32]++jw w++[32]++gB t:=by unfold gB;rw[bY]
def zdw(h:w<3):iY (V.str (wd w)) [V.str "and",V.str "or",V.str "xor"]=true:=by
 rcases (show w=0\/w=1\/w=2 by omega)with rfl|rfl|rfl<;>decide
def Ud{n:Nat}(h:n<=1):(n:Int).natAbs.log2<1920:=by
 rcases (show n=0\/n=1 by lia)with rfl|rfl<;>decide
def iq(h:n<=40000):n<=sizeLine:=aX h tD
theorem Aw:∀{s:Sm},s.ok (λk=>k<16)->(dm s).flatten=bY s/\(p9 s).flatten=gB s
 |.bit k,_=>⟨rfl,rfl⟩
 |.fix b,h=>by
  have hb:=h;rcases hb with rfl|rfl
  ·nomatch rfl,rfl
  ·nomatch rfl,rfl
 |.no s,h=>by
  have ih:=(Aw (s:=s) h).2
  have:(dm (.no s)).flatten=bY (.no s):=by rw[ET,xP,oO,ih]
  nomatch this,this
 |.two w s t,h=>by
  obtain⟨hw,h1,h2⟩:=h;have i1:=(Aw (s:=s) h1).2;have i2:=(Aw (s:=t) h2).2;have go:(dm (.two w s t)).flatten=bY (.two w s t):=by
   rw[GH,xW,zF,oO,i1,i2];simp
  exists go,?_;show ([40]::(dm (.two w s t)++[[41]])).flatten=[40]++bY (.two w s t)++[41];rw[oO,zF,go];simp
open PySem L2 OF
def XX(l t:List Nat)(k:Nat)(h:k<=l.length):(decide (k+(S t).length<=(S l).length)&&Builtin.Str.subAt (S l) (S t) k)=decide (t <+: l.drop k):=by
 rw[HV,gf,gf,aH,aH];by_cases z:t <+: l.drop k
 ·rw[aU z];obtain⟨r,hr⟩:=z;have hl:t.length<=(l.drop k).length:=by rw[<-hr,bh];lia
  rw[pL]at hl;rw[aU tL,uJ,<-hr,List.take_left];simp
 ·rw[bo z]
  have:((l.drop k).take t.length == t)=false:=by grind
  rw[this,pY]
def zbn:(" and " : Str)=S [32,97,110,100,32]:=by decide+kernel
def zcU:(" or " : Str)=S [32,111,114,32]:=by decide+kernel
def ze2:(" xor " : Str)=S [32,120,111,114,32]:=by decide+kernel
noncomputable def n9:List (List Nat):=[[110,111,116,32],[32,97,110,100,32],[32,111,114,32],[32,120,111,114,32]]
def zcJ:[V.str "not ",V.str " and ",V.str " or ",V.str " xor "]=n9.map λt=>V.str (S t):=by
 rw[rG,zbn,zcU,ze2];rfl
def YM{l t:List Nat}{i:Nat}(ht:n9[i]?=some t)(hb:∀j t',j<i->n9[j]?=some t'->¬t' <+: l)(h:t <+: l):kR l=t:=by
 unfold kR
 match i,ht with
 |0,ht=>cases ht;exact aC h
 |1,ht=>cases ht;rw[av (hb 0 _ tD rfl)];exact aC h
 |2,ht=>cases ht;rw[av (hb 0 _ tD rfl),av (hb 1 _ tD rfl)];exact aC h
 |3,ht=>cases ht;rw[av (hb 0 _ tD rfl),av (hb 1 _ tD rfl),av (hb 2 _ tD rfl)];exact aC h
 |i+4,ht=>simp[n9]at ht
def zcj(hb:∀j t',j<4->n9[j]?=some t'->¬t' <+: l):kR l=l.take 1:=by
 unfold kR;rw[av (hb 0 _ tD rfl),av (hb 1 _ tD rfl),av (hb 2 _ tD rfl),av (hb 3 _ tD rfl)]
theorem PV:∀{ts:List (List Nat)}{r:List Nat}{i:Nat}{t:List Nat},Cuts ts r->ts[i]?=some t->t≠[]/\kR ((ts.drop i).flatten++r)=t
 |[],_,_,_,_,e=>by simp at e
 |u::ts,r,0,t,h,e=>by
  have:u=t:=by simpa using e
  subst this;exists h.1,?_;rw[Mu,oO,gr];exact h.2.1
 |u::ts,r,i+1,t,h,e=>by
  rw[Ph];exact PV h.2.2 (by simpa using e)
theorem JR:∀(ts:List (List Nat)) (i:Nat),ts.flatten.drop (ts.take i).flatten.length=(ts.drop i).flatten
 |[],i=>by simp
 |t::ts,0=>rfl
 |t::ts,i+1=>by
  rw[List.take_succ_cons,oO,oO,bh,Ph,<-JR ts i,<-List.drop_drop,LQ]
theorem GB:∀{ts:List (List Nat)}{r:List Nat},Cuts ts r->ts.length<=ts.flatten.length
 |[],_,_=>aT _
 |t::ts,r,h=>by
  have h1:=GB h.2.2;have h2:=P0.mpr h.1;rw[oO,bh,bH];lia
theorem Q5:∀w:Nat,iY (V.str (wd w)) [V.str "and",V.str "or",V.str "xor"]=true
 |0=>by decide
 |1=>by decide
 |_+2=>by show iY (V.str "xor") _=true;decide
open PySem L2 OF
inductive Itm where
 |nt|op|jn (w:Nat) (s:Sm)
def Itm.d:Itm->D
 |.nt=>.tup [.str "not"]
 |.op=>.tup [.str "("]
 |.jn w s=>.tup [.str (wd w),s.d]
noncomputable def jP:Nat->Sm->Sm
 |0,s=>s
 |k+1,s=>jP k (.no s)
def iS(p:Itm->Prop)(ah:List Itm):Prop:=∀it,ah.getLast?=some it->¬p it
def j5:Itm->Prop
 |.nt=>True
 |_=>False
def B1:Itm->Prop
 |.jn _ _=>True
 |_=>False
abbrev oE:=Option Sm×List Itm
inductive Step:oE->List Nat->oE->Prop
 |no (ah:List Itm):Step (none,ah) [110,111,116,32] (none,ah++[.nt])
 |op (ah:List Itm):Step (none,ah) [40] (none,ah++[.op])
 |bit (ah:List Itm) (k j:Nat) (h:iS j5 ah) (hj:j<16):Step (none,ah++List.replicate k .nt) [97+j] (some (jP k (.bit j)),ah)
 |fix (ah:List Itm) (k:Nat) (b:Int) (h:iS j5 ah) (hb:b=0\/b=1):Step (none,ah++List.replicate k .nt) [48+b.toNat] (some (jP k (.fix b)),ah)
 |jn (ah:List Itm) (s:Sm) (w:Nat) (h:iS B1 ah) (hw:w<3):Step (some s,ah) ([32]++jw w++[32]) (none,ah++[.jn w s])
 |cl (ah:List Itm) (k w:Nat) (s t:Sm) (h:iS j5 ah) (hw:w<3):Step (some t,ah++List.replicate k .nt++[.op,.jn w s]) [41] (some (jP k (.two w s t)),ah)
inductive ip:oE->List (List Nat)->oE->Prop
 |nil (a:oE):ip a [] a
 |cons {a b c:oE}{t:List Nat}{ts:List (List Nat)}:Step a t b->ip b ts c->ip a (t::ts) c
def ip.app(h:ip a ts b)(h':ip b us c):ip a (ts++us) c:=by
 induction h with
 |nil=>exact h'
 |cons s _ ih=>exact .cons s (ih h')
def Gj(ah:List Itm)(it:Itm):(ah++[it]).getLast?=some it:=by simp
def CO(h:¬p it):iS p (ah++[it]):=λx hx=>by simp_all
def Oj(ah:List Itm)(k:Nat):ah++List.replicate k Itm.nt++[.nt]=ah++List.replicate (k+1) .nt:=by
 rw[gr,<-P5]
theorem yY:∀{s:Sm},s.ok (λk=>k<16) ->
  (∀ah k,iS j5 ah->mW s=false->ip (none,ah++List.replicate k .nt) (dm s) (some (jP k s),ah)) /\
  (∀ah k,iS j5 ah->ip (none,ah++List.replicate k .nt) (p9 s) (some (jP k s),ah)) /\
  (∀w a b,s=.two w a b->∀ah,iS j5 ah->iS B1 ah->ip (none,ah) (dm s) (some b,ah++[.jn w a]))
 |.bit j,h=>by
  have go:∀ah k,iS j5 ah->ip (none,ah++List.replicate k .nt) (dm (.bit j)) (some (jP k (.bit j)),ah):=λah k hn=>.cons (.bit ah k j hn h) (.nil _)
  exact⟨λah k hn _=>go ah k hn,go,λw a b e=>by cases e⟩
 |.fix b,h=>by
  have go:∀ah k,iS j5 ah->ip (none,ah++List.replicate k .nt) (dm (.fix b)) (some (jP k (.fix b)),ah):=λah k hn=>.cons (.fix ah k b hn h) (.nil _)
  exact⟨λah k hn _=>go ah k hn,go,λw a b e=>by cases e⟩
 |.no s,h=>by
  have ih:=(yY (s:=s) h).2.1;have go:∀ah k,iS j5 ah->ip (none,ah++List.replicate k .nt) (dm (.no s)) (some (jP k (.no s)),ah):=λah k hn=>by
   rw[ET];refine .cons (.no _) ?_;rw[Oj];exact ih ah (k+1) hn
  exact⟨λah k hn _=>go ah k hn,go,λw a b e=>by cases e⟩
 |.two w s t,h=>by
  obtain⟨hw,h1,h2⟩:=h;have i1:=(yY (s:=s) h1).2.1;have i2:=(yY (s:=t) h2).2.1;have go:∀ah,iS j5 ah->iS B1 ah->ip (none,ah) (dm (.two w s t)) (some t,ah++[.jn w s]):=λah hn hj=>by
   rw[GH];have a1:=i1 ah 0 hn;rw[Em,iD]at a1;refine a1.app (.cons (.jn ah s w hj hw) ?_);have a2:=i2 (ah++[.jn w s]) 0 (CO (p:=j5) (it:=.jn w s) (λz=>nomatch z));rw[Em,iD]at a2;exact a2
  exists (λah k _ z=>by cases z),(λah k hn=>?_),(λw' a b e=>by cases e;exact go);refine .cons (.op _) ?_;refine (go _ (CO (p:=j5) (it:=.op) λz=>nomatch z) (CO (p:=B1) (it:=.op) λz=>nomatch z)).app (.cons ?_ (.nil _))
  have:=Step.cl ah k w s t hn hw
  rw[gr (ah++List.replicate k Itm.nt) [Itm.op] [Itm.jn w s]];exact this
def ip.path(h:ip a ts c):∃f:Nat->oE,f 0=a/\f ts.length=c/\∀i t,ts[i]?=some t->Step (f i) t (f (i+1)):=by
 induction h with
 |nil a=>exact⟨λ_=>a,rfl,rfl,λi t e=>by simp at e⟩
 |@cons a b c t ts s _ ih =>
  obtain⟨f,f0,f1,f2⟩:=ih;exists λi=>match i with|0=>a|i+1=>f i,rfl,f1,λi u e=>?_;cases i with
  |zero =>
   have:t=u:=by simpa using e
   subst this;show Step a t (f 0);rw[f0];exact s
  |succ i=>exact f2 i u (by simpa using e)
def mQ(H:Hp)(v:V)(it:Itm):Prop:=Is H v it.d
def gV(H:Hp)(b:Addr)(ah:List Itm):Prop:=∃xs:List V,H b=some (.lst xs)/\Paired (mQ H) xs ah
def JO(h:Is H v (.tup [d])):∃p x,v=.ref p/\H p=some (.tup [x])/\Is H x d:=by
 obtain⟨p,xs,rfl,h1,h2⟩:=h;obtain⟨x,r,rfl,h3,h4⟩:=h2;subst h4;nomatch p,x,rfl,h1,h3
def yo(h:H p=some (.tup [x]))(h1:Is H x d):Is H (.ref p) (.tup [d]):=by
 exists p,_,rfl,h,?_;exists _,_,rfl,h1,?_;rfl
def Av(h:mQ H v .nt):∃p,v=.ref p/\H p=some (.tup [.str "not"]):=by
 obtain⟨p,x,rfl,h1,h2⟩:=JO (show Is H v (.tup [.str "not"]) from h);rw[dr]at h2;subst h2;nomatch p,rfl,h1
def yF(h:mQ H v .op):∃p,v=.ref p/\H p=some (.tup [.str "("]):=by
 obtain⟨p,x,rfl,h1,h2⟩:=JO (show Is H v (.tup [.str "("]) from h);rw[dr]at h2;subst h2;nomatch p,rfl,h1
def DK(h:mQ H v (.jn w s)):∃p x,v=.ref p/\H p=some (.tup [.str (wd w),x])/\Is H x s.d:=by
 obtain⟨p,x,y,rfl,h1,h2,h3⟩:=zw (show Is H v (.tup [.str (wd w),s.d]) from h);rw[dr]at h2;subst h2;nomatch p,y,rfl,h1,h3
def zaV(k:∀p xs,H p=some (.tup xs)->H' p=some (.tup xs)):∀{it:Itm}{v:V},mQ H v it->mQ H' v it
 |.nt,v,h=>by obtain⟨p,rfl,h1⟩:=Av h;exact yo (k _ _ h1) (dr.mpr rfl)
 |.op,v,h=>by obtain⟨p,rfl,h1⟩:=yF h;exact yo (k _ _ h1) (dr.mpr rfl)
 |.jn w s,v,h=>by obtain⟨p,x,rfl,h1,h2⟩:=DK h;exact j0 (k _ _ h1) (dr.mpr rfl) (gS k h2)
def bu(b:Addr)(H H':Hp):Prop:=∀p o,p≠b->H p=some o->H' p=some o
def bu.refl(b:Addr)(H:Hp):bu b H H:=λ_ _ _ e=>e
def bu.trans(h:bu b H H')(h':bu b H' H''):bu b H H'':=λp o n e=>h' p o n (h p o n e)
def bu.of(h:af H H'):bu b H H':=λp o _ e=>h p o e
def bu.upd:bu b H (L2.upd H b o):=λp o' n e=>by rw[aS n];exact e
def bu.tups(h:bu b H H')(hb:H b=some (.lst ys)):∀p xs,H p=some (.tup xs)->H' p=some (.tup xs):=λp xs e=>h p _ (λz=>by simp_all) e
open PySem L2 OF
def o6(xs:List α)(y:α):dN (xs++[y]) (-1)=some y:=by
 have e:j9 (xs++[y]).length (-1)=some xs.length:=by
  unfold j9;rw[bh];simp;lia
 unfold dN;rw[e];simp
theorem F5:∀{zs:List α}{ah:List β}{it:β},Paired R zs (ah++[it])->∃xs y,zs=xs++[y]/\Paired R xs ah/\R y it
 |_,[],it,h=>by
  cases h with
  |cons r q=>cases q;nomatch [],_,rfl,.nil,r
 |_,i::ah,it,h=>by
  cases h with
  |cons r q =>
   obtain⟨xs,y,e,p,r'⟩:=F5 q;nomatch _::xs,y,by rw[e];rfl,.cons r p,r'
def gV.last(h:gV H b (ah++[it])):∃xs y,H b=some (.lst (xs++[y]))/\Paired (mQ H) xs ah/\mQ H y it:=by
 obtain⟨zs,h1,h2⟩:=h;obtain⟨xs,y,rfl,p,r⟩:=F5 h2;nomatch xs,y,h1,p,r
def qJ(k:∀p xs,H p=some (.tup xs)->H' p=some (.tup xs))(h:Paired (mQ H) xs ah):Paired (mQ H') xs ah:=Paired.mapP h λ_ _ e=>zaV k e
def gV.nil(h:gV H b []):H b=some (.lst []):=by
 obtain⟨xs,h1,h2⟩:=h;cases h2;exact h1
def Au(l:List α):l=[]\/∃r x,l=r++[x]:=by
 rcases List.eq_nil_or_concat l with h|⟨r,x,h⟩
 ·exact .inl h
 ·exact .inr ⟨r,x,by simp_all⟩
def gV.keep(h:gV H b ah)(s:af H H'):gV H' b ah:=by
 obtain⟨xs,h1,h2⟩:=h;nomatch xs,s _ _ h1,qJ (λp ys e=>s p _ e) h2
open PySem L2 OF
def TN(h:Step a t b):b.2.length<=a.2.length+1:=by
 cases h<;>simp<;>lia
def XC(h:s.ok (λk=>k<16)):∃(e:Sm) (ah:List Itm),ip (none,[]) (dm s) (some e,ah)/\((ah=[]/\e=s)\/∃w a,ah=[.jn w a]/\s=.two w a e):=by
 obtain⟨r1,r2,r3⟩:=yY h;have hn:∀p,iS p ([]:List Itm):=λp it z=>by simp at z
 cases hj:mW s with
 |false =>
  have:=r1 [] 0 (hn _) hj
  nomatch s,[],this,.inl ⟨rfl,rfl⟩
 |true =>
  cases s with
  |two w a b=>nomatch b,[.jn w a],r3 w a b rfl [] (hn _) (hn _),.inr ⟨w,a,rfl,rfl⟩
  |_=>cases hj
def bu.same(h:af H H')(k:bu b H' H'')(hb:H b=none):af H H'':=λp o e=>k p o (λz=>by simp_all) (h p o e)
open PySem L2 OF
def OU:∀{s:Sm},Is H v s.d->v≠.non
 |.bit _,h=>by obtain⟨p,rfl,_⟩:=qu h;exact λz=>nomatch z
 |.fix _,h=>by obtain⟨p,rfl,_⟩:=qj h;exact λz=>nomatch z
 |.no _,h=>by obtain⟨p,x,rfl,_⟩:=ow h;exact λz=>nomatch z
 |.two _ _ _,h=>by obtain⟨p,x,y,rfl,_⟩:=oh h;exact λz=>nomatch z
end My
namespace L2
open PySem PySem.Spec PyProof.Rows
def Se{l:List Nat}{g:TG}{tc:TT}{te:TE}{σ:St}{H:Hp}{R:List V->Hp->Addr->Prop}(Pv:Nat->List V->St->Hp->Prop)(h0:Pv 0 [] σ H)(hl:∀i ys σ H,Pv i ys σ H->ys.length<=i)(hz:l.length<=sizeLine)
  (hs:∀i c ys σ H,l[i]?=some c->Pv i ys σ H->g (.str (My.S [c])) σ H λσ2 H2=>tc σ2 H2 λb H3=>if b=true then te σ2 H3 λy H4=>Pv (i+1) (ys++[y]) σ2 H4 else Pv (i+1) ys σ2 H3)
  (hd:∀ys σ H,Pv l.length ys σ H->∀D,H D=none->R ys H D) :
  ∃W:Nat->Nat->List V->St->Hp->Prop,(∃m,W 0 m [] σ H)/\∀i m ys σ H,W i m ys σ H ->
   ((pQ (My.S l)).stop i H/\∀D,H D=none->R ys H D) \/
   ((pQ (My.S l)).go i H/\ys.length<sizeLine/\∃ N:List V->St->Hp->Prop,(∀ dJ σ' H',N dJ σ' H'->∃ m',m'<m/\W (i+1) m' dJ σ' H') /\ ∀x H',(pQ (My.S l)).yld i H x H'->g x σ H' λσ2 H2=>tc σ2 H2 λb H3=>if b=true then te σ2 H3 λy H4=>N (ys++[y]) σ2 H4 else N ys σ2 H3):=by
 exists λi m ys σ H=>m=l.length-i/\i<=l.length/\Pv i ys σ H,⟨l.length,tS,bM _,h0⟩,?_;rintro i m ys σ H ⟨rfl,hi,p⟩;have q:=hl i ys σ H p;by_cases ba:i<l.length
 ·refine .inr ⟨ba,tL,Pv (i+1),λdJ σ' H' p'=>⟨l.length-(i+1),tL,rfl,ba,p'⟩,λx H' y=>?_⟩;obtain⟨rfl,c,hc,rfl⟩:=y;exact hs i c ys σ _ (by simpa [My.S] using hc) p
 ·have e:i=l.length:=by lia
  subst e;exact .inl ⟨aT _,hd ys σ H p⟩
end L2
namespace My
open PySem L2 OF
noncomputable def mX(c:Nat):Bool:=decide (48<=c/\c<=57)
noncomputable def nR(c:Nat):Int:=if 97<=c/\c<113 then (c:Int)-97 else -1
def Z3:∀c:Nat,c<128->Txt.find (S oj) (S [c])=nR c:=by decide+kernel
def lr:List Nat->Int->Nat->Option Nat
 |[],_,m=>some m
 |c::r,la,m=>if nR c<=la then none else lr r (nR c) (m+2^(nR c).toNat)
def kN(fs ls:List Nat):Option Nat :=
 if fs=[]/\ls≠[]then some 1 else if fs=[]\/fs.head?=some 48\/(fs=[49]/\ls≠[])then none else some (digitsVal fs)
def kM(w:List Nat):List Nat:=w.takeWhile mX
def fW(w:List Nat):List Nat:=w.dropWhile mX
def zbJ(w:List Nat):w=kM w++fW w:=(List.takeWhile_append_dropWhile).symm
def FY(w:List Nat):∀c∈kM w,48<=c/\c<=57:=λc hc=>by
 have:=List.all_takeWhile (p:=mX) (l:=w)
 exact bP (fN.mp this c hc)
def zeL{w:List Nat}:∀c r,fW w=c::r->¬(48<=c/\c<=57):=λc r e=>by
 have h:(w.dropWhile mX).head?=some c:=by show (fW w).head?=_;rw[e];rfl
 have:=List.head?_dropWhile_not mX w
 rw[h]at this;simpa [mX] using this
def nV(sg w:List Nat):Option (Int×Int) :=
 if sg=[43]\/sg=[45]then
  match kN (kM w) (fW w),lr (fW w) (-1) 0 with
  |some n,some m=>some ((m:Int),if sg=[45]then -(n:Int)else (n:Int))
  |_,_=>none
 else none
noncomputable def jj:aq->Int->Bool
 |[],_=>true
 |t::r,la=>if t.1<=la\/t.2=0 then false else jj r t.1
noncomputable def br:List Nat->List (List Nat)
 |[]=>[[]]
 |c::r=>if c=32 then []::br r else match br r with
  |[]=>[[c]]
  |w::ws=>(c::w)::ws
theorem lN:∀l,br l≠[]
 |[]=>by unfold br;simp
 |c::r=>by
  unfold br;split
  ·simp
  ·split<;>simp
set_option tactic.hygienic true in
theorem xq:∀l,∀w∈br l,32∉w
 |[],w,h=>by unfold br at h;rw[bw.mp h];simp
 |c::r,w,h=>by
  have ih:=xq r;unfold br at h;split at h
  ·rcases bC.mp h with z|z
   ·rw[z];simp
   ·exact ih w z
  ·rename_i hc;split at h
   ·rw[bw.mp h];simpa using λz=>hc z.symm
   ·rename_i w0 ws e;rcases bC.mp h with z|z
    ·rw[z];intro y;rcases bC.mp y with y|y
     ·exact hc y.symm
     ·exact ih w0 (by rw[e];simp) y
    ·exact ih w (by simp_all)
set_option tactic.hygienic true in
theorem vC:∀l,bR 32 (br l)=l
 |[]=>rfl
 |c::r=>by
  have ih:=vC r;unfold br;split
  ·rename_i hc;cases e:br r with
   |nil=>exact absurd e (lN r)
   |cons w ws =>
    rw[e]at ih;show []++32::bR 32 (w::ws)=c::r;rw[ih,hc];rfl
  ·split
   ·rename_i e;exact absurd e (lN r)
   ·rename_i w ws e;rw[e]at ih;cases ws with
    |nil=>show c::w=c::r;rw[show w=r from ih]
    |cons x xs=>show (c::w)++32::bR 32 (x::xs)=c::r;rw[<-ih];rfl
set_option tactic.hygienic true in
theorem wQ:∀l,∀w∈br l,∀c∈w,c∈l
 |[],w,h,c,hc=>by unfold br at h;rw[bw.mp h]at hc;cases hc
 |a::r,w,h,c,hc=>by
  have ih:=wQ r;unfold br at h;split at h
  ·rcases bC.mp h with z|z
   ·rw[z]at hc;cases hc
   ·exact dM _ (ih w z c hc)
  ·split at h
   ·rw[bw.mp h]at hc;rw[bw.mp hc];simp
   ·rename_i w0 ws e;rcases bC.mp h with z|z
    ·rw[z]at hc;rcases bC.mp hc with y|y
     ·rw[y];simp
     ·exact dM _ (ih w0 (by rw[e];simp) c y)
    ·exact dM _ (ih w (by simp_all) c hc)
set_option tactic.hygienic true in
theorem vd:∀l,(br l).length<=l.length+1/\∀w∈br l,w.length<=l.length
 |[]=>by unfold br;exact⟨tD,λw h=>by rw[bw.mp h];exact aT _⟩
 |a::r=>by
  obtain⟨h1,h2⟩:=vd r;unfold br;split
  ·exact⟨by simp_all,λw h=>by
    rcases bC.mp h with z|z
    ·rw[z];simp
    ·have:=h2 w z;rw[bH];lia⟩
  ·split
   ·exact⟨tS,λw h=>by rw[bw.mp h];simp⟩
   ·rename_i w0 ws e;rw[e]at h1 h2;exists by rw[bH]at h1 ⊢;rw[bH];lia,λw h=>?_;rcases bC.mp h with z|z
    ·rw[z,bH,bH];have:=h2 w0 tS;lia
    ·have:=h2 w (by simp[z]);rw[bH];lia
def gQ(l:List Nat):List (List Nat):=if l.head?=some 45 then [45]::(match br l with|[]=>[]|w::r=>w.drop 1::r)else [43]::br l
def nZ:List (List Nat)->Option aq
 |[]=>some []
 |[_]=>none
 |sg::w::r=>match nV sg w,nZ r with
  |some t,some f=>some (t::f)
  |_,_=>none
def nj(l:List Nat):Option aq:=if l=[48]then some []else match nZ (gQ l)with
 |some f=>if jj f (-1)=true then some f else none
 |none=>none
def zbS{l:List Nat}{c:Nat}(h:l.head?=some c)(hc:c≠32){w0:List Nat}{wr:List (List Nat)}(e:br l=w0::wr):∃w',w0=c::w':=by
 cases l with
 |nil=>cases h
 |cons a r =>
  have:a=c:=by simpa using h
  subst this;unfold br at e;rw[av hc]at e;split at e
  ·cases e;nomatch [],rfl
  ·cases e;nomatch _,rfl
set_option tactic.hygienic true in
def V8(l:List Nat):2<=(gQ l).length/\(gQ l).length<=l.length+2/\∀w∈gQ l,(∀c∈w,c∈l\/c=43)/\w.length<=l.length+1:=by
 obtain⟨w0,wr,ew⟩:∃w0 wr,br l=w0::wr:=by
  cases e:br l with
  |nil=>exact absurd e (lN l)
  |cons a b=>nomatch a,b,rfl
 obtain⟨h1,h2⟩:=vd l;have h3:=wQ l;rw[ew]at h1 h2 h3;rw[bH]at h1;unfold gQ;rw[ew];split
 ·rename_i rF;have Y7:=List.mem_of_mem_head? (by rw[rF];rfl);exists tS,by simp;lia,λw hw=>?_;rcases bC.mp hw with z|z
  ·rw[z];nomatch λc hc=>.inl (by rw[bw.mp hc];exact Y7),tS
  ·rcases bC.mp z with z|z
   ·rw[z];exact⟨λc hc=>.inl (h3 w0 tS c (O4 hc)),by rw[pL];have:=h2 w0 tS;lia⟩
   ·exact⟨λc hc=>.inl (h3 w (by simp[z]) c hc),by have:=h2 w (by simp[z]);lia⟩
 ·exists tS,by simp;omega,λw hw=>?_;rcases bC.mp hw with z|z
  ·rw[z];nomatch λc hc=>.inr (bw.mp hc),tS
  ·exact⟨λc hc=>.inl (h3 w z c hc),by grind⟩
theorem Mn:∀{ws:List (List Nat)},¬ws.length%2=0->nZ ws=none
 |[],h=>absurd rfl h
 |[_],_=>rfl
 |a::b::r,h=>by
  have ih:=Mn (ws:=r) (by grind);unfold nZ;rw[ih];cases nV a b<;>rfl
theorem LZ:∀{ws:List (List Nat)},ws.length%2=0->∃pp:List (List Nat×List Nat),ws=pp.flatMap λt=>[t.1,t.2]
 |[],_=>⟨[],rfl⟩
 |[_],h=>by simp at h
 |a::b::r,h=>by
  obtain⟨pp,hp⟩:=LZ (ws:=r) (by grind);exact⟨(a,b)::pp,by simp_all⟩
def Z5(pp:List (List Nat×List Nat)):(pp.flatMap λt=>[t.1,t.2]).length=2*pp.length:=by
 induction pp with
 |nil=>rfl
 |cons t r ih=>rw[ky,bh,ih];show 2+_=2*(r.length+1);lia
def jO:List (List Nat×List Nat)->Option aq
 |[]=>some []
 |p::r=>match nV p.1 p.2,jO r with
  |some t,some f=>some (t::f)
  |_,_=>none
theorem Ff:∀pp:List (List Nat×List Nat),nZ (pp.flatMap λt=>[t.1,t.2])=jO pp
 |[]=>rfl
 |p::r=>by
  have ih:=Ff r;show nZ (p.1::p.2::r.flatMap λt=>[t.1,t.2])=jO (p::r);unfold nZ jO;rw[ih]
def P1(l:List Nat):Txt.startswith (S l) (S [45])=decide (l.head?=some 45):=by
 rw[Y0];cases l with
 |nil=>rfl
 |cons c r =>
  show (c == 45)=decide (some c=some 45);by_cases h:c=45
  ·subst h;rfl
  ·rw[bo (λz=>h (gd z))];simpa using h
structure NK(la:Int)(ls:List Nat):Prop where
 ok:∀c∈ls,97<=c/\c<113
 up:ls.Pairwise (· < ·)
 ab:∀c∈ls,la<(c:Int)-97
noncomputable def xc(ls:List Nat):Nat:=(ls.map λc=>2^(c-97)).sum
theorem RT:∀{ls:List Nat}{la:Int} (m:Nat),NK la ls->lr ls la m=some (m+xc ls)
 |[],la,m,_=>by show some m=some (m+0);rfl
 |c::r,la,m,h=>by
  have hc:=h.ok c tS;have hi:nR c=(c:Int)-97:=aC hc;obtain⟨u1,u2⟩:=pf.mp h.up;unfold lr;rw[hi,av (by have:=h.ab c tS;lia)];rw[RT (ls:=r) _ ⟨λx hx=>h.ok x (by simp[hx]),u2,λx hx=>by simp_all⟩];have e:((c:Int)-97).toNat=c-97:=by lia
  rw[e];show some (m+2^(c-97)+xc r)=some (m+(2^(c-97)+xc r));congr 1;lia
def pO(l:List Nat):(V.str (S l)=V.str (ofString ""))↔l=[]:=⟨λz=>by
 injection z with z
 rw[iy]at z;exact dU z,λz=>by rw[z,iy]⟩
def Kr(x:V)(r:List V):gk (x::r) (some 1) none=r:=by
 unfold gk;rw[HT.sIx_none,show (1:Int)=((1:Nat):Int) from rfl,HT.sIx_nat];have e:min 1 (x::r).length=1:=by simp
 rw[e];show (r.take ((x::r).length-1))=r;rw[bH,LR,dG]
theorem yB:∀l:List Nat,((l.map λc=>S [c]).map (·.length)).sum=l.length
 |[]=>rfl
 |c::l=>by rw[bN,bN,mm,yB l,bH,aH];simp;lia
def UC(l:List Nat):(l.map λc=>[c]).flatten=l:=by
 induction l with
 |nil=>rfl
 |cons c l ih=>rw[bN,oO,ih];rfl
def EC(l:List Nat):Txt.join (S []) (l.map λc=>S [c])=S l:=by
 have:=Ql (l.map λc=>[c])
 rw[fk,UC]at this;exact this
def LL(K:Frag):Sp:=λvs H Q _=>∃(a:Addr) (f:aq),vs=[.ref a]/\aG H a f/\(∀t∈f,gp t)/\f.length<=64/\∀H',af H H'->Q (.str (S (txt f))) H'
def zj{n:Nat}(h:n<10^63):(n:Int).natAbs.log2<1920:=by
 rw[pX];by_cases h0:n=0
 ·subst h0;decide
 ·exact (tP h0).mpr (cS h tE)
def RA{t:Int×Int}(h:gp t)(h4:t.2.natAbs<10^4):(bz t).length<=20/\∀c∈bz t,c<128:=by
 have hm:t.1.toNat<2^16:=by have:=h.1;have:=h.2.1;lia
 have e:bz t=gj t.1.toNat t.2.natAbs++cR t.1.toNat:=rfl;have h1:=p6 hm;have h2:(gj t.1.toNat t.2.natAbs).length<=4:=by
  unfold gj;split
  ·exact bM _
  ·exact lO (k:=3) h4
 rw[e];exists by grind,λc hc=>?_;rcases bA.mp hc with z|z
 ·have:=zbQ z;lia
 ·exact zeq hm c z
theorem QC:∀{r:aq},(∀t∈r,gp t/\t.2.natAbs<10^4)->(r.flatMap cE).length<=23*r.length/\∀c∈r.flatMap cE,c<128
 |[],_=>⟨tS,λc h=>by cases h⟩
 |t::r,h=>by
  obtain⟨i1,i2⟩:=QC (r:=r) λu hu=>h u (by simp[hu])
  obtain⟨w1,w2⟩:=RA (h t tS).1 (h t tS).2;rw[ky];exists ?_,λc hc=>?_
  ·rw[bh,bH];show ([32,bt t.2,32]++bz t).length+_<=_;rw[bh];show 3+_+_<=_;lia
  ·rcases bA.mp hc with z|z
   ·have z':=z;rcases bA.mp z' with y|y
    ·have hs:bt t.2=43\/bt t.2=45:=by unfold bt;split<;>simp
     simp only[bC,jU,jW]at y;lia
    ·exact w2 c y
   ·exact i2 c z
def FW{f:aq}(hl:f.length<=5)(h:∀t∈f,gp t/\t.2.natAbs<10^4):(txt f).length<=240/\∀c∈txt f,c<128:=by
 cases f with
 |nil=>nomatch tD,tD
 |cons t r =>
  obtain⟨i1,i2⟩:=QC (r:=r) λu hu=>h u (by simp[hu])
  obtain⟨w1,w2⟩:=RA (h t tS).1 (h t tS).2;rw[bH]at hl;have ha:(dA t.2).length<=1/\∀c∈dA t.2,c<128:=by unfold dA;split<;>simp
  show (dA t.2++bz t++r.flatMap cE).length<=240/\∀c∈dA t.2++bz t++r.flatMap cE,c<128;exists by rw[bh,bh];have:=ha.1;lia,λc hc=>?_;rcases bA.mp hc with z|z
  ·rcases bA.mp z with y|y
   ·exact ha.2 c y
   ·exact w2 c y
  ·exact i2 c z
open PySem L2 OF
noncomputable def jt:Sm->Nat
 |.bit _=>1
 |.fix _=>1
 |.no s=>jt s+1
 |.two _ s t=>jt s+jt t+1
theorem tZ:∀s:Sm,s.dp+1<=jt s
 |.bit _=>aT _
 |.fix _=>aT _
 |.no s=>by have:=tZ s;show s.dp+1+1<=jt s+1;lia
 |.two _ s t=>by have:=tZ s;have:=tZ t;show max s.dp t.dp+1+1<=jt s+jt t+1;lia
theorem tU:∀{s:Sm},s.ok p->(bY s).length<=9*jt s
 |.bit _,_=>by show 1<=9*1;decide
 |.fix b,h=>by
  have hb:=h;rcases hb with rfl|rfl<;>decide
 |.no s,h=>by
  have i1:=tU (s:=s) h
  have:=D3 s
  rw[xP,bh];show 4+_<=9*(jt s+1);lia
 |.two w s t,h=>by
  have i1:=tU (s:=s) h.2.1;have i2:=tU (s:=t) h.2.2
  have:=D3 s
  have:=D3 t
  have:=Cy w
  rw[xW];simp only[bh,bH,nk];show _<=9*(jt s+jt t+1);lia
theorem Ak:∀{s:Sm},s.ok (λk=>k<16)->(∀c∈bY s,c<128)/\∀c∈gB s,c<128
 |.bit k,h=>by
  have hk:k<16:=h
  have:∀c∈bY (.bit k),c<128:=λc hc=>by rw[bw.mp hc];lia
  nomatch this,this
 |.fix b,h=>by
  have hb:=h;rcases hb with rfl|rfl
  ·nomatch tD,tD
  ·nomatch tD,tD
 |.no s,h=>by
  have ih:=(Ak (s:=s) h).2
  have:∀c∈bY (.no s),c<128:=λc hc=>by
   rw[xP]at hc;rcases bA.mp hc with y|y
   ·exact (show ∀c∈[110,111,116,32],c<128 by decide) c y
   ·exact ih c y
  nomatch this,this
 |.two w s t,h=>by
  have i1:=(Ak (s:=s) h.2.1).2;have i2:=(Ak (s:=t) h.2.2).2;have hw:∀c∈jw w,c<128:=by
   unfold jw;split
   ·decide
   split
   ·decide
   ·decide
  have go:∀c∈bY (.two w s t),c<128:=λc hc=>by
   rw[xW]at hc;simp only[bA]at hc;rcases hc with (((y|y)|y)|y)|y
   ·exact i1 c y
   ·rw[bw.mp y];decide
   ·exact hw c y
   ·rw[bw.mp y];decide
   ·exact i2 c y
  exists go,λc hc=>?_;have lY:c∈[40]++bY (.two w s t)++[41]:=hc;simp only[bA]at lY;rcases lY with (y|y)|y
  ·rw[bw.mp y];decide
  ·exact go c y
  ·rw[bw.mp y];decide
def JL(a b n:Nat):Builtin.Str.strSliceIndices (some (a:Int)) (some (b:Int)) 1 n=Builtin.Str.strSliceIndices (some ((min a n:Nat):Int)) (some ((min b n:Nat):Int)) 1 n:=by
 have h:∀c:Nat,¬((c:Int)<0):=λc=>by lia
 have e:∀c:Nat,max (0:Int) (min (c:Int) (n:Int))=max 0 (min ((min c n:Nat):Int) (n:Int)):=λc=>by lia
 simp only[Builtin.Str.strSliceIndices,h,jZ];rw[aC (show (1:Int)>0 by decide),aC (show (1:Int)>0 by decide),aC (show (1:Int)>0 by decide),aC (show (1:Int)>0 by decide),e a,e b]
def R8(l:List Nat){a b:Nat}(h:a<=b):Txt.slice (S l) (some (a:Int)) (some (b:Int))=S ((l.drop a).take (b-a)):=by
 have e:Txt.slice (S l) (some (a:Int)) (some (b:Int))=StrLaws.sliceText (S l) (some ((min a l.length:Nat):Int)) (some ((min b l.length:Nat):Int)):=by
  show StrLaws.sliceText (S l) _ _=_;unfold StrLaws.sliceText;rw[aH,JL a b]
 rw[e,StrLaws.sliceText_nat (S l) (show min a l.length<=min b l.length by lia) (by rw[aH];lia)];refine sC ?_;show (l.drop (min a l.length)).take (min b l.length-min a l.length)=(l.drop a).take (b-a);by_cases h1:a<=l.length
 ·rw[mT h1];by_cases h2:b<=l.length
  ·rw[mT h2]
  ·rw[u7 tL,kY (by simp),kY (by grind)]
 ·rw[u7 (show l.length<=a by lia),u7 (show l.length<=b by lia),FE (aT _),FE (show l.length<=a by omega)];simp
def Wq(l:List Nat)(a:Nat):Txt.slice (S l) (some (a:Int)) none=S (l.drop a):=by
 have e:Txt.slice (S l) (some (a:Int)) none=Txt.slice (S l) (some (a:Int)) (some (l.length:Int)):=by
  show StrLaws.sliceText (S l) _ _=StrLaws.sliceText (S l) _ _;unfold StrLaws.sliceText;rw[aH,StrLaws.sliceIdx_none_hi]
 rw[e];by_cases h:a<=l.length
 ·rw[R8 l h,kY (by simp)]
 ·have e2:Txt.slice (S l) (some (a:Int)) (some (l.length:Int))=Txt.slice (S l) (some (l.length:Int)) (some (l.length:Int)):=by
   show StrLaws.sliceText (S l) _ _=StrLaws.sliceText (S l) _ _;unfold StrLaws.sliceText;rw[aH,JL a l.length,u7 (show l.length<=a by lia),Gp]
  rw[e2,R8 l (aT _),FE (show l.length<=a by omega)];simp
def VF:∀c:Nat,c<128->(!(Builtin.Str.occurrences (S oj) (S [c]) 0 (S oj).length 1).isEmpty)=decide (97<=c/\c<113):=by decide+kernel
def MY(K:Frag)(d:Nat):Sp:=λvs H Q _=>∃(v:V) (s:Sm),vs=[v]/\Is H v s.d/\s.ok (λk=>k<16)/\2*s.dp+1<d/\(bY s).length<=10000/\∀H',af H H'->Q (.str (S (bY s))) H'
def zcP(K:Frag)(d:Nat):Sp:=λvs H Q _=>∃(v:V) (s:Sm),vs=[v]/\Is H v s.d/\s.ok (λk=>k<16)/\2*s.dp+2<d/\(bY s).length<=10000/\∀H',af H H'->Q (.str (S (gB s))) H'
end My
namespace L2
open PySem PySem.Spec PyProof.Rows
def ox(w:World)(K:Frag)(a:Addr)(kvs:List (Str×Addr)):Prop :=
 (a == sysModules)=false/\∀(P:Program) (h:Heap),K.In h->h.DictOf (gi P w) a (kvs.map λp=>(Sum.inr p.1,Value.ref p.2))
def ox.of{w:World}{K:Frag}{a:Addr}{kvs:List (Str×Addr)}{ts:List Tok}{n:Nat}(hs:(a == sysModules)=false)(hl:kvs.length=ts.length)(hn:(kvs.map (·.1)).Nodup)
  (e:K.lookup a=some ⟨.type "dict",none,.dict ((kvs.zip ts).map λp=>⟨PyData.keyHash w.params p.1.1,.str p.1.1 p.2,.ref p.1.2⟩).toArray n,#[]⟩):ox w K a kvs:=by
 exists hs,λP h X=>⟨_,_,_,X _ _ e,⟨rfl,rfl,rfl⟩,rfl,λx hx=>?_,?_,?_⟩
 ·obtain⟨p,_,rfl⟩:=bp.mp (List.mem_toArray.mp hx);nomatch Sum.inr p.1.1,sI P w p.1.1 p.2,rfl
 ·clear e hn;induction kvs generalizing ts with
  |nil=>exact .nil
  |cons p r ih =>
   cases ts with
   |nil=>cases hl
   |cons t ts=>exact .cons (sI P w p.1 t) rfl (ih (by simpa using hl))
 ·rw[fk]
  have:((λx:cu×Value=>x.1) ∘ λp:Str×Addr=>(Sum.inr p.1,Value.ref p.2))=(λx:Str=>(Sum.inr x:cu)) ∘ (λp:Str×Addr=>p.1):=rfl
  rw[this,<-fk];exact DQ _ (λx y h z=>h (C8 z)) hn
noncomputable def m6(kvs:List (Str×Addr))(x:Str):Option Addr:=(kvs.find? λp=>decide (p.1=x)).map (·.2)
def Ht(kvs:List (Str×Addr))(x:Str):valueAt (kvs.map λp=>((Sum.inr p.1:cu),Value.ref p.2)) (Sum.inr x)=(m6 kvs x).map Value.ref:=by
 unfold valueAt m6;induction kvs with
 |nil=>rfl
 |cons p r ih =>
  rw[bN,df,df];by_cases z:p.1=x
  ·rw[aU z,aU (show (Sum.inr p.1:cu)=Sum.inr x by rw[z])];rfl
  ·rw[bo z,bo (λy=>z (C8 y))];exact ih
def zd8(w:World)(K:Frag)(ty td:TE):TE:=λσ H Q=>ty σ H λy H1=>td σ H1 λx H2=>∃a kvs k,x=.ref a/\ox w K a kvs/\y=.str k/\Q (.bl (m6 kvs k).isSome) H2
def zeS(w:World)(K:Frag)(td ty:TE):TE:=λσ H Q=>td σ H λx H1=>ty σ H1 λy H2=>∃a kvs k b,x=.ref a/\ox w K a kvs/\y=.str k/\m6 kvs k=some b/\Q (.ref b) H2
def zeP(w:World)(K:Frag)(td ty:TE):TE:=λσ H Q=>td σ H λx H1=>∃a kvs,x=.ref a/\ox w K a kvs/\ty σ H1 λy H2=>∃k,y=.str k/\Q (match m6 kvs k with|some b=>.ref b|none=>.non) H2
section
variable{X:Cx}{o i e:Expr}{td ty:TE}{pos dY cD:Pos}
def zdW(hu:X.A.units+1<cLine)(hi:PE X i ty)(ho:PE X o td):PC X .In i o (zd8 X.w X.K ty td):=by
 intro ae s σ H Q I h;refine aO (hi ae s σ H _ I h) ?_;rintro iv s1 ⟨y,H1,I1,ry,q1⟩;refine aO (ho ae s1 σ H1 _ I1 q1) ?_;rintro u s2 ⟨x,H2,I2,rx,a,kvs,k,ex,D,ey,q2⟩;subst ex ey;obtain rfl:u=Value.ref a:=rx;obtain⟨t,rfl⟩:=ry;have dd:=D.2 X.prog _ I2.kIn;refine wpAny_in_of (sI X.prog X.w k t) D.1 dd.mapOf ?_;rw[Ht,A3];nomatch .bl _,H2,I2.tok _,rfl,q2
def zcc(hu:X.A.units+1<cLine)(ho:PE X o td)(hi:PE X i ty)(hs:Bv i):PE X (.Subscript o i pos) (zeS X.w X.K td ty):=by
 intro ae s σ H Q I h;refine MU PySem.F.slot_dict_getitem.lookup hs (aO (ho ae s σ H _ I h) ?_);rintro u s1 ⟨x,H1,I1,rx,q1⟩;refine aO (hi ae s1 σ H1 _ I1 q1) ?_;rintro iv s2 ⟨y,H2,I2,ry,a,kvs,k,b,ex,D,ey,hk,q2⟩;subst ex ey;obtain rfl:u=Value.ref a:=rx;obtain⟨t,rfl⟩:=ry;have dd:=D.2 X.prog _ I2.kIn;exists dd.typeIs,wpAny_getItem_of (sI X.prog X.w k t) dd.mapOf (by rw[Ht,hk];rfl) ⟨.ref b,H2,I2.tok _,rfl,q2⟩
def XW(hu:X.A.units+1<cLine)(ho:PE X o td)(he:PE X e ty)(m:M1 X o "get" dY e cD):PE X (.Call (.Attribute o "get" dY) [e] [] cD) (zeP X.w X.K td ty):=by
 intro ae s σ H Q I h;refine wpAny_Call_method m.base m.few m.line Kp wK P2 (aO (ho ae s σ H _ I h) ?_);rintro u s1 ⟨x,H1,I1,rx,a,kvs,ex,D,q1⟩;subst ex;obtain rfl:u=Value.ref a:=rx;have dd:=D.2 X.prog _ I1.kIn;exists dd.typeIs,λb q=>?_,?_
 ·cases q;obtain⟨ob,_,_,h1,h2,_⟩:=dd;nomatch ob,h1,h2.2.1
 rw[m.trees];refine AX rfl (Bi (BP (aO (he ae s1 σ H1 _ I1 q1) ?_)));rintro iv s2 ⟨y,H2,I2,ry,k,ey,q2⟩;refine HZ ?_;subst ey;obtain⟨t,rfl⟩:=ry;have oN:=D.2 X.prog _ I2.kIn;refine call_meetsIn wK oN.typeIs Fy (PySem.F.args_dict_get_2 _ _) (meets_dict_get (gi X.prog X.w) a (sI X.prog X.w k t) D.1) ⟨_,oN.mapOf,?_⟩;rw[Ht];cases hk:m6 kvs k with
 |none=>rw[hk]at q2;nomatch .non,H2,I2.tok _,rfl,q2
 |some b=>rw[hk]at q2;nomatch .ref b,H2,I2.tok _,rfl,q2
end
section
variable{X:Cx}{ae:List (Addr×Obj)}{σ:St}{H:Hp}{s:Shared}
set_option tactic.hygienic true in
def ZD(O:jh X)(ho:PE X.nox o ta)(c:lx X.K C)(hm:wU X.K C m f)(F:ja X.prog X.w X.K X.mg X.base (iR X.prog X.w) k f fd ps sp)(hr:cN k X.A)
  (hb:Binds X.K fd ps []) (ha:PA X.nox (e::es) t) (he:starEach (e::es) X.env=(false,eval e X.env)::starEach es X.env) (cX:(backTo pos (starEach es X.env)).any (·.1)=false)
  (ht:eval (.Call (.Attribute o m dY) (e :: es) [] pos) X.env=(do
   let ov <-eval o X.env
   standAt dY.atName
   let (f,first) <-holding [ov] (getMethod ov m pl)
   callWith pos f first (backTo pos (starEach (e::es) X.env)) (backToKw pos (keywordEach [] X.env))))
  (I:Inv X ae σ H s) (h:ta σ H λx H1=>∃a dx fs,x=.ref a/\H1 a=some (.ins C dx fs)/\fs.lookup m=none/\t σ H1 λvs H2=>sp (x::vs) H2 Q E) :
  wpAny (model X.prog X.w) X.A (eval (.Call (.Attribute o m dY) (e::es) [] pos) X.env) (EP X ae σ Q) (XP X ae σ E) s:=by
 refine O5 (pl:=pl) (dS (ho ae s σ H _ (I.wish _) h) (?_) λ_ _ z=>False.elim z) ht;rintro u s1 ⟨x,H1,I1,rx,a,dx,fs,ex,ea,l,q⟩;subst ex;obtain rfl:u=Value.ref a:=rx;refine OP I1.unwish ea c hm l ?_;refine DW (first:=[.ref a]) (h₀:=X.base) I.ok.mod.kin hm.kp (dS (ha pos ae s1 σ H1 _ I1 q) (?_) λ_ _ z=>False.elim z) he cX;rintro us s2 ⟨vs,H2,I2,r,q2⟩;exists I2.kIn,?_;have J:=I2.unwish;have r2:Vals (.ref a::vs) (.ref a::us):=.cons rfl r;have hl:(Value.ref a::us).length=ps.length:=by rw[<-r2.length];exact F.len _ _ _ _ q2
 have dv:BindsTo s2 fd ⟨Value.ref a::us,[]⟩ (ps.zip (Value.ref a::us)):=by
  have:=hb s2 (Value.ref a::us) J.kIn (by simp_all)
  rw[iD]at this;exact this
 refine Bp (rV (F.run X.A X.stack s2 H2 ⟨Value.ref a::us,[]⟩ (Value.ref a::us) (.ref a::vs) Q E hr J.env0 dv r2 q2) λr s' hq=>?_);cases r with
 |error e=>exact XP.of O J hq
 |ok fl =>
  cases fl with
  |ret u=>exact J.after hq
  |next=>exact False.elim hq
  |brk=>exact False.elim hq
  |cont=>exact False.elim hq
def Zf(K:Frag)(B C:Addr)(m:Str)(i j l:Nat)(sp:Sp)(ta:TE)(t:TA):TS:=λD σ H=>ta σ H λx H1=>∃a dx fs,x=.ref a/\H1 a=some (.ins C dx fs)/\fs.lookup m=none/\t σ H1 λvs H2=>sp (x::vs) H2 (λv H3=>D.nx (σ.set l (some v)) H3) (zeH K B i j D σ)
def Vc{pl:Sem Bool}{k:Nat}{f C:Addr}{fd:FuncData}{ps:List Str}{sp:Sp}{m:Str}{o:Expr}{ta:TE}{dY cD ep pos:Pos}{e:Expr}{es:List Expr}{t:TA}{B:Addr}{uN:List Value}{x n y v:Str}{i j l:Nat}{np py pn pa hp pv:Pos}
  (O:jh X) (ho:PE X.nox o ta) (c:lx X.K C) (hm:wU X.K C m f) (F:ja X.prog X.w X.K X.mg X.base (iR X.prog X.w) k f fd ps sp) (hr:cN k X.A) (hb:Binds X.K fd ps []) (ha:PA X.nox (e::es) t)
  (hN:X.N.Nodup) (hi:X.N[i]?=some n) (hj:X.N[j]?=some y) (hl:X.N[l]?=some v) (Ec:i≠j) (hmB:X.mg x=some (.ref B)) (eB:jK X.K B uN=true)
  (nc:∀x,X.env.cells.lookup x=none:=by exact λ_=>rfl) (hn:X.env.scope.names.lookup n=some .local:=by rfl) (hy:X.env.scope.names.lookup y=some .local:=by rfl) (hv:X.env.scope.names.lookup v=some .local:=by rfl) (We:Gl X x:=by rfl) (hd:(x == ("__debug__" : Str))=false:=by decide)
  (hd2:(n == ("__debug__" : Str))=false:=by decide) (Ed:(n == ("__classdict__" : Str))=false:=by decide) (wD:swapsWith (.Name n pn) (some (.Name y py)) pa.line X.env=pure false:=by rfl) (hs:swapsWith (.Call (.Attribute o m dY) (e::es) [] cD) (some (.Name v pv)) ep.line X.env=pure false:=by rfl)
  (he:starEach (e::es) X.env=(false,eval e X.env)::starEach es X.env:=by rfl) (cX:(backTo cD (starEach es X.env)).any (·.1)=false:=by rfl)
  (ht:eval (.Call (.Attribute o m dY) (e :: es) [] cD) X.env=(do
   let ov <-eval o X.env
   standAt dY.atName
   let (f,first) <-holding [ov] (getMethod ov m pl)
   callWith cD f first (backTo cD (starEach (e::es) X.env)) (backToKw cD (keywordEach [] X.env))):=by rfl) :
  PS X (.Try [.Assign [.Name v pv] (.Call (.Attribute o m dY) (e::es) [] cD) ep] [.ExceptHandler (some (.Name x np)) (some n) [.Assign [.Name y py] (.Name n pn) pa] hp] [] [] pos) (Zf X.K B C m i j l sp ta t):=by
 intro ae s σ H D I h;refine wpAny_Try_except (CY (wpAny_Assign_Name (dS (ZD O ho c hm F hr hb ha he cX ht I h) (λu s1 ⟨v',H1,I1,r,q⟩=>?_) λe' s1 z=>?_) hs))
 ·exact wW I1 hN hl (.inl hv) r (λs2 I2=>uR (uR ⟨_,H1,I2,q⟩)) (.inr hv)
 ·exact zbX O nc hN hi hj Ec hn hy We hmB eB hd hd2 Ed wD (λC H' z=>z) z
end
open PySem PySem.Spec PyProof.Rows
section
variable{prog:Program}{w:World}{A:Around}{E:Value->Shared->Prop}{s:Shared}
def PX(t:Addr):¬(Value.ref t == Value.none)=true:=c9
def zeu(hp:s.heap.IsTupleIter p t k)(ht:s.heap.IsTuple t ah)(hx:ah[k]?=some x)
  (q:∀g,g.IsTupleIter p t (k+1)->Heap.SameBut p s.heap g->Q x {s with heap:=g}):wpAny (model prog w) A (Builtin.SmallTypes.nextOf (.ref p)) Q E s:=by
 obtain⟨op,e1,e2,e3⟩:=id hp;obtain⟨ot,e4,_,nt,e5⟩:=ht;refine au (tm (name:=ofString "__next__") hp.typeIs AE (l8 AE hp.typeIs Oo ?_ (Mf _)));show wpAny _ _ (field (.ref p) 0 >>= _) _ _ s;refine au (jb e1 e3 (x:=.ref t) rfl ?_);rw[av (PX t)];refine au (jb e1 e3 (x:=.int k 0) rfl ?_);refine au (lJ e4 e5 ?_);simp only[oM,hx];refine au (wpAny_setField e1 e3 tS (aJ ⟨x,rfl,aJ (q _ ⟨_,xI _ e1 (Obj.isFreed_of_fields (Qq e3 _)),(Obj.cls_mapFields ..).trans e2,?_⟩ (Fn ..))⟩));rw[Qq e3];simp[rawInt]
def zbI(hh:A.handled=none)(hp:s.heap.IsTupleIter p t k)(ht:s.heap.IsTuple t ah)(hx:ah[k]?=none)
  (q:∀g e,Heap.ExtBut p s.heap g->(∃o,g.get? e=some o/\o.cls=.type "StopIteration")->E (.ref e) {s with heap:=g}):wpAny (model prog w) A (Builtin.SmallTypes.nextOf (.ref p)) Q E s:=by
 obtain⟨op,e1,e2,e3⟩:=id hp;obtain⟨ot,e4,_,nt,e5⟩:=ht;refine au (tm (name:=ofString "__next__") hp.typeIs AE (l8 AE hp.typeIs Oo ?_ (Mf _)));show wpAny _ _ (field (.ref p) 0 >>= _) _ _ s;refine au (jb e1 e3 (x:=.ref t) rfl ?_);rw[av (PX t)];refine au (jb e1 e3 (x:=.int k 0) rfl ?_);refine au (lJ e4 e5 ?_);simp only[oM,hx];refine au (qM (au (wpAny_setField e1 e3 tS ?_)));refine au ?_;simp only[newExc,newTuple];refine au (lD ?_ (by size_fits));refine au (m:=firstArgMember _ _) (yk (a:=Value.none) (by first|rfl|(simp only[firstArgMember];rfl)) ?_);refine lD ?_ (by size_fits);simp only[raiseNew];refine au (wpAny_handled ?_);first|rw[show A.in1.handled=none from hh]|rw[hh]
 exact au (aJ (wpAny_throw (q _ _ (((Fn ..).extBut.push _).push _) ⟨_,da _ rfl,rfl⟩)))
def zbs{z TI TO p r t l:Addr}{k:Nat}{xs ys:Array Value}{x y a b:Value}{Q:Value->Shared->Prop}(D:ZipApart z TI TO p r t l)
  (hz:IsZip s.heap z TI TO .none) (hI:IsPair s.heap TI (.ref p) (.ref r)) (hO:IsPair s.heap TO a b) (h1:s.heap.IsTupleIter p t k) (h2:s.heap.IsListIter r l k) (ht:s.heap.IsTuple t xs) (hl:s.heap.IsList l ys) (hx:xs[k]?=some x) (hy:ys[k]?=some y)
  (q:∀ g,IsZip g z TI TO (rawInt s.heap.objs.size)->IsPair g TO x y->g.IsTupleIter p t (k+1)->g.IsListIter r l (k+1)->IsPair g s.heap.objs.size x y -> (∀c o,c≠z->c≠TO->c≠p->c≠r->s.heap.get? c=some o->g.get? c=some o)->Q (.ref s.heap.objs.size) {s with heap:=g}) :
  wpAny (model prog w) A (Builtin.«zip.__next__» ⟨[.ref z],[]⟩) (λfin s'=>∃v,fin=.done (.ret v)/\Q v s') E s:=by
 show wpAny _ _ (field (.ref z) 2 >>= _) _ _ _;refine au (jb hz rfl (x:=.bool false) rfl ?_);refine au (jb hz rfl (x:=.ref TI) rfl (au (lJ hI rfl ?_)));refine au ?_;refine au (jb hz rfl (x:=.none) rfl (aJ ?_));simp only[iI];refine au (qM (au (jb hz rfl (x:=.ref TO) rfl (au (pb hz tS λg1 iJ b1=>?_)))))
 replace iJ:IsZip g1 z TI TO .ellipsis:=iJ
 refine au ?_;simp only[JE,RQ,tF,DU];refine au (au (zD ?_));refine au (zeu (h1.extBut b1.extBut D.i1z) (ht.extBut b1.extBut D.l1z) hx λg2 p2 b2=>aJ ?_);have o2:=b2.extBut _ _ D.TOi1 (b1.extBut _ _ D.TOz hO);refine au (lJ o2 rfl (au (wpAny_updateSeq_pair o2 λg3 o3 b3=>?_)))
 replace o3:IsPair g3 TO x b:=o3
 refine au (sL (aJ (au (au (zD ?_)))));refine au (wpAny_nextOf_list_item (((h2.extBut b1.extBut D.i2z).extBut b2.extBut D.i12.symm).extBut b3.extBut D.TOi2.symm) (((hl.extBut b1.extBut D.l2z).extBut b2.extBut D.l2i1).extBut b3.extBut D.l2TO) hy λg4 r4 b4=>aJ ?_);have o4:=b4.extBut _ _ D.TOi2 o3;refine au (lJ o4 rfl (au (wpAny_updateSeq_pair o4 λg5 o5 b5=>?_)))
 replace o5:IsPair g5 TO x y:=o5
 refine au (sL (aJ (aJ (au (lJ o5 rfl (au (wpAny_newTuple ?_)))))));have n5:g5.objs.size=s.heap.objs.size:=by rw[b5.1,b4.1,b3.1,b2.1,b1.1]
 have z5:=b5.extBut _ _ D.TOz.symm (b4.extBut _ _ D.i2z.symm (b3.extBut _ _ D.TOz.symm (b2.extBut _ _ D.i1z.symm iJ)));have k5:∀c o,c≠z->c≠TO->c≠p->c≠r->s.heap.get? c=some o->g5.get? c=some o:=λc o c1 c2 c3 c4 e=>b5.extBut _ _ c2 (b4.extBut _ _ c4 (b3.extBut _ _ c2 (b2.extBut _ _ c3 (b1.extBut _ _ c1 e))))
 have p5:=((p2.extBut b3.extBut D.TOi1.symm).extBut b4.extBut D.i12).extBut b5.extBut D.TOi1.symm;have r5:=r4.extBut b5.extBut D.TOi2.symm;have lz:=bg z5;refine au ?_;have z6:IsZip (g5.push {cls:=.type "tuple",data:=.seq #[x,y]}) z TI TO .ellipsis:=cq _ z5;refine au (pb z6 tS λg7 z7 b7=>?_)
 replace z7:IsZip g7 z TI TO (rawInt g5.objs.size):=z7
 refine pb z7 tS λg8 z8 b8=>?_
 replace z8:IsZip g8 z TI TO (rawInt g5.objs.size):=z8
 have up:∀c o,c≠z->g5.get? c=some o->g8.get? c=some o:=λc o c1 e=>b8.extBut _ _ c1 (b7.extBut _ _ c1 (cq _ e))
 have T8:=b8.extBut _ _ (qH lz) (b7.extBut _ _ (qH lz) (da _ rfl));rw[n5]at z8 T8;refine aJ ⟨_,rfl,?_⟩;rw[n5];refine q g8 z8 (up _ _ D.TOz o5) ?_ (r5.at λo e=>up _ o D.i2z e) T8 λc o c1 c2 c3 c4 e=>up c o c1 (k5 c o c1 c2 c3 c4 e)
 obtain⟨o,e,rest⟩:=p5;nomatch o,up _ o D.i1z e,rest
def YN{z TI TO p r t l:Addr}{k:Nat}{xs:Array Value}{a b:Value}{Q:Fin->Shared->Prop}(hh:A.handled=none)(D:ZipApart z TI TO p r t l)
  (hz:IsZip s.heap z TI TO .none) (hI:IsPair s.heap TI (.ref p) (.ref r)) (hO:IsPair s.heap TO a b) (h1:s.heap.IsTupleIter p t k) (ht:s.heap.IsTuple t xs) (hx:xs[k]?=none)
  (q:∀g e,(∀c o,c≠z->c≠TO->c≠p->c≠r->s.heap.get? c=some o->g.get? c=some o)->(∃o,g.get? e=some o/\o.cls=.type "StopIteration")->E (.ref e) {s with heap:=g}) :
  wpAny (model prog w) A (Builtin.«zip.__next__» ⟨[.ref z],[]⟩) Q E s:=by
 show wpAny _ _ (field (.ref z) 2 >>= _) _ _ _;refine au (jb hz rfl (x:=.bool false) rfl ?_);refine au (jb hz rfl (x:=.ref TI) rfl (au (lJ hI rfl ?_)));refine au ?_;refine au (jb hz rfl (x:=.none) rfl (aJ ?_));simp only[iI];refine au (qM (au (jb hz rfl (x:=.ref TO) rfl (au (pb hz tS λg1 iJ b1=>?_)))))
 replace iJ:IsZip g1 z TI TO .ellipsis:=iJ
 refine au ?_;simp only[JE,RQ,tF,DU];refine au (au (zD ?_));refine au (zbI hh (h1.extBut b1.extBut D.i1z) (ht.extBut b1.extBut D.l1z) hx λg2 e b2 he=>?_);obtain⟨oe,e1,e2⟩:=he;have z2:=b2 _ _ D.i1z.symm iJ;have ne:e≠z:=λw=>by lia
 exact pb z2 tS λg3 _ b3=>q g3 e (λc o c1 _ c3 _ w=>b3.extBut _ _ c1 (b2 _ _ c3 (b1.extBut _ _ c1 w))) ⟨oe,b3.extBut _ _ ne e1,e2⟩
noncomputable abbrev AR(h:Heap)(t:Addr):Heap:=h.push {cls:=.type "tuple_iterator",data:=.fields #[.ref t,.int 0 0]}
abbrev AL(h:Heap)(t l:Addr):Heap:=(AR h t).push {cls:=.type "list_iterator",data:=.fields #[.ref l,.int 0 0]}
abbrev yp(h:Heap)(t l:Addr):Heap:=(AL h t l).push {cls:=.type "tuple",data:=.seq #[.ref h.objs.size,.ref (AR h t).objs.size]}
abbrev yS(h:Heap)(t l:Addr):Heap:=(yp h t l).push {cls:=.type "tuple",data:=.seq #[.none,.none]}
abbrev tj(h:Heap)(t l:Addr):Heap:=(yS h t l).push {cls:=.type "zip",data:=.fields #[.none,.bool false,.bool false,.ref (AL h t l).objs.size,.ref (yp h t l).objs.size]}
def zcE(t l:Addr)(xs ys:Array Value):Meets (Builtin.«zip.__new__» ⟨[.type "zip",.ref t,.ref l],[]⟩) (λ_ R s=>s.heap.IsTuple t xs/\s.heap.IsList l ys/\R (.ok (.ret (.ref (yS s.heap t l).objs.size))) {s with heap:=tj s.heap t l}) :=
 .of_wp λprog w A R s h=>by
  obtain⟨hp,g,d,tk,os⟩:=s;obtain⟨h1,h2,h3⟩:=h;have qP:=sub_zip;have a1:=h1;have a2:Heap.IsList (Shared.heap ⟨hp.push {cls:=.type "tuple_iterator",data:=.fields #[.ref t,.int 0 0]},g,d,tk,os⟩) l ys:=jh2 h2 _
  wp_walk using wpAny_pyIter_tuple a1,qB a2
  nomatch _,rfl,h3
def zcf(h1:s.heap.IsTuple t xs)(h2:s.heap.IsList l ys)
  (q:∀ g,IsZip g (s.heap.objs.size+4) (s.heap.objs.size+2) (s.heap.objs.size+3) .none->IsPair g (s.heap.objs.size+2) (.ref s.heap.objs.size) (.ref (s.heap.objs.size+1))->IsPair g (s.heap.objs.size+3) .none .none->g.IsTupleIter s.heap.objs.size t 0->g.IsListIter (s.heap.objs.size+1) l 0 -> (∀c o,s.heap.get? c=some o->g.get? c=some o)->Q (.ref (s.heap.objs.size+4)) {s with heap:=g}):wpAny (model prog w) A (call (.type "zip") [.ref t,.ref l]) Q E s:=by
 refine callType_new F.called_zip tD (F.typeCall_zip_2 _ _) (F.newCall_zip_2 _ _) (λobj=>F.args_object_init_3 obj _ _) F.entry_zip_new (zcE t l xs ys) ⟨h1,h2,?_⟩;have n1:(AR s.heap t).objs.size=s.heap.objs.size+1:=kB ..;have n2:(AL s.heap t l).objs.size=s.heap.objs.size+2:=by rw[kB,n1]
 have n3:(yp s.heap t l).objs.size=s.heap.objs.size+3:=by rw[kB,n2]
 have n4:(yS s.heap t l).objs.size=s.heap.objs.size+4:=by rw[kB,n3]
 have u:∀{h:Heap}{o:Obj}{c:Addr}{v:Obj},h.get? c=some v->(h.push o).get? c=some v:=λe=>cq _ e
 have m5:(tj s.heap t l).get? (yS s.heap t l).objs.size=some _:=da _ rfl;have m4:(tj s.heap t l).get? (yp s.heap t l).objs.size=some _:=u (da _ rfl);have m3:(tj s.heap t l).get? (AL s.heap t l).objs.size=some _:=u (u (da _ rfl));have m2:(tj s.heap t l).get? (AR s.heap t).objs.size=some _:=u (u (u (da _ rfl)));have m1:(tj s.heap t l).get? s.heap.objs.size=some _:=u (u (u (u (da _ rfl))));rw[n2,n3,n4]at m5;rw[n1,n2]at m3;rw[n3]at m4;rw[n1]at m2;rw[n4];nomatch ⟨_,m5,rfl⟩,q _ m5 m3 m4 ⟨_,m1,rfl,rfl⟩ ⟨_,m2,rfl,rfl⟩ λc o e=>u (u (u (u (u e))))
def VH{z TI TO p r t l:Addr}{k:Nat}{xs ys:Array Value}{x y a b:Value}{Q:Option Value->Shared->Prop}(D:ZipApart z TI TO p r t l)
  (hz:IsZip s.heap z TI TO .none) (hI:IsPair s.heap TI (.ref p) (.ref r)) (hO:IsPair s.heap TO a b) (h1:s.heap.IsTupleIter p t k) (h2:s.heap.IsListIter r l k) (ht:s.heap.IsTuple t xs) (hl:s.heap.IsList l ys) (hx:xs[k]?=some x) (hy:ys[k]?=some y)
  (q:∀ g,IsZip g z TI TO (rawInt s.heap.objs.size)->IsPair g TO x y->g.IsTupleIter p t (k+1)->g.IsListIter r l (k+1)->IsPair g s.heap.objs.size x y -> (∀c o,c≠z->c≠TO->c≠p->c≠r->s.heap.get? c=some o->g.get? c=some o)->Q (some (.ref s.heap.objs.size)) {s with heap:=g}):wpAny (model prog w) A (pyNext (.ref z)) Q E s:=by
 have hT:s.TypeIs (.ref z) "zip" := ⟨_,hz,rfl⟩;exact au (GG (tm (name:=ofString "__next__") hT Be (l8 Be hT Jx (zbs D hz hI hO h1 h2 ht hl hx hy λg a1 a2 a3 a4 a5 a6=>aJ (q g a1 a2 a3 a4 a5 a6)) (Mt _))))
def zdN{z TI TO p r t l:Addr}{k:Nat}{xs:Array Value}{a b:Value}{Q:Option Value->Shared->Prop}(hh:A.handled=none)(D:ZipApart z TI TO p r t l)
  (hz:IsZip s.heap z TI TO .none) (hI:IsPair s.heap TI (.ref p) (.ref r)) (hO:IsPair s.heap TO a b) (h1:s.heap.IsTupleIter p t k) (ht:s.heap.IsTuple t xs) (hx:xs[k]?=none)
  (q:∀g,(∀c o,c≠z->c≠TO->c≠p->c≠r->s.heap.get? c=some o->g.get? c=some o)->Q none {s with heap:=g}):wpAny (model prog w) A (pyNext (.ref z)) Q E s:=by
 have hT:s.TypeIs (.ref z) "zip" := ⟨_,hz,rfl⟩;refine au (GG (tm (name:=ofString "__next__") hT Be (l8 Be hT Jx (YN hh D hz hI hO h1 ht hx λg e hk he=>?_) (Mt _))));obtain⟨o,ho,hc⟩:=he;exact au (yW (T := "StopIteration") (b:=true) ⟨o,ho,hc⟩ isSubtype_stop (aJ (q _ hk)))
end
def vg(K:Frag)(a b:Addr):It :=
 ⟨λi H=>∃xs ys x y,az K H a xs/\aj K H b ys/\xs[i]?=some x/\ys[i]?=some y,λi H v H'=>∃T x y,H T=none/\v=.ref T/\H'=upd H T (.tup [x,y])/\(∀xs,az K H a xs->xs[i]?=some x)/\∀ys,aj K H b ys->ys[i]?=some y,λi H=>∃xs,az K H a xs/\xs.length<=i⟩
def zdp{P:Program}{w:World}{K:Frag}{elts:List Expr}{x1:Nat}{pos:Pos}(a b z TI TO i1 i2:Addr)(D:ZipApart z TI TO i1 i2 a b) :
  nB P w K (.Tuple elts x1 pos) (vg K a b) [z,TI,TO,i1,i2] z (λi h=>IsZip h z TI TO .none/\IsPair h TI (.ref i1) (.ref i2)/\(∃u v,IsPair h TO u v)/\h.IsTupleIter i1 a i/\h.IsListIter i2 b i) where
 mem:=by simp
 obj:=λi h st c hc=>by
  obtain⟨hz,fm,⟨u,v,fK⟩,⟨o1,e1,c1,d1⟩,⟨o2,e2,c2,d2⟩⟩:=st;simp only[bC,jU,jW]at hc;rcases hc with rfl|rfl|rfl|rfl|rfl
  ·exact⟨_,hz,λv z=>by cases z⟩
  ·exact⟨_,fm,λv z=>by cases z⟩
  ·exact⟨_,fK,λv z=>by cases z⟩
  ·exact⟨o1,e1,λv z=>by simp_all⟩
  ·exact⟨o2,e2,λv z=>by simp_all⟩
 keep:=λi h h' st k=>by
  obtain⟨hz,fm,⟨u,v,fK⟩,h1,h2⟩:=st;nomatch k z tS _ hz,k TI tS _ fm,⟨u,v,k TO tS _ fK⟩,h1.at λo q=>k i1 tS o q,h2.at λo q=>k i2 tS o q
 item:=by
  intro X hP hw hK hc i ae s σ H E I hf st hg;subst hP hw hK;obtain⟨hz,fm,⟨u,v,fK⟩,h1,h2⟩:=st;obtain⟨xs,ys,x,y,hq,fF,hx,hy⟩:=hg;obtain⟨ah,rv,p,hsz⟩:=I.tuple hq;obtain⟨its',ye,p',RU⟩:=I.list fF;obtain⟨ux,hu,ru⟩:=rv.get hx;obtain⟨uy,Cq,vO⟩:=ye.get hy;refine VH D hz fm fK h1 h2 (show s.heap.IsTuple a ah.toArray from p) p'.isList (x:=ux) (y:=uy) (by simpa using hu) (by simpa using Cq) λbJ iJ IK C2 wV hT k1=>⟨_,rfl,?_⟩
  refine SU iJ λd9 jQ sb=>?_
  have lz:=bg hz;have Fo:=qH lz;have kk:∀c o,c∉[z,TI,TO,i1,i2]->s.heap.get? c=some o->d9.get? c=some o:=λc o hc q=>by
   simp only[bC,jU,jW,not_or]at hc;exact (sb.2 c hc.1).trans (k1 c o hc.1 hc.2.2.1 hc.2.2.2.1 hc.2.2.2.2 q)
  have bF:=(sb.2 _ Fo).trans hT;have Ho:=(sb.2 _ D.TIz).trans (k1 _ _ D.TIz D.TITO D.TIi1 D.TIi2 fm);exists .ref s.heap.objs.size,upd H s.heap.objs.size (.tup [x,y]),I.turnedL (t':=s.toks) _ kk hf (aT _) ⟨by show 2<=sizeLine;decide,[ux,uy],.cons ru (.cons vO .nil),?_⟩,rfl,⟨_,x,y,I.hok.fresh (aT _),rfl,rfl,λzs h=>by rw[I.tuple_inj h hq];exact hx,λzs h=>by rw[I.list_inj h fF];exact hy⟩,⟨jQ,Ho,⟨ux,uy,(sb.2 _ D.TOz).trans IK⟩,?_,?_⟩,λc hc=>?_
  ·nomatch _,bF,rfl,0,rfl
  ·exact C2.at λo q=>(sb.2 _ D.i1z).trans q
  ·exact wV.at λo q=>(sb.2 _ D.i2z).trans q
  ·have fG:c<s.heap.objs.size:=by
    simp only[bC,jU,jW]at hc;rcases hc with rfl|rfl|rfl|rfl|rfl
    ·exact lz
    ·exact bg fm
    ·exact bg fK
    ·obtain⟨o,q,_⟩:=h1;exact bg q
    ·obtain⟨o,q,_⟩:=h2;exact bg q
   rw[aS (dy fG)];exact (hf c hc).1
 done:=by
  intro X hP hw hK hc i ae s σ H E I hf st hg;subst hP hw hK;obtain⟨hz,fm,⟨u,v,fK⟩,h1,h2⟩:=st;obtain⟨xs,hq,hx⟩:=hg;obtain⟨ah,rv,p,hsz⟩:=I.tuple hq;have hl:=rv.length;refine zdN (I.ok.hd hc) D hz fm fK h1 (show s.heap.IsTuple a ah.toArray from p) (by simp;lia) λh' kk=>⟨rfl,I.turnedN (t':=s.toks) [z,TI,TO,i1,i2] (λc o hc q=>?_) hf⟩
  simp only[bC,jU,jW,not_or]at hc;exact kk c o hc.1 hc.2.2.1 hc.2.2.2.1 hc.2.2.2.2 q
 self:=λ_ _ _ _ _ st h=>BA st.1 h
def zay(K:Frag)(ta:TA):TI:=λσ H R=>ta σ H λvs H1=>∃a b,vs=[.ref a,.ref b]/\(∃xs,az K H1 a xs)/\(∃ys,aj K H1 b ys)/\R (vg K a b) H1
def zdi{X:Cx}{elts:List Expr}{x1:Nat}{p0 p pos:Pos}{a b:Expr}{ta:TA}(hg:Gl X "zip")(hm:X.mg "zip" = none)(ha:PA X [a,b] ta)(hs:starEach [a,b] X.env=(false,eval a X.env)::starEach [b] X.env:=by rfl)(kz:(backTo pos (starEach [b] X.env)).any (·.1)=false:=by rfl) :
  PI X (.Tuple elts x1 p0) (.Call (.Name "zip" p) [a,b] [] pos) (zay X.K ta):=by
 intro ae s σ H R I h;refine Call_ (qq I hg hm Ts (tY (aO (ha pos ae s σ H _ I h) ?_) hs kz));rintro us s1 ⟨vs,H1,I1,r1,q1⟩;obtain⟨l1,l2,rfl,⟨xs,hq⟩,⟨ys,fF⟩,q⟩:=q1;obtain⟨u,v,rfl,ru,rv⟩:=xg r1;cases (show u=Value.ref l1 from ru);cases (show v=Value.ref l2 from rv);obtain⟨ah,rx,p,hz⟩:=I1.tuple hq;obtain⟨its',UL,p',Gn⟩:=I1.list fF;have n1:l1<s1.heap.objs.size:=by obtain⟨o,q,_⟩:=p;exact bg q
 have n2:l2<s1.heap.objs.size:=by obtain⟨o,q,_⟩:=p'.isList;exact bg q
 refine zcf (show s1.heap.IsTuple l1 ah.toArray from p) p'.isList λh' hz fm fK h1 h2 k=>BA hz ?_
 have I2:=I1.kept (t':=s1.toks) k;exists _,_,_,_,H1,rfl,I2,zdp l1 l2 _ _ _ _ _ (zipApart_new n1 n2),⟨hz,fm,⟨_,_,fK⟩,h1,h2⟩,λc hc=>?_,q;have fr:∀c,s1.heap.objs.size<=c->ij X ae H1 c:=λc hc=>I1.fpOk hc (I1.hok.fresh hc)
 simp only[bC,jU,jW]at hc;rcases hc with rfl|rfl|rfl|rfl|rfl<;>exact fr _ tL
def zcN{K:Frag}{a b:Addr}{xs ys:List V}{g:TG}{tc:TT}{te:TE}{σ:St}{H:Hp}{R:List V->Hp->Addr->Prop}(Fs:xs.length=ys.length)(Pv:Nat->List V->St->Hp->Prop)(h0:Pv 0 [] σ H)
  (hl:∀i zs σ H,i<=xs.length->Pv i zs σ H->az K H a xs/\aj K H b ys/\zs.length<=i) (hz:xs.length<=sizeLine)
  (hs:∀i x y zs σ H T,xs[i]?=some x->ys[i]?=some y->Pv i zs σ H->H T=none->g (.ref T) σ (upd H T (.tup [x,y])) λσ2 H2=>tc σ2 H2 λb H3=>if b=true then te σ2 H3 λy H4=>Pv (i+1) (zs++[y]) σ2 H4 else Pv (i+1) zs σ2 H3)
  (hd:∀zs σ H,Pv xs.length zs σ H->∀D,H D=none->R zs H D) :
  ∃W:Nat->Nat->List V->St->Hp->Prop,(∃m,W 0 m [] σ H)/\∀i m zs σ H,W i m zs σ H ->
   ((vg K a b).stop i H/\∀D,H D=none->R zs H D) \/
   ((vg K a b).go i H/\zs.length<sizeLine/\∃ N:List V->St->Hp->Prop,(∀ ve σ' H',N ve σ' H'->∃ m',m'<m/\W (i+1) m' ve σ' H') /\ ∀x H',(vg K a b).yld i H x H'->g x σ H' λσ2 H2=>tc σ2 H2 λb H3=>if b=true then te σ2 H3 λy H4=>N (zs++[y]) σ2 H4 else N zs σ2 H3):=by
 exists λi m zs σ H=>m=xs.length-i/\i<=xs.length/\Pv i zs σ H,⟨xs.length,tS,bM _,h0⟩,?_;rintro i m zs σ H ⟨rfl,hi,p⟩;obtain⟨q1,q2,q3⟩:=hl i zs σ H hi p;by_cases ba:i<xs.length
 ·have IP:i<ys.length:=by lia
  refine .inr ⟨⟨xs,ys,xs[i],ys[i],q1,q2,by simp[ba],by simp[IP]⟩,tL,Pv (i+1),λdJ σ' H' p'=>⟨xs.length-(i+1),tL,rfl,ba,p'⟩,λx H' y=>?_⟩;obtain⟨T,u,v,hT,rfl,rfl,y1,y2⟩:=y;exact hs i u v zs σ _ T (y1 xs q1) (y2 ys q2) p hT
 ·have e:i=xs.length:=by lia
  subst e;exact .inl ⟨⟨xs,q1,aT _⟩,hd zs σ H p⟩
open PySem PySem.Spec PyProof.Rows
section
variable{X:Cx}
def Qi(m:Int)(ns:List Int):Prop:=m∈ns/\∀n∈ns,n<=m
def Um(hi:IntsAre us ns)(jE:us.toArray=intItems xs)(cx:0<xs.size)(hP:(intItems xs)[argBest (λi j=>decide (numAt xs i>numAt xs j)) (xs.size-1)]?=some v) :
  ∃m t,v=.int m t/\Qi m ns:=by
 obtain⟨t,rfl⟩:=intItems_at hP;exists _,t,rfl,?_,λn hn=>?_
 all_goals
  have hs:xs.toList.map (·.1)=ns:=by
   rw[<-nums_intItems,<-jE];exact (show numsOf us.toArray.toList=ns from hi.numsOf)
  obtain⟨b1,b2⟩:=argBest_gt (numAt xs) (xs.size-1);have kr:∀j,j<xs.size->ns[j]?=some (numAt xs j):=λj hj=>by
   rw[<-hs,cQ];unfold numAt;rw[DP,Dr hj];rfl
 ·exact cM (kr _ tO)
 ·obtain⟨j,hj⟩:=QM hn;have ki:j<xs.size:=by
   have:=(dO.mp hj).1
   rw[<-hs,ax,gL]at this;exact this
  rw[kr j ki]at hj;cases hj;exact b2 j tL
def WV(hc:X.calm=true):gx X (.builtin "max") (λxs H Q=>∃(a:Addr) (ns:List Int),xs=[.ref a]/\aj X.K H a (ns.map V.int)/\0<ns.length/\∀m,Qi m ns->Q (.int m) H):=by
 intro ae s σ H xs us Q I r h;obtain⟨a,ns,rfl,hq,cx,q⟩:=h;obtain⟨u,rfl,ru⟩:=gO r;cases (show u=Value.ref a from ru);obtain⟨ah,rv,p,hz⟩:=I.list hq;have hi:=uH rv;obtain⟨zs,jE⟩:=hi.allInts.items;have hsz:0<zs.size:=by
  have h1:=rv.length;rw[ax]at h1;have h2:ah.toArray.size=zs.size:=by rw[jE];simp[intItems]
  rw[fz]at h2;lia
 refine max_intList (I.ok.hd hc) (jE ▸ p.isList) hsz λv h' tk hP hk=>?_
 obtain⟨m,t,rfl,hm⟩:=Um hi jE hsz hP;nomatch .int m,H,I.kept (t':=tk) hk,⟨t,rfl⟩,q m hm
end
open PySem PySem.Spec PyProof.Rows
section
variable{X:Cx}
def zcX(i j:Int):Prop:=0<=j/\(intBits i:Int)*j<=2^27
def zdz:bV X (binaryOp .Pow) (rI zcX λi j=>.int (i^j.toNat)):=sP λ_ _ _ _ _ _ _ hc q=>pow_int hc.1 hc.2 q
def zbf(hc:X.calm=true):gx X (.builtin "any") (λxs H Q=>∃(a:Addr) (bs:List Bool),xs=[.ref a]/\aj X.K H a (bs.map V.bl)/\Q (.bl (bs.any id)) H):=by
 intro ae s σ H xs us Q I r h;obtain⟨a,bs,rfl,hq,q⟩:=h;obtain⟨u,rfl,ru⟩:=gO r;cases (show u=Value.ref a from ru);obtain⟨ah,rv,p,hz⟩:=I.list hq;have hl:=p.isList;have ba:a<s.heap.objs.size:=by obtain⟨_,e,_⟩:=hl;exact bg e
 refine call_any_walk (qB hl ?_);refine⟨s.heap.objs.size,[s.heap.objs.size,a],[s.heap.objs.size],ah.toArray.size,_,_,λi=>(bs[i]?).getD false,rfl,Bt (A:=X.A.in1) (I.ok.hd hc) _ a (dy ba) ah.toArray,⟨⟨_,da _ rfl,rfl,rfl⟩,hl.push _⟩,λi v s' Q' E' hP hQ=>?_,λh' tk hk=>?_⟩
 ·obtain⟨b,e,rfl⟩:=C1 rv i v (by simpa using hP);simp only[e,B3]at hQ;exact kA hQ
 ·have e:((List.range ah.toArray.size).any λi=>(bs[i]?).getD false)=bs.any id:=by
   have h1:=rv.length;rw[ax]at h1;rw[fz,<-h1,rH,vF,vF];constructor
   ·rintro⟨i,hi,z⟩;have gY:=ji.mp hi;simp only[d4 gY,B3]at z;nomatch _,jT gY,z
   ·rintro⟨b,hb,z⟩;obtain⟨i,hi,rfl⟩:=zH hb;exact⟨i,ji.mpr hi,by simpa [d4 hi] using z⟩
  rw[e];exists .bl (bs.any id),H,I.kept (t':=tk) (λb o e=>hk b o (λhm=>?_) (cq _ e)),rfl,q;rw[bw.mp hm]at e;exact kS _ (bg e)
def ZY:gT X "list.index" (λx vs H Q=>∃(l:Addr) (xs:List V) (y:V) (j:Nat),x=.ref l/\vs=[y]/\H l=some (.lst xs)/\lM y=true/\xs.all lM=true/\(∃z,xs[j]?=some z/\jC z y=true)/\(∀m z,m<j->xs[m]?=some z->jC z y=false)/\Q (.int (j:Int)) H):=by
 intro ae s σ H x vs v us Q I rx rv h;obtain⟨l,xs,y,j,rfl,rfl,hH,fy,fs,⟨z,hz,ez⟩,mI,q⟩:=h;cases rx;obtain⟨u,rfl,ru⟩:=rv.one;obtain⟨sz,ah,n,r,e⟩:=(show dq X.prog X.w H s.heap l (.lst xs) from I.hok l _ hH);have hn:=r.length;have hj:=(dO.mp hz).1;have at_:∀m (hm:m<ah.length) w,xs[m]?=some w->jX y ah[m]=jC w y:=λm hm w hw=>by
  obtain⟨u',Cq,vO⟩:=r.get hw
  have:ah[m]=u':=by simp_all
  rw[this];exact IF vO (fN.mp fs w (cM hw))
 have ki:(j:Int)<2^63-1:=by
  have:j<sizeLine:=cS hj sz
  have h2:(sizeLine:Nat)<2^62:=by decide
  lia
 refine nH RH ⟨_,e,rfl⟩ RB (Pf _ _)
  (Mc l ah.toArray n none #[] u (jX y) j (by simp_all) ki ?_ ?_) ⟨e,λw hw=>zI ru fy r fs w (by simpa using hw),⟨.int _,H,I.tok _,⟨_,rfl⟩,q⟩⟩
 ·show jX y ah[j]=true;rw[at_ j tO z hz];exact ez
 ·intro m hm ba;have pR:m<xs.length:=by lia
  show jX y ah[m]=false;rw[at_ m (by assumption) _ (d4 pR)];exact mI m _ ba (d4 pR)
end
end L2
namespace My
open PySem L2 OF
noncomputable def nS:List Nat:=[97,98,99,100,101,102,103,104,105,106,107,108,109,110,111,112,113,114,115,116,117,118,119,120,121,122]
def N1:("abcdefghijklmnopqrstuvwxyz" : Str)=S nS:=by decide+kernel
def zag:∀c:Nat,c<128->(!(Builtin.Str.occurrences (S nS) (S [c]) 0 (S nS).length 1).isEmpty)=decide (97<=c/\c<123):=by decide+kernel
def Vq:∀c:Nat,c<128->(!(Builtin.Str.occurrences (S kW) (S [c]) 0 (S kW).length 1).isEmpty)=decide (48<=c/\c<58):=by decide+kernel
noncomputable def bf(w:List Nat):Bool:=decide (1<=w.length)&&(decide (w.length<=8)&&w.all λc=>decide (97<=c/\c<123))
noncomputable def fP(w:List Nat):Bool:=if w.head?=some 48 then decide (w=[48])else decide (1<=w.length)&&(decide (w.length<=18)&&w.all λc=>decide (48<=c/\c<58))
inductive Kd where
 |name|letter|bit|number|divisor
noncomputable def Kd.s:Kd->Str
 |.name => "name" |.letter => "letter" |.bit => "bit" |.number => "number" |.divisor => "divisor"
def eE:Kd->List Nat->Bool
 |.name,w=>bf w
 |.letter,w=>decide (w.length=1)&&w.all λc=>decide (97<=c/\c<113)
 |.bit,w=>decide (w=[48]) || decide (w=[49])
 |.number,w=>fP w
 |.divisor,w=>fP w && !decide (w=[48])
def tq:Kd->List Nat->V
 |.name,w=>.str (S w)
 |.letter,w=>.int (Txt.find (S oj) (S w))
 |_,w=>.int ((digitsVal w:Nat):Int)
def tW(ks:List Kd)(ws:List (List Nat)):Option (List V) :=
 if ks.length=ws.length/\(ks.zip ws).all (λp=>eE p.1 p.2)=true then some ((ks.zip ws).map λp=>tq p.1 p.2)else none
def o8(ks:Option (List Kd))(ws:List (List Nat)):Option (List V):=match ks with|none=>none|some l=>tW l ws
def Ig(K:Frag)(kv:V):Option (List Kd)->Prop
 |none=>kv=.non
 |some l=>∃a,kv=.ref a/\l.length<=100/\∀G:Hp,az K G a (l.map λk=>V.str k.s)
def Hf(K:Frag)(p:Str×Addr)(q:Str×List Kd):Prop:=p.1=q.1/\q.2.length<=100/\∀G:Hp,az K G p.2 (q.2.map λk=>V.str k.s)
def eC(t:List (Str×List Kd))(w:List Nat):Option (List Kd):=(t.find? λp=>decide (p.1=S w)).map (·.2)
noncomputable def qx:List (Str×List Kd):=[("show",[.name]),("worth",[.name,.number]),("alike",[.name,.name]),("rest",[.name,.name,.divisor]),("least",[.name]),("ways",[.name]),("unknowns",[.name])]
noncomputable def ig:List (Str×List Kd):=[("plus",[.name,.name]),("less",[.name,.name]),("times",[.name,.name]),("fixed",[.name,.letter,.bit]),("put",[.name,.letter,.name])]
def NW{K:Frag}{kvs:List (Str×Addr)}{t:List (Str×List Kd)}(h:Paired (Hf K) kvs t)(w:List Nat) :
  (∃b l,m6 kvs (S w)=some b/\eC t w=some l/\Ig K (.ref b) (some l))\/(m6 kvs (S w)=none/\eC t w=none):=by
 induction h with
 |nil=>exact .inr ⟨rfl,rfl⟩
 |@cons p r ps rs Uk _ ih =>
  obtain⟨e,e1,e2⟩:=Uk;unfold m6 eC;rw[df,df,<-e];by_cases z:p.1=S w
  ·rw[aU z];exact .inl ⟨_,_,rfl,rfl,_,rfl,e1,e2⟩
  ·rw[bo z];exact ih
def GR:Option (List Nat)->V
 |none=>.non
 |some n=>.str (S n)
def ku(n sg t:List Nat):Option (Option (List Nat)×List Nat×List V) :=
 if sg=[61]/\(eC ig ((br t).headD [])).isSome=true then (o8 (eC ig ((br t).headD [])) (br t).tail).map λvs=>(some n,(br t).headD [],vs)else some (some n,sg,[.str (S t)])
def eZ(l:List Nat):Option (Option (List Nat)×List Nat×List V) :=
 if 2<(br l).length/\((br l).getD 1 []=[61]\/(br l).getD 1 []=[58,61])/\bf ((br l).headD [])=true then ku ((br l).headD []) ((br l).getD 1 []) (l.drop (((br l).headD []).length+((br l).getD 1 []).length+2))
 else (o8 (eC qx ((br l).headD [])) (br l).tail).map λvs=>(none,(br l).headD [],vs)
open PySem L2 OF
def K5(ls:List Nat)(l:aq):Prop:=∀t∈l,0<=t.1/\∀j,t.1.toNat.testBit j=true->j∈ls
def eQ(l:aq):Prop:=∃ls:List Nat,ls.length<=5/\K5 ls l
def K5.app(h:K5 ls a)(k:K5 ls b):K5 ls (a++b):=λt ht=>(bA.mp ht).elim (h t) (k t)
def K5.sub(h:K5 ls b)(k:∀t∈a,t.1∈b.map (·.1)):K5 ls a:=λt ht=>by
 obtain⟨u,hu,e⟩:=bp.mp (k t ht);rw[<-e];exact h u hu
def K5.of(h:K5 ls l)(k:aZ f l):K5 ls f:=h.sub k.src
def K5.map(h:K5 ls l)(g:Int×Int->Int):K5 ls (l.map λt=>(t.1,g t)):=λt ht=>by
 obtain⟨u,hu,rfl⟩:=bp.mp ht;exact h u hu
def K5.prod(h:K5 ls a)(k:K5 ls b):K5 ls (bK a b):=λx hx=>by
 obtain⟨t,ht,u,hu,rfl⟩:=Mq hx;obtain⟨t0,t1⟩:=h t ht;obtain⟨u0,u1⟩:=k u hu;obtain⟨m,hm⟩:=xC t0;obtain⟨n,hn⟩:=xC u0;rw[hm]at t1;rw[hn]at u1;have e:Builtin.bitOr t.1 u.1=((m|||n:Nat):Int):=by rw[hm,hn];exact As _ _
 exists by simp_all,λj hj=>?_;have fV:(m|||n).testBit j=true:=by simp_all
 rw[xG,za]at fV;exact fV.elim (t1 j) (u1 j)
def K5.out(h:K5 ls l)(k:Nat):K5 ls (gm k l):=λt ht=>h t (Hn ht).1
def K5.off(h:K5 ls l)(k:Nat):K5 ls (eF k l):=λt ht=>by
 obtain⟨t0,u,hu,_,e,hb⟩:=ui (λt ht=>(h t ht).1) ht;exists t0,λj hj=>(h u hu).2 j ?_;obtain⟨m,hm⟩:=xC (h u hu).1;have dv:m.testBit k=true:=by
  have:u.1.toNat=m:=by rw[hm];rfl
  unfold eO at hb;rw[this]at hb;exact hb
 have hle:=uq dv;have et:t.1.toNat=m-2^k:=by lia
 rw[et]at hj;rw[hm];have hx:m-2^k=nI m k false:=by unfold nI;rw[av tD,aC dv]
 rw[hx,q9]at hj;by_cases hjk:j=k
 ·rw[hjk];exact dv
 ·rw[av hjk]at hj;exact hj
def K5.fix(h:K5 ls l)(k:Nat)(b:Int):K5 ls (iG k b l):=by
 unfold iG;split
 ·rw[iD];exact h.out k
 ·exact (h.out k).app (h.off k)
def K5.put(h:K5 ls l)(h':K5 ls o)(k:Nat):K5 ls (qm k o l):=(h.out k).app ((h.off k).prod h')
def K5.keys{ls:List Nat}{ks:List Int}(hn:ks.Nodup)(h:∀k∈ks,0<=k/\∀j,k.toNat.testBit j=true->j∈ls):ks.length<=2^ls.length:=by
 have:=sX ls (ks.map Int.toNat) (DQ _ (λx y Fs=>Fs) ((Jo.mpr fun {a b} je=>?_))) λk hk j hj=>?_
 ·rw[ax]at this;exact this
 ·have ha:=h a (je.subset tS);have hb:=h b (je.subset tS);have cx:=(Jo.mp hn) je;exact λz=>cx (by lia)
 ·obtain⟨x,hx,rfl⟩:=bp.mp hk;exact (h x hx).2 j hj
def DD{d l:aq}(h:DictOf d l)(hf:eQ l):d.length<64:=by
 obtain⟨ls,h5,k⟩:=hf
 have:=K5.keys (ls:=ls) h.nd λx hx=>by
  obtain⟨t,ht,rfl⟩:=bp.mp (h.src x hx);exact k t ht
 rw[ax]at this;exact jm (aX this (dB (by decide:2>0) h5:2^ls.length<=2^5)) tD
def K5.len{ls:List Nat}{f:aq}(hF:IsForm f)(k:K5 ls f)(h5:ls.length<=5):f.length<=32:=by
 have hn:=DQ _ (λa b h=>Int.ne_of_lt h) hF.rise
 have:=K5.keys (ls:=ls) hn λx hx=>by
  obtain⟨t,ht,rfl⟩:=bp.mp hx;exact k t ht
 rw[ax]at this;exact aX this (dB (by decide:2>0) h5:2^ls.length<=2^5)
def zdo(h:eQ (a++b)):eQ b:=let ⟨ls,h5,k⟩:=h; ⟨ls,h5,λt ht=>k t (f9 _ ht)⟩
def Mb(h:eQ b)(k:∀t∈a,t.1∈b.map (·.1)):eQ a:=let ⟨ls,h5,z⟩:=h; ⟨ls,h5,z.sub k⟩
def zbv(h:eQ l)(g:Int×Int->Int):eQ (l.map λt=>(t.1,g t)):=let ⟨ls,h5,k⟩:=h; ⟨ls,h5,k.map g⟩
def R3(K:Frag):Sp:=λvs H Q _=>∃(a:Addr) (l:aq),vs=[.ref a]/\TL K H a l/\l.length<=100000/\eQ l /\
 ∀(b:Addr) (f:aq) (H':Hp),H b=none->aG H' b f->aZ f l->f.length<=l.length->af H H'->Q (.ref b) H'
def Sm.ln:Sm->Nat
 |.bit _=>1
 |.fix _=>1
 |.no s=>Sm.ln s+1
 |.two _ s t=>Sm.ln s+Sm.ln t
theorem Sm.ln_pre:∀{s p:Sm},p∈s.pre->p.ln<=s.ln
 |.bit k,p,hp=>by rw[bw.mp hp];exact aT _
 |.fix b,p,hp=>by rw[bw.mp hp];exact aT _
 |.no s,p,hp=>by
  rcases bC.mp hp with rfl|z
  ·exact aT _
  ·exact SX (Sm.ln_pre (s:=s) z)
 |.two w s t,p,hp=>by
  rcases bC.mp hp with rfl|z
  ·exact aT _
  ·show _<=s.ln+t.ln;rcases bA.mp z with z|z
   ·have:=Sm.ln_pre (s:=t) z;lia
   ·have:=Sm.ln_pre (s:=s) z;lia
theorem si:∀s:Sm,jt s+1<=2*s.ln
 |.bit _=>aT _
 |.fix _=>aT _
 |.no s=>by have:=si s;show jt s+1+1<=2*(s.ln+1);lia
 |.two _ s t=>by have:=si s;have:=si t;show jt s+jt t+1+1<=2*(s.ln+t.ln);lia
def zaf(hx:x<2^a)(hy:y<2^c)(h5:a+c<=5)(VY:x<=2^n)(nX:y<=2^n):x*y<=(n+1)*2^n:=by
 match n,VY,nX with
 |0,h,k=>exact fM h k
 |1,h,k=>exact fM h k
 |2,h,k =>
  by_cases z:x<=3
  ·exact fM z k
  ·have ha:2<a:=by
    rcases kU 2 a with y|y
    ·exact y
    ·have:=dB (show 2>0 by decide) y;lia
   have hc:=dB (show 2>0 by decide) (show c<=2 by lia);rw[GX];exact fM (show y<=3 by lia) h
 |n+3,_,_ =>
  have h1:=fM (bE hx) (bE hy);rw[<-y9]at h1;have h2:=dB (show 2>0 by decide) h5;have h3:4*2^3<=(n+3+1)*2^(n+3):=fM tL (dB tD tL);exact aX h1 (aX h2 h3)
def Ul(hx:x<2^a)(hy:y<2^c)(hm:m<=x+y+x*y):m<2^(a+c):=by
 have h:(x+1)*(y+1)<=2^a*2^c:=fM hx hy;rw[<-y9,Hb,Dm]at h;lia
def aZ.cnt(h:aZ f l):f.length<=l.length:=by
 have:=pP (yJ h.toIsForm) (B:=l.map (·.1)) λx hx=>by
  obtain⟨t,ht,rfl⟩:=bp.mp hx;exact h.src t ht
 simpa using this
def lG(hI:IsForm f)(h:∀k,aL f k=aL L k):aZ f L:=⟨hI,h,λp hp=>by
 by_cases z:p.1∈L.map (·.1)
 ·exact z
 ·have h1:=Hq hI p hp;rw[h,uf L p.1 λq hq e=>z (bp.mpr ⟨q,hq,e⟩)]at h1;exact absurd h1.symm (hI.nz p hp)⟩
def Sm.tl:Sm->aq
 |.bit k=>[((2:Int)^k,1)]
 |.fix b=>[(0,b)]
 |.no s=>vv (Sm.tl s)
 |.two w s t=>gR w (Sm.tl s) (Sm.tl t)
def XN(w:Nat)(l o:aq):(gR w l o).length<=l.length+o.length+l.length*o.length:=by
 unfold gR;split
 ·rw[oX];lia
 ·rw[bh,bh,ax,oX];lia
theorem wH:∀s:Sm,s.tl.length<2^s.ln
 |.bit _=>by show 1<2^1;decide
 |.fix _=>by show 1<2^1;decide
 |.no s=>by
  have:=wH s
  show (vv s.tl).length<2^(s.ln+1);unfold vv;rw[bh,ax,ml];show 1+_<_;lia
 |.two w s t=>Ul (wH s) (wH t) (XN w s.tl t.tl)
def zX(b:Int):K5 ls [(0,b)]:=λt ht=>by rw[bw.mp ht];exact⟨PM _,λj hj=>by simp at hj⟩
def K5.word(w:Nat)(h:K5 ls l)(k:K5 ls o):K5 ls (gR w l o):=by
 unfold gR;split
 ·exact h.prod k
 ·exact (h.app k).app ((h.prod k).map _)
theorem rn:∀{s:Sm},s.ok (λk=>k∈ls)->K5 ls s.tl
 |.bit k,h=>λt ht=>by
  rw[bw.mp ht];exists by rw[qh];exact iC _,λj hj=>?_;rw[qh,oM,uB]at hj;rw[<-bP hj];exact h
 |.fix b,h=>zX b
 |.no s,h=>(zX 1).app ((rn (s:=s) h).map _)
 |.two w s t,h=>K5.word w (rn h.2.1) (rn h.2.2)
theorem Br:∀{s:Sm},s.ok p->∀t∈s.tl,4*t.2.natAbs<=4^s.ln
 |.bit k,h,t,ht=>by rw[bw.mp ht];exact aT _
 |.fix b,h,t,ht=>by
  rw[bw.mp ht];rcases (show b=0\/b=1 from h)with rfl|rfl<;>decide
 |.no s,h,t,ht=>by
  show _<=4^(s.ln+1);rw[ml];rcases bA.mp ht with z|z
  ·rw[bw.mp z]
   have:=EO (n:=s.ln) (show 0<4 by decide)
   lia
  ·obtain⟨u,hu,rfl⟩:=bp.mp z
   have:=Br (s:=s) h u hu
   rw[Kf];lia
 |.two w s t,h,x,hx=>by
  show _<=4^(s.ln+t.ln);have p1:=Br h.2.1;have p2:=Br h.2.2;rw[y9];have q1:=EO (n:=s.ln) (show 0<4 by decide);have q2:=EO (n:=t.ln) (show 0<4 by decide);have pr:∀u∈bK s.tl t.tl,16*u.2.natAbs<=4^s.ln*4^t.ln:=λu hu=>by
   obtain⟨y,hy,v,hv,rfl⟩:=Mq hu
   have:=fM (p1 y hy) (p2 v hv)
   rw[zq];have e:4*y.2.natAbs*(4*v.2.natAbs)=16*(y.2.natAbs*v.2.natAbs):=by rw[Nat.mul_mul_mul_comm]
   lia
  have up:∀{a b c:Nat},a<=b->0<c->a<=b*c:=fun {a b c} h k=>aX h (Nat.le_mul_of_pos_right _ k)
  have fL:x∈gR w s.tl t.tl:=hx;unfold gR at fL;split at fL
  ·have:=pr x fL;lia
  ·rcases bA.mp fL with z|z
   ·rcases bA.mp z with y|y
    ·exact up (p1 x y) q2
    ·rw[GX (4^s.ln)];exact up (p2 x y) q1
   ·obtain⟨u,hu,rfl⟩:=bp.mp z
    have:=pr u hu
    rw[zq];split
    ·show 4*(u.2.natAbs*1)<=_;lia
    ·show 4*(u.2.natAbs*2)<=_;lia
def Rl(ha:aZ l a)(hb:aZ o b)(h:aZ f (gR w l o)):aZ f (gR w a b):=lG h.toIsForm λk=>by
 have e:∀k,aL (bK l o) k=aL (bK a b) k:=λk=>by rw[Hi hb.val,Qx,Hi ha.val,Qx]
 rw[h.val];unfold gR;split
 ·exact e k
 ·rw[cG,cG,cG,cG,ha.val,hb.val];congr 1;have m:∀(n:Int) (x:aq),aL (x.map λt=>(t.1,t.2*n)) k=aL x k*n:=λn x=>by rw[tN,tN,BI]
  rw[m,m,e]
def LJ(ha:aZ l a)(hi:IsForm f)(h:∀k,aL f k=aL [(0,1)] k-aL l k):aZ f (vv a):=lG hi λk=>by
 unfold vv;rw[h,cG,nL,ha.val];lia
def K5.low(h:K5 ls f)(cI:∀x∈ls,x<16):∀t∈f,0<=t.1/\t.1<2^16:=λt ht=>by
 obtain⟨h0,hb⟩:=h t ht;have h1:t.1.toNat<2^16:=zr _ λj hj=>by
  cases z:t.1.toNat.testBit j
  ·rfl
  ·have:=cI j (hb j z);lia
 lia
def Xz:Sm->Str->List aq->Prop
 |.no s,w,fs=>w = "not" /\ ∃f,fs=[f]/\aZ f s.tl
 |.two j s t,w,fs=>w=wd j/\j<3/\∃f g,fs=[f,g]/\aZ f s.tl/\aZ g t.tl
 |_,_,_=>False
def A7(s:Sm)(f:aq):Prop:=aZ f s.tl
def CW(h:b≠0):aZ [(a,b)] [(a,b)]:=aZ.self ⟨List.pairwise_singleton ..,λp hp=>by rw[bw.mp hp];exact h⟩
open PySem L2 OF
abbrev eK:=List (List Nat×aq)
def mi(H:Hp)(kv:cu×V)(nf:List Nat×aq):Prop:=kv.1=Sum.inr (S nf.1)/\∃a,kv.2=.ref a/\aG H a nf.2
def hZ(H:Hp)(d:Addr)(st:eK):Prop:=∃kvs,H d=some (.dK kvs)/\Paired (mi H) kvs st
noncomputable def cz(st:eK)(n:List Nat):Option aq:=(st.find? λp=>decide (p.1=n)).map (·.2)
noncomputable def nr(st:eK)(n:List Nat)(f:aq):eK:=if (st.any λp=>decide (p.1=n))=true then st.map (λp=>if p.1=n then (p.1,f)else p)else st++[(n,f)]
def zK:(Sum.inr (S a):cu)=Sum.inr (S b)↔a=b:=⟨λz=>dU (C8 z),λz=>by rw[z]⟩
def ly(h:Paired (mi H) kvs st)(n:List Nat) :
  (iz kvs (Sum.inr (S n))=none/\cz st n=none)\/∃a f,iz kvs (Sum.inr (S n))=some (.ref a)/\cz st n=some f/\aG H a f:=by
 induction h with
 |nil=>exact .inl ⟨rfl,rfl⟩
 |@cons p q ps qs mr _ ih =>
  obtain⟨e,a,ea,hT⟩:=mr;by_cases z:q.1=n
  ·refine .inr ⟨a,q.2,?_,?_,hT⟩
   ·rw[xy (by rw[e,z]),ea]
   ·unfold cz;rw[df,aU z];rfl
  ·have e1:iz (p::ps) (Sum.inr (S n))=iz ps (Sum.inr (S n)):=xB (by rw[e];exact λy=>z (zK.mp y));have e2:cz (q::qs) n=cz qs n:=by unfold cz;rw[df,bo z]
   rw[e1,e2];exact ih
def zeN(h:Paired (mi H) kvs st)(n:List Nat):(kvs.any λkv=>decide (kv.1=Sum.inr (S n)))=st.any λp=>decide (p.1=n):=by
 induction h with
 |nil=>rfl
 |@cons p q ps qs mr _ ih =>
  rw[qo,qo,ih,mr.1];congr 1;by_cases z:q.1=n
  ·rw[aU z,aU (zK.mpr z)]
  ·rw[bo z,bo λy=>z (zK.mp y)]
def zdA(hT:aG H a f)(h:Paired (mi H) kvs st):Paired (mi H) (kvs.map λkv=>if kv.1=Sum.inr (S n)then (kv.1,V.ref a)else kv) (st.map λp=>if p.1=n then (p.1,f)else p):=by
 induction h with
 |nil=>exact .nil
 |@cons p q ps qs mr _ ih =>
  refine .cons ?_ ih;show mi H (if p.1=Sum.inr (S n)then (p.1,V.ref a)else p) (if q.1=n then (q.1,f)else q);by_cases z:q.1=n
  ·rw[aC (by rw[mr.1,z]),aC z];nomatch mr.1,a,rfl,hT
  ·rw[av (by rw[mr.1];exact λy=>z (zK.mp y)),av z];exact mr
def zcD(h:Paired (mi H) kvs st)(hT:aG H a f):Paired (mi H) (d8 kvs (Sum.inr (S n)) (.ref a)) (nr st n f):=by
 unfold d8 nr;rw[zeN h n];split
 ·exact zdA hT h
 ·exact qO h ⟨rfl,a,rfl,hT⟩
def aG.keepD(h:aG H a l)(k:bu b H H')(hb:H b=some (.dK kvs)):aG H' a l:=by
 obtain⟨ps,h1,h2⟩:=h;nomatch ps,k _ _ (λz=>by simp_all) h1,h2.keep λp xs e=>k p _ (λz=>by simp_all) e
def Qb(k:bu b H H')(hb:H b=some (.dK kv0))(h:Paired (mi H) kvs st):Paired (mi H') kvs st :=
 Paired.mapP h λp q ⟨e,a,ea,hT⟩=>⟨e,a,ea,aG.keepD hT k hb⟩
def hZ.keep(h:hZ H d st)(s:af H H'):hZ H' d st :=
 let ⟨kvs,h1,h2⟩:=h; ⟨kvs,s _ _ h1,Paired.mapP h2 λp q ⟨e,a,ea,hT⟩=>⟨e,a,ea,hT.keep s⟩⟩
def hZ.keepD(h:hZ H d st)(k:bu b H H')(hb:H b=some (.dK kv0))(cx:d≠b):hZ H' d st :=
 let ⟨kvs,h1,h2⟩:=h; ⟨kvs,k _ _ cx h1,Qb k hb h2⟩
def hZ.put(h1:H d=some (.dK kvs))(h2:Paired (mi H) kvs st)(hT:aG H a f):hZ (upd H d (.dK (d8 kvs (Sum.inr (S n)) (.ref a)))) d (nr st n f) :=
 ⟨_,ar,zcD (Qb bu.upd h1 h2) (aG.keepD hT bu.upd h1)⟩
def WW(st:eK)(n:List Nat)(f:aq):(nr st n f).length<=st.length+1:=by
 unfold nr;split<;>simp
def UY{P:aq->Prop}{st:eK}{n:List Nat}{f:aq}(h:∀p∈st,P p.2)(hf:P f):∀p∈nr st n f,P p.2:=λp hp=>by
 unfold nr at hp;split at hp
 ·obtain⟨q,hq,rfl⟩:=bp.mp hp;by_cases z:q.1=n
  ·rw[aC z];exact hf
  ·rw[av z];exact h q hq
 ·rcases bA.mp hp with y|y
  ·exact h p y
  ·rw[bw.mp y];exact hf
def d7{P:aq->Prop}{st:eK}{n:List Nat}{f:aq}(h:∀p∈st,P p.2)(e:cz st n=some f):P f:=by
 obtain⟨p,hp,rfl⟩:=B8.mp e;exact h p (List.mem_of_find?_eq_some hp)
structure kE(C:Addr)(H:Hp)(p d:Addr)(st:eK):Prop where
 ob:∃dx,H p=some (.ins C dx [("forms",.ref d)])
 dc:hZ H d st
def kE.keep(h:kE C H p d st)(s:af H H'):kE C H' p d st :=
 ⟨let ⟨dx,e⟩:=h.ob; ⟨dx,s _ _ e⟩,h.dc.keep s⟩
def pM(l:aq):Prop:=∃f,aZ f (bK l l)/\f=l
noncomputable def gK(w:Nat):Str:=if w=0 then "plus" else if w=1 then "less" else "times"
def HU(w:Nat)(l m:aq):aq:=if w=0 then l++m else if w=1 then l++m.map (λt=>(t.1,-t.2))else bK l m
def T9(h:w<3):decide (V.str (gK w)=V.str "=")=false/\decide (V.str (gK w)=V.str ":=")=false/\decide (V.str (gK w)=V.str "fixed")=false/\decide (V.str (gK w)=V.str "put")=false:=by
 obtain rfl|rfl|rfl:w=0\/w=1\/w=2:=by lia
 ·nomatch tD,tD,tD,tD
 ·nomatch tD,tD,tD,tD
 ·nomatch tD,tD,tD,tD
inductive bI where
 |form (n t:List Nat)|stat (n:List Nat) (s:Sm)|fixd (n a:List Nat) (k:Nat) (b:Int)|put (n a:List Nat) (k:Nat) (b:List Nat)|two (w:Nat) (n a b:List Nat)
noncomputable def bI.nm:bI->List Nat
 |.form n _=>n|.stat n _=>n|.fixd n _ _ _=>n|.put n _ _ _=>n|.two _ n _ _=>n
def bI.wd:bI->Str
 |.form _ _ => "=" |.stat _ _ => ":=" |.fixd _ _ _ _ => "fixed" |.put _ _ _ _ => "put" |.two w _ _ _=>gK w
def bI.th:bI->List V
 |.form _ t=>[.str (S t)]
 |.stat _ s=>[.str (S (bY s))]
 |.fixd _ a k b=>[.str (S a),.int (k:Int),.int b]
 |.put _ a k b=>[.str (S a),.int (k:Int),.str (S b)]
 |.two _ _ a b=>[.str (S a),.str (S b)]
inductive Rz where
 |name|yesno|form (f:aq)
def dh(ls:List Nat)(f:aq):Prop:=IsForm f/\K5 ls f/\∀t∈f,t.2.natAbs<10^60
def zQ(ls:List Nat):bI->Prop
 |.form _ t=>(∀c∈t,c<128)/\t.length<=900/\(nj t).isSome=true
 |.stat _ s=>s.ok (λk=>k∈ls)/\s.ln<=5
 |.fixd _ _ k b=>k<=100/\(b=0\/b=1)
 |.put _ _ k _=>k<=100
 |.two w _ _ _=>w<3
def iE(ls:List Nat)(st:eK):bI->Rz->Prop
 |.form _ t,r=>∃f,r=.form f/\nj t=some f
 |.stat _ s,r=>∃f,r=.form f/\aZ f s.tl
 |.fixd _ a k b,r=>(cz st a=none/\r=.name)\/∃l f,cz st a=some l/\r=.form f/\aZ f (iG k b l)
 |.put _ a k b,r=>(cz st a=none/\r=.name)\/(∃l,cz st a=some l/\cz st b=none/\r=.name)\/∃l o,cz st a=some l/\cz st b=some o/\((¬pM o/\r=.yesno)\/(pM o/\∃f,r=.form f/\aZ f (qm k o l)))
 |.two w _ a b,r=>(cz st a=none/\r=.name)\/(∃l,cz st a=some l/\cz st b=none/\r=.name)\/∃l o f,cz st a=some l/\cz st b=some o/\r=.form f/\aZ f (HU w l o)
set_option tactic.hygienic true in
def lL(ha:a.natAbs<10^60)(hb:b.natAbs<10^60):IntMulOk a b:=by
 have key:∀x:Int,x.natAbs<10^60->intBits x<=200:=λx hx=>by
  unfold intBits;split
  ·exact bM _
  ·rename_i h;have h0:x.natAbs≠0:=λz=>h (by simp;lia)
   have:x.natAbs.log2<200:=(tP h0).mpr (lQ hx tE)
   assumption
 have h1:=key a ha;have h2:=key b hb;intro z;rw[ff,ff]at z;have z2:=z.2;unfold Builtin.Int.intTooBig at z2
 have:(intBits a:Int)+(intBits b:Int)>bitsLine:=by simpa using z2
 have Ot:(400:Int)<=bitsLine:=by decide
 lia
noncomputable def jB(w:Nat):List Nat:=if w=0 then [112,108,117,115]else if w=1 then [108,101,115,115]else [116,105,109,101,115]
def bI.wl:bI->List Nat
 |.form _ _=>[61]|.stat _ _=>[58,61]|.fixd _ _ _ _=>[102,105,120,101,100]|.put _ _ _ _=>[112,117,116]|.two w _ _ _=>jB w
def wl_S(c:bI):S c.wl=c.wd:=by
 cases c with
 |form _ _=>show S [61]=ofString "=";decide+kernel
 |stat _ _=>show S [58,61]=ofString ":=";decide+kernel
 |fixd _ _ _ _=>show S [102,105,120,101,100]=ofString "fixed";decide+kernel
 |put _ _ _ _=>show S [112,117,116]=ofString "put";decide+kernel
 |two w _ _ _ =>
  show S (jB w)=gK w;unfold jB gK;split
  ·decide+kernel
  split
  ·decide+kernel
  ·decide+kernel
noncomputable def PY:List Nat:=[115,104,111,119]
open PySem L2 OF
theorem BJ:∀{zs:List Nat},zs.Nodup->∀j,((zs.map λx=>2^x).sum).testBit j=decide (j∈zs)
 |[],_,j=>by simp
 |x::r,hn,j=>by
  rw[j7]at hn;have h0:((r.map λx=>2^x).sum).testBit x=false:=by rw[BJ hn.2];exact bo hn.1
  have h1:(r.map λx=>2^x).sum/2^x%2=0:=by grind
  rw[bN,mm,A2,HI h1,xG,uB,BJ hn.2];by_cases e:x=j
  ·subst e;simp
  ·have e':¬j=x:=λz=>e z.symm
   simp[e,e']
def zb8(m:Nat):((lst m).map λk=>2^k).sum=m:=qk λj=>by
 have hn:(lst m).Nodup:=by unfold lst;exact List.nodup_range.filter _
 rw[BJ hn];by_cases z:m.testBit j=true
 ·rw[z];exact aU (xv.mpr z)
 ·rw[zC.mpr z];exact bo λy=>z (xv.mp y)
def NQ(m:Nat):xc (cR m)=m:=by
 unfold xc cR;rw[fk]
 have:((λc=>2^(c-97)) ∘ λk=>97+k)=λk:Nat=>2^k:=by
  funext k;show 2^(97+k-97)=_;rw[E3]
 rw[this,zb8]
def zdg(hm:m<2^16):NK (-1) (cR m):=⟨λc hc=>rp hm hc,by
 refine uk.mpr ?_;exact (List.pairwise_lt_range.filter _).imp λh=>tL,λc hc=>by have:=rp hm hc;lia⟩
def VE(h1:∀c∈d,48<=c/\c<=57)(h2:∀c∈l,97<=c):kM (d++l)=d/\fW (d++l)=l:=by
 have h3:∀c∈d,mX c=true:=λc hc=>aU (h1 c hc)
 have h4:l.takeWhile mX=[]/\l.dropWhile mX=l:=by
  cases l with
  |nil=>nomatch rfl,rfl
  |cons c r =>
   have:mX c=false:=bo λz=>by have:=h2 c tS;lia
   rw[Dj,List.dropWhile_cons,this];nomatch rfl,rfl
 unfold kM fW;rw[List.takeWhile_append_of_pos h3,List.dropWhile_append_of_pos h3,h4.1,h4.2,iD];nomatch rfl,rfl
def YQ{t:Int×Int}:∀c∈gj t.1.toNat t.2.natAbs,48<=c/\c<=57:=λc hc=>by
 unfold gj at hc;split at hc
 ·cases hc
 ·exact sV hc
def Co:cR m=[]↔m=0:=by
 constructor
 ·intro h
  have:=NQ m
  rw[h]at this;exact this.symm
 ·rintro rfl;rfl
def TV(h:gp t):nV [bt t.2] (bz t)=some t:=by
 obtain⟨h0,h1,h2,h3⟩:=h;have hm:t.1.toNat<2^16:=by lia
 obtain⟨e1,e2⟩:=VE (YQ (t:=t)) (λc hc=>(rp hm hc).1);have ew:bz t=gj t.1.toNat t.2.natAbs++cR t.1.toNat:=rfl;have hn:0<t.2.natAbs:=by lia
 have eN:kN (gj t.1.toNat t.2.natAbs) (cR t.1.toNat)=some t.2.natAbs:=by
  unfold kN gj;by_cases z:t.2.natAbs=1/\t.1.toNat≠0
  ·rw[aC z,aC ⟨rfl,λy=>z.2 (Co.mp y)⟩,z.1]
  ·obtain⟨d,r,ed,hd⟩:=F4 hn;rw[av z,av (λy=>by simp_all),av,xO];rintro (y|y|⟨y,y2⟩)
   ·rw[ed]at y;cases y
   ·rw[ed]at y;simp at y;lia
   ·exact z ⟨UD y,λx=>y2 (Co.mpr x)⟩
 unfold nV;rw[aC (by unfold bt;split<;>simp),ew,e1,e2,eN,RT 0 (zdg hm),NQ];show some (((0+t.1.toNat:Nat):Int),if [bt t.2]=[45]then -((t.2.natAbs:Nat):Int)else ((t.2.natAbs:Nat):Int))=some t;have a1:((0+t.1.toNat:Nat):Int)=t.1:=by lia
 have a2:(if [bt t.2]=[45]then -((t.2.natAbs:Nat):Int)else ((t.2.natAbs:Nat):Int))=t.2:=by
  unfold bt;by_cases z:t.2<0
  ·rw[aC z,aC rfl];lia
  ·rw[av z,av tD];lia
 rw[a1,a2]
def E1(h0:ws≠[])(h:∀w∈ws,32∉w):br (bR 32 ws)=ws:=DX (lN _) h0 (xq _) h (vC _)
theorem HQ:∀{a b:List Nat},32∉a->br (a++32::b)=a::br b
 |[],b,_=>by show br (32::b)=_;rw[br,aC rfl]
 |c::r,b,h=>by
  have hc:¬c=32:=λz=>h (by rw[z];simp)
  show br (c::(r++32::b))=_;rw[br,av hc,HQ (a:=r) (b:=b) λz=>h (by simp[z])]
def Ji(h:gp t):32∉bz t:=λz=>by
 have:=J1 (by have:=h.1;have:=h.2.1;lia) z
 lia
def zdM(h:∀t∈f,gp t):∀w∈jx f,32∉w:=λw hw=>by
 cases f with
 |nil=>rw[bw.mp hw];decide
 |cons t r =>
  rcases bC.mp hw with rfl|hw
  ·intro z;rcases bA.mp z with y|y
   ·unfold dA at y;split at y
    ·rw[bw]at y;cases y
    ·cases y
   ·exact Ji (h t tS) y
  ·obtain⟨u,hu,hw⟩:=Bs.mp hw;have Yk:w=[bt u.2]\/w=bz u:=by simpa using hw
   rcases Yk with rfl|rfl
   ·unfold bt;split<;>decide
   ·exact Ji (h u (by simp[hu]))
def zaH(f:aq):jx f≠[]:=by cases f<;>simp[jx]
def Ow(h:∀t∈f,gp t):br (txt f)=jx f:=by
 rw[<-IC];exact E1 (zaH f) (zdM h)
def KY(h:gp t):∃c r,bz t=c::r/\49<=c:=by
 obtain⟨h0,h1,h2,h3⟩:=h;have hm:t.1.toNat<2^16:=by omega
 have ew:bz t=gj t.1.toNat t.2.natAbs++cR t.1.toNat:=rfl;rw[ew];unfold gj;by_cases z:t.2.natAbs=1/\t.1.toNat≠0
 ·rw[aC z];cases hl:cR t.1.toNat with
  |nil=>exact absurd (Co.mp hl) z.2
  |cons c r=>exact⟨c,r,rfl,by have:=rp hm (c:=c) (by rw[hl];simp);lia⟩
 ·obtain⟨d,r,ed,hd⟩:=F4 (m:=t.2.natAbs) tL;rw[av z,ed];nomatch 49+d,_,rfl,tL
def zdJ(h:∀u∈t::r,gp u):gQ (txt (t::r))=((t::r).map λu=>([bt u.2],bz u)).flatMap λp=>[p.1,p.2]:=by
 obtain⟨c,w',ew,hc⟩:=KY (h t tS);have e0:((t::r).map λu=>([bt u.2],bz u)).flatMap (λp=>[p.1,p.2])=[bt t.2]::bz t::r.flatMap λu=>[[bt u.2],bz u]:=by
  rw[List.flatMap_map];rfl
 rw[e0];unfold gQ;rw[Ow h];have et:txt (t::r)=dA t.2++bz t++r.flatMap cE:=rfl;by_cases z:t.2<0
 ·have ea:dA t.2=[45]:=aC z;have es:bt t.2=45:=aC z;rw[aC (by rw[et,ea];rfl),es];show [45]::(dA t.2++bz t).drop 1::_=_;rw[ea];rfl
 ·have ea:dA t.2=[]:=av z;have es:bt t.2=43:=av z;rw[av (by rw[et,ea,ew];simp;lia),es];show [43]::(dA t.2++bz t)::_=_;rw[ea];rfl
theorem QO:∀{f:aq},(∀t∈f,gp t)->jO (f.map λu=>([bt u.2],bz u))=some f
 |[],_=>rfl
 |t::r,h=>by
  rw[bN,jO,TV (h t tS),QO (f:=r) λu hu=>h u (by simp[hu])]
theorem QI:∀{f:aq}{la:Int},IsForm f->(∀t∈f,la<t.1)->jj f la=true
 |[],_,_,_=>rfl
 |t::r,la,h,hl=>by
  have h1:=pf.mp h.rise;unfold jj;rw[av (λz=>z.elim (λy=>by have:=hl t tS;lia) (h.nz t tS))];exact QI ⟨h1.2,λu hu=>h.nz u (by simp[hu])⟩ λu hu=>h1.1 u hu
def zb(hI:IsForm f)(h:∀t∈f,gp t):nj (txt f)=some f:=by
 cases f with
 |nil=>rfl
 |cons t r =>
  have cx:¬txt (t::r)=[48]:=λz=>by
   obtain⟨c,w',ew,hc⟩:=KY (h t tS);have et:txt (t::r)=dA t.2++bz t++r.flatMap cE:=rfl;rw[et,ew]at z;unfold dA at z;split at z
   ·simp at z
   ·simp at z;lia
  unfold nj;rw[av cx,zdJ h,Ff,QO h];show (if jj (t::r) (-1)=true then some (t::r)else none)=_;rw[aC (QI hI λu hu=>by have:=(h u hu).1;assumption)]
def lb(h:bf n=true):32∉n:=λz=>by
 unfold bf at h;rw[ff,ff,fN]at h
 have:=bP (h.2.2 32 z)
 lia
def eG(h:bf n=true):n.length<=8/\∀c∈n,c<128:=by
 unfold bf at h;rw[ff,ff,fN]at h;exact⟨bP h.2.1,λc hc=>by have:=bP (h.2.2 c hc);lia⟩
noncomputable def kK:List Nat:=[102,105,120,101,100]
noncomputable def kX:List Nat:=[112,117,116]
def bI.line:bI->List Nat
 |.form n t=>n++([32,61,32]++t)
 |.stat n s=>n++([32,58,61,32]++bY s)
 |.fixd n a k b=>bR 32 [n,[61],kK,a,[97+k],[48+b.toNat]]
 |.put n a k b=>bR 32 [n,[61],kX,a,[97+k],b]
 |.two w n a b=>bR 32 [n,[61],jB w,a,b]
def xZ(hn:bf n=true)(hs:sg=[61]\/sg=[58,61]):eZ (n++32::(sg++32::t))=ku n sg t:=by
 have e:br (n++32::(sg++32::t))=n::sg::br t:=by
  rw[HQ (lb hn),HQ (by rcases hs with rfl|rfl<;>decide)]
 have hl:1<=(br t).length:=by cases h:br t with|nil=>exact absurd h (lN t)|cons _ _=>simp
 unfold eZ;rw[e,aC ⟨by simp;assumption,hs,hn⟩];congr 1;have e1:(n++32::(sg++32::t))=(n++[32]++sg++[32])++t:=by simp
 rw[e1];exact List.drop_left' (by simp;lia)
def ze:("plus" : Str)=S [112,108,117,115]/\("less" : Str)=S [108,101,115,115]/\("times" : Str)=S [116,105,109,101,115]/\("fixed" : Str)=S [102,105,120,101,100]/\("put" : Str)=S [112,117,116]:=by decide+kernel
def X7(h:∀c∈w,c<113):eC ig w=none:=by
 obtain⟨e1,e2,e3,e4,e5⟩:=ze;have no:∀l:List Nat,(∃c∈l,113<=c)->¬(S l=S w):=λl ⟨c,hc,h1⟩ z=>by
  have:=dU z
  subst this
  have:=h c hc
  lia
 unfold eC ig;rw[e1,e2,e3,e4,e5];rw[df,bo (no _ ⟨117,tD,tD⟩),df,bo (no _ ⟨115,tD,tD⟩),df,bo (no _ ⟨116,tD,tD⟩),df,bo (no _ ⟨120,tD,tD⟩),df,bo (no _ ⟨117,tD,tD⟩)];rfl
def zds(h:∀t∈f,gp t):∀c∈(br (txt f)).headD [],c<113:=by
 rw[Ow h];cases f with
 |nil=>decide
 |cons t r =>
  intro c hc;have lY:=hc;rcases bA.mp lY with z|z
  ·unfold dA at z;split at z
   ·rw[bw]at z;lia
   ·cases z
  ·have ht:=h t tS
   have:=J1 (by have:=ht.1;have:=ht.2.1;omega) z
   lia
def U8(hn:bf n=true)(h:∀t∈f,gp t):eZ (bI.form n (txt f)).line=some (some (bI.form n (txt f)).nm,(bI.form n (txt f)).wl,(bI.form n (txt f)).th):=by
 show eZ (n++32::([61]++32::txt f))=_;rw[xZ hn (.inl rfl)];unfold ku;rw[av (λz=>by rw[X7 (zds h)]at z;cases z.2)];rfl
def zap(hn:bf n=true):eZ (bI.stat n s).line=some (some (bI.stat n s).nm,(bI.stat n s).wl,(bI.stat n s).th):=by
 show eZ (n++32::([58,61]++32::bY s))=_;rw[xZ hn (.inr rfl)];unfold ku;rw[av (λz=>by cases z.1)];rfl
def HK(hk:eC ig w=some ks)(hw:32∉w)(h0:ws≠[])(hs:∀v∈ws,32∉v)(hl:ks.length=ws.length)(mv:(ks.zip ws).all (λp=>eE p.1 p.2)=true):ku n [61] (bR 32 (w::ws))=some (some n,w,(ks.zip ws).map λp=>tq p.1 p.2):=by
 have e:br (bR 32 (w::ws))=w::ws:=E1 tS λv hv=>by
  rcases bC.mp hv with rfl|z
  ·exact hw
  ·exact hs v z
 unfold ku;have uv:eC ig ((w::ws).headD [])=some ks:=hk;rw[e,aC ⟨rfl,by rw[uv];rfl⟩,uv];show (tW ks ws).map _=_;unfold tW;rw[aC ⟨hl,mv⟩];rfl
def UT(h:w<3):eC ig (jB w)=some [.name,.name]:=by
 obtain⟨e1,e2,e3,e4,e5⟩:=ze;unfold eC ig;rw[e1,e2,e3,e4,e5];obtain rfl|rfl|rfl:w=0\/w=1\/w=2:=by lia
 ·rw[df,aU (by rfl)];rfl
 ·rw[df,bo (λz=>by have:=dU z;cases this),df,aU (by rfl)];rfl
 ·rw[df,bo (λz=>by have:=dU z;cases this),df,bo (λz=>by have:=dU z;cases this),df,aU (by rfl)];rfl
def Z7:eC ig kK=some [.name,.letter,.bit]:=by
 obtain⟨e1,e2,e3,e4,e5⟩:=ze;unfold eC ig;rw[e1,e2,e3,e4,e5];rw[df,bo (λz=>by have:=dU z;cases this),df,bo (λz=>by have:=dU z;cases this),df,bo (λz=>by have:=dU z;cases this),df,aU (by rfl)];rfl
def Xx:eC ig kX=some [.name,.letter,.name]:=by
 obtain⟨e1,e2,e3,e4,e5⟩:=ze;unfold eC ig;rw[e1,e2,e3,e4,e5];rw[df,bo (λz=>by have:=dU z;cases this),df,bo (λz=>by have:=dU z;cases this),df,bo (λz=>by have:=dU z;cases this),df,bo (λz=>by have:=dU z;cases this),df,aU (by rfl)];rfl
def MN(h:k<16):eE .letter [97+k]=true:=by
 show (decide (1=1)&&(List.all [97+k] λc=>decide (97<=c/\c<113)))=true;simp;lia
def zeO(hw:w<3)(hn:bf n=true)(ha:bf a=true)(hb:bf b=true):eZ (bI.two w n a b).line=some (some (bI.two w n a b).nm,(bI.two w n a b).wl,(bI.two w n a b).th):=by
  show eZ (n++32::([61]++32::bR 32 [jB w,a,b]))=_
  rw [xZ        hn (.inl rfl), HK        (UT      hw) (by obtain rfl | rfl | rfl : w = 0 ∨ w = 1 ∨ w = 2 := by omega
                                                          all_goals decide) tS (fun v hv => by
    have:v=a\/v=b:=by simpa using hv
    rcases this with rfl|rfl
    · exact lb ha
    · exact lb hb) rfl (by show (bf a&&(bf b&&true))=true;rw [ha,hb];rfl)]
  rfl
def UX(hn:bf n=true)(ha:bf a=true)(hk:k<16)(hb:b=0\/b=1):eZ (bI.fixd n a k b).line=some (some (bI.fixd n a k b).nm,(bI.fixd n a k b).wl,(bI.fixd n a k b).th):=by
 show eZ (n++32::([61]++32::bR 32 [kK,a,[97+k],[48+b.toNat]]))=_;have yM:eE .bit [48+b.toNat]=true:=by rcases hb with rfl|rfl<;>decide
 rw[xZ hn (.inl rfl),HK Z7 tD tS (λv hv=>by
  have:v=a\/v=[97+k]\/v=[48+b.toNat]:=by simpa using hv
  rcases this with rfl|rfl|rfl
  ·exact lb ha
  ·simp;lia
  ·simp;lia) rfl (by show (bf a&&(eE .letter [97+k]&&(eE .bit [48+b.toNat]&&true)))=true;rw[ha,MN hk,yM];rfl)]
 show some (some n,kK,[V.str (S a),V.int (Txt.find (S oj) (S [97+k])),V.int ((digitsVal [48+b.toNat]:Nat):Int)])=some (some n,kK,[V.str (S a),V.int (k:Int),V.int b]);rw[Hh k hk];rcases hb with rfl|rfl<;>rfl
def Wu(hn:bf n=true)(ha:bf a=true)(hb:bf b=true)(hk:k<16):eZ (bI.put n a k b).line=some (some (bI.put n a k b).nm,(bI.put n a k b).wl,(bI.put n a k b).th):=by
 show eZ (n++32::([61]++32::bR 32 [kX,a,[97+k],b]))=_;rw[xZ hn (.inl rfl),HK Xx tD tS (λv hv=>by
  have:v=a\/v=[97+k]\/v=b:=by simpa using hv
  rcases this with rfl|rfl|rfl
  ·exact lb ha
  ·simp;omega
  ·exact lb hb) rfl (by show (bf a&&(eE .letter [97+k]&&(bf b&&true)))=true;rw[ha,MN hk,hb];rfl)]
 show some (some n,kX,[V.str (S a),V.int (Txt.find (S oj) (S [97+k])),V.str (S b)])=some (some n,kX,[V.str (S a),V.int (k:Int),V.str (S b)]);rw[Hh k hk]
def sf(h:iE ls st c r)(h':iE ls st c r'):r=r':=by
 cases c with
 |form n t =>
  obtain⟨f,rfl,e⟩:=h;obtain⟨f',rfl,e'⟩:=h';rw[e]at e';rw[gd e']
 |stat n s =>
  obtain⟨f,rfl,h1⟩:=h;obtain⟨f',rfl,bJ⟩:=h';rw[aZ.unique h1 bJ λk=>rfl]
 |fixd n a k b =>
  rcases h with ⟨h1,rfl⟩|⟨l,f,h1,rfl,h2⟩<;>rcases h' with ⟨bJ,rfl⟩|⟨l',f',bJ,rfl,d9⟩
  ·rfl
  ·rw[h1]at bJ;cases bJ
  ·rw[h1]at bJ;cases bJ
  ·rw[h1]at bJ;cases bJ;rw[aZ.unique h2 d9 λk=>rfl]
 |put n a k b =>
  rcases h with ⟨h1,rfl⟩|⟨l,h1,h2,rfl⟩|⟨l,o,h1,h2,h3⟩<;>rcases h' with ⟨bJ,rfl⟩|⟨l',bJ,d9,rfl⟩|⟨l',o',bJ,d9,nW⟩
  ·rfl
  ·rfl
  ·rw[h1]at bJ;cases bJ
  ·rfl
  ·rfl
  ·rw[h2]at d9;cases d9
  ·rw[h1]at bJ;cases bJ
  ·rw[h2]at d9;cases d9
  ·rw[h1]at bJ;cases bJ;rw[h2]at d9;cases d9;rcases h3 with ⟨y,rfl⟩|⟨y,f,rfl,h4⟩<;>rcases nW with ⟨y',rfl⟩|⟨y',f',rfl,h4'⟩
   ·rfl
   ·exact absurd y' y
   ·exact absurd y y'
   ·rw[aZ.unique h4 h4' λk=>rfl]
 |two w n a b =>
  rcases h with ⟨h1,rfl⟩|⟨l,h1,h2,rfl⟩|⟨l,o,f,h1,h2,rfl,h3⟩<;>rcases h' with ⟨bJ,rfl⟩|⟨l',bJ,d9,rfl⟩|⟨l',o',f',bJ,d9,rfl,nW⟩
  ·rfl
  ·rfl
  ·rw[h1]at bJ;cases bJ
  ·rfl
  ·rfl
  ·rw[h2]at d9;cases d9
  ·rw[h1]at bJ;cases bJ
  ·rw[h2]at d9;cases d9
  ·rw[h1]at bJ;cases bJ;rw[h2]at d9;cases d9;rw[aZ.unique h3 nW λk=>rfl]
theorem Qv:∀{l:aq},(∀t∈l,t.2.natAbs<=B)->∀k,(aL l k).natAbs<=l.length*B
 |[],_,k=>by simp[aL]
 |t::r,h,k=>by
  have ih:=Qv (l:=r) (λu hu=>h u (by simp[hu])) k;have h1:=h t tS;rw[bH,Ep];unfold aL;split<;>lia
def qA(hF:aZ f l)(hl:l.length<=n)(h:∀t∈l,t.2.natAbs<=B)(hC:n*B<C):∀t∈f,t.2.natAbs<C:=λt ht=>by
 have h1:=Qv h t.1;rw[<-hF.val,Hq hF.toIsForm t ht]at h1;exact jm (aX h1 (pK _ hl)) hC
def Py(h:∀t∈l,t.2.natAbs<=A)(h':∀t∈m,t.2.natAbs<=B):∀t∈bK l m,t.2.natAbs<=A*B:=λt ht=>by
 obtain⟨u,hu,z⟩:=Bs.mp ht;obtain⟨v,hv,rfl⟩:=bp.mp z;rw[zq];exact fM (h u hu) (h' v hv)
def dh.len(h:dh ls f)(h5:ls.length<=5):f.length<=32:=h.2.1.len h.1 h5
def dh.say(h:dh ls f)(cI:∀x∈ls,x<16):∀t∈f,gp t:=λt ht=>by
 obtain⟨h0,hb⟩:=h.2.1 t ht;exists h0,?_,h.1.nz t ht,lQ (h.2.2 t ht) tE;have h1:t.1.toNat<2^16:=zr _ λj hj=>by
  cases z:t.1.toNat.testBit j
  ·rfl
  ·have:=cI j (hb j z);lia
 lia
def pe(st:eK)(a:List Nat):Prop:=∀l,cz st a=some l->∀t∈l,t.2.natAbs<10^20
def uc(ls:List Nat)(st:eK):bI->Prop
 |.form n t=>bf n=true/\∃f,t=txt f/\dh ls f/\f.length<=4/\∀u∈f,u.2.natAbs<10^4
 |.stat n s=>bf n=true/\s.ok (λk=>k∈ls)/\s.ln<=5
 |.fixd n a k b=>bf n=true/\bf a=true/\k<16/\(b=0\/b=1)/\pe st a
 |.put n a k b=>bf n=true/\bf a=true/\bf b=true/\k<16/\pe st a/\pe st b
 |.two w n a b=>bf n=true/\bf a=true/\bf b=true/\w<3/\pe st a/\pe st b
theorem K0(c:Nat):∀ws:List (List Nat),(∀w∈ws,w.length<=8)->(bR c ws).length<=9*ws.length
 |[],_=>bM _
 |[w],h=>by have:=h w tS;show w.length<=9*1;lia
 |w::v::r,h=>by
  have ih:=K0 c (v::r) λx hx=>h x (by simp_all)
  have:=h w tS
  show (w++c::bR c (v::r)).length<=_;rw[bh,bH];rw[bH]at ih ⊢;rw[bH];lia
theorem Fl:∀ws:List (List Nat),(∀w∈ws,∀c∈w,c<128)->∀c∈bR 32 ws,c<128
 |[],_,c,hc=>by cases hc
 |[w],h,c,hc=>h w tS c hc
 |w::v::r,h,c,hc=>by
  have ih:=Fl (v::r) λx hx=>h x (by simp_all)
  have lY:=hc;rcases bA.mp lY with z|z
  ·exact h w tS c z
  ·rcases bC.mp z with rfl|z
   ·decide
   ·exact ih c z
def uc.line(h:uc ls st c)(cI:∀x∈ls,x<16):eZ c.line=some (some c.nm,c.wl,c.th)/\zQ ls c/\c.line.length<=9000/\∀x∈c.line,x<128:=by
 have six:∀ws:List (List Nat),ws.length<=6->(∀w∈ws,w.length<=8/\∀c∈w,c<128)->(bR 32 ws).length<=9000/\∀x∈bR 32 ws,x<128:=λws hl hw =>
  ⟨aX (K0 32 ws λw z=>(hw w z).1) tL,Fl ws λw z=>(hw w z).2⟩
 cases c with
 |form n t =>
  obtain⟨hn,f,rfl,hf,hl,h4⟩:=h;have hs:=hf.say cI;obtain⟨t1,t2⟩:=FW (f:=f) tL λt ht=>⟨hs t ht,h4 t ht⟩
  obtain⟨n1,n2⟩:=eG hn;exists U8 hn hs,⟨t2,tL,by rw[zb hf.1 hs];rfl⟩,?_,λx hx=>?_
  ·show (n++([32,61,32]++txt f)).length<=9000;rw[bh,bh];show n.length+(3+_)<=9000;lia
  ·have fL:=hx;rcases bA.mp fL with z|z
   ·exact n2 x z
   ·rcases bA.mp z with y|y
    ·simp at y;lia
    ·exact t2 x y
 |stat n s =>
  obtain⟨hn,ho,hl⟩:=h;obtain⟨n1,n2⟩:=eG hn;have t0:=tU ho;have t1:=si s;have t2:=(Ak (s:=s) (Sm.ok.imp (λk hk=>cI k hk) ho)).1;exists zap hn,⟨ho,hl⟩,?_,λx hx=>?_
  ·show (n++([32,58,61,32]++bY s)).length<=9000;rw[bh,bh];show n.length+(4+_)<=9000;lia
  ·have fL:=hx;rcases bA.mp fL with z|z
   ·exact n2 x z
   ·rcases bA.mp z with y|y
    ·simp at y;lia
    ·exact t2 x y
 |fixd n a k b =>
  obtain⟨hn,ha,hk,hb,_⟩:=h;exists UX hn ha hk hb,⟨tL,hb⟩,six [n,[61],kK,a,[97+k],[48+b.toNat]] tS λw hw=>?_
  have:w=n\/w=[61]\/w=kK\/w=a\/w=[97+k]\/w=[48+b.toNat]:=by simpa using hw
  rcases this with rfl|rfl|rfl|rfl|rfl|rfl
  ·exact eG hn
  ·decide
  ·decide
  ·exact eG ha
  ·simp;lia
  ·rcases hb with rfl|rfl<;>decide
 |put n a k b =>
  obtain⟨hn,ha,hb,hk,_⟩:=h;exists Wu hn ha hb hk,(by show k<=100;omega),six [n,[61],kX,a,[97+k],b] tS λw hw=>?_
  have:w=n\/w=[61]\/w=kX\/w=a\/w=[97+k]\/w=b:=by simpa using hw
  rcases this with rfl|rfl|rfl|rfl|rfl|rfl
  ·exact eG hn
  ·decide
  ·decide
  ·exact eG ha
  ·simp;omega
  ·exact eG hb
 |two w n a b =>
  obtain⟨hn,ha,hb,hw,_⟩:=h;exists zeO hw hn ha hb,hw,six [n,[61],jB w,a,b] tS λv hv=>?_
  have:v=n\/v=[61]\/v=jB w\/v=a\/v=b:=by simpa using hv
  rcases this with rfl|rfl|rfl|rfl|rfl
  ·exact eG hn
  ·decide
  ·obtain rfl|rfl|rfl:w=0\/w=1\/w=2:=by omega
   all_goals decide
  ·exact eG ha
  ·exact eG hb
def xQ{p:Nat->Prop}{s:Sm}{f:aq}(ho:s.ok p)(hl:s.ln<=5)(hF:aZ f s.tl):∀t∈f,t.2.natAbs<10^60:=by
 have h1:=wH s;have h2:=dB (show 2>0 by decide) hl;have h3:=dB (show 4>0 by decide) hl;refine qA (n:=32) (B:=1024) hF tL (λt ht=>?_) tE
 have:=Br ho t ht
 lia
def uc.makes(h:uc ls st c)(cI:∀x∈ls,x<16)(h5:ls.length<=5)(a8:∀nf∈st,dh ls nf.2)(hm:iE ls st c (.form f)):dh ls f:=by
 cases c with
 |form n t =>
  obtain⟨_,f0,rfl,hf,_⟩:=h;obtain⟨f',e,e'⟩:=hm;rw[zb hf.1 (hf.say cI)]at e';injection e with e
  injection e' with e'
  rw[e,<-e'];exact hf
 |stat n s =>
  obtain⟨_,ho,hl⟩:=h;obtain⟨f',e,hF⟩:=hm;injection e with e
  subst e;nomatch hF.toIsForm,(rn ho).of hF,xQ ho hl hF
 |fixd n a k b =>
  obtain⟨_,_,hk,hb,hs⟩:=h;rcases hm with ⟨_,e⟩|⟨l,f',h1,e,hF⟩
  ·cases e
  injection e with e
  subst e;have hl:=d7 a8 h1;have n1:=hl.len h5;exists hF.toIsForm,(hl.2.1.fix k b).of hF,qA (n:=32) (B:=10^20) hF (aX (Pz k b l) n1) (λt ht=>?_) tE;rcases bA.mp ht with z|z
  ·exact bE (hs l h1 t (Hn z).1)
  ·split at z
   ·cases z
   ·obtain⟨_,u,hu,eu,_⟩:=ui (λt ht=>(hl.2.1 t ht).1) z;rw[eu];exact bE (hs l h1 u hu)
 |put n a k b =>
  obtain⟨_,_,_,hk,hs,sx⟩:=h;rcases hm with ⟨_,e⟩|⟨l,_,_,e⟩|⟨l,o,h1,h2,⟨_,e⟩|⟨_,f',e,hF⟩⟩
  ·cases e
  ·cases e
  ·cases e
  injection e with e
  subst e;have hl:=d7 a8 h1;have ho:=d7 a8 h2;have n1:=hl.len h5;have n2:=ho.len h5;have n3:=xJ k l;have n4:=yx k l;have n5:(eF k l).length*o.length<=32*32:=fM tL n2;exists hF.toIsForm,(hl.2.1.put ho.2.1 k).of hF,qA (n:=1056) (B:=10^20*10^20) hF (by unfold qm;rw[bh,oX];lia) (λt ht=>?_) tE;rcases bA.mp ht with z|z
  ·exact aX (bE (hs l h1 t (Hn z).1)) tE
  ·refine Py (λu hu=>?_) (λu hu=>bE (sx o h2 u hu)) t z;obtain⟨_,v,hv,ev,_⟩:=ui (λt ht=>(hl.2.1 t ht).1) hu;rw[ev];exact bE (hs l h1 v hv)
 |two w n a b =>
  obtain⟨_,_,_,hw,hs,sx⟩:=h;rcases hm with ⟨_,e⟩|⟨l,_,_,e⟩|⟨l,o,f',h1,h2,e,hF⟩
  ·cases e
  ·cases e
  injection e with e
  subst e;have hl:=d7 a8 h1;have ho:=d7 a8 h2;have n1:=hl.len h5;have n2:=ho.len h5;have n5:=fM n1 n2;obtain rfl|rfl|rfl:w=0\/w=1\/w=2:=by lia
  ·have qc:aZ f (l++o):=hF;exists hF.toIsForm,(hl.2.1.app ho.2.1).of qc,qA (n:=64) (B:=10^20) qc (by rw[bh];lia) (λt ht=>?_) tE;exact bE ((bA.mp ht).elim (hs l h1 t) (sx o h2 t))
  ·have qc:aZ f (l++o.map λt=>(t.1,-t.2)):=hF;exists hF.toIsForm,(hl.2.1.app (ho.2.1.map _)).of qc,qA (n:=64) (B:=10^20) qc (by grind) (λt ht=>?_) tE;rcases bA.mp ht with z|z
   ·exact bE (hs l h1 t z)
   ·obtain⟨u,hu,rfl⟩:=bp.mp z;rw[Kf];exact bE (sx o h2 u hu)
  ·have qc:aZ f (bK l o):=hF;exists hF.toIsForm,(hl.2.1.prod ho.2.1).of qc,qA (n:=1024) (B:=10^20*10^20) qc (by rw[oX];assumption) (Py (λt ht=>bE (hs l h1 t ht)) (λt ht=>bE (sx o h2 t ht))) tE
def bI.dw:bI->Str
 |.form _ _ => "form" |.stat _ _ => "statement" |.fixd _ _ _ _ => "fixed" |.put _ _ _ _ => "put" |.two w _ _ _=>gK w
def Part(H:Hp)(x:V):bI->Prop
 |.form _ t=>∃a f,x=.ref a/\aG H a f/\nj t=some f
 |.stat _ s=>Is H x s.d
 |.fixd _ a k b=>∃q,x=.ref q/\H q=some (.tup [.str (S a),.int (k:Int),.int b])
 |.put _ a k b=>∃q,x=.ref q/\H q=some (.tup [.str (S a),.str (S b),.int (k:Int)])
 |.two _ _ a b=>∃q,x=.ref q/\H q=some (.tup [.str (S a),.str (S b)])
def Part.keep(h:Part H x c)(s:af H H'):Part H' x c:=by
 cases c with
 |form n t=>obtain⟨a,f,e,h1,h2⟩:=h;nomatch a,f,e,h1.keep s,h2
 |stat n t=>exact (show Is H x t.d from h).keep s
 |fixd n a k b=>obtain⟨q,e,h1⟩:=h;nomatch q,e,s _ _ h1
 |put n a k b=>obtain⟨q,e,h1⟩:=h;nomatch q,e,s _ _ h1
 |two w n a b=>obtain⟨q,e,h1⟩:=h;nomatch q,e,s _ _ h1
def mn(H:Hp)(p:Addr)(c:bI):Prop:=∃x,H p=some (.tup [.str c.dw,x,.str (S c.line)])/\Part H x c
def mn.keep(h:mn H p c)(s:af H H'):mn H' p c:=let ⟨x,h1,h2⟩:=h; ⟨x,s _ _ h1,h2.keep s⟩
def kd(h:H e=some (.lst [.str x])):Is H (.ref e) (.lst [.str x]):=zcd h (by
 exact⟨_,[],rfl,dr.mpr rfl,by unfold cY;rfl⟩)
end My
namespace OS
open PySem PySem.W PyProof.Rows
noncomputable def tbl(p:List Nat)(led:Bool):SetTable:={mask:=7,place:=p.toArray,dummies := #[],finger:=0,led:=led,moves:=0,plain:=true}
noncomputable def ju:Nat->List (List Nat)
 |0=>[[]]
 |n+1=>[]::(List.range 8).flatMap λi=>(ju n).filterMap λp=>if p.all (i < ·)then some (i::p)else none
def Pd(led:Bool)(p:List Nat)(h:Nat):Bool :=
 match (tbl p led).freeSlot (h:Int)with
 |some (j,false)=>(ju 4).contains ((tbl p led).put j).1.place.toList&&((tbl p led).put j).1 == tbl ((tbl p led).put j).1.place.toList led&&decide (((tbl p led).put j).2<=p.length)&&decide (((tbl p led).put j).1.place.toList.length=p.length+1)
 |_=>false
def xm(led:Bool)(hs:List Nat):Bool:=(ju 3).all λp=>hs.all λh=>Pd led p h
def Xe:xm true (List.range 8)=true:=by decide+kernel
def zd3:xm true (List.range' 8 8)=true:=by decide+kernel
def WO:xm false (List.range 8)=true:=by decide+kernel
def XF:xm false (List.range' 8 8)=true:=by decide+kernel
noncomputable def LY(p:List Nat):Bool:=SetTable.below p.toArray 0 == 0&&(List.range p.length).all λi=>SetTable.below p.toArray (p.getD i 0+1) == i+1
def zd2:((ju 4).all LY)=true:=by decide+kernel
def sX:((ju 4).all λp=>decide (p.length<=4)&&((ju 3).contains p || decide (p.length=4)))=true:=by decide+kernel
open PySem PySem.W PyProof.Rows
def Dt{k:Nat}(h:k<16):hashInt (k:Int)=(k:Int):=by
 have:∀k:Fin 16,hashInt ((k.val:Nat):Int)=((k.val:Nat):Int):=by decide+kernel
 exact this ⟨k,h⟩
set_option tactic.hygienic true in
def ZF{led:Bool}{p:List Nat}{k:Nat}(hp:p∈ju 3)(hk:k<16):∃j i p',(tbl p led).freeSlot (k:Int)=some (j,false)/\(tbl p led).put j=(tbl p' led,i)/\p'∈ju 4/\i<=p.length/\p'.length=p.length+1:=by
 have h1:xm led (if k<8 then List.range 8 else List.range' 8 8)=true:=by
  cases led<;>split
  ·exact WO
  ·exact XF
  ·exact Xe
  ·exact zd3
 have h2:=fN.mp h1 p hp;rw[fN]at h2;have h3:=h2 k (by
  split
  ·exact ji.mpr (by assumption)
  ·exact List.mem_range'.mpr ⟨k-8,by omega,by omega⟩)
 unfold Pd at h3;split at h3
 ·rename_i j e;simp only[ff,ka,yd,Kg]at h3;obtain⟨⟨⟨a,b⟩,c⟩,d⟩:=h3;nomatch j,_,_,e,Cm b rfl,a,c,d
 ·cases h3
def zbt{led:Bool}{p:List Nat}{k:Nat}{es:Array (Int×Value)}{x:Value}(hp:p∈ju 3)(hk:k<16)(he:p.length=es.size) :
  ∃i p',layNew (tbl p led) es (k:Int) x=(SetTable.insertAt es i ((k:Int),x),tbl p' led,false,false)/\p'∈ju 4/\i<=es.size/\p'.length=es.size+1/\(tbl p' led).fits (SetTable.insertAt es i ((k:Int),x)).size=true:=by
 obtain⟨j,i,p',e1,e2,e3,e4,e5⟩:=ZF (led:=led) hp hk;have h4:p'.length<=4:=by
  have h:=sX;rw[fN]at h
  have:=h p' e3
  rw[ff]at this;exact bP this.1
 have hs:(SetTable.insertAt es i ((k:Int),x)).size=es.size+1:=by
  have:=(Gg es i ((k:Int),x)).length_eq
  rw[gL,gL,JZ]at this;exact this
 have hf:(tbl p' led).fits (SetTable.insertAt es i ((k:Int),x)).size=true:=by
  rw[hs];unfold SetTable.fits SetTable.fill tbl;rw[ff];nomatch by simp_all,aU (by show p'.toArray.size+0<=7;rw[fz];lia)
 exists i,p',?_,e3,tL,tL,hf;unfold layNew;rw[e1];dsimp only;rw[e2];dsimp only;unfold SetTable.orStandIn;rw[hf];rfl
section
variable{prog:Program}{w:World}{A:Around}{E:Value->Shared->Prop}{s:Shared}
noncomputable def EI(l:List (Int×Value)):Prop:=∀e∈l,∃(j t:Nat),j<16/\e=((j:Int),Value.int (j:Int) t)
def EI.elems{l:List (Int×Value)}(h:EI l):ElemsOf (intKind prog w) l:=λe he=>by
 obtain⟨j,t,hj,rfl⟩:=h e he;nomatch ⟨(j:Int),intKind_is _ _ _ _,(Dt hj).symm⟩,rfl
noncomputable def gI(w:World):Bool:=w.params.followText "set-order"
structure iA(w:World)(h:Heap)(a:Addr)(o:Obj)(es:Array (Int×Value))(ep:Nat)(p:List Nat):Prop where
 ho:h.get? a=some o
 ex:o.ExactSet
 hd:o.data=.set es ep (tbl p (!gI w))
 hp:p∈ju 4
 hl:p.length=es.size
 ei:EI es.toList
def Gm{p:List Nat}(h:p∈ju 4):p.length<=4/\(p.length<4->p∈ju 3):=by
 have z:=sX;rw[fN]at z
 have:=z p h
 rw[ff,za]at this;exists bP this.1,λy=>?_;rcases this.2 with u|u
 ·exact Kg.mp u
 ·have:=bP u;lia
def iA.fits{h:Heap}{a:Addr}{o:Obj}{es:Array (Int×Value)}{ep:Nat}{p:List Nat}(g:iA w h a o es ep p):(tbl p (!gI w)).fits es.size=true:=by
 have:=(Gm g.hp).1
 unfold SetTable.fits SetTable.fill tbl;rw[ff];nomatch by rw[fz,g.hl];exact beq_self_eq_true _,aU (by show p.toArray.size+0<=7;rw[fz];lia)
def iA.few{h:Heap}{a:Addr}{o:Obj}{es:Array (Int×Value)}{ep:Nat}{p:List Nat}(g:iA w h a o es ep p):es.size<=4:=by
 have:=(Gm g.hp).1;rw[<-g.hl];exact this
def Nm{l:List (Int×Value)}(h:EI l)(k:Nat):(l.findIdx? λe=>Value.isInt (k:Int) e.2)=none↔(k:Int)∉l.map (·.1):=by
 rw[List.findIdx?_eq_none_iff];constructor
 ·intro z y;obtain⟨e,he,e2⟩:=bp.mp y;obtain⟨j,t,_,rfl⟩:=h e he
  have:=z _ he
  dsimp only at e2;rw[e2]at this;simp[Value.isInt]at this
 ·intro z e he;obtain⟨j,t,_,rfl⟩:=h e he
  have:(j:Int)≠(k:Int):=λy=>z (bp.mpr ⟨_,he,y⟩)
  simp[Value.isInt];intro y;exact this (by simpa using y)
def Wx{a:Addr}{o:Obj}{es:Array (Int×Value)}{ep:Nat}{p:List Nat}{k t:Nat}{Q:Bool->Shared->Prop}(g:iA w s.heap a o es ep p)(hk:k<16)(h4:(k:Int)∉es.toList.map (·.1)->es.size<4)
  (old:(k:Int)∈es.toList.map (·.1)->Q false s)
  (new:∀h' o' oI p',(k:Int)∉es.toList.map (·.1)->Heap.SameBut a s.heap h'->iA w h' a o' oI (ep+1) p'->oI.toList.Perm (es.toList++[((k:Int),Value.int (k:Int) t)])->Q true {s with heap:=h'}) :
  wpAny (model prog w) A (setAddHashed a (.int (k:Int) t) (k:Int)) Q E s:=by
 have Qm:=g.ei.elems (prog:=prog) (w:=w);have hf:=g.fits;have C4:(intKind prog w).is (k:Int) (Value.int (k:Int) t)=true:=intKind_is _ _ _ _;have hh:(k:Int)=(intKind prog w).hash (k:Int):=(Dt hk).symm;have hb:es.size<scanBound:=jm g.few tD;unfold setAddHashed setAddHashedIn;refine lj (au (zA g.ho g.hd hf ?_));dsimp only;rw[byScan_of (knd:=intKind prog w) rfl hb Qm];simp only[↓reduceIte];unfold setAddByScan;refine au ?_;refine au (qM ?_);have scan:∀{Q':ScanMet->Shared->Prop},Q' (match es.toList.findIdx? (λe=>(intKind prog w).is (k:Int) e.2)with|some j=>.found (0+j)|none=>.absent) s->wpAny (model prog w) A (setScan a (.int (k:Int) t) (k:Int) true es) Q' E s:=λhq=>by
  have:=wpAny_setScan_of (A:=A) (E:=E) (knd:=intKind prog w) (adding:=true) C4 g.ho g.hd hf Qm hq
  rwa [<-hh]at this
 refine au (scan ?_);cases hr:List.findIdx? (λe=>(intKind prog w).is (k:Int) e.2) es.toList with
 |some j =>
  dsimp only;refine aJ (aJ (old ?_));refine F9 λz=>?_
  rw[show (List.findIdx? (λe=>(intKind prog w).is (k:Int) e.2) es.toList)=none from (Nm g.ei k).mpr z]at hr;cases hr
 |none =>
  dsimp only;have mI:=(Nm g.ei k).mp hr;have ba:=h4 mI;obtain⟨i,p',e1,e2,e3,e4,e5⟩:=zbt (led := !gI w) (x:=Value.int (k:Int) t) ((Gm g.hp).2 (by rw[g.hl];exact ba)) hk g.hl;rw[e1];dsimp only;refine au (aJ ?_);have cX:(tbl p' (!gI w)).plain=true:=rfl;rw[aC cX];refine au ?_;rw[hashByValue_scannable 8 (x:=Value.int (k:Int) t) rfl];refine aJ ?_;dsimp only [plainKind];simp only[↓reduceIte];have hs:(SetTable.insertAt es i ((k:Int),Value.int (k:Int) t)).size=es.size+1:=by
   have:=(Gg es i ((k:Int),Value.int (k:Int) t)).length_eq
   rw[gL,gL,JZ]at this;exact this
  refine au (wpAny_storeSet_of g.ho g.hd ?_ (fits_of_scanBound (by rw[hs];exact cS (Nat.succ_lt_succ ba) tD)));have vz:(tbl p' (!gI w)).tooFull=false:=by
   unfold SetTable.tooFull SetTable.fill tbl;have:¬(p'.toArray.size+0)*5 ≥ 7*3:=by grind
   exact bo this
  rw[vz];simp only[IX,pY,my,↓reduceIte];have dW:(SetTable.insertAt es i ((k:Int),Value.int (k:Int) t)).toList.Perm (es.toList++[((k:Int),Value.int (k:Int) t)]):=by
   have:=Gg es i ((k:Int),Value.int (k:Int) t)
   rwa [NC]at this
  have hg:(s.heap.update a (Obj.putSet (SetTable.insertAt es i ((k:Int),Value.int (k:Int) t)) (tbl p' (!gI w)))).get? a=some {o with data:=.set (SetTable.insertAt es i ((k:Int),Value.int (k:Int) t)) (ep+1) (tbl p' (!gI w))}:=by
   have:=xI (Obj.putSet (SetTable.insertAt es i ((k:Int),Value.int (k:Int) t)) (tbl p' (!gI w))) g.ho (by rw[putSet_of _ _ g.hd];rfl)
   rw[putSet_of _ _ g.hd]at this;exact this
  refine aJ (aJ (new _ _ _ p' mI (Fn s.heap a _) ⟨hg,g.ex,rfl,e2,by rw[hs];exact e4,λe he=>?_⟩ dW));rcases bA.mp (dW.mem_iff.mp he)with z|z
  ·exact g.ei e z
  ·nomatch k,t,hk,bw.mp z
end
open PySem PySem.W PyProof.Rows
noncomputable def Bl(w:World)(h:Heap)(a:Addr)(val:Nat->Nat)(i:Nat):Prop:=∃o es ep p,iA w h a o es ep p/\es.size<=i/\(es.toList.map (·.1)).Nodup/\∀x:Int,x∈es.toList.map (·.1)↔∃j,j<i/\x=(val j:Int)
def Bl.keep{w:World}{h h':Heap}{a:Addr}{val:Nat->Nat}{i:Nat}(b:Bl w h a val i)(k:∀o,h.get? a=some o->h'.get? a=some o):Bl w h' a val i :=
 let ⟨o,es,ep,p,g,r⟩:=b; ⟨o,es,ep,p,⟨k o g.ho,g.ex,g.hd,g.hp,g.hl,g.ei⟩,r⟩
section
variable{prog:Program}{w:World}{A:Around}{R:Result->Shared->Prop}{I:Addr}{fp wr:List Addr}{G:Array GenState->Array GenState->Prop}{n:Nat}{P:Nat->Value->Prop}{St:Nat->Shared->Prop}
def Uz(W:WalksS prog w A.in1 I fp wr G n P St)(S:Addr)(mq:S∉fp)(val:Nat->Nat)(Ef:∀i v,P i v->∃t,v=.int (val i:Int) t)(cI:∀i,i<n->val i<16)(hn:n<=4) :
  ∀(k i:Nat) (s:Shared),n-i=k->i<=n->St i s->Bl w s.heap S val i ->
   (∀s',Moved (S::wr) G s s'->Bl w s'.heap S val n->R (.ok (.ret .none)) s') ->
   codeAny (model prog w) A (.builtin "set.update.loop" ⟨[.ref S,.ref I],[]⟩) R s:=by
 have rS:S∉wr:=λh=>mq (W.sub _ h)
 have qP:∀b∈wr,b∈S::wr:=λb hb=>dM _ hb
 intro k;induction k with
 |zero =>
  intro i s hk hi a8 hS hR;have rN:i=n:=by lia
  subst rN;refine mL JU ?_;rw[uO EB _];show wpAny _ A.in1 (pyNext (.ref I) >>= _) _ _ s;refine au (W.done s _ _ a8 λs' hm=>?_);show wpAny _ A.in1 (ret Value.none) _ _ s';exact aJ (hR s' (hm.mono qP) (hS.keep λo e=>hm.heap S _ rS e))
 |succ k ih =>
  intro i s hk hi a8 hS hR;have ba:i<n:=by lia
  refine mL JU ?_;rw[uO EB _];show wpAny _ A.in1 (pyNext (.ref I) >>= _) _ _ s;refine au (W.item i s _ _ ba a8 λv s' hP vM hm=>?_);obtain⟨t,rfl⟩:=Ef i v hP;obtain⟨o,es,ep,p,g,hsz,kH,mE⟩:=hS.keep λo e=>hm.heap S _ rS e
  have hv:=cI i ba;show wpAny _ A.in1 (holding [Value.int (val i:Int) t] (setAdd S (.int (val i:Int) t)) >>= _) _ _ s';refine au (lj ?_);unfold setAdd;refine lj ?_;refine au ((intKind prog w).pyHash (k:=(val i:Int)) (intKind_is _ _ _ _) ?_);show wpAny _ _ (setAddHashed S (.int (val i:Int) t) (hashInt (val i:Int))) _ _ _;rw[Dt hv];have fin:∀(h':Heap),Heap.SameBut S s'.heap h'->Bl w h' S val (i+1)->wpAny (model prog w) A.in1 (again (.builtin "set.update.loop" ⟨[.ref S,.ref I],[]⟩)) (λfin s'=>match fin with|.done f=>R (.ok f) s'|.again c'=>c'.quiet=true/\codeAny (model prog w) A c' R s') (λe s'=>R (.error e) s') {s' with heap:=h',toks:=s'.toks+1}:=λh' yq Al=>by
   refine aJ ⟨uV EB _,ih (i+1) _ tL ba (W.frame _ s' _ _ vM (zi _) λb hb o e=>?_) Al λlS hm'' hS''=>?_⟩
   ·rw[yq.2 b (λh:b=S=>mq (by simp_all))];exact e
   ·refine hR lS (Moved.trans W.gtrans ((hm.mono qP).then_heap (zi _) λb o hb e=>?_) hm'') hS'';rw[yq.2 b (λh:b=S=>hb (by rw[h];exact kF))];exact e
  refine Wx (s:={s' with toks:=s'.toks+1}) g hv (λ_=>tL) (λho=>?_) λh' o' oI p' mI yq g' dW=>?_
  ·refine fin _ (jhV S s'.heap) ⟨o,es,ep,p,g,tL,kH,λx=>?_⟩;rw[mE x];constructor
   ·rintro⟨j,hj,e⟩;nomatch j,tL,e
   ·rintro⟨j,hj,e⟩;rcases kU j i with z|z
    ·nomatch j,z,e
    ·have:j=i:=by lia
     subst this;rw[e];exact (mE _).mp ho
  ·have Ga:=dW.map (·.1);rw[aQ]at Ga;refine fin _ yq ⟨o',oI,ep+1,p',g',?_,?_,λx=>?_⟩
   ·have:=dW.length_eq
    rw[gL,bh,gL]at this;show oI.size<=i+1;rw[this];exact Nat.add_le_add_right hsz 1
   ·rw[Ga.nodup_iff,FA];exists kH,tS,λa ha b hb e=>?_;subst e;rw[bw.mp hb]at ha;exact mI ha
   ·rw[Ga.mem_iff,bA,mE x];constructor
    ·rintro (⟨j,hj,e⟩|z)
     ·nomatch j,tO,e
     ·nomatch i,wY i,bw.mp z
    ·rintro⟨j,hj,e⟩;rcases kU j i with z|z
     ·exact .inl ⟨j,z,e⟩
     ·have:j=i:=by omega
      subst this;exact .inr (bw.mpr e)
end
section
variable{prog:Program}{w:World}{A:Around}{E:Value->Shared->Prop}{s:Shared}
def Vi(a:Value){Q₁:Value->Shared->Prop}
  (h:Q₁ (.ref s.heap.objs.size) {s with heap:=s.heap.push {cls:=.type "set",dict:=none,data:=.set #[] 0 (tbl [] (!gI w))}}) :
  codeAny (model prog w) A (.call (.builtin "set.__new__") ⟨[.type "set",a],[]⟩) (wants Q₁ E) s:=by
 refine codeAny_of_tree ?_;show wpAny _ A.in1 (do checkBuiltinCall "set.__new__" ⟨[.type "set",a],[]⟩;again (.builtin "set.__new__" ⟨[.type "set",a],[]⟩)) _ _ s;refine au (yk (PySem.F.newCall_set_1 a) (aJ ⟨uV L0 _,mL PySem.F.entry_set_new ?_⟩));rw[uO L0 _];unfold Builtin.«set.__new__» Builtin.Frozenset.newClass;have qP:=sub_set_self;obtain⟨hp,g,d,tk,os⟩:=s;dsimp only
 wp_walk
 refine vi (aJ ?_);dsimp only;simp only[newObj];refine au (wpAny_alloc (aJ ?_));exact aJ h
end
open PySem PySem.W PyProof.Rows
section
variable{prog:Program}{w:World}{A:Around}{E:Value->Shared->Prop}{s:Shared}
abbrev mH(w:World):Obj:={cls:=.type "set",dict:=none,data:=.set #[] 0 (tbl [] (!gI w))}
def Bl.zero{h:Heap}{a:Addr}{val:Nat->Nat}(e:h.get? a=some (mH w)):Bl w h a val 0 :=
 ⟨_,#[],0,[],⟨e,⟨rfl,rfl,rfl⟩,rfl,tE,rfl,λe he=>by simp at he⟩,aT _,tS,λx=>tS⟩
set_option tactic.hygienic true in
def Z0{l:Addr}{items:Array Value}{js:List Nat}{Q:Value->Shared->Prop}(hh:A.handled=none)(hl:s.heap.IsList l items)(hi:IntsAre items.toList (js.map λj:Nat=>(j:Int)))(h4:js.length<=4)(cI:∀j∈js,j<16)
  (h:∀(h':Heap) (tk:Nat),Bl w h' s.heap.objs.size (λi=>js.getD i 0) js.length->(∀b o,s.heap.get? b=some o->h'.get? b=some o)->Q (.ref s.heap.objs.size) {s with heap:=h',toks:=tk}) :
  wpAny (model prog w) A (call (.type "set") [.ref l]) Q E s:=by
 have aK:items.size=js.length:=by
  have:=IntsAre.length hi
  rw[gL,ax]at this;exact this
 obtain⟨c,tl,hmro⟩:=PySem.F.called_set.mro;have hmade:=PySem.F.called_set.made;have qP:=PySem.F.called_set.sub;refine Bp (codeAny_of_tree ?_);show wpAny _ _ (callAny (.type "set") _) _ _ _;refine aJ ⟨BH _ tE,mL PySem.F.entry_type_call ?_⟩;rw[Around.under_plain (weight_type_call_type "set" [.ref l] []) rfl];have h1:=PySem.F.called_set.notType;have h2:=PySem.F.called_set.canCreate;have hct:=PySem.F.typeCall_set_1 (.ref l);repeat (any_goals (first|assumption|wp_step))
 refine rV (Vi (.ref l) (E:=E) (Q₁:=λobj s₁=>obj=.ref s.heap.objs.size/\s₁={s with heap:=s.heap.push (mH w)}) ⟨rfl,rfl⟩) λr s₁ hr=>?_
 cases r with
 |error e=>exact hr
 |ok fl =>
  cases fl with
  |ret obj =>
   obtain⟨rfl,rfl⟩:=hr;have hS:(s.heap.push (mH w)).get? s.heap.objs.size=some (mH w):=da _ rfl;have hT:Shared.TypeIs {s with heap:=s.heap.push (mH w)} (.ref s.heap.objs.size) "set" := ⟨_,hS,rfl⟩;have hli:=PySem.F.called_set.init.lookup;have hbi:=PySem.F.called_set.init.bind (.ref s.heap.objs.size);repeat (any_goals (first|assumption|wp_step))
   refine rV (Hw (R:=wants (fun r s₂=>r = .none/\∃ h' tk,s₂={ s with heap:=h',toks:=tk }/\Bl w h' s.heap.objs.size (fun i=>js.getD i 0) js.length /\
     (∀b o,s.heap.get? b=some o->h'.get? b=some o)) E) PySem.F.called_set.init.plain PySem.F.entry_set_init (check_set_init_1 hT ?_)) λr₂ s₂ hr₂=>?_
   ·obtain⟨ol,sS,fG,nl,mh⟩:=hl;obtain⟨ocls,odict,odata,oslots⟩:=ol;simp only at fG mh;subst fG;subst mh;have Z9:(s.heap.push (mH w)).get? l=some {cls:=.type "list",dict:=odict,data:=.seq items nl,slots:=oslots}:=cq _ sS;have hsls:=PySem.F.sub_list_set;have hslf:=PySem.F.sub_list_frozenset;have cx:(Value.type "list" == Value.type "dict")=false:=by decide
    have dI:(s.heap.push (mH w)).IsList l items:=⟨_,Z9,rfl,nl,rfl⟩;unfold Builtin.«set.__init__» noKeywords Builtin.Frozenset.updateFrom;generalize hPI:pyIter=PI
    wp_walk
    subst hPI;refine qB dI ?_;refine au (wpAny_runValue ?_);have Rf:l<s.heap.objs.size:=bg sS;have hh3:A.in1.in1.in1.handled=none:=by simp[hh]
    have Xs:l≠(s.heap.push (mH w)).objs.size:=by
     rw[kB];exact dy (yl Rf)
    have mq:s.heap.objs.size∉[(s.heap.push (mH w)).objs.size,l]:=by
     rw[kB];simp only[bC,bw,jU,jW,not_or];nomatch dy (wY _),qH Rf
    have Ef:∀(i:Nat) (v:Value),items[i]?=some v->∃t,v=.int (((λi=>js.getD i 0) i:Nat):Int) t:=λi v hv=>by
     obtain⟨t,e⟩:=IntsAre.int_at hi i v (by simp_all);exists t,e.trans ?_;congr 1
     have:i<js.length:=by rw[<-aK];exact (D6.mp hv).1
     simp[m8,d4 this]
    have Wm:∀i,i<items.size->(λi=>js.getD i 0) i<16:=λi hi=>by simp_all
    refine Uz ((Bt hh3 _ l Xs items).toS) s.heap.objs.size mq (λi=>js.getD i 0) Ef Wm (by simp_all) (items.size-0) 0 _ tL (bM _)
     ⟨⟨_,da _ rfl,rfl,rfl⟩,(dI.push _)⟩ (Bl.zero (cq _ hS)) ?hR
    case hR =>
     intro s' hm Bn;obtain⟨h',g',d',mM,C9⟩:=s';have eg:g'=s.gens:=hm.gens;have ed:d'=s.drawn:=hm.drawn;have eo:C9=s.os:=hm.os;subst eg;subst ed;subst eo;rw[aK]at Bn;show wpAny _ _ _ _ _ _;refine aJ ?_;show wpAny _ _ (ret Value.none) _ _ _;refine aJ ⟨rfl,h',mM,rfl,Bn,λb o e=>?_⟩;have hb:=bg e;have fj:b≠s.heap.objs.size:=dy hb;have ik:b≠(s.heap.push (mH w)).objs.size:=by
      rw[kB];exact dy (yl hb)
     exact hm.heap b o (by simp_all) (cq _ (cq _ e))
   ·cases r₂ with
    |error e=>exact hr₂
    |ok fl₂ =>
     cases fl₂ with
     |ret r =>
      obtain⟨rfl,h',tk,rfl,Bn,uv⟩:=hr₂;repeat (any_goals (first|assumption|wp_step))
      exact h _ _ Bn uv
     |_=>exact hr₂.elim
  |_=>exact hr.elim
end
open PySem PySem.W PyProof.Rows
def AH:Slot "set_iterator" "__next__" "set_iterator.__next__" :=
 .of (owner := "set_iterator") (n := "__next__") (by rw[Ad,yE];kernel_rfl) tE tE tE
  (by first|exact .inl tE|exact .inr tE) (by rw[CI];kernel_rfl)
def zbN:entryFor table "set_iterator.__next__" = some Builtin.«set_iterator.__next__» := entryFor_of_tree tK
def zbc(a:Value):argsOk "set_iterator.__next__" ⟨[a],[]⟩:=by
 unfold argsOk;rw[signature?_of (id := "set_iterator.__next__") (n:=['_','_','t','x','e','n','_','_']) (o:=['r','o','t','a','r','e','t','i','_','t','e','s']) (rows:=Manifest.sig_set_iterator) tK tK];kernel_rfl
def Qg:Slot "set_iterator" "__iter__" "set_iterator.__iter__" :=
 .of (owner := "set_iterator") (n := "__iter__") (by rw[Ad,yE];kernel_rfl) tE tE tE
  (by first|exact .inl tE|exact .inr tE) (by rw[CI];kernel_rfl)
def Zd(a:Value):argsOk "set_iterator.__iter__" ⟨[a],[]⟩:=by
 unfold argsOk;rw[signature?_of (id := "set_iterator.__iter__") (n:=['_','_','r','e','t','i','_','_']) (o:=['r','o','t','a','r','e','t','i','_','t','e','s']) (rows:=Manifest.sig_set_iterator) tK tK];kernel_rfl
def Zt:entryFor table "set.__iter__" = some Builtin.«frozenset.__iter__» :=
 entryFor_alias (id' := "frozenset.__iter__") tK rfl tE tK
theorem RK{α:Type}(next:Nat->Nat):∀(n k:Nat) (left:List α) (out:Array α),left.length=n->(pickOrder.go next n k left out).toList.Perm (out.toList++left)
 |0,k,left,out,h=>by
  have:left=[]:=oi h
  subst this;rw[iD];exact .refl _
 |n+1,k,left,out,h=>by
  have ba:next k%left.length<left.length:=qG _ tL;unfold pickOrder.go;rw[d4 ba];dsimp only;refine (RK next n (k+1) _ _ (by rw[List.length_eraseIdx_of_lt ba];lia)).trans ?_;rw[NC,gr];refine List.Perm.append_left _ ?_;rw[List.eraseIdx_eq_take_drop_succ];refine (List.perm_middle (l₁:=left.take _) (l₂:=left.drop _)).symm.trans ?_;rw[<-qS ba,NJ]
def jd(w:World)(a:Addr)(ep:Nat)(es:Array (Int×Value)):Array (Int×Value):=if gI w=true then pickOrder (w.params.setOrder a ep) es else es
def Om(w:World)(a:Addr)(ep:Nat)(es:Array (Int×Value)):(jd w a ep es).toList.Perm es.toList:=by
 unfold jd;split
 ·exact RK _ _ _ _ _ (gL)
 ·exact .refl _
def EF(w:World)(a:Addr)(ep:Nat)(es:Array (Int×Value)):(jd w a ep es).size=es.size:=by
 have:=(Om w a ep es).length_eq
 rwa [gL,gL]at this
noncomputable def wO(h:Heap)(it a:Addr)(j i n ep:Nat):Prop:=h.get? it=some {cls:=.type "set_iterator",dict:=none,data:=.fields #[.int (j:Int) 0,.int (i:Int) 0,.ref a,.int (n:Int) 0,.int (ep:Int) 0],slots := #[]}
def wO.typeIs{s:Shared}{it a:Addr}{j i n ep:Nat}(x:wO s.heap it a j i n ep):s.TypeIs (.ref it) "set_iterator" := ⟨_,x,rfl⟩
def iA.keep{w:World}{h h':Heap}{a:Addr}{o:Obj}{es:Array (Int×Value)}{ep:Nat}{p:List Nat}(g:iA w h a o es ep p)(k:∀o,h.get? a=some o->h'.get? a=some o):iA w h' a o es ep p:=⟨k o g.ho,g.ex,g.hd,g.hp,g.hl,g.ei⟩
def iA.type{w:World}{s:Shared}{a:Addr}{o:Obj}{es:Array (Int×Value)}{ep:Nat}{p:List Nat}(g:iA w s.heap a o es ep p):s.TypeIs (.ref a) "set" := ⟨o,g.ho,g.ex.1⟩
section
variable{prog:Program}{w:World}{A:Around}{E:Value->Shared->Prop}{s:Shared}{a it:Addr}{o:Obj}{es:Array (Int×Value)}{ep:Nat}{p:List Nat}
def zeZ{Q:Value->Shared->Prop}(g:iA w s.heap a o es ep p)
  (hQ:Q (.ref s.heap.objs.size) {s with heap:=s.heap.push {cls:=.type "set_iterator",data:=.fields #[.int 0 0,.int 0 0,.ref a,.int es.size 0,.int ep 0]}}):wpAny (model prog w) A (pyIter (.ref a)) Q E s:=by
 have hT:=g.type;refine wpAny_pyIter_slot hT Qk (l8 Qk hT Zt ?_ (PySem.F.args_set_iter_1 _));unfold Builtin.«frozenset.__iter__»;refine au (aJ ?_);unfold Builtin.Frozenset.sizeOf;refine au (au (wpAny_setEntries_of g.ho g.hd g.fits (aJ ?_)));have GQ:∀{Q':Bool->Shared->Prop},Q' false s->wpAny (model prog w) A.in1 (setDrawn a) Q' E s:=fun {Q'} hq=>by
  unfold setDrawn setsByText;refine au (zA g.ho g.hd g.fits (au (au (vi (aJ (aJ ?_))))));show Q' (!gI w&&false) s;rw[pY];exact hq
 refine au (GQ ?_);rw[av c9];refine au (aJ ?_);refine (au (wpAny_setEpoch_of g.ho g.hd g.fits (au (lD (aJ ?_)))));nomatch _,rfl,"set_iterator",_,⟨_,da _ rfl,rfl⟩,AH.lookup,hQ
end
open PySem PySem.W PyProof.Rows
def Lp{p:List Nat}{i:Nat}(hp:p∈ju 4):SetTable.below p.toArray 0=0/\(i<p.length->SetTable.below p.toArray (p.getD i 0+1)=i+1):=by
 have z:=zd2;rw[fN]at z
 have:=z p hp
 unfold LY at this;rw[ff,ka,fN]at this;nomatch this.1,λh=>ka.mp (this.2 i (ji.mpr h))
def zdn:entryFor table "set_iterator.__iter__" = some Builtin.«dict_keyiterator.__iter__» :=
 entryFor_alias (id' := "dict_keyiterator.__iter__") tK rfl tE tK
section
variable{prog:Program}{w:World}{A:Around}{E:Value->Shared->Prop}{s:Shared}{a it:Addr}{o:Obj}{es:Array (Int×Value)}{ep:Nat}{p:List Nat}
def zdh{i j:Nat}{Q:Option (Value×Nat)->Shared->Prop}(g:iA w s.heap a o es ep p)(hj:gI w=false->SetTable.below p.toArray j=i)
    (item:∀e j',(jd w a ep es)[i]?=some e->(gI w=false->SetTable.below p.toArray j'=i+1)->Q (some (e.2,j')) s) (fin:es.size<=i->Q none s):wpAny (model prog w) A (setNext a j i ep) Q E s:=by
  unfold setNext setsByText;refine au (zA g.ho g.hd g.fits (au (au (vi (aJ ?_)))));cases hb:gI w with
  |true =>
    have dv:w.params.followText "set-order" = true:=hb;show wpAny _ _ (if w.params.followText "set-order" = true then _ else _) _ _ _;rw [aC dv];simp only [bne_self_eq_false,my,↓reduceIte];unfold setWalk setsByText;refine au (au (zA g.ho g.hd g.fits (au (au (vi (aJ ?_))))));show wpAny _ _ (if w.params.followText "set-order" = true then _ else _) _ _ _;rw [aC dv];refine au (vi (aJ (aJ ?_)));have eo:pickOrder (w.params.setOrder a ep) es=jd w a ep es:=by unfold jd;rw [aC hb]
    show Q (Option.map (λe=>(e.2,j)) (pickOrder (w.params.setOrder a ep) es)[i]?) s;rw [eo];cases he:(jd w a ep es)[i]? with
    |some e=>exact item e j he (λz=>by simp_all)
    | none => exact fin (by have : (jd   w a ep es).size ≤ i := by simpa using he
                            rwa [EF] at this)
  |false =>
    have dv:¬w.params.followText "set-order" = true:=by rw [show w.params.followText "set-order" = false from hb];exact c9
    show wpAny _ _ (if w.params.followText "set-order" = true then _ else _) _ _ _;rw [av dv];show wpAny _ _ (if false=true then _ else _) _ _ _;rw [av c9];refine au (aJ ?_);have hji:=hj hb;have eo:jd w a ep es=es:=by unfold jd;rw [av (by assumption)]
    rw [eo]at item;refine aJ ?_;show Q (match es[SetTable.below p.toArray j]?,p.toArray[SetTable.below p.toArray j]? with|some (_,x),some j=>some (x,j+1)|_,_=>none) s;rw [hji];cases he:es[i]? with
    |none=>exact fin (by simpa using he)
    |some e =>
      have hi:i<p.length:=by rw [g.hl];exact (D6.mp he).1
      have ep:p.toArray[i]?=some (p.getD i 0):=by simp_all
      rw [ep];exact item e _ he λ_=>(Lp g.hp).2 hi
def OD{i j:Nat}{Q:Option Value->Shared->Prop}(hit:wO s.heap it a j i es.size ep)(g:iA w s.heap a o es ep p)(hj:gI w=false->SetTable.below p.toArray j=i)
  (item:∀e,(jd w a ep es)[i]?=some e->∀h' j',wO h' it a j' (i+1) es.size ep->(gI w=false->SetTable.below p.toArray j'=i+1)->Heap.SameBut it s.heap h'->Q (some e.2) {s with heap:=h'})
  (fin:es.size<=i->A.handled=none/\∀h',Heap.ExtBut it s.heap h'->Q none {s with heap:=h'}):wpAny (model prog w) A (pyNext (.ref it)) Q E s:=by
 unfold pyNext;refine au (GG (tm (name:=ofString "__next__") hit.typeIs AH (l8 AH hit.typeIs zbN ?_ (zbc _))));unfold Builtin.«set_iterator.__next__»;refine au (aJ (au (wpAny_fieldsOf hit rfl ?_)));dsimp only;refine au (wpAny_setEntries_of g.ho g.hd g.fits ?_);rw[av tS];refine au ?_;simp only[oM];refine zdh g hj (λe j' he fV=>?_) λuD=>?_
 ·dsimp only;refine au (pb hit tS λh1 e1 s1=>au (pb e1 tS λh2 e2 s2=>?_));exact aJ ⟨_,rfl,aJ (item e he h2 j' (by assumption) fV (s1.trans s2))⟩
 ·obtain⟨hh,fin⟩:=fin uD;dsimp only;refine au (pb hit tS λh1 e1 s1=>?_);refine au ?_;simp only[newExc,newTuple];refine au (lD ?_ (by size_fits));refine au (m:=firstArgMember _ _) (yk (a:=Value.none) (by first|rfl|(simp only[firstArgMember];rfl)) (lD ?_ (by size_fits)));simp only[raiseNew];refine au (wpAny_handled ?_);rw[show A.in1.handled=none from hh];refine au (aJ (wpAny_throw ?_));refine au (yW (T := "StopIteration") (b:=true) ⟨_,da _ rfl,rfl⟩ isSubtype_stop ?_);exact aJ (fin _ ((s1.extBut.push _).push _))
def UM(hh:A.handled=none)(I:Addr)(cx:a≠I)(es:Array (Int×Value))(ep:Nat)(o:Obj)(p:List Nat) :
  Walks prog w A I [I,a] [I] es.size (λi v=>∃e,(jd w a ep es)[i]?=some e/\v=e.2) (λi h=>∃j,wO h I a j i es.size ep/\(gI w=false->SetTable.below p.toArray j=i)/\iA w h a o es ep p) where
 sub:=λb hb=>by rw[bw.mp hb];exact kF ..
 frame:=λ_ _ _ ⟨j,st,hj,g⟩ hk=>⟨j,hk I tS _ st,hj,g.keep λo e=>hk a tS o e⟩
 item:=λi s Q E hi ⟨j,st,hj,g⟩ hQ=>OD st g hj (λe he h' j' k' fV sb=>hQ _ h' s.toks ⟨e,he,rfl⟩ ⟨j',k',fV,g.keep λo z=>(sb.2 a cx).trans z⟩ λb o hb z=>sb.extBut b o (λy=>hb (by simp[y])) z) λuD=>absurd hi tL
 done:=λs Q E ⟨j,st,hj,g⟩ hQ=>OD st g hj (λe he=>absurd (D6.mp he).1 (by rw[EF];exact kS _)) λ_=>⟨hh,λh' eb=>hQ h' s.toks λb o hb z=>eb b o (λy=>hb (by simp[y])) z⟩
 self:=λ_ _ _ _ ⟨j,st,hj,g⟩ hQ=>by
  refine wpAny_pyIter_slot st.typeIs Qg (l8 Qg st.typeIs zdn ?_ (Zd _));show wpAny _ _ (ret (.ref I)) _ _ _;exact aJ ⟨_,rfl,"set_iterator",_,st.typeIs,AH.lookup,hQ⟩
def ZS{Q:Bool->Shared->Prop}(hT:s.TypeIs (.ref a) "set")(h:Q false s):wpAny (model prog w) A (Builtin.List.listLengthHint (.ref a)) Q E s:=by
 unfold Builtin.List.listLengthHint;refine au (wpAny_specialOf hT PySem.F.slot_set_len.lookup ?_);generalize pN:("set.__len__" : String)=id0
 wp_delta
 rw[show splitId id0=some ("set","__len__") from by subst pN;decide+kernel];subst pN;refine au (yW (T := "set") (b:=true) hT (by rw[CI];kernel_rfl) ?_);refine wpAny_ite_split (λje=>absurd je tD) (λ_=>?_);refine wpAny_ite_split (λ_=>?_) (λje=>absurd tE je);refine au (wN hT ?_);exact aJ h
def za6:KdlSrc prog w "set" a a es.size (λi v=>∃e,(jd w a ep es)[i]?=some e/\v=e.2) (λh=>iA w h a o es ep p) where
 type:=λ_ g=>g.type
 there:=λ_ g=>⟨bg g.ho,bg g.ho⟩
 keep:=λ_ _ g hk=>g.keep λo e=>hk a (.inl rfl) o e
 notList:=by decide
 notTuple:=by decide
 hint:=λ_ _ _ _ g hq=>ZS g.type hq
 iter:=λ_ _ hh g=>⟨_,_,(λ_ _ hq=>zeZ g hq),UM hh _ (dy (bg g.ho)) es ep o p,⟨0,da _ rfl,(λ_=>(Lp (i:=0) g.hp).1),g.keep λo e=>cq _ e⟩⟩
end
end OS
namespace L2
open PySem PySem.Spec PyProof.Rows OS
section
variable{X:Cx}
def Aj(w:World)(b:Addr)(js:List Nat)(h:Heap):Prop:=Bl w h b (λi=>js.getD i 0) js.length
noncomputable def sT(js:List Nat):List V:=(js.map λj:Nat=>(j:Int)).map V.int
def zaB (hc:X.calm=true):gx X (.type "set") (fun xs H Q=>∃ (a:Addr) (js:List Nat),xs=[.ref a]/\H a=some (.lst (sT js))/\js.length<=4/\(∀ j∈js,j<16) /\ ∀b,H b=none->Q (.ref b) (upd H b (.ext (Aj X.w b js)))):=by
 intro ae s σ H xs us Q I r h;obtain⟨a,js,rfl,hH,h4,cI,q⟩:=h;obtain⟨u,rfl,ru⟩:=gO r;cases (show u=Value.ref a from ru);obtain⟨z,ah,n,rv,e⟩:=(show dq X.prog X.w H s.heap a (.lst (sT js)) from I.hok a _ hH);refine Z0 (items:=ah.toArray) (js:=js) (I.ok.hd hc) ⟨_,e,rfl,n,rfl⟩ (by simpa using uH rv) h4 cI λh' tk hB hk=>?_
 have nD:s.heap.get? s.heap.objs.size=none:=by
  cases e:s.heap.get? s.heap.objs.size with
  |none=>rfl
  |some o=>exact absurd (bg e) (kS _)
 have Eo:H s.heap.objs.size=none:=by
  cases e:H s.heap.objs.size with
  |none=>rfl
  |some o=>obtain⟨ob,e'⟩:=(I.hok _ _ e).there;rw[nD]at e';cases e'
 exists .ref s.heap.objs.size,_,I.laidN (o:=.ext (Aj X.w s.heap.objs.size js)) (t':=tk) hk nD ⟨hB,?_,λh1 h2 b k=>b.keep k⟩,rfl,q _ Eo;obtain⟨o,es,ep,p,g,_⟩:=hB;nomatch o,g.ho
def Po(hc:X.calm=true){T:String}{b d:Addr}{n:Nat}{P:Nat->Value->Prop}{OK:Heap->Prop}(S:PySem.W.KdlSrc X.prog X.w T b d n P OK){ks:List Int}(hn:n=ks.length)(B4:ks.length<64)
  (hP:∀j v,P j v->∃k,ks[j]?=some k/\∃t,v=Value.int k t) {ae:List (Addr×Obj)}{s:Shared}{σ:St}{H:Hp}{Q:VK} (I:Inv X ae σ H s) (hok:OK s.heap)
  (q:∀(l:Addr) (jl:List Int),H l=none->jl.Perm ks->jl.Pairwise (· <= ·)->Q (.ref l) (upd H l (.lst (jl.map V.int)))):wpAny (model X.prog X.w) X.A (call (.builtin "sorted") [.ref b]) (EP X ae σ Q) X.xe s:=by
 have hz:ks.length<=sizeLine:=aX (bE B4) tD;refine Calls.call_function_entry kind_sorted plain_sorted entry_sorted (args_sorted1 _) ?_;unfold Builtin.«sorted»;refine au (m:=checkCount "sorted" 1 1 _) (aJ ?_);refine au (PySem.W.kdu_collect (A:=X.A.in1) S (I.ok.hd hc) hok (by simp_all) λh' tk acc hk zL=>?_);have uj:acc.toList.length=ks.length:=by rw[gL,<-hn];exact zL.1
 have hI:IntsAre acc.toList ks:=by
  refine uH ?_;have go:∀(zs:List Value) (ns:List Int),zs.length=ns.length->(∀(j:Nat) (v:Value),zs[j]?=some v->∃k,ns[j]?=some k/\∃t,v=Value.int k t)->Vals (ns.map V.int) zs:=by
   intro zs;induction zs with
   |nil=>intro ns hl _;cases ns with
    |nil=>exact .nil
    |cons _ _=>simp at hl
   |cons v r ih=>intro ns hl hv;cases ns with
    |nil=>simp at hl
    |cons n ns =>
     obtain⟨k,e1,e2⟩:=hv 0 v rfl;have e3:n=k:=by simpa using e1
     subst e3;exact .cons e2 (ih ns (by simpa using hl) λj w e=>by simpa using hv (j+1) w (by simpa using e))
  exact go _ _ uj λj v e=>hP j v (zL.2 j v (by simp_all))
 refine au (wpAny_newList ?_ (by rw[uj];exact hz));have wj:(h'.push (seqObj "list" acc.toList.toArray 0)).get? h'.objs.size=some (seqObj "list" acc.toList.toArray 0):=da _ rfl;show wpAny _ _ _ _ _ {s with heap:=h'.push (seqObj "list" acc.toList.toArray 0),toks:=tk};refine au (lj (l8 slot_list_sort ⟨_,wj,rfl⟩ entry_list_sort (list_sort_tree wj hI (by rw[uj];exact B4) λout mV a1 a2 a3=>⟨_,rfl,?_⟩) (args_list_sort _)));have nD:s.heap.get? h'.objs.size=none:=by
  cases e:s.heap.get? h'.objs.size with
  |none=>rfl
  |some o=>exact absurd (bg (hk _ _ e)) (kS _)
 have keep:∀b o,s.heap.get? b=some o->(sortedHeap (h'.push (seqObj "list" acc.toList.toArray 0)) h'.objs.size acc.toList out).get? b=some o:=λb o e=>by
  have ba:=bg (hk _ _ e);rw[sortedHeap_old (dy ba) (by rw[size_push'];exact yl ba)];exact cq _ (hk _ _ e)
 obtain⟨ee,hat'⟩:=sortedHeap_at (out:=out) wj;have Eo:H h'.objs.size=none:=by
  cases e:H h'.objs.size with
  |none=>rfl
  |some o=>obtain⟨ob,e'⟩:=(I.hok _ _ e).there;rw[nD]at e';cases e'
 exact aJ ⟨_,rfl,⟨.ref h'.objs.size,_,I.laidN (o:=.lst (mV.map V.int)) (t':=tk) keep nD ⟨by rw[ax,a2.length_eq];exact hz,out.toList,ee,Ic a1,by assumption⟩,rfl,q _ mV Eo a2 a3⟩⟩
def Bd (hc:X.calm=true):gx X (.builtin "sorted") (fun xs H Q=>∃ (a:Addr) (kvs:List (cu × V)) (ks:List Int),xs=[.ref a]/\H a=some (.dK kvs)/\kvs.map (·.1)=ks.map Sum.inl/\ks.length<64 /\ ∀(l:Addr) (jl:List Int),H l=none->jl.Perm ks->jl.Pairwise (· <= ·)->Q (.ref l) (upd H l (.lst (jl.map V.int)))):=by
 intro ae s σ H xs us Q I r h;obtain⟨a,kvs,ks,rfl,hH,WH,B4,q⟩:=h;obtain⟨u,rfl,ru⟩:=gO r;cases (show u=Value.ref a from ru);obtain⟨z,hd,vs,rel,dd⟩:=Bz I.hok hH;obtain⟨ep,kr⟩:=dd.dictAt;have L9:vs.map (·.1)=ks.map Sum.inl:=rel.keys.symm.trans WH;refine Po hc (PySem.W.kdl_dict (knd:=gi X.prog X.w) (kvs:=vs) (ep:=ep) hd) (by have:=congrArg List.length L9;simpa using this) B4 (λj v ⟨k,x,hx,hik⟩=>?_) I kr q;have e1:(vs.map (·.1))[j]?=some k:=by rw[cQ,hx];rfl
 rw[L9,cQ]at e1;cases e2:ks[j]? with
 |none=>rw[e2]at e1;cases e1
 |some k' =>
  rw[e2]at e1;cases gd e1;nomatch k',rfl,O0 hik
def zed (hc:X.calm=true):gx X (.builtin "sorted") (fun xs H Q=>∃ (b:Addr) (js:List Nat),xs=[.ref b]/\H b=some (.ext (Aj X.w b js)) /\ ∀(l:Addr) (ks:List Nat),H l=none->ks.Pairwise (· < ·)->(∀k,k∈ks↔k∈js)->Q (.ref l) (upd H l (.lst (sT ks)))):=by
 intro ae s σ H xs us Q I r h;obtain⟨b,js,rfl,hH,q⟩:=h;obtain⟨u,rfl,ru⟩:=gO r;cases (show u=Value.ref b from ru);obtain⟨⟨o,es,ep,p,g,hsz,kH,mE⟩,_,_⟩:=(show dq X.prog X.w H s.heap b (.ext (Aj X.w b js)) from I.hok b _ hH);have h4:=g.few;have SJ:=Om X.w b ep es;have rT:=EF X.w b ep es;have hP:∀(j:Nat) (v:Value),(∃e,(jd X.w b ep es)[j]?=some e/\v=e.2)->∃k,((jd X.w b ep es).toList.map (·.1))[j]?=some k/\∃t,v=Value.int k t:=by
  rintro j v ⟨en,hx,e⟩;rw[<-DP]at hx;obtain⟨m,t,_,rfl⟩:=g.ei en (SJ.mem_iff.mp (cM hx));nomatch _,by rw[cQ,hx];rfl,t,e
 refine Po hc (za6 (es:=es) (ep:=ep) (o:=o) (p:=p)) (by simp_all) (by rw[ax,gL,rT];lia) hP I g λl mV hl a2 a3=>?_
 have cg:mV.Perm (es.toList.map (·.1)):=a2.trans (SJ.map _);have Dq:∀x∈mV,0<=x:=λx hx=>by
  obtain⟨en,he,rfl⟩:=bp.mp (cg.mem_iff.mp hx);obtain⟨m,t,_,rfl⟩:=g.ei en he;exact iC m
 have pN:(mV.map Int.toNat).map (λk:Nat=>(k:Int))=mV:=by
  rw[fk];exact (qi λx hx=>gh (Dq x hx)).trans (List.map_id _)
 have hq:=q l (mV.map Int.toNat) hl ?_ ?_
 ·unfold sT at hq;rw[pN]at hq;exact hq
 ·rw[uk];refine WY ?_ (jhX a3 (cg.nodup_iff.mpr kH));intro x y hx hy h
  have:=Dq x hx
  have:=Dq y hy
  have h1:=h.1;have h2:=h.2;lia
 ·intro k;rw[show k∈mV.map Int.toNat↔(k:Int)∈(mV.map Int.toNat).map (λk:Nat=>(k:Int)) from ⟨λz=>bp.mpr ⟨k,z,rfl⟩,λz=>by obtain⟨x,hx,e⟩:=bp.mp z;rw[<-F1 e];exact hx⟩,pN,cg.mem_iff,mE];constructor
  ·rintro⟨j,hj,e⟩;have e:k=js.getD j 0:=by exact_mod_cast e
   rw[e,m8,d4 hj];exact jT hj
  ·intro z;obtain⟨j,hj,e⟩:=zH z;exact⟨j,hj,by simp_all⟩
end
open PySem PySem.Spec PyProof.Rows
def U9(ta tb:TE):TE:=λσ H Q=>ta σ H λx H1=>∃i:Str,x=.str i/\i.length<=sizeLine/\if i.length=0 then tb σ H1 Q else Q (.str i) H1
def zdK(ha:PE X a ta)(hb:PE X (.BoolOp .Or (b::rest) pos) tb):PE X (.BoolOp .Or (a::b::rest) pos) (U9 ta tb):=by
 intro ae s σ H Q I h;refine BoolOp_or (aO (ha ae s σ H _ I h) ?_);rintro v s1 ⟨x,H1,I1,r1,q1⟩;obtain⟨i,rfl,hz,q1⟩:=q1;obtain⟨t,rfl⟩:=r1;have h2:(sizeLine:Int)<2^63:=by decide
 refine KC tL ?_;by_cases z:i.length=0
 ·rw[aC z]at q1;rw[show ((i.length:Int) != 0)=false by rw[z];rfl];exact hb ae _ σ H1 Q (I1.tok _) q1
 ·rw[av z]at q1;rw[show ((i.length:Int) != 0)=true by simpa using z];nomatch .str i,H1,I1.tok _,⟨_,rfl⟩,q1
end L2
namespace My
open PySem L2 OF
noncomputable def cF(l:aq):aq:=Classical.choose (Ri l)
def Lc(l:aq):aZ (cF l) l:=Classical.choose_spec (Ri l)
def Ih(h:aZ f l):f=cF l:=aZ.unique h (Lc l) λ_=>rfl
noncomputable def Txt.num(i:Int):Str:=ofString (toString i)
inductive W1 where
 |shw|unk|way|lea
inductive Ask where
 |one (w:W1) (a:List Nat)|wor (a:List Nat) (g:Nat)|ali (a b:List Nat)|rst (a b:List Nat) (m:Nat)
inductive An where
 |name|yesno|many|txt (s:Str)
def AO:aq->Str
 |[] => "yes"
 |t::_=>Txt.num t.1
def oa(l o:aq):aq:=cF (l++o.map λt=>(t.1,-t.2))
def bQ(l:aq):Nat:=intBits ((cT l 0:Nat):Int)
noncomputable def MO(l:List Int):Int:=Classical.epsilon λn=>mR n l
def PQ(h:mR n l):MO l=n:=QJ (Classical.epsilon_spec (p:=λn=>mR n l) ⟨n,h⟩) h
def zcC(n:Int)(l:aq):Str:=Txt.num n++ofString " " ++ Txt.num (((fT l (bQ l)).idxOf n:Nat):Int)
def AZ(l:aq):Str:=zcC (MO (fT l (bQ l))) l
open Classical in
def W1.an(l:aq):W1->An
 |.shw=>.txt (S (txt l))
 |.unk=>.txt (if cT l 0=0 then "none" else S (cR (cT l 0)))
 |.way=>if pM l then (if 10<bQ l then .many else .txt (Txt.num (wa (bQ l) l)))else .yesno
 |.lea=>if 10<bQ l then .many else .txt (AZ l)
def Ask.tells(st:eK):Ask->An
 |.one w a=>match cz st a with
  |none=>.name
  |some l=>w.an l
 |.wor a g=>match cz st a with
  |none=>.name
  |some l=>.txt (Txt.num (fw l (g:Int)))
 |.ali a b=>match cz st a with
  |none=>.name
  |some l=>match cz st b with
   |none=>.name
   |some o=>.txt (AO (oa l o))
 |.rst a b m=>match cz st a with
  |none=>.name
  |some l=>match cz st b with
   |none=>.name
   |some o=>.txt (AO (r9 (m:Int) (oa l o)))
noncomputable def W1.wd:W1->Str
 |.shw => "show" |.unk => "unknowns" |.way => "ways" |.lea => "least"
def W1.wl:W1->List Nat
 |.shw=>PY|.unk=>[117,110,107,110,111,119,110,115]|.way=>[119,97,121,115]|.lea=>[108,101,97,115,116]
def W1.wl_S(w:W1):S w.wl=w.wd:=by cases w<;>(unfold W1.wl W1.wd;decide+kernel)
def Ask.wd:Ask->Str
 |.one w _=>w.wd|.wor _ _ => "worth" |.ali _ _ => "alike" |.rst _ _ _ => "rest"
def Ask.wl:Ask->List Nat
 |.one w _=>w.wl|.wor _ _=>[119,111,114,116,104]|.ali _ _=>[97,108,105,107,101]|.rst _ _ _=>[114,101,115,116]
theorem Ask.wl_S:∀q:Ask,S q.wl=q.wd
 |.one w _=>w.wl_S
 |.wor _ _=>by show S [119,111,114,116,104]=ofString "worth";decide+kernel
 |.ali _ _=>by show S [97,108,105,107,101]=ofString "alike";decide+kernel
 |.rst _ _ _=>by show S [114,101,115,116]=ofString "rest";decide+kernel
def Ask.ws:Ask->List (List Nat)
 |.one _ a=>[a]|.wor a g=>[a,cb g]|.ali a b=>[a,b]|.rst a b m=>[a,b,cb m]
def Ask.th:Ask->List V
 |.one _ a=>[.str (S a)]|.wor a g=>[.str (S a),.int (g:Int)]|.ali a b=>[.str (S a),.str (S b)]|.rst a b m=>[.str (S a),.str (S b),.int (m:Int)]
def Ask.ok:Ask->Prop
 |.one _ a=>bf a=true
 |.wor a g=>bf a=true/\g<10^18
 |.ali a b=>bf a=true/\bf b=true
 |.rst a b m=>bf a=true/\bf b=true/\0<m/\m<10^18
def Ee(h:n<10^18):fP (cb n)=true/\(0<n->cb n≠[48]):=by
 have hl:(cb n).length<=18:=lO (k:=17) h;have hv:=xO n;unfold fP;rcases KI n with rfl|z
 ·nomatch tD,λz=>absurd z tD
 ·obtain⟨d,r,e,hd⟩:=F4 z;refine⟨?_,λ_ y=>by rw[e]at y;injection y with y;lia⟩;rw[av (by grind)];rw[ff,ff,fN];nomatch aU (by rw[e];simp),aU hl,λc hc=>aU (by have:=sV hc;lia)
def Ln(n:Nat):32∉cb n:=λh=>by have:=sV h;lia
def AU(hw:32∉w)(h0:ws≠[])(hs:∀v∈ws,32∉v)(hk:eC qx w=some ks)(hl:ks.length=ws.length)(hn:bf (ws.headD [])=true)
  (mv:(ks.zip ws).all (λp=>eE p.1 p.2)=true):eZ (bR 32 (w::ws))=some (none,w,(ks.zip ws).map λp=>tq p.1 p.2):=by
 have e:br (bR 32 (w::ws))=w::ws:=E1 tS λv hv=>by
  rcases bC.mp hv with rfl|z
  ·exact hw
  ·exact hs v z
 unfold eZ;rw[e,av (λz=>by
  obtain⟨_,z,_⟩:=z;cases ws with
  |nil=>exact h0 rfl
  |cons x r =>
   have hx:bf x=true:=hn;rcases (show x=[61]\/x=[58,61] from z)with rfl|rfl<;>exact absurd hx tD)]
 show (o8 (eC qx w) ws).map _=_;rw[hk];show (tW ks ws).map _=_;unfold tW;rw[aC ⟨hl,mv⟩];rfl
def Ask.line{q:Ask}(h:q.ok):eZ (bR 32 (q.wl::q.ws))=some (none,q.wl,q.th):=by
 cases q with
 |one w a=>exact (AU (ks:=[.name]) (w:=w.wl) (ws:=[a]) (by cases w<;>decide) tS (λv hv=>by rw[bw.mp hv];exact lb h) (by cases w<;>kernel_rfl) rfl h (by show (bf a&&true)=true;rw[h];rfl)).trans rfl
 |wor a g =>
  obtain⟨h,hg⟩:=h;refine (AU (ks:=[.name,.number]) (w:=[119,111,114,116,104]) (ws:=[a,cb g]) tD tS (λv hv=>by
   rcases (show v=a\/v=cb g by simpa using hv)with rfl|rfl
   ·exact lb h
   ·exact Ln g) tK rfl h (by show (bf a&&(fP (cb g)&&true))=true;rw[h,(Ee hg).1];rfl)).trans ?_
  show some (none,_,[V.str (S a),V.int ((digitsVal (cb g):Nat):Int)])=_;rw[xO];rfl
 |ali a b =>
  obtain⟨h,hb⟩:=h;exact (AU (ks:=[.name,.name]) (w:=[97,108,105,107,101]) (ws:=[a,b]) tD tS (λv hv=>by
   rcases (show v=a\/v=b by simpa using hv)with rfl|rfl
   ·exact lb h
   ·exact lb hb) tK rfl h (by show (bf a&&(bf b&&true))=true;rw[h,hb];rfl)).trans rfl
 |rst a b m =>
  obtain⟨h,hb,h0,hm⟩:=h;refine (AU (ks:=[.name,.name,.divisor]) (w:=[114,101,115,116]) (ws:=[a,b,cb m]) tD tS (λv hv=>by
   rcases (show v=a\/v=b\/v=cb m by simpa using hv)with rfl|rfl|rfl
   ·exact lb h
   ·exact lb hb
   ·exact Ln m) tK rfl h (by show (bf a&&(bf b&&((fP (cb m) && !decide (cb m=[48]))&&true)))=true;rw[h,hb,(Ee hm).1,bo ((Ee hm).2 h0)];rfl)).trans ?_
  show some (none,_,[V.str (S a),V.str (S b),V.int ((digitsVal (cb m):Nat):Int)])=_;rw[xO];rfl
def qZ{i:Int}{n:Nat}(h:i.natAbs<2^n)(hn:0<n):i.natAbs.log2<n:=by
 by_cases z:i.natAbs=0
 ·rw[z];exact hn
 ·exact (tP z).mpr h
theorem Fi:∀{l:List Int},(∀x∈l,x.natAbs<=B)->l.sum.natAbs<=l.length*B
 |[],_=>bM _
 |x::r,h=>by
  have ih:=Fi (l:=r) λu hu=>h u (dM _ hu)
  have h1:=h x tS;rw[bH,Hb,QP,mm];omega
def JK(g:Int)(h:∀t∈l,t.2.natAbs<=B):(fw l g).natAbs<=l.length*B:=by
 unfold fw;refine aX (Fi λx hx=>?_) (pK B ?_)
 ·obtain⟨t,ht,rfl⟩:=bp.mp hx;exact h t (gJ.mp ht).1
 ·rw[ax];exact lW _ _
def dh.worth(h:dh ls f)(h5:ls.length<=5)(g:Int):(fw f g).natAbs.log2<1920:=by
 have h1:=JK g (λt ht=>bE (h.2.2 t ht));have h2:=pK (10^60) (h.len h5);have h3:32*10^60<2^1920:=by decide+kernel
 exact qZ tL tD
def Ce(h:K5 ls f)(cI:∀x∈ls,x<16):∀t∈f,t.1.natAbs.log2<1920:=λt ht=>by
 have:=h.low cI t ht
 have h3:2^16<2^1920:=by decide+kernel
 exact qZ tL tD
def dh.minus(h:dh ls l)(k:dh ls o):K5 ls (oa l o):=(h.2.1.app (k.2.1.map λt => -t.2)).of (Lc _)
def dh.any(h:dh ls f)(cI:∀x∈ls,x<16):cT f 0<2^16:=EA (h.2.1.low cI)
def dh.keysM(h:dh ls f):∀t∈f,0<=t.1/\t.1<2^bQ f:=GC (λt ht=>(h.2.1 t ht).1) λ_ z=>z
def dh.wsumF(h:dh ls f)(h5:ls.length<=5)(hm:m<=10):(wa m f).natAbs.log2<1920:=by
 have h1:(wa m f).natAbs<=(f.map λt=>t.2*2^(m-pc t.1.toNat)).length*(10^60*2^10):=Fi λx hx=>by
  obtain⟨t,ht,rfl⟩:=bp.mp hx;rw[zq,qh,pX];exact fM (bE (h.2.2 t ht)) (dB tD tL)
 rw[ax]at h1;have h2:=pK (10^60*2^10) (h.len h5);have h3:32*(10^60*2^10)<2^1920:=by decide+kernel
 exact qZ tL tD
def R4(h:n.natAbs<10^(k+1)):(Txt.num n).length<=k+2:=by
 cases n with
 |ofNat m =>
  show (ofString (toString ((m:Nat):Int))).length<=_;rw[pq,aH];exact SX (lO h)
 |negSucc m =>
  have e:(Txt.num (Int.negSucc m)).cps.toList=45::cb (m+1):=by
   unfold Txt.num;rw[WS];show (("-" ++ Nat.repr (m+1)).toList).map Char.toNat=_;rw[String.toList_append,Nat.toList_repr];rfl
  show (Txt.num (Int.negSucc m)).cps.size<=_;rw[<-gL,e,bH];exact Nat.succ_le_succ (lO h)
def dh.lea(h:dh ls f)(h5:ls.length<=5)(hm:bQ f<=10)(hn:mR n (fT f (bQ f))):n.natAbs.log2<1920/\(((fT f (bQ f)).idxOf n:Nat):Int).natAbs.log2<1920 /\
  (Txt.num n).length+(ofString " ").length<=sizeLine/\(Txt.num n++ofString " ").length+(Txt.num (((fT f (bQ f)).idxOf n:Nat):Int)).length<=sizeLine:=by
 obtain⟨g,_,e⟩:=bp.mp hn.1;have h1:=JK (g:Int) (λt ht=>bE (h.2.2 t ht));rw[e]at h1;have h2:=pK (10^60) (h.len h5);have h3:n.natAbs<10^(61+1):=jm (aX h1 h2) tE;have hi:(fT f (bQ f)).idxOf n<2^10:=by
  have:=Pa.mpr hn.1
  unfold fT at this ⊢;rw[ax,kQ]at this;exact cS this (dB tD hm)
 have l1:=R4 h3;have l2:=R4 (n:=(((fT f (bQ f)).idxOf n:Nat):Int)) (k:=3) (by rw[pX];lia);have l3:(ofString " ").length=1:=by decide+kernel
 have l4:70<=sizeLine:=by decide
 exists qZ (lQ h3 tE) tD,qZ (by rw[pX];exact lQ hi tE) tD,tL,?_;rw[Str.length_append];lia
def XT(h:a<2^m):((List.range m).filter λk=>a.testBit k).length=pc a:=by
 have h1:=Ld m a h;unfold xH at h1;have h2:=List.length_eq_countP_add_countP (l:=List.range m) λk=>a.testBit k
 rw[SN,SN,kQ]at h2;have e:((List.range m).filter λk=>decide ¬a.testBit k=true)=(List.range m).filter λk => !a.testBit k:=List.filter_congr λk _=>by simp
 rw[e]at h2;lia
def za0{n:Int}{m k:Nat}(h:k<=m):n*2^m/2^k=n*2^(m-k):=by
 obtain⟨j,rfl⟩:=Nat.exists_eq_add_of_le h;rw[E3,Int.pow_add,<-He,Fg n,He];exact Int.mul_ediv_cancel_left _ (by rw[qh];have:=jk k;lia)
noncomputable def Ask.n1:Ask->List Nat
 |.one _ a=>a|.wor a _=>a|.ali a _=>a|.rst a _ _=>a
def Ask.p2:Ask->List V
 |.wor _ g=>[.int (g:Int)]|.ali _ b=>[.str (S b)]|.rst _ b m=>[.str (S b),.int (m:Int)]|_=>[]
noncomputable def Ask.n2:Ask->Option (List Nat)
 |.ali _ b=>some b|.rst _ b _=>some b|_=>none
def Ip(H:Hp)(e:Addr)(q:Ask):Prop:=∃p,H e=some (.tup [.str q.wd,.ref p,.str (S (bR 32 (q.wl::q.ws)))])/\H p=some (.tup (.str (S q.n1)::q.p2))
def Ask.in2(q:Ask):iY (V.str q.wd) [.str "alike",.str "rest"]=q.n2.isSome:=by
 cases q with
 |one w a=>cases w<;>kernel_rfl
 |_=>kernel_rfl
def Ask.p2_of{q:Ask}{b:List Nat}(e:q.n2=some b):∃r,q.p2=.str (S b)::r:=by cases q<;>first|(cases e;nomatch _,rfl)|cases e
theorem BK(n:Nat):∀ws:List (List Nat),(∀w∈ws,w.length<=n)->((ws.map S).map (·.length)).sum<=n*ws.length
 |[],_=>aT _
 |w::r,h=>by
  have ih:=BK n r λx hx=>h x (by simp[hx])
  have:=h w tS
  rw[bN,bN,mm,aH,bH,IZ,A2];exact yR ih this
def Nc(s:af H H1)(h:H1 b=none):H b=none:=by
 cases z:H b with
 |none=>rfl
 |some o=>rw[s _ _ z]at h;cases h
open PySem L2 OF PyProof.Rows
def de:1<=sizeLine:=by decide
def bL:2<=sizeLine:=by decide
def c5:3<=sizeLine:=by decide
def KD:4<=sizeLine:=by decide
def Dp:6<=sizeLine:=by decide
namespace Rw
def scOk(r:Rw):Bool :=
 (match (cK r.s).kind with|.function=>true|_=>false) && !(cK r.s).isCoroutine && !(cK r.s).isGenerator&&decide r.N.Nodup&&decide (r.N.take r.ps.length=r.ps)&&decide (∀x∈r.ps,(cK r.s).names.lookup x=some .local\/(cK r.s).names.lookup x=some .cell)&&decide (∀y∈(cK r.s).names,y.2≠.free)
def sc{r:Rw}(h:r.scOk=true):oW r.N r.ps (cK r.s):=by
 unfold scOk at h;simp only[ff,yd,NB]at h;obtain⟨⟨⟨⟨⟨⟨h1,h2⟩,h3⟩,h4⟩,h5⟩,h6⟩,h7⟩:=h;exists ?_,h2,h3,h4,h5,h6,h7;cases e:(cK r.s).kind with
 |function=>rfl
 |_=>rw[e]at h1;cases h1
end Rw
section
variable{P:Program}{w:World}{K:Frag}{mg:Str->Option Value}{base:Heap}{r:Rw}{C:Addr}
structure Def(K:Frag)(mg:Str->Option Value)(r:Rw):Prop where
 F:ny K r.n r.q r.s r.a r.fd
 m:mg r.n=some (.ref r.a)
 b:Binds K r.fd r.ps []
 S:oW r.N r.ps (cK r.s)
structure pS(K:Frag)(C:Addr)(r:Rw):Prop where
 F:ny K r.n r.q r.s r.a r.fd
 m:wU K C r.n r.a
 b:Binds K r.fd r.ps []
 S:oW r.N r.ps (cK r.s)
def mC(h:us.length=n+1):∃a v,us=a::v/\v.length=n:=by
 cases us with
 |nil=>cases h
 |cons a v=>nomatch a,v,rfl,DL h
def Qh{fd:FuncData}{ps:List Str}(h:∀a,bindArgs fd ⟨[a],[]⟩=pure (ps.zip [a]))(us:List Value)(hl:us.length=1):bindArgs fd ⟨us,[]⟩=pure (ps.zip us):=by
 obtain⟨a,v0,rfl,h0⟩:=mC hl;cases oi h0;exact h a
def Jd{fd:FuncData}{ps:List Str}(h:∀a b,bindArgs fd ⟨[a,b],[]⟩=pure (ps.zip [a,b]))(us:List Value)(hl:us.length=2):bindArgs fd ⟨us,[]⟩=pure (ps.zip us):=by
 obtain⟨a,v0,rfl,h0⟩:=mC hl;obtain⟨b,v1,rfl,h1⟩:=mC h0;cases oi h1;exact h a b
def Ky{fd:FuncData}{ps:List Str}(h:∀a b c,bindArgs fd ⟨[a,b,c],[]⟩=pure (ps.zip [a,b,c]))(us:List Value)(hl:us.length=3):bindArgs fd ⟨us,[]⟩=pure (ps.zip us):=by
 obtain⟨a,v0,rfl,h0⟩:=mC hl;obtain⟨b,v1,rfl,h1⟩:=mC h0;obtain⟨c,v2,rfl,h2⟩:=mC h1;cases oi h2;exact h a b c
def R9{fd:FuncData}{ps:List Str}(h:∀a b c d,bindArgs fd ⟨[a,b,c,d],[]⟩=pure (ps.zip [a,b,c,d]))(us:List Value)(hl:us.length=4):bindArgs fd ⟨us,[]⟩=pure (ps.zip us):=by
 obtain⟨a,v0,rfl,h0⟩:=mC hl;obtain⟨b,v1,rfl,h1⟩:=mC h0;obtain⟨c,v2,rfl,h2⟩:=mC h1;obtain⟨d,v3,rfl,h3⟩:=mC h2;cases oi h3;exact h a b c d
def Rw.fun(l:K.lookup r.a=some (⟨.type "function",none,.func r.fd,#[]⟩))(c:PySem.W.codeIn K (.ref (r.a-1)) r.q=true)(k:PySem.W.keepIn K (.ref r.a)=true):ny K r.n r.q r.s r.a r.fd:=YT l c k
def Def.of(X:K.In h)(G:h.Ns mainGlobals mg)(u:∀us:List Value,us.length=r.ps.length->bindArgs r.fd ⟨us,[]⟩=pure (r.ps.zip us))(a:PySem.W.nsIn K mainGlobals r.n=some (some (.ref r.a)))
  (l:K.lookup r.a=some (⟨.type "function",none,.func r.fd,#[]⟩)) (c:PySem.W.codeIn K (.ref (r.a-1)) r.q=true) (k:PySem.W.keepIn K (.ref r.a)=true) (s:r.scOk=true):Def K mg r :=
 ⟨Rw.fun l c k,N8 X G a,.all u,Rw.sc s⟩
def pS.of(u:∀us:List Value,us.length=r.ps.length->bindArgs r.fd ⟨us,[]⟩=pure (r.ps.zip us))(a:PySem.W.findIn K (.ref C) r.n=some (some (.ref r.a)))
  (l:K.lookup r.a=some (⟨.type "function",none,.func r.fd,#[]⟩)) (c:PySem.W.codeIn K (.ref (r.a-1)) r.q=true) (k:PySem.W.keepIn K (.ref r.a)=true) (s:r.scOk=true) (y:PySem.W.isFn K (.ref r.a)=true):pS K C r :=
 ⟨Rw.fun l c k,⟨a,y,k⟩,.all u,Rw.sc s⟩
def jG(xs:List Str)(ts:List Tok)(hl:xs.length=ts.length)(hs:ts.length<=sizeLine)(h:K.lookup a=some ⟨.type "tuple",none,.seq ((xs.zip ts).map λp=>.str p.1 p.2).toArray 0,#[]⟩)(H:Hp):az K H a (xs.map V.str):=by
 refine .inr ⟨_,_,_,h,rfl,rfl,?_,?_⟩
 ·rw[fz,ax,List.length_zip,hl,Gp];exact hs
 ·show Vals _ ((xs.zip ts).map _);clear h hs;induction xs generalizing ts with
  |nil=>exact .nil
  |cons x xs ih =>
   cases ts with
   |nil=>cases hl
   |cons t ts=>exact .cons ⟨_,rfl⟩ (ih ts (DL hl))
abbrev Rw.Ok(r:Rw)(P:Program)(w:World)(K:Frag)(mg:Str->Option Value)(base:Heap)(k:Nat)(sp:Sp):Prop:=ja P w K mg base pd k r.a r.fd r.ps sp
abbrev Rw.OkE(r:Rw)(P:Program)(w:World)(K:Frag)(mg:Str->Option Value)(base:Heap)(k:Nat)(sp:Sp):Prop:=ja P w K mg base (iR P w) k r.a r.fd r.ps sp
def Rw.ok{k:Nat}{sp:Sp}(F:ny K r.n r.q r.s r.a r.fd)(S:oW r.N r.ps (cK r.s))
  (h:∀ vs H Q E,sp vs H Q E->vs.length=r.ps.length/\∀ (bZ:Value) (A:Around) (outer:List Env) (s:Shared),cN k (A.deeper (envOfC r.q (cK r.s) s.heap.objs.size r.a bZ))->(A.deeper (envOfC r.q (cK r.s) s.heap.objs.size r.a bZ)).units+1<cLine->r.N.Nodup -> ∃t,fA (j1 pd P w K mg base r.N r.q (cK r.s) r.a bZ A outer s H E).nox (lP r.s) t/\t {nx:=λ_ H'=>Q .non H',rt:=Q} (start r.N vs) H):r.Ok P w K mg base (k+1) sp :=
 F.ok S (λvs H Q E z=>(h vs H Q E z).1) λbZ A outer s H vs Q E hr z=>(h vs H Q E z).2 bZ A outer s hr (RG hr) S.nd
def Rw.okE{k:Nat}{sp:Sp}(F:ny K r.n r.q r.s r.a r.fd)(S:oW r.N r.ps (cK r.s))
  (h:∀ vs H Q E,sp vs H Q E->vs.length=r.ps.length/\∀ (bZ:Value) (A:Around) (outer:List Env) (s:Shared),cN k (A.deeper (envOfC r.q (cK r.s) s.heap.objs.size r.a bZ))->(A.deeper (envOfC r.q (cK r.s) s.heap.objs.size r.a bZ)).units+1<cLine->r.N.Nodup -> ∃t,fA (j1 (iR P w) P w K mg base r.N r.q (cK r.s) r.a bZ A outer s H E) (lP r.s) t/\t {nx:=λ_ H'=>Q .non H',rt:=Q} (start r.N vs) H):r.OkE P w K mg base (k+1) sp :=
 F.okE S (λvs H Q E z=>(h vs H Q E z).1) λbZ A outer s H vs Q E hr z=>(h vs H Q E z).2 bZ A outer s hr (RG hr) S.nd
theorem Def.k{k:Nat}{sp:Sp}(D:Def K mg r)
  (h:∀ vs H Q E,sp vs H Q E->vs.length=r.ps.length/\∀ (bZ:Value) (A:Around) (outer:List Env) (s:Shared),cN k (A.deeper (envOfC r.q (cK r.s) s.heap.objs.size r.a bZ))->(A.deeper (envOfC r.q (cK r.s) s.heap.objs.size r.a bZ)).units+1<cLine->r.N.Nodup -> ∃t,fA (j1 pd P w K mg base r.N r.q (cK r.s) r.a bZ A outer s H E).nox (lP r.s) t/\t {nx:=λ_ H'=>Q .non H',rt:=Q} (start r.N vs) H):r.Ok P w K mg base (k+1) sp:=Rw.ok D.F D.S h
def Def.e{k:Nat}{sp:Sp}(D:Def K mg r)
  (h:∀ vs H Q E,sp vs H Q E->vs.length=r.ps.length/\∀ (bZ:Value) (A:Around) (outer:List Env) (s:Shared),cN k (A.deeper (envOfC r.q (cK r.s) s.heap.objs.size r.a bZ))->(A.deeper (envOfC r.q (cK r.s) s.heap.objs.size r.a bZ)).units+1<cLine->r.N.Nodup -> ∃t,fA (j1 (iR P w) P w K mg base r.N r.q (cK r.s) r.a bZ A outer s H E) (lP r.s) t/\t {nx:=λ_ H'=>Q .non H',rt:=Q} (start r.N vs) H):r.OkE P w K mg base (k+1) sp:=Rw.okE D.F D.S h
def wl{a b:Nat}{F:Value->Around->List Env->Shared->Prop}(h:∀{c A o s},F c A o s)(e:a=b:=by rfl):a=b/\∀c A o s,F c A o s:=⟨e,λ_ _ _ _=>h⟩
end
section
variable{X:Cx}{r:Rw}{k:Nat}{sp:Sp}{e:Expr}{es:List Expr}{t:TA}{p pos:Pos}{E:XK}
def aD(D:Def X.K X.mg r)(F:ja X.prog X.w X.K X.mg X.base pd k r.a r.fd r.ps sp)(hr:cN k X.A)(ha:PA X (e::es) t)(hx:r.n=x:=by rfl)(hg:Gl X x:=by rfl)(oH:(x == ("__debug__" : Str))=false:=by decide)
  (he:starEach (e::es) X.env=(false,eval e X.env)::starEach es X.env:=by rfl) (cX:(backTo pos (starEach es X.env)).any (·.1)=false:=by rfl):PE X (.Call (.Name x p) (e::es) [] pos) (Ox sp [] E0 t):=by
 subst hx;exact uT F hr hg D.m D.F.kp D.b .nil SV ha oH he cX
def aE(i:Nat)(hN:X.N.Nodup)(he:PE X e te)(hi:X.N[i]?=some x:=by rfl)(hx:rJ X.env.scope x:=by first|exact Or.inl rfl|exact Or.inr rfl)(hs:swapsWith e (some (.Name x pos')) pos.line X.env=pure false:=by rfl)
  (hf:X.fn x=true\/X.env.scope.names.lookup x=some .local:=by first|exact .inl rfl|exact .inr rfl|assumption):PS X (.Assign [.Name x pos'] e pos) (uQ te (aW i)):=MZ hN hi hx he hs hf
def aI(i:Nat)(hN:X.N.Nodup)(hi:X.N[i]?=some x:=by rfl)(hx:rJ X.env.scope x:=by first|exact Or.inl rfl|exact Or.inr rfl)(hf:X.fn x=true\/X.env.scope.names.lookup x=some .local:=by first|exact .inl rfl|exact .inr rfl|assumption):PG X (.Name x pos) (aW i):=Kk hN hi hx hf
def cL(r:Rw)(h1:X.env.scope=cK r.s:=by rfl)(h2:X.N=r.N:=by rfl)(hk:scope.kind=.function:=by rfl)
  (mv:(scope.names.all λy=>y.2 != .cell&&(y.2 != .local || scope.names.lookup y.1 == some .local)&&(y.2 != .free || (cK r.s).names.lookup y.1 == some .cell))=true:=by decide+kernel)
  (aK:N'.length=nT+js.length:=by rfl) (hf:(js.map λj=>r.N[j]?)=(N'.drop nT).map some:=by decide+kernel) (hv:((N'.drop nT).all λx=>scope.names.lookup x == some .free)=true:=by decide+kernel):qF X scope N' nT js :=
 qF.of _ _ h1 h2 hk mv aK hf hv
end
def nw(e:upd H p o=B)(h:H p=none):af H B/\B p=some o:=by subst e;nomatch af.upd h,ar
end My
namespace L2
open PySem PySem.Spec PyProof.Rows
section
variable{X:Cx}
def PE.to(h:PE X e t)(m:∀σ H Q,u σ H Q->t σ H Q):PE X e u:=λae s σ H Q I q=>h ae s σ H Q I (m _ _ _ q)
def bV.to(h:bV X f r)(m:∀x y H Q,u x y H Q->r x y H Q):bV X f u:=λae s σ H x y v w Q I r1 r2 q=>h ae s σ H x y v w Q I r1 r2 (m _ _ _ _ q)
def lV.to(h:lV X r)(m:∀x y H Q,u x y H Q->r x y H Q):lV X u:=λa b ae s σ H x y v w Q I r1 r2 q=>h a b ae s σ H x y v w Q I r1 r2 (m _ _ _ _ q)
def tV(i:Nat):TE:=λσ H Q=>match σ[i]? with|some (some v)=>Q v H|_=>False
set_option tactic.hygienic true in
def zc2:∀σ H Q,tV i σ H Q->me i σ H Q:=λσ H Q h=>by
 unfold tV at h;split at h
 ·rename_i v e;nomatch v,e,h
 ·exact h.elim
def vI(x:V)(k:Int->Prop):Prop:=match x with|.int i=>k i|_=>False
def LH(x:V)(k:Bool->Prop):Prop:=match x with|.bl i=>k i|_=>False
def vR(x:V)(k:Addr->Prop):Prop:=match x with|.ref i=>k i|_=>False
def sd(h:vI x k):∃i,x=.int i/\k i:=by cases x<;>first|exact h.elim|nomatch _,rfl,h
def zaG(h:LH x k):∃i,x=.bl i/\k i:=by cases x<;>first|exact h.elim|nomatch _,rfl,h
def uU(h:vR x k):∃i,x=.ref i/\k i:=by cases x<;>first|exact h.elim|nomatch _,rfl,h
def tT(t:TE):TT:=λσ H Q=>t σ H λx H1=>LH x λc=>Q c H1
def rIc(C:Int->Int->Prop)(g:Int->Int->V):R2:=λx y H Q=>vI x λi=>vI y λj=>C i j/\Q (g i j) H
def TJ(g:Int->Int->V):R2:=λx y H Q=>vI x λi=>vI y λj=>Q (g i j) H
def B5(f:Bool->Bool):R2:=λx y H Q=>match vG x y with|true=>Q (.bl (f (decide (x=y)))) H|false=>False
inductive Ix (S:List V->Prop) (i:Int) (Q:V->Prop):Prop
 |mk {xs:List V} (v:V) (h:S xs) (e:dN xs i=some v) (k:Q v)
def FZ(K:Frag):R2:=λx y H Q=>vR x λp=>vI y λi=>Ix (aj K H p) i λv=>Q v H
def Tf(K:Frag):R2:=λx y H Q=>vR x λp=>vI y λi=>Ix (az K H p) i λv=>Q v H
def bV.c(h:bV X f (rI C g)):bV X f (rIc C g):=h.to λx y H Q q=>by
 obtain⟨i,rfl,q1⟩:=sd q;obtain⟨j,rfl,q2⟩:=sd q1;nomatch i,j,rfl,rfl,q2
theorem bV.j(h:bV X f (kL g)):bV X f (TJ g):=h.to λx y H Q q=>by
 obtain⟨i,rfl,q1⟩:=sd q;obtain⟨j,rfl,q2⟩:=sd q1;nomatch i,j,rfl,rfl,q2
def La(h:B5 f x y H Q):vG x y=true/\Q (.bl (f (decide (x=y)))) H:=by
 unfold B5 at h;cases e:vG x y<;>rw[e]at h
 ·exact h.elim
 ·nomatch rfl,h
def aV:bV X (compareOp .Eq) (B5 id):=ou.to λx y H Q q=>La q
def ke:bV X (compareOp .NotEq) (B5 not):=zZ.to λx y H Q q=>La q
def xl:lV X (FZ X.K):=PK.to λx y H Q q=>by
 obtain⟨p,rfl,q1⟩:=uU q;obtain⟨i,rfl,v,h1,h2,q2⟩:=sd q1;nomatch p,_,i,v,rfl,rfl,h1,h2,q2
def xt:lV X (Tf X.K):=zbB.to λx y H Q q=>by
 obtain⟨p,rfl,q1⟩:=uU q;obtain⟨i,rfl,v,h1,h2,q2⟩:=sd q1;nomatch p,_,i,v,rfl,rfl,h1,h2,q2
def xlK(K:Frag)(h:X.K=K):lV X (FZ K):=h ▸ xl
variable{a b:Expr}{ta tb:TE}{pos:Pos}
def bX(ho:bV X (compareOp op) r)(ha:PE X a ta)(hb:PE X b tb)(g:op≠.In:=by decide)(g2:op≠.NotIn:=by decide):PT X (.Compare a [op] [b] pos) (tT (jS r ta tb)):=by
 intro ae s σ H Q I h;refine EV (aO (ha ae s σ H _ I h) λv s1 ⟨x,H1,I1,r1,q1⟩=>aO (hb ae s1 σ H1 _ I1 q1) λu s2 ⟨y,H2,I2,r2,q2⟩ =>
  aO (ho ae s2 σ H2 x y v u _ I2 r1 r2 q2) λc s3 ⟨z,H3,I3,r3,q3⟩=>?_) (Et _ g g2)
 obtain⟨k,rfl,q3⟩:=zaG q3;cases r3;exact kA ⟨H3,I3,q3⟩
def pV(i:Nat)(hN:X.N[i]?=some x:=by rfl)(hv:u4 X.env.scope x:=by first|exact Or.inl rfl|exact Or.inr (Or.inl rfl)|exact Or.inr (Or.inr rfl))(hd:(x == ("__debug__" : Str))=false:=by decide)
  (kh:(x == ("__classdict__" : Str))=false:=by decide):PE X (.Name x pos) (tV i):=(pv i hN hv hd kh).to zc2
def xL(ha:PE X a ta)(hb:PE X b tb)(hs:vm b:=by exact λ_ _=>rfl):PE X (.Subscript a b pos) (jS (FZ X.K) ta tb):=Bb xl ha hb hs
def xT(ha:PE X a ta)(hb:PE X b tb)(hs:vm b:=by exact λ_ _=>rfl):PE X (.Subscript a b pos) (jS (Tf X.K) ta tb):=Bb xt ha hb hs
def PG.to(h:PG X e t)(m:∀v σ H Q,u v σ H Q->t v σ H Q):PG X e u:=λae s σ H v w Q I r q=>h ae s σ H v w Q I r (m _ _ _ _ q)
def lE.to(h:lE X es t)(m:∀v σ H Q,u v σ H Q->t v σ H Q):lE X es u:=λae s σ H v w Q I r q=>h ae s σ H v w Q I r (m _ _ _ _ q)
def UW(K:Frag)(n:Nat)(t:nO):TG:=λv σ H Q=>vR v λa=>∃xs,az K H a xs/\xs.length=n/\t xs σ H Q
def Wg(t:TG)(u:nO):nO:=λvs σ H Q=>match vs with|v::r=>t v σ H λσ' H'=>u r σ' H' Q|[]=>False
def Uy:nO:=λvs σ H Q=>match vs with|[]=>Q σ H|_::_=>False
def iu(hc:X.calm=true)(h:lE X es t)
  (hn:(assignEach es X.env).length=n:=by rfl) (a8:(assignEach es X.env).findIdx? (·.1)=none:=by rfl):PG X (.Tuple es k pos) (UW X.K n t):=(ft hc h hn a8).to λv σ H Q q=>let ⟨a,e,xs,r⟩:=uU q; ⟨a,xs,e,r⟩
def cJ(h1:PG X e t)(h2:lE X es u)
  (hs:(assignEach (e::es) X.env).map (·.2)=assign e X.env::(assignEach es X.env).map (·.2):=by rfl):lE X (e::es) (Wg t u):=(b9 h1 h2 hs).to λv σ H Q q=>by
 cases v with
 |nil=>exact q.elim
 |cons v r=>nomatch v,r,rfl,q
def g9:lE X [] Uy:=fB.to λv σ H Q q=>by
 cases v with
 |nil=>nomatch rfl,q
 |cons v r=>exact q.elim
def gT.to{id:String}{r u:V->List V->Hp->VK->Prop}(h:gT X id r)(m:∀x v H Q,u x v H Q->r x v H Q):gT X id u:=λae s σ H x xs v us Q I r1 r2 q=>h ae s σ H x xs v us Q I r1 r2 (m _ _ _ _ q)
inductive Ap (o:Option HO) (Q:List V->Prop):Prop
 |mk (xs:List V) (h:o=some (.lst xs)) (e:xs.length<sizeLine) (k:Q xs)
def zdu:V->List V->Hp->VK->Prop:=λx vs H Q=>vR x λl=>match vs with|[y]=>Ap (H l) λxs=>Q .non (upd H l (.lst (xs++[y])))|_=>False
def fY:gT X "list.append" zdu:=zcG.to λx vs H Q q=>by
 obtain⟨l,rfl,q1⟩:=uU q;cases vs with
 |nil=>exact q1.elim
 |cons y r =>
  cases r with
  |nil=>obtain⟨xs,h1,h2,h3⟩:=q1;nomatch l,xs,y,rfl,rfl,h1,h2,h3
  |cons _ _=>exact q1.elim
def cl(t:TE):TE:=λσ H Q=>∃R:VK,(∀v H,R v H->Q v H)/\t σ H R
def PE.cl(h:PE X e t):PE X e (cl t):=λae s σ H Q I ⟨R,m,q⟩=>aO (h ae s σ H R I q) λv s1 ⟨x,H1,I1,r1,q1⟩=>⟨x,H1,I1,r1,m _ _ q1⟩
def tPc(t:TE):TO:=λσ H Q=>t σ H λx H1=>vI x λi=>Q (some i) H1
def Vd(K:Frag)(tl:TE):TI:=λσ H R=>tl σ H λx H1=>vR x λa=>(∃xs,aj K H1 a xs)/\R (iZ K a) H1
inductive Dg (H:Hp) (a:Addr) (y:V) (Q:V->Prop):Prop
 |mk (v:V) (h:dj H a y (some v)) (k:Q v)
def TY(td ty:TE):TE:=λσ H Q=>td σ H λx H1=>ty σ H1 λy H2=>vR x λa=>Dg H2 a y λv=>Q v H2
def fJ(h:PE X e te):PO X (some e) (tPc te):=λae s σ H Q I q=>Su h.cl ae s σ H Q I ⟨_,λv H1 z=>sd z,q⟩
def cH(hl:PE X l tl):PI X tg l (Vd X.K tl):=λae s σ H R I q=>Cc hl.cl ae s σ H R I ⟨_,λv H1 z=>uU z,q⟩
def jq(hu:X.A.units+1<cLine)(ho:PE X o td)(hi:PE X i ty)(hs:Bv i:=by exact λ_ _=>rfl):PE X (.Subscript o i pos) (TY td ty):=λae s σ H Q I q=>Vh hu ho.cl hi.cl hs ae s σ H Q I ⟨λx H1=>ty σ H1 λy H2=>vR x λa=>Dg H2 a y λv=>Q v H2,λx H1 z=>⟨λy H2=>vR x λa=>Dg H2 a y λv=>Q v H2,λy H2 w=>by obtain⟨a,e,v,g,q⟩:=uU w;exact⟨a,v,e,g,q⟩,z⟩,q⟩
def clT(t:TT):TT:=λσ H Q=>∃R:Bool->Hp->Prop,(∀v H,R v H->Q v H)/\t σ H R
def PT.cl(h:PT X e t):PT X e (clT t):=λae s σ H Q I ⟨R,m,q⟩=>aO (h ae s σ H R I q) λv s1 ⟨H1,I1,q1⟩=>⟨H1,I1,m _ _ q1⟩
inductive pE (b:Bool) (A B:Prop):Prop
 |t (h:b=true) (k:A)
 |f (h:b=false) (k:B)
def pE.ite{b:Bool}{A B:Prop}(h:pE b A B):if b=true then A else B:=by
 cases h with
 |t h k=>rw[aC h];exact k
 |f h k=>rw[av (by simp_all)];exact k
def vN{b:Bool}{A B:Prop}(h:¬b=true)(k:B):pE b A B:=.f (zC.mpr h) k
def vY{b:Bool}{A B:Prop}(h:b=true)(k:A):pE b A B:=.t h k
def vn{b:Bool}{A B:Prop}(k:B)(h:b=false:=by decide):pE b A B:=.f h k
def vy{b:Bool}{A B:Prop}(k:A)(h:b=true:=by decide):pE b A B:=.t h k
def v2{b:Bool}{A B:Prop}(h:b=true->A)(k:¬b=true->B):pE b A B:=by
 by_cases z:b=true
 ·exact .t z (h z)
 ·exact vN z (k z)
def zas(c:TT)(t u:TS):TS:=λD σ H=>c σ H λb H1=>pE b (t D σ H1) (u D σ H1)
def bW{c:Expr}{a b:List Stmt}{tc:TT}{t u:TS}(hc:PT X c tc)(ha:fA X a t)(hb:fA X b u):PS X (.If c a b pos) (zas tc t u):=λae s σ H D I q=>a9 hc.cl ha hb ae s σ H D I ⟨_,λb H1 z=>z.ite,q⟩
def cN.m(r:cN k A)(h:j<=k:=by decide):cN j A:=r.mono h
def oB(hr:lV X r)(ha:PE X a ta)(hb:PE X b tb)(hs:vm b:=by exact λ_ _=>rfl):PE X (.Subscript a b pos) (jS r ta tb):=Bb hr ha hb hs
def IB(ha:PE X a ta)(hb:PE X b tb)(hs:vm b:=by exact λ_ _=>rfl):PE X (.Subscript a b pos) (jS (L8 X.K) ta tb):=Bb PK ha hb hs
def aR(ho:bV X (compareOp op) r)(ha:PE X a ta)(hb:PE X b tb)(h:op≠.In:=by decide)(h2:op≠.NotIn:=by decide):PT X (.Compare a [op] [b] pos) (KH (jS r ta tb)):=oG ho ha hb (Et _ h h2)
def jA(ho:bV X (compareOp op) r)(ha:PE X a ta)(hb:PE X b tb)(h:op≠.In:=by decide)(h2:op≠.NotIn:=by decide):PE X (.Compare a [op] [b] pos) (jS r ta tb):=Bk ho ha hb (Et _ h h2)
end
def jN{b:Bool}{A B:Bool->Prop}(k:B b)(h:¬b=true:=by decide):∃k,V.bl b=V.bl k/\if k=true then A k else B k:=⟨b,rfl,by rw[av h];exact k⟩
def jY{b:Bool}{A B:Bool->Prop}(k:A b)(h:b=true:=by decide):∃k,V.bl b=V.bl k/\if k=true then A k else B k:=⟨b,rfl,by rw[aC h];exact k⟩
end L2
namespace My
open PySem L2 OF
noncomputable abbrev zx:Addr:=435
noncomputable abbrev zR:Addr:=436
noncomputable abbrev Cj:Addr:=437
noncomputable abbrev A4:Addr:=438
noncomputable abbrev AF:Addr:=439
noncomputable abbrev Cf:Addr:=440
noncomputable abbrev Aq:Addr:=441
noncomputable abbrev zP:Addr:=442
noncomputable abbrev gq:Addr:=543
noncomputable abbrev yh:Addr:=150
noncomputable abbrev iM:Addr:=313
noncomputable abbrev sN:Addr:=443
noncomputable abbrev DV:Addr:=444
noncomputable abbrev DH:Addr:=445
noncomputable abbrev D7:Addr:=446
noncomputable abbrev CS:Addr:=447
noncomputable abbrev HM:Addr:=448
noncomputable abbrev rK:Addr:=187
noncomputable abbrev qL:Addr:=199
noncomputable abbrev eJ:Addr:=211
noncomputable abbrev qE:Addr:=175
noncomputable abbrev qT:Addr:=163
noncomputable abbrev eR:Addr:=223
noncomputable abbrev ue:Addr:=314
noncomputable abbrev fE:Addr:=235
set_option genInjectivity false
structure Txt(w:World)(K:Frag)(mg:Str->Option Value):Prop where
 d_Z90:Def K mg IW
 d_Z21:Def K mg AI
 d_Z22:Def K mg Cg
 d_Z23:Def K mg Gf
 d_Z83:Def K mg F8
 d_Z84:Def K mg z9
 d_Z26:Def K mg Ie
 d_Z63:Def K mg FF
 d_Desk_kept:pS K gq Ea
 d_Z9:Def K mg zu
 d_Z85:Def K mg ED
 d_Z65:Def K mg GF
 d_Z71:Def K mg F6
 d_Z78:Def K mg B2
 d_Z62:Def K mg Hg
 d_Z3:Def K mg HY
 d_Z74:Def K mg GO
 d_Z4:Def K mg FV
 d_Z75:Def K mg E7
 d_Z76:Def K mg Ir
 d_Z20:Def K mg IV
 d_Z14:Def K mg B7
 d_Z86:Def K mg CP
 d_Z87:Def K mg Dn
 d_Z95:Def K mg GL
 d_Z96:Def K mg Fe
 d_Z69:Def K mg Dc
 d_Z68:Def K mg HL
 d_Z73:Def K mg DM
 d_Z70:Def K mg Dh
 d_Z66:Def K mg FI
 d_Z25:Def K mg HS
 d_Z13:Def K mg CK
 d_Z11:Def K mg DT
 d_Z1:Def K mg DY
 d_Z12:Def K mg DB
 d_Z97:Def K mg Ah
 d_Z16:Def K mg zB
 d_Z7:Def K mg D8
 d_Z72:Def K mg IQ
 d_Z24:Def K mg GP
 d_Z99:Def K mg IS
 d_Desk_form_for:pS K gq Iv
 d_Z77:Def K mg AK
 d_Z17:Def K mg Cd
 d_Z82:Def K mg yV
 d_Z2:Def K mg FR
 d_Z64:Def K mg zT
 d_Z18:Def K mg A5
 d_Z8:Def K mg zy
 d_Z67:Def K mg yu
 d_Z61:Def K mg A1
 d_Z80:Def K mg Hu
 d_Z79:Def K mg BC
 d_Z81:Def K mg Df
 d_Z15:Def K mg yO
 d_Z5:Def K mg Iy
 d_Z19:Def K mg Iw
 d_Z94:Def K mg AW
 d_Z93:Def K mg Gb
 d_Z88:Def K mg FN
 d_Z89:Def K mg Ek
 d_Z98:Def K mg Ab
 d_Z6:Def K mg CG
 d_Z91:Def K mg Dx
 d_Z92:Def K mg yK
 d_Desk_answer:pS K gq CC
 d_Desk_say:pS K gq Ik
 d_Z47:Def K mg Bj
 d_Z50:Def K mg BO
 d_Z37:Def K mg yz
 d_Z57:Def K mg Cr
 d_Z53:Def K mg FK
 d_Z36:Def K mg Bh
 d_Z48:Def K mg CV
 d_Z55:Def K mg A6
 d_Z28:Def K mg GI
 d_Z38:Def K mg CJ
 d_Z39:Def K mg Hr
 d_Z40:Def K mg vf
 d_Z35:Def K mg HE
 d_Desk_init:pS K gq Ck
 d_Z27:Def K mg FO
 d_Z54:Def K mg Hj
 d_Z46:Def K mg DR
 d_Z31:Def K mg FT
 d_Z59:Def K mg Az
 d_Z34:Def K mg yH
 d_Z43:Def K mg Hd
 d_Z56:Def K mg zk
 d_Z60:Def K mg FP
 d_Z49:Def K mg zc
 d_Z58:Def K mg zE
 d_Z44:Def K mg zG
 d_Z29:Def K mg Fx
 d_Z42:Def K mg uX
 d_Z45:Def K mg Fm
 d_Z52:Def K mg z0
 d_Z32:Def K mg Ia
 d_Z41:Def K mg ER
 d_Z30:Def K mg IT
 d_law:Def K mg nG
 g_Desk:mg "Desk" = some (.ref gq)
 cl_Desk:lx K gq
 nf_Desk_forms:qw K gq "forms"
 mk_Desk:Mk K gq Ck.a
 n_ValueError:mg "ValueError" = none
 n_abs:mg "abs" = none
 n_all:mg "all" = none
 n_any:mg "any" = none
 n_dict:mg "dict" = none
 n_enumerate:mg "enumerate" = none
 n_int:mg "int" = none
 n_isinstance:mg "isinstance" = none
 n_len:mg "len" = none
 n_max:mg "max" = none
 n_min:mg "min" = none
 n_range:mg "range" = none
 n_reversed:mg "reversed" = none
 n_set:mg "set" = none
 n_sorted:mg "sorted" = none
 n_str:mg "str" = none
 n_sum:mg "sum" = none
 n_zip:mg "zip" = none
 g_SMALL_LETTERS:mg "SMALL_LETTERS" = some (.str "abcdefghijklmnopqrstuvwxyz" 764)
 g_FIGURES:mg "FIGURES" = some (.str "0123456789" 696)
 g_LETTERS:mg "LETTERS" = some (.str "abcdefghijklmnop" 589)
 g_MADE:mg "MADE" = some (.ref sN)
 q_MADE_0:∀H:Hp,az K H DV [.str "name",.str "name"]
 q_MADE_1:∀H:Hp,az K H DH [.str "name",.str "name"]
 q_MADE_2:∀H:Hp,az K H D7 [.str "name",.str "name"]
 q_MADE_3:∀H:Hp,az K H CS [.str "name",.str "letter",.str "bit"]
 q_MADE_4:∀H:Hp,az K H HM [.str "name",.str "letter",.str "name"]
 q_MADE:ox w K sN [("plus",DV),("less",DH),("times",D7),("fixed",CS),("put",HM)]
 g_ASKED:mg "ASKED" = some (.ref zx)
 q_ASKED_0:∀H:Hp,az K H zR [.str "name"]
 q_ASKED_1:∀H:Hp,az K H Cj [.str "name",.str "number"]
 q_ASKED_2:∀H:Hp,az K H A4 [.str "name",.str "name"]
 q_ASKED_3:∀H:Hp,az K H AF [.str "name",.str "name",.str "divisor"]
 q_ASKED_4:∀H:Hp,az K H Cf [.str "name"]
 q_ASKED_5:∀H:Hp,az K H Aq [.str "name"]
 q_ASKED_6:∀H:Hp,az K H zP [.str "name"]
 q_ASKED:ox w K zx [("show",zR),("worth",Cj),("alike",A4),("rest",AF),("least",Cf),("ways",Aq),("unknowns",zP)]
 g_SPACED:mg "SPACED" = some (.ref ue)
 q_SPACED:∀H:Hp,az K H ue [.str "not ",.str " and ",.str " or ",.str " xor "]
 g_JOINING:mg "JOINING" = some (.ref iM)
 q_JOINING:∀H:Hp,az K H iM [.str "and",.str "or",.str "xor"]
 g_NoName:mg "NoName" = some (.ref eJ)
 x_NoName:jK K eJ (.ref yh::vB)=true
 g_FormError:mg "FormError" = some (.ref yh)
 x_FormError:jK K yh vB=true
 g_NoYesNo:mg "NoYesNo" = some (.ref eR)
 x_NoYesNo:jK K eR (.ref yh::vB)=true
 g_TooMany:mg "TooMany" = some (.ref fE)
 x_TooMany:jK K fE (.ref yh::vB)=true
 g_NoLine:mg "NoLine" = some (.ref qL)
 g_NoForm:mg "NoForm" = some (.ref rK)
 g_NoStatement:mg "NoStatement" = some (.ref qT)
 g_NoPull:mg "NoPull" = some (.ref qE)
 i_NoName_NoName:kitOne K (.ref eJ) (.ref eJ)=some true
 i_NoName_NoYesNo:kitOne K (.ref eJ) (.ref eR)=some false
 i_NoName_TooMany:kitOne K (.ref eJ) (.ref fE)=some false
 i_NoName_NoLine:kitOne K (.ref eJ) (.ref qL)=some false
 i_NoName_NoForm:kitOne K (.ref eJ) (.ref rK)=some false
 i_NoName_NoStatement:kitOne K (.ref eJ) (.ref qT)=some false
 i_NoName_NoPull:kitOne K (.ref eJ) (.ref qE)=some false
 v_NoName:kitOne K (.ref eJ) (.type "ValueError")=some true
 i_NoYesNo_NoName:kitOne K (.ref eR) (.ref eJ)=some false
 i_NoYesNo_NoYesNo:kitOne K (.ref eR) (.ref eR)=some true
 i_NoYesNo_TooMany:kitOne K (.ref eR) (.ref fE)=some false
 i_NoYesNo_NoLine:kitOne K (.ref eR) (.ref qL)=some false
 i_NoYesNo_NoForm:kitOne K (.ref eR) (.ref rK)=some false
 i_NoYesNo_NoStatement:kitOne K (.ref eR) (.ref qT)=some false
 i_NoYesNo_NoPull:kitOne K (.ref eR) (.ref qE)=some false
 v_NoYesNo:kitOne K (.ref eR) (.type "ValueError")=some true
 i_TooMany_NoName:kitOne K (.ref fE) (.ref eJ)=some false
 i_TooMany_NoYesNo:kitOne K (.ref fE) (.ref eR)=some false
 i_TooMany_TooMany:kitOne K (.ref fE) (.ref fE)=some true
 i_TooMany_NoLine:kitOne K (.ref fE) (.ref qL)=some false
 i_TooMany_NoForm:kitOne K (.ref fE) (.ref rK)=some false
 i_TooMany_NoStatement:kitOne K (.ref fE) (.ref qT)=some false
 i_TooMany_NoPull:kitOne K (.ref fE) (.ref qE)=some false
 v_TooMany:kitOne K (.ref fE) (.type "ValueError")=some true
set_option genInjectivity true
def gX:PS X st (λ_ _ _=>False):=λ_ _ _ _ _ _ h=>h.elim
seal L2.PS L2.fA L2.PE L2.PT L2.PA L2.PI L2.PG L2.PW L2.PO L2.rq
section
variable{P:Program}{w:World}{K:Frag}{mg:Str->Option Value}{base:Heap}
def Ry(K:Frag):Sp:=λvs H Q _=>∃(a:Addr) (l:aq),vs=[.ref a]/\TL K H a l/\(∀t∈l,0<=t.1)/\Q (.int (cT l 0:Nat)) H
def Ac(T:Txt w K mg):IW.Ok P w K mg base 1 (Ry K):=by
  refine T.d_Z90.k ?_;rintro vs H Q E ⟨a,l,rfl,⟨ps,hS,hT⟩,h0,q⟩;refine wl fun hr hu nd=>⟨_,(ak (aE 1 nd ai) (ak (dR c8 rfl (cH (pV 0)) (iu (n:=2) rfl (cJ (aI 2 nd) (cJ (aI 3 nd) g9))) (ao (aE 1 nd (ay vo.j (pV 1) (pV 2))))) (ao (aB (pV 1))))),?_⟩
  exists ⟨_,hS⟩,?_;refine jo (K:=K) (a:=a) (xs:=ps.map V.ref) (λi σ H2=>∃(v2 v3:Option V),σ=[some (.ref a),some (.int (cT (l.take i) 0:Nat)),v2,v3]/\H2=H)
   ⟨none,none,rfl,rfl⟩ (λi σ H2 _ ⟨_,_,_,e⟩=>by rw[e];exact hS) ?_ ?_
  ·rintro i y σ H2 hi ⟨v2,v3,rfl,rfl⟩;obtain⟨p,cO,rfl⟩:=fQ hi;obtain⟨t,aY,cj⟩:=hT.at' cO;have gv:=cM aY;have bB:l.take (i+1)=l.take i++[t]:=by rw[cZ,aY];rfl
   have e:=gh (h0 t gv);exists _,az.of cj,rfl,?_;exists some (.int t.1),some (.int t.2),?_,rfl;rw[bB,CH];show [some (.ref a),some (V.int (Builtin.bitOr ((cT (l.take i) 0:Nat):Int) t.1)),_,_]=_;rw[<-e,As,e]
  ·rintro σ H2 ⟨v2,v3,rfl,rfl⟩;rw[ax,hT.length,dG];exact q
def V0:Sp:=λvs H Q _=>∃w:List Nat,vs=[.str (S w)]/\(∀c∈w,c<128)/\w.length<=10000/\∀H',af H H'->Q (.bl (bf w)) H'
def Zi:(["letter"]:List Str).Nodup:=by decide+kernel
def PN(T:Txt w K mg):AI.Ok P w K mg base 1 V0:=by
  refine T.d_Z21.k ?_;rintro vs H Q E ⟨wo,rfl,ha,hl,q⟩;refine wl fun hr hu nd=>⟨_,(ao (aB (uP (Nv rA.j rA.j ai (bq m7 (by rfl) T.n_len dC (aa (pV 0) ag)) ai) (px (bq (Q7 rfl) (by rfl) T.n_all R7 (aa (du (g:=(aW 0)) ["letter"] 1 [] rfl (cL AI) (yU (pV 0))
    (λa b c d e=>(aI 0 Zi)) (λa b c d e=>gA) (λa b c d e=>(Bk Fv (pV 0) (fg (v:=.str "abcdefghijklmnopqrstuvwxyz") (by rfl) T.g_SMALL_LETTERS ⟨_,rfl⟩) rfl))) ag)))))),?_⟩
  have hz:(S wo).length<=sizeLine:=by rw[aH];exact iq tL
  exists _,rfl,hz,_,rfl,?_;by_cases h1:1<=wo.length
  rotate_left
  ·refine aM (λy=>h1 (by have:=bP y;rw[aH]at this;lia)) ⟨_,rfl,aM tD ?_⟩;have e:bf wo=false:=by unfold bf;rw[bo h1];rfl
   rw[e]at q;exact q H (af.refl _)
  refine a7 (aU (by rw[aH];lia)) ⟨_,rfl,?_⟩;by_cases h2:wo.length<=8
  rotate_left
  ·refine aM (λy=>h2 (by have:=bP y;rw[aH]at this;lia)) ?_;have e:bf wo=false:=by unfold bf;rw[bo h2,Bo,pY]
   rw[e]at q;exact q H (af.refl _)
  refine a7 (aU (by rw[aH];lia)) ?_;have e:bf wo=(wo.map λc=>decide (97<=c/\c<123)).all id:=by unfold bf;rw[aU h1,aU h2,uJ,uJ,Ii];rfl
  rw[e]at q;exists _,rfl,Bc ha,?_;refine Se (l:=wo) (λi ys σ G=>∃v0:Option V,σ=[v0]/\ys=((wo.take i).map λc=>decide (97<=c/\c<123)).map V.bl/\G=H)
   ⟨none,rfl,rfl,rfl⟩ (λi ys σ G ⟨_,_,e1,_⟩=>by rw[e1];simp;lia) (by assumption) ?_ ?_
  ·rintro i c ys σ G hc ⟨v0,rfl,rfl,rfl⟩;have bB:wo.take (i+1)=wo.take i++[c]:=by rw[cZ,hc];rfl
   unfold aW;refine tt ?_;exists _,_,rfl,rfl,?_;rw[N1,zag c (ha c (cM hc))];exists _,rfl,?_,rfl;rw[bB,aQ,aQ];rfl
  ·rintro ys σ G ⟨v0,rfl,rfl,rfl⟩ D hD;rw[dG];nomatch D,_,rfl,aj.of ar,q _ (af.upd hD)
def zab:Sp:=λvs H Q _=>∃w:List Nat,vs=[.str (S w)]/\(∀c∈w,c<128)/\w.length<=10000/\∀H',af H H'->Q (.bl (fP w)) H'
def Z2(l:List Nat):Txt.startswith (S l) (S [48])=decide (l.head?=some 48):=by
 unfold Txt.startswith;rw[HV,gf,gf,aH,aH];cases l with
 |nil=>rfl
 |cons c r =>
  by_cases z:c=48
  ·subst z;simp
  ·simp[z]
def zcg:(["figure"]:List Str).Nodup:=by decide+kernel
def Y4(T:Txt w K mg):Cg.Ok P w K mg base 1 zab:=by
  refine T.d_Z22.k ?_;rintro vs H Q E ⟨wo,rfl,ha,hl,q⟩;refine wl fun hr hu nd=>⟨_,(ak (a9 (j3 (bO fc CN HX Tc (pV 0) (aa aA ag))) (ao (aB (jA aV (pV 0) aA))) aN)
   (ao (aB (uP (Nv rA.j rA.j ai (bq m7 (by rfl) T.n_len dC (aa (pV 0) ag)) ai) (px (bq (Q7 rfl) (by rfl) T.n_all R7 (aa (du (g:=(aW 0)) ["figure"] 1 [] rfl (cL Cg) (yU (pV 0))
    (λa b c d e=>(aI 0 zcg)) (λa b c d e=>gA) (λa b c d e=>(Bk Fv (pV 0) (fg (v:=.str "0123456789") (by rfl) T.g_FIGURES ⟨_,rfl⟩) rfl))) ag))))))),?_⟩
  have hz:(S wo).length<=sizeLine:=by rw[aH];exact iq tO
  exists rfl,_,_,rfl,rfl,_,rfl,?_;rw[jM,Z2];by_cases h0:wo.head?=some 48
  ·refine a7 (aU h0) ?_;have e:fP wo=decide (V.str (S wo)=V.str (ofString "0")):=by
    unfold fP;rw[aC h0,jM];by_cases z:wo=[48]
    ·rw[z,aU rfl,aU rfl]
    ·rw[bo z,bo (λy=>z (by injection y with y;exact dU y))]
   rw[e]at q;exact q H (af.refl _)
  refine aM (λy=>h0 (bP y)) ?_;exists _,rfl,hz,_,rfl,?_;by_cases h1:1<=wo.length
  rotate_left
  ·refine aM (λy=>h1 (by have:=bP y;rw[aH]at this;omega)) ⟨_,rfl,aM tD ?_⟩;have e:fP wo=false:=by unfold fP;rw[av h0,bo h1];rfl
   rw[e]at q;exact q H (af.refl _)
  refine a7 (aU (by rw[aH];omega)) ⟨_,rfl,?_⟩;by_cases h2:wo.length<=18
  rotate_left
  ·refine aM (λy=>h2 (by have:=bP y;rw[aH]at this;lia)) ?_;have e:fP wo=false:=by unfold fP;rw[av h0,bo h2,Bo,pY]
   rw[e]at q;exact q H (af.refl _)
  refine a7 (aU (by rw[aH];lia)) ?_;have e:fP wo=(wo.map λc=>decide (48<=c/\c<58)).all id:=by unfold fP;rw[av h0,aU h1,aU h2,uJ,uJ,Ii];rfl
  rw[e]at q;exists _,rfl,Bc ha,?_;refine Se (l:=wo) (λi ys σ G=>∃v0:Option V,σ=[v0]/\ys=((wo.take i).map λc=>decide (48<=c/\c<58)).map V.bl/\G=H)
   ⟨none,rfl,rfl,rfl⟩ (λi ys σ G ⟨_,_,e1,_⟩=>by rw[e1];simp;omega) (by assumption) ?_ ?_
  ·rintro i c ys σ G hc ⟨v0,rfl,rfl,rfl⟩;have bB:wo.take (i+1)=wo.take i++[c]:=by rw[cZ,hc];rfl
   unfold aW;refine tt ?_;exists _,_,rfl,rfl,?_;rw[Pt,Vq c (ha c (cM hc))];exists _,rfl,?_,rfl;rw[bB,aQ,aQ];rfl
  ·rintro ys σ G ⟨v0,rfl,rfl,rfl⟩ D hD;rw[dG];nomatch D,_,rfl,aj.of ar,q _ (af.upd hD)
def Wv(w:List Nat):eE .letter w=(decide (w.length=1)&&w.all λc=>decide (97<=c/\c<113)):=rfl
def Fu(w:List Nat):eE .bit w=(decide (w=[48]) || decide (w=[49])):=rfl
def Ez(w:List Nat):eE .divisor w=(fP w && !decide (w=[48])):=rfl
def JQ{w:List Nat}(h:fP w=true):NumText.AllDigits w/\w≠[]/\w.length<=18:=by
 unfold fP at h;split at h
 ·rw[bP h];nomatch λc hc=>by rw[bw.mp hc];decide,tS,tS
 ·simp only[ff,yd]at h;nomatch λc hc=>by have:=bP (fN.mp h.2.2 c hc);lia,λz=>by simp_all,h.2.1
def TF{w:List Nat}(h:NumText.AllDigits w)(h1:w≠[])(h2:w.length<=18):intText? (S w)=some ((digitsVal w:Nat):Int):=intText_digits (x:=S w) h h1 (by rw[aH];lia)
def zex:Sp:=λvs H Q _=>∃(k:Kd) (w:List Nat),vs=[.str k.s,.str (S w)]/\(∀c∈w,c<128)/\w.length<=10000/\∀H',af H H'->Q (.bl (eE k w)) H'
def zbG(T:Txt w K mg):Gf.Ok P w K mg base 2 zex:=by
  refine T.d_Z23.k ?_;rintro vs H Q E ⟨k,wo,rfl,ha,hl,q⟩;refine wl fun hr hu nd=>⟨_,(ak (bW (bX aV (pV 0) aA) (ao (aB (aD T.d_Z21 (PN T) hr (aa (pV 1) ag)))) aN) (ak (bW (bX aV (pV 0) aA) (ao (aB (uP (jA aV (bq m7 (by rfl) T.n_len dC (aa (pV 1) ag)) ai) (px (Bk Fv (pV 1) (fg (v:=.str "abcdefghijklmnop") (by rfl) T.g_LETTERS ⟨_,rfl⟩) rfl))))) aN)
   (ak (bW (bX aV (pV 0) aA) (ao (aB (zcl (jA aV (pV 1) aA) (px (jA aV (pV 1) aA))))) aN) (ao (aB (uP (aD T.d_Z22 (Y4 T) hr (aa (pV 1) ag)) (px (zew (uP (jA aV (pV 0) aA) (px (jA aV (pV 1) aA))))))))))),?_⟩
  have hz:(S wo).length<=sizeLine:=by rw[aH];exact iq tO
  cases k with
  |name =>
   refine vy ?_;nomatch wo,rfl,ha,hl,λH1 s1=>q H1 s1
  |letter =>
   refine vn ?_;refine vy ?_;exists _,rfl,hz,_,rfl,?_;by_cases h1:wo.length=1
   ·obtain⟨c,rfl⟩:=Q6.mp h1;refine a7 (by rw[aH];exact aU rfl) ?_;exists _,_,rfl,rfl,?_;rw[kJ,VF c (ha c tS)];have e:eE .letter [c]=decide (97<=c/\c<113):=by unfold eE;simp
    rw[e]at q;exact q H (af.refl _)
   ·refine aM (by rw[aH];exact λy=>h1 (by grind)) ?_;have e:eE .letter wo=false:=by rw[Wv];rw[bo h1];rfl
    rw[e]at q;exact q H (af.refl _)
  |bit =>
   refine vn ?_;refine vn ?_;refine vy ?_;exists _,rfl,?_;by_cases h1:wo=[48]
   ·refine a7 (aU (by rw[h1,jM])) ?_;have e:eE .bit wo=true:=by rw[Fu];rw[aU h1];rfl
    rw[e]at q;exact q H (af.refl _)
   ·refine aM (λy=>h1 (by have:=bP y;injection this with this;rw[jM]at this;exact dU this)) ?_;have e:eE .bit wo=decide (V.str (S wo)=V.str (ofString "1")):=by
     rw[Fu,bo h1,O1,xu];by_cases z:wo=[49]
     ·rw[z,aU rfl,aU rfl]
     ·rw[bo z,bo (λy=>z (by injection y with y;exact dU y))]
    rw[e]at q;exact q H (af.refl _)
  |number =>
   refine vn ?_;refine vn ?_;refine vn ?_;exists wo,rfl,ha,hl,λH1 s1=>⟨_,rfl,?_⟩;cases hn:fP wo with
   |false =>
    have e:eE .number wo=false:=hn;rw[e]at q;exact aM tD (q H1 s1)
   |true =>
    have e:eE .number wo=true:=hn;rw[e]at q;refine a7 rfl ?_;refine jN ?_;nomatch _,rfl,q H1 s1
  |divisor =>
   refine vn ?_;refine vn ?_;refine vn ?_;exists wo,rfl,ha,hl,λH1 s1=>⟨_,rfl,?_⟩;cases hn:fP wo with
   |false =>
    have e:eE .divisor wo=false:=by rw[Ez];rw[hn];rfl
    rw[e]at q;exact aM tD (q H1 s1)
   |true =>
    refine a7 rfl ?_;refine jY ?_;exists _,rfl,?_;have e:eE .divisor wo = !decide (V.str (S wo)=V.str (ofString "0")):=by
     rw[Ez,hn,uJ,jM];congr 1;by_cases z:wo=[48]
     ·rw[z,aU rfl,aU rfl]
     ·rw[bo z,bo (λy=>z (by injection y with y;exact dU y))]
    rw[e]at q;exact q H1 s1
def zck:Sp:=λvs H Q E=>∃(k:Kd) (w:List Nat),vs=[.str k.s,.str (S w)]/\(∀c∈w,c<128)/\w.length<=10000/\(∀H',af H H'->eE k w=true->Q (tq k w) H')/\(∀H',af H H'->eE k w=false->False)
def Wc(T:Txt w K mg):F8.Ok P w K mg base 3 zck:=by
  refine T.d_Z83.k ?_;rintro vs H Q E ⟨k,wo,rfl,ha,hl,q,e⟩;refine wl fun hr hu nd=>⟨_,(ak (a9 (nK (j3 (aD T.d_Z23 (zbG T) hr (aa (pv 0) (aa (pv 1) ag))))) (ao gX) aN) (ak (a9 (aR ou (pv 0) aA) (ao (aB (pv 1))) aN) (ak (a9 (aR ou (pv 0) aA) (ao (aB (bO fc Hc EN II (fg (v:=.str "abcdefghijklmnop") (by rfl) T.g_LETTERS ⟨_,rfl⟩) (aa (pv 1) ag)))) aN)
   (ao (aB (eA Im rfl T.n_int ra (aa (pv 1) ag))))))),?_⟩
  exists _,rfl,_,rfl,k,wo,rfl,ha,hl,λH1 s1=>?_;cases hb:eE k wo with
  |false =>
   exists _,rfl,eh ?_;exact e H1 s1 hb
  |true =>
   exists _,rfl,gn ?_;have dig:NumText.AllDigits wo->wo≠[]->wo.length<=18->∀x,x=V.int ((digitsVal wo:Nat):Int)->tq k wo=x->(Ax (yt (λxs H Q=>∃x n,xs=[V.str x]/\intText? x=some n/\x.length<=640/\Q (V.int n) H) (pT (me 1) sy))) {nx:=λx H'=>Q V.non H',rt:=Q} [some (.str k.s),some (.str (S wo))] H1:=λh1 h2 h3 x hx hk=>by
    exists _,rfl,_,_,rfl,TF h1 h2 h3,(by rw[aH];lia),?_
    have:=q H1 s1 hb
    rw[hk,hx]at this;exact this
   cases k with
   |name =>
    exists _,rfl,rfl,_,rfl,a7 tD ?_;nomatch _,rfl,q H1 s1 hb
   |letter =>
    exists _,rfl,rfl,_,rfl,aM tD ?_;exists _,rfl,rfl,_,rfl,a7 tD ?_;exists rfl,_,rfl,_,_,rfl,rfl,?_;rw[kJ];exact q H1 s1 hb
   |bit =>
    exists _,rfl,rfl,_,rfl,aM tD ?_;exists _,rfl,rfl,_,rfl,aM tD ?_;rw[Fu,za,yd,yd]at hb;rcases hb with z|z
    ·exact dig (by rw[z];intro c hc;rw[bw.mp hc];decide) (by rw[z];simp) (by rw[z];simp) _ rfl rfl
    ·exact dig (by rw[z];intro c hc;rw[bw.mp hc];decide) (by rw[z];simp) (by rw[z];simp) _ rfl rfl
   |number =>
    exists _,rfl,rfl,_,rfl,aM tD ?_;exists _,rfl,rfl,_,rfl,aM tD ?_;obtain⟨d1,d2,d3⟩:=JQ (show fP wo=true from hb);exact dig d1 d2 d3 _ rfl rfl
   |divisor =>
    exists _,rfl,rfl,_,rfl,aM tD ?_;exists _,rfl,rfl,_,rfl,aM tD ?_;rw[Ez,ff]at hb;obtain⟨d1,d2,d3⟩:=JQ hb.1;exact dig d1 d2 d3 _ rfl rfl
def zeV(K:Frag):Sp:=λvs H Q E=>∃(kv:V) (b:Addr) (ks:Option (List Kd)) (ws:List (List Nat)),vs=[kv,.ref b]/\H b=some (.lst (ws.map λw=>V.str (S w))) /\
 Ig K kv ks/\(∀w∈ws,w.length<=10000/\∀c∈w,c<128)/\ws.length<=10000 /\
 (∀vs H' c,H c=none->o8 ks ws=some vs->H' c=some (.lst vs)->af H H'->Q (.ref c) H')/\(∀H',o8 ks ws=none->af H H'->False)
def Sb:(["kind","word"]:List Str).Nodup:=by decide+kernel
def MV(T:Txt w K mg):z9.Ok P w K mg base 4 (zeV K):=by
  refine T.d_Z84.k ?_;rintro vs H Q E ⟨kv,b,ks,ws,rfl,hb,hk,ha,hl,q,e⟩;refine wl fun hr hu nd=>⟨_,(ak (a9 (PW.pt (jy (aR qU (pV 0) iX) (j2 (aR ke (bq fO (by rfl) T.n_len dC (aa (pV 0) ag)) (bq fO (by rfl) T.n_len dC (aa (pV 1) ag)))))) (ao gX) aN)
   (ao (aB (du (g:=(eI K 2 (bT (aW 0) (bT (aW 1) e7)))) ["kind", "word"] 2 [] rfl (cL z9) (zdi rfl T.n_zip (aa (pV 0) (aa (pV 1) ag))) (λa b c d e=>(ft (n:=2) rfl (b9 (aI 0 Sb) (b9 (aI 1 Sb) fB)))) (λa b c d e=>gA) (λa b c d e=>(aD T.d_Z83 (Wc T) hr (aa (pV 0) (aa (pV 1) ag)))))))),?_⟩
  cases ks with
  |none =>
   cases (show kv=.non from hk);exists rfl,_,rfl,a7 tD ?_;refine eh ?_;exact e H rfl (af.refl _)
  |some ks =>
   obtain⟨a,rfl,hk1,jf⟩:=hk;exists rfl,_,rfl,aM tS ?_;exists a,_,rfl,.inr (jf _),b,_,rfl,.inl (aj.of hb),_,rfl,?_;rw[ax,ax];by_cases aK:ks.length=ws.length
   rotate_left
   ·refine a7 (by lia) ?_;exact e H (by unfold o8 tW;exact av λz=>aK z.1) (af.refl _)
   refine aM (by simp_all) ?_;have Qj:(ks.zip ws).length=ks.length:=by simp_all
   exists a,b,rfl,⟨_,jf _⟩,⟨_,aj.of hb⟩,?_;refine zcN (K:=K) (a:=a) (b:=b) (xs:=ks.map λk=>V.str k.s) (ys:=ws.map λw=>V.str (S w)) (by simp_all)
    (λi zs σ G=>∃v0 v1:Option V,σ=[v0,v1]/\zs=((ks.zip ws).take i).map (λp=>tq p.1 p.2)/\((ks.zip ws).take i).all (λp=>eE p.1 p.2)=true/\af H G)
    ⟨none,none,rfl,rfl,rfl,af.refl _⟩ (by rintro i zs σ G hi ⟨_,_,_,e1,_,e3⟩;exact⟨jf _,aj.of (e3 _ _ hb),by simp_all⟩) (by rw[ax];exact bE (bD tL)) ?_ ?_
   ·rintro i x y zs σ G T' hx hy ⟨v0,v1,rfl,rfl,g1,g2⟩ kj;rw[cQ]at hx hy;obtain⟨k,rk,rfl⟩:∃k,ks[i]?=some k/\V.str k.s=x:=by simp_all
    obtain⟨wo,BE,rfl⟩:∃wo,ws[i]?=some wo/\V.str (S wo)=y:=by simp_all
    have QL:(ks.zip ws)[i]?=some (k,wo):=by rw[List.getElem?_zip_eq_some];nomatch rk,BE
    have bB:(ks.zip ws).take (i+1)=(ks.zip ws).take i++[(k,wo)]:=by rw[cZ,QL];rfl
    have c1:af G (upd G T' (.tup [V.str k.s,V.str (S wo)])):=af.upd kj;obtain⟨a1,a2⟩:=ha wo (cM BE);exists T',_,rfl,az.of ar,rfl,_,_,rfl,_,_,rfl,rfl,?_;refine tt ?_;exists k,wo,rfl,a2,a1,λH2 s2 hy=>?_,λH2 s2 hn=>?_
    ·exists _,_,rfl,(by rw[bB,aQ];rfl),?_,g2.trans (c1.trans s2);rw[bB,List.all_append,g1];simp[hy]
    ·refine e H2 ?_ (g2.trans (c1.trans s2));refine av λz=>?_
     have:=fN.mp z.2 (k,wo) (cM QL)
     rw[hn]at this;cases this
   ·rintro zs σ G ⟨v0,v1,rfl,rfl,g1,g2⟩ D hD;rw[ax,<-Qj,dG]at g1;rw[ax,<-Qj,dG];refine q _ _ D (g2.free hD) ?_ ar (g2.trans (af.upd hD));exact aC ⟨aK,g1⟩
def Dz:("=" : Str)=S [61]:=by decide+kernel
def VM:(":=" : Str)=S [58,61]:=by decide+kernel
def Zn(K:Frag):Sp:=λvs H Q E=>∃n sg l:List Nat,vs=[.str (S n),.str (S sg),.str (S l)]/\(∀c∈l,c<128)/\l.length<=9000 /\
 (∀o wo vs p c H',ku n sg l=some (o,wo,vs)->H' p=some (.tup [GR o,.str (S wo),.ref c])->H' c=some (.lst vs)->af H H'->Q (.ref p) H')/\(∀H',ku n sg l=none->af H H'->False)
def Vv(T:Txt w K mg):Ie.Ok P w K mg base 5 (Zn K):=by
  refine T.d_Z26.k ?_;rintro vs H Q E ⟨n,sg,l,rfl,ha,hl,q,e⟩;refine wl fun hr hu nd=>⟨_,(ak (aE 3 nd (bO fc FU HR G8 (pv 2) (aa aA ag))) (ak (a9 (PW.pt (iQ (aR ou (pv 1) aA) (i8 (tM (zdW hu (IB (pv 3) ai) (fg (v:=.ref sN) (by rfl) T.g_MADE rfl)))))) (ao (aB (bx (aa (pv 0) (aa (IB (pv 3) ai) (aa (aD T.d_Z84 (MV T) hr (aa (zcc hu (fg (v:=.ref sN) (by rfl) T.g_MADE rfl) (IB (pv 3) ai) (λ_ _=>rfl)) (aa (j4 oY (pv 3) (Su ai) lX) ag))) ag)))))) aN)
   (ao (aB (bx (aa (pv 0) (aa (pv 1) (aa (bG (aa (pv 2) ag)) ag)))))))),?_⟩
  have iF:Txt.split (S l) (S [32])=(br l).map S:=by
   have:=CZ (c:=32) (lN l) (xq l)
   rwa [vC l]at this
  have Tu:(S l).length<=sizeLine:=by rw[aH];exact iq tL
  have x6:Paired (Hf K) [(ofString "plus",DV),(ofString "less",DH),(ofString "times",D7),(ofString "fixed",CS),(ofString "put",HM)] ig :=
   .cons ⟨rfl,tD,T.q_MADE_0⟩ (.cons ⟨rfl,tD,T.q_MADE_1⟩ (.cons ⟨rfl,tD,T.q_MADE_2⟩ (.cons ⟨rfl,tD,T.q_MADE_3⟩ (.cons ⟨rfl,tD,T.q_MADE_4⟩ .nil))))
  exists _,rfl,rfl,_,_,rfl,rfl,(by rw[mD];rfl),(by rw[aH];exact jm hl tD),λW hW=>?_;rw[mD,iF];obtain⟨w0,wr,ew⟩:∃w0 wr,br l=w0::wr:=by
   cases e:br l with
   |nil=>exact absurd e (lN l)
   |cons a b=>nomatch a,b,rfl
  have lI:=vd l;have jc:=wQ l;rw[ew]at lI jc;generalize eU:upd H W _=H1;have s1:=(nw eU hW).1;have w1:H1 W=some (.lst (((w0::wr).map S).map V.str)):=by rw[(nw eU hW).2,ew]
  have fin:(∀o wo vs,ku n sg l=some (o,wo,vs)->o=some n->wo=sg->vs=[V.str (S l)]->∀c,H1 c=none->∀p,upd H1 c (.lst [V.str (S l)]) p=none->Q (.ref p) (upd (upd H1 c (.lst [V.str (S l)])) p (.tup [.str (S n),.str (S sg),.ref c]))):=λo wo vs hk h1 h2 h3 c hc p hp=>by
   subst h1 h2 h3;refine q _ _ _ p c _ hk ar ?_ (s1.trans ((af.upd hc).trans (af.upd hp)));rw[aS (λz=>by rw[z,ar]at hp;cases hp)];exact ar
  have wq:ku n sg l=if sg=[61]/\(eC ig w0).isSome=true then (o8 (eC ig w0) wr).map λvs=>(some n,w0,vs)else some (some n,sg,[.str (S l)]):=by
   unfold ku;rw[ew];rfl
  have fu:(((w0::wr).map S).map V.str)=(w0::wr).map λw=>V.str (S w):=by rw[fk];rfl
  have oy:wr.length<=9000:=by have:=lI.1;rw[bH]at this;lia
  have last:¬(sg=[61]/\(eC ig w0).isSome=true)->(Ax (RS (pT (me 0) (pT (me 1) (pT (Tb (pT (me 2) sy)) sy))))) {nx:=λx H'=>Q V.non H',rt:=Q} [some (.str (S n)),some (.str (S sg)),some (.str (S l)),some (.ref W)] H1:=λhn=>by
   rw[av hn]at wq;nomatch _,rfl,_,rfl,_,rfl,de,λc hc=>⟨c5,λp hp=>fin _ _ _ wq rfl rfl rfl c hc p hp⟩
  exists _,rfl,rfl,_,rfl,?_;by_cases hs:sg=[61]
  rotate_left
  ·refine aM (λy=>hs (by have:=bP y;injection this with this;rw[Dz]at this;exact dU this)) ?_;refine gn ?_;exact last λz=>hs z.1
  refine a7 (aU (by rw[hs,Dz])) ?_;exists _,rfl,W,_,_,V.str (S w0),rfl,rfl,aj.of w1,(bc (j:=0) rfl),sN,_,_,rfl,T.q_MADE,rfl,_,rfl,?_;rcases NW x6 w0 with ⟨b,kl,hb,ia,wL⟩|⟨hb,ia⟩
  rotate_left
  ·refine aM (by simp_all) ?_;exact last λz=>by simp_all
  refine a7 (by rw[hb];rfl) ?_;have uu:sg=[61]/\(eC ig w0).isSome=true:=⟨hs,by rw[ia];rfl⟩;rw[aC uu,ia]at wq;exists _,rfl,_,rfl,W,_,_,V.str (S w0),rfl,rfl,aj.of w1,(bc (j:=0) rfl),_,rfl,W,_,_,V.str (S w0),rfl,rfl,aj.of w1,(bc (j:=0) rfl),sN,_,_,b,rfl,T.q_MADE,rfl,hb,?_;exists _,rfl,_,rfl,W,_,rfl,aj.of w1,λV1 FX=>?_;have ec:gk (((w0::wr).map S).map V.str) (some 1) none=wr.map λw=>V.str (S w):=by rw[fu];exact Kr _ _
  rw[ec];have s2:af H1 (upd H1 V1 (.lst (wr.map λw=>V.str (S w)))):=af.upd FX;exists .ref b,V1,some kl,wr,rfl,ar,wL,(λw hw=>⟨?_,λc hc=>?_⟩),tL,λvs H2 c hc CQ fG s3=>?_,λH2 hn s3=>?_
  ·have:=lI.2 w (dM _ hw);lia
  ·exact ha c (jc w (dM _ hw) c hc)
  ·exists c5,λp hp=>?_;have s4:af H2 (upd H2 p (.tup [.str (S n),.str (S w0),.ref c])):=af.upd hp;exact q _ _ _ p c _ (by rw[wq,CQ];rfl) ar (s4 _ _ fG) (s1.trans (s2.trans (s3.trans s4)))
  ·exact e H2 (by rw[wq,hn];rfl) (s1.trans (s2.trans s3))
def zaC(K:Frag):Sp:=λvs H Q E=>∃l:List Nat,vs=[.str (S l)]/\(∀c∈l,c<128)/\l.length<=9000 /\
 (∀o wo vs p c H',eZ l=some (o,wo,vs)->H' p=some (.tup [GR o,.str (S wo),.ref c])->H' c=some (.lst vs)->af H H'->Q (.ref p) H')/\(∀H',eZ l=none->af H H'->False)
def zbF(T:Txt w K mg):FF.Ok P w K mg base 6 (zaC K):=by
  refine T.d_Z63.k ?_;rintro vs H Q E ⟨l,rfl,ha,hl,q,e⟩;refine wl fun hr hu nd=>⟨_,(ak (aE 1 nd (bO fc FU HR G8 (pV 0) (aa aA ag))) (ak (kx (a9 (PW.pt (iQ (aR jI.j (bq fO (by rfl) T.n_len dC (aa (pV 1) ag)) ai) (iQ (oG ph (xL (pV 1) ai) (bx (aa aA (aa aA ag))) rfl) (i8 (j3 (aD T.d_Z21 (PN T) hr.m (aa (xL (pV 1) ai) ag))))))) (ao (aB (aD T.d_Z26 (Vv T) hr (aa (xL (pV 1) ai) (aa (xL (pV 1) ai) (aa (j4 zh (pV 0) (fJ (ay d0.j (ay d0.j (bq m7 (by rfl) T.n_len dC (aa (xL (pV 1) ai) ag)) (bq m7 (by rfl) T.n_len dC (aa (xL (pV 1) ai) ag))) ai)) lX) ag)))))) aN))
   (ao (aB (bx (aa iX (aa (xL (pV 1) ai) (aa (aD T.d_Z84 (MV T) hr.m (aa (XW hu (fg (v:=.ref zx) (by rfl) T.g_ASKED rfl) (xL (pV 1) ai) ⟨rfl,rfl,rfl,rfl⟩) (aa (j4 oY (pV 1) (fJ ai) lX) ag))) ag)))))))),?_⟩
  have iF:Txt.split (S l) (S [32])=(br l).map S:=by
   have:=CZ (c:=32) (lN l) (xq l)
   rwa [vC l]at this
  have Tu:(S l).length<=sizeLine:=by rw[aH];exact iq tO
  have x6:Paired (Hf K) [(ofString "show",zR),(ofString "worth",Cj),(ofString "alike",A4),(ofString "rest",AF),(ofString "least",Cf),(ofString "ways",Aq),(ofString "unknowns",zP)] qx :=
   .cons ⟨rfl,tD,T.q_ASKED_0⟩ (.cons ⟨rfl,tD,T.q_ASKED_1⟩ (.cons ⟨rfl,tD,T.q_ASKED_2⟩ (.cons ⟨rfl,tD,T.q_ASKED_3⟩ (.cons ⟨rfl,tD,T.q_ASKED_4⟩ (.cons ⟨rfl,tD,T.q_ASKED_5⟩ (.cons ⟨rfl,tD,T.q_ASKED_6⟩ .nil))))))
  exists rfl,_,_,rfl,rfl,(by rw[mD];rfl),(by rw[aH];exact jm hl tD),λW hW=>?_;rw[mD,iF];obtain⟨w0,wr,ew⟩:∃w0 wr,br l=w0::wr:=by
   cases e:br l with
   |nil=>exact absurd e (lN l)
   |cons a b=>nomatch a,b,rfl
  have lI:=vd l;have jc:=wQ l;rw[ew]at lI jc;generalize eU:upd H W _=H1;have s1:=(nw eU hW).1;have w1:H1 W=some (.lst (((w0::wr).map S).map V.str)):=by rw[(nw eU hW).2,ew]
  have fu:(((w0::wr).map S).map V.str)=(w0::wr).map λw=>V.str (S w):=by rw[fk];rfl
  have oy:wr.length<=9000:=by grind
  have mS:eZ l=if 2<(w0::wr).length/\((w0::wr).getD 1 []=[61]\/(w0::wr).getD 1 []=[58,61])/\bf w0=true then ku w0 ((w0::wr).getD 1 []) (l.drop (w0.length+((w0::wr).getD 1 []).length+2))else (o8 (eC qx w0) wr).map λvs=>(none,w0,vs):=by
   unfold eZ;rw[ew];rfl
  have x1e:∀x:List Nat,iY (V.str (S x)) [V.str (ofString "="),V.str (ofString ":=")]=decide (x=[61]\/x=[58,61]):=λx=>by
   rw[Dz,VM];show (S [61] == S x || (S [58,61] == S x || false))=_;have e1:∀b:List Nat,(S b == S x)=decide (x=b):=λb=>by
    by_cases z:x=b
    ·rw[z,aU rfl];simp
    ·rw[bo z];exact zC.mpr λy=>z (dU (ka.mp y)).symm
   rw[e1,e1,OG,<-Bool.decide_or]
  exists λσ' G'=>σ'=[some (.str (S l)),some (.ref W)]/\af H1 G'/\¬(2<(w0::wr).length/\((w0::wr).getD 1 []=[61]\/(w0::wr).getD 1 []=[58,61])/\bf w0=true),?_,?_
  ·exists W,_,rfl,.inl (aj.of w1),_,rfl,?_;by_cases h2:2<(w0::wr).length
   rotate_left
   ·refine aM (λy=>h2 (by have:=bP y;rw[ax,ax]at this;lia)) ?_;refine gn ?_;nomatch rfl,af.refl _,λz=>h2 z.1
   refine a7 (aU (by rw[ax,ax];lia)) ?_;obtain⟨x1,xr,rfl⟩:∃x1 xr,wr=x1::xr:=by
    cases wr with
    |nil=>simp at h2
    |cons a b=>nomatch a,b,rfl
   exists V.str (S x1),aj.of w1,bc (j:=1) rfl,bL,λtp zV=>?_;have s2:af H1 (upd H1 tp (.tup [V.str (ofString "="),V.str (ofString ":=")])):=af.upd zV;exists tp,_,rfl,.inr (az.of ar),rfl,rfl,_,rfl,?_;rw[show (if false=true then !iY (V.str (S x1)) [V.str (ofString "="),V.str (ofString ":=")]else iY (V.str (S x1)) [V.str (ofString "="),V.str (ofString ":=")])=decide (x1=[61]\/x1=[58,61]) from x1e x1];by_cases h3:x1=[61]\/x1=[58,61]
   rotate_left
   ·refine aM (λy=>h3 (bP y)) ?_;refine gn ?_;nomatch rfl,s2,λz=>h3 z.2.1
   refine a7 (aU h3) ?_;have a0:=lI.2 w0 tS;have a1:=lI.2 x1 tS;exists V.str (S w0),aj.of (s2 _ _ w1),bc (j:=0) rfl,w0,rfl,(λc hc=>ha c (jc w0 tS c hc)),tL,λH2 s3=>⟨_,rfl,?_⟩;cases h4:bf w0 with
   |false =>
    refine aM tD ?_;nomatch rfl,s2.trans s3,λz=>absurd z.2.2 tD
   |true =>
    refine a7 rfl ?_;rw[aC ⟨h2,h3,h4⟩]at mS;have w2:=(s2.trans s3) _ _ w1;have S2:=s1.trans (s2.trans s3);exists V.str (S w0),aj.of w2,bc (j:=0) rfl,V.str (S x1),aj.of w2,bc (j:=1) rfl,V.str (S w0),aj.of w2,bc (j:=0) rfl,_,rfl,(by rw[aH];exact iq tL),V.str (S x1),aj.of w2,bc (j:=1) rfl,_,rfl,(by rw[aH];exact iq tL),_,rfl,Tu,?_;have ei:((S w0).length:Int)+((S x1).length:Int)+2=((w0.length+x1.length+2:Nat):Int):=by rw[aH,aH];lia
    rw[ei,Wq];exists w0,x1,l.drop (w0.length+x1.length+2),rfl,(λc hc=>ha c (O4 hc)),(by rw[pL];lia),λo wo vs p c H3 hk hp hc s4=>?_,λH3 hk s4=>?_
    ·exact q o wo vs p c H3 (by rw[mS];exact hk) hp hc (S2.trans s4)
    ·exact e H3 (by rw[mS];exact hk) (S2.trans s4)
  ·rintro σ' G' ⟨rfl,s2,hn⟩;rw[av hn]at mS;have w2:=s2 _ _ w1;exists V.str (S w0),aj.of w2,bc (j:=0) rfl,zx,_,rfl,T.q_ASKED,V.str (S w0),aj.of w2,bc (j:=0) rfl,_,rfl,?_;exists W,_,rfl,aj.of w2,λV1 FX=>?_;have ec:gk (((w0::wr).map S).map V.str) (some 1) none=wr.map λw=>V.str (S w):=by rw[fu];exact Kr _ _
   rw[ec];have s3:af G' (upd G' V1 (.lst (wr.map λw=>V.str (S w)))):=af.upd FX;have S3:=s1.trans (s2.trans s3);have wL:Ig K (match m6 [(ofString "show",zR),(ofString "worth",Cj),(ofString "alike",A4),(ofString "rest",AF),(ofString "least",Cf),(ofString "ways",Aq),(ofString "unknowns",zP)] (S w0)with|some b=>V.ref b|none=>V.non) (eC qx w0):=by
    rcases NW x6 w0 with ⟨b,kl,hb,ia,wL⟩|⟨hb,ia⟩
    ·rw[hb,ia];exact wL
    ·rw[hb,ia];rfl
   exists _,V1,eC qx w0,wr,rfl,ar,wL,(λw hw=>⟨?_,λc hc=>?_⟩),tO,λvs H2 c hc CQ fG s4=>?_,λH2 hn s4=>?_
   ·have:=lI.2 w (dM _ hw);omega
   ·exact ha c (jc w (dM _ hw) c hc)
   ·exists c5,λp hp=>?_;have s5:af H2 (upd H2 p (.tup [.non,.str (S w0),.ref c])):=af.upd hp;exact q _ _ _ p c _ (by rw[mS,CQ];rfl) ar (s5 _ _ fG) (S3.trans (s4.trans s5))
   ·exact e H2 (by rw[mS,hn];rfl) (S3.trans s4)
def zao(C NN:Addr):Sp:=λvs H Q E=>∃(p d:Addr) (st:eK) (n:List Nat),vs=[.ref p,.str (S n)]/\kE C H p d st/\(∀a f,cz st n=some f->aG H a f->Q (.ref a) H)/\(cz st n=none->E (.ref NN) none H)
def IM(d:Addr):([(("forms" : Str),V.ref d)]:List (Str×V)).lookup ("forms" : Str)=some (.ref d):=by simp
def jz(d:Addr){m:Str}(h:¬m = "forms"):([(("forms" : Str),V.ref d)]:List (Str×V)).lookup m=none:=by simp_all
def sM(T:Txt w K mg):Ea.OkE P w K mg base 1 (zao gq eJ):=by
  refine Rw.okE T.d_Desk_kept.F T.d_Desk_kept.S ?_;rintro vs H Q E ⟨p,d,st,n,rfl,hD,q,e⟩;refine wl fun hr hu nd=>⟨_,(ak (a9 (tM (wX hu (pV 1) (FC (pV 0) rfl))) (ao (C7 iT rfl (by rfl) T.g_NoName T.x_NoName)) aN)
   (ao (PS.nox (aB (jq hu (FC (pV 0) rfl) (pV 1)))))),?_⟩
  obtain⟨⟨dx,ho⟩,kvs,hd,hk⟩:=id hD;have hg:=dj.k (k:=Sum.inr (S n)) hd;exists p,_,dx,_,_,rfl,ho,T.cl_Desk,T.nf_Desk_forms,IM d,d,_,rfl,hg,_,rfl,?_;rcases ly hk n with ⟨h1,h2⟩|⟨a,f,h1,h2,h3⟩
  ·refine a7 (by rw[h1];rfl) ?_;exact e h2
  ·refine aM (by rw[h1];simp) ?_;rw[h1]at hg;nomatch p,_,dx,_,_,rfl,ho,T.cl_Desk,T.nf_Desk_forms,IM d,_,hg,q a f h2 h3
def zc3:Sp:=λvs H Q _=>∃(d:Addr) (dd:aq),vs=[.ref d]/\H d=some (.dK (dd.map cV))/\(dd.map (·.1)).Nodup/\dd.length<64 /\
 ∀(b:Addr) (ks:List Int) (H':Hp),H b=none->aG H' b (dz dd ks)->ks.Perm (dd.map (·.1))->ks.Pairwise (· <= ·)->af H H'->Q (.ref b) H'
def zcF:(["members","numbers"]:List Str).Nodup:=by decide+kernel
def ME(T:Txt w K mg):zu.Ok P w K mg base 1 zc3:=by
  refine T.d_Z9.k ?_;rintro vs H Q E ⟨d,dd,rfl,hd,kH,aK,q⟩;refine wl fun hr hu nd=>⟨_,(ao (aB (du (g:=(aW 0)) ["members", "numbers"] 1 [0] rfl (cL zu) (cH (bq (Bd rfl) (by rfl) T.n_sorted xK (aa (pV 0) ag)))
    (λa b c d e=>(aI 0 zcF)) (λa b c d e=>(gH (aR ke (jq hu (pV 1) (pV 0)) ai))) (λa b c d e=>(bx (aa (pV 0) (aa (jq hu (pV 1) (pV 0)) ag))))))),?_⟩
  exists d,_,dd.map (·.1),rfl,hd,Hl dd,(by simp_all),λe ks he dW om=>?_;have vx:=c7 hd he;exists ⟨_,aj.of ar⟩,?_;have ia:ks.length<=100000:=by have:=dW.length_eq;rw[ax]at this;lia
  refine gW (K:=K) (a:=e) (xs:=ks.map V.int) (λi ys σ H2=>∃(v0:Option V) (qs:List Addr),σ=[v0,some (.ref d)]/\ys=qs.map V.ref/\cn H2 qs (dz dd (ks.take i))/\H2 d=some (.dK (dd.map cV))/\H2 e=some (.lst (ks.map V.int))/\af H H2)
   ⟨none,[],rfl,rfl,.nil,(by rw[aS vx];exact hd),ar,af.upd he⟩ (λi ys σ H2 hi ⟨_,qs,_,e1,e2,_,e4,_⟩=>⟨aj.of e4,by
    rw[e1,ax,e2.length]
    have:=vW dd (ks.take i)
    rw[fR]at this;lia⟩) (by rw[ax];exact bE (bD tL)) ?_ ?_
  ·rintro i y ys σ H2 hi ⟨v0,qs,rfl,rfl,g2,g3,g4,g5⟩;obtain⟨k,rk,rfl⟩:=so hi;have FH:=dW.mem_iff.mp (cM rk);obtain⟨v,hv⟩:∃v,look dd k=some v:=by
    cases e:look dd k with
    |none=>exact absurd e (ud.mpr FH)
    |some v=>nomatch v,rfl
   have rX:cB dd k=v:=by unfold cB;rw[hv];rfl
   have bB:ks.take (i+1)=ks.take i++[k]:=by rw[cZ,rk];rfl
   have sj:∀{H3:Hp},H3 d=some (.dK (dd.map cV))->dj H3 d (.int k) (some (.int v)):=fun {H3} z=>by
    have:=dj.k (k:=Sum.inl k) z
    rw[ni,hv]at this;exact this
   exists _,sj g3,_,rfl,?_;by_cases hv0:v=0
   ·subst hv0;refine Kh rfl ⟨_,qs,rfl,rfl,?_,g3,g4,g5⟩
    have:dz dd (ks.take (i+1))=dz dd (ks.take i):=by
     rw[bB];unfold dz;rw[dX,aQ];simp[rX]
    rw[this];exact g2
   ·have cx:¬(V.int v=V.int 0):=λz=>hv0 (by injection z)
    rw[bo cx];refine eh ?_;exists _,sj g3,bL,λt ht=>?_;have s3:af H2 (upd H2 t (.tup [.int k,.int v])):=af.upd ht;exists _,qs++[t],rfl,(by rw[aQ];rfl),?_,s3 _ _ g3,s3 _ _ g4,g5.trans s3
    have:dz dd (ks.take (i+1))=dz dd (ks.take i)++[(k,v)]:=by
     rw[bB];unfold dz;rw[dX,aQ];simp[rX,hv0]
    rw[this];exact cn.snoc (g2.keep λb xs z=>s3 b _ z) ar
  ·rintro ys σ H2 ⟨v0,qs,rfl,rfl,g2,g3,g4,g5⟩ D hD;rw[ax,dG]at g2;have s3:af H2 (upd H2 D (.lst (qs.map V.ref))):=af.upd hD;exact q D ks _ (g5.free hD) ⟨qs,ar,g2.keep λb xs z=>s3 b _ z⟩ dW om (g5.trans s3)
def Z4(K:Frag):Sp:=λvs H Q _=>∃(a b:Addr) (l m:aq),vs=[.ref a,.ref b]/\TL K H a l/\TL K H b m/\l.length*m.length<=100000/\eQ (bK l m)/\(∀t∈l,∀u∈m,IntMulOk t.2 u.2) /\
 ∀(c:Addr) (f:aq) (H':Hp),H c=none->aG H' c f->aZ f (bK l m)->f.length<=l.length*m.length->af H H'->Q (.ref c) H'
def zW(T:Txt w K mg):ED.Ok P w K mg base 2 (Z4 K):=by
  refine T.d_Z85.k ?_;rintro vs H Q E ⟨a,b,l,m,rfl,⟨ps,hS,hT⟩,⟨qs,Al,bF⟩,aK,h5,er,q⟩;refine wl fun hr hu nd=>⟨_,(ak (aE 2 nd rY) (ak (dR c8 rfl (cH (pV 0)) (iu (n:=2) rfl (cJ (aI 3 nd) (cJ (aI 4 nd) g9))) (ao (dR c8 rfl (cH (pV 1)) (iu (n:=2) rfl (cJ (aI 5 nd) (cJ (aI 6 nd) g9))) (ak (aE 7 nd (ay vo.j (pV 3) (pV 5))) (ao (rP hu (pV 2) (pV 7) (ay d0.j (sh hu (pV 2) (pV 7) ai ⟨rfl,rfl,rfl,rfl⟩) (ay fI.c (pV 4) (pV 6))) rfl)))))) (ao (aB (aD T.d_Z9 (ME T) hr (aa (pV 2) ag)))))),?_⟩
  intro d hd;have s0:∀o,af H (upd H d o):=λo=>af.upd hd
  exists ⟨_,(s0 _).seq hS⟩,?_;refine jo (K:=K) (a:=a) (xs:=ps.map V.ref) (λi σ H2=>∃(dd:aq) (v3 v4 v5 v6 v7:Option V),σ=[some (.ref a),some (.ref b),some (.ref d),v3,v4,v5,v6,v7]/\H2=upd H d (.dK (dd.map cV))/\DictOf dd (bK (l.take i) m))
   ⟨[],none,none,none,none,none,rfl,rfl,A8⟩ (λi σ H2 _ ⟨_,_,_,_,_,_,_,e,_⟩=>by rw[e];exact (s0 _).seq hS) ?_ ?_
  ·rintro i y σ H2 hi ⟨dd,v3,v4,v5,v6,v7,rfl,rfl,bU⟩;obtain⟨p,cO,rfl⟩:=fQ hi;obtain⟨t,aY,cj⟩:=hT.at' cO;have gD:=(dO.mp aY).1;have bB:l.take (i+1)=l.take i++[t]:=by rw[cZ,aY];rfl
   exists _,az.of (s0 _ _ _ cj),rfl,?_;exists ⟨_,(s0 _).seq Al⟩,?_;refine jo (K:=K) (a:=b) (xs:=qs.map V.ref) (λj σ H2=>∃(dd:aq) (v5 v6 v7:Option V),σ=[some (.ref a),some (.ref b),some (.ref d),some (.int t.1),some (.int t.2),v5,v6,v7]/\H2=upd H d (.dK (dd.map cV))/\DictOf dd (bK (l.take i) m++fq t (m.take j)))
    ⟨dd,v5,v6,v7,rfl,rfl,by rw[List.take_zero];exact (iD _).symm ▸ bU⟩ (λi σ H2 _ ⟨_,_,_,_,_,e,_⟩=>by rw[e];exact (s0 _).seq Al) ?_ ?_
   ·rintro j z σ H2 hj ⟨dd,v5,v6,v7,rfl,rfl,bU⟩;obtain⟨p',hpj,rfl⟩:=fQ hj;obtain⟨u,sW,qf⟩:=bF.at' hpj;have ki:=(dO.mp sW).1;have huk:m.take (j+1)=m.take j++[u]:=by rw[cZ,sW];rfl
    exists _,az.of (s0 _ _ _ qf),rfl,?_;have pG:=bU.snoc (Builtin.bitOr t.1 u.1,t.2*u.2);rw[gr,<-zcn,<-huk]at pG;have mh:=bU.len;have h9:=oX (l.take i) m;rw[bh,RJ,h9,fR,fR,mT (bE gD),mT (bE ki)]at mh;have xa:i*m.length+m.length<=l.length*m.length:=by rw[<-Ep];exact pK _ gD
    exists d,rfl,.inl ⟨_,.inl ar⟩,_,dj.k (k:=Sum.inl (Builtin.bitOr t.1 u.1)) ar,?_;rw[ni];have eg:((look dd (Builtin.bitOr t.1 u.1)).map V.int).getD (V.int 0)=V.int (cB dd (Builtin.bitOr t.1 u.1)):=by
     unfold cB;cases look dd (Builtin.bitOr t.1 u.1)<;>rfl
    rw[eg];exists er t (cM aY) u (cM sW),d,_,rfl,lH.k (k:=Sum.inl (Builtin.bitOr t.1 u.1)) ar ?_,fh dd (Builtin.bitOr t.1 u.1) (cB dd (Builtin.bitOr t.1 u.1)+t.2*u.2),_,_,_,rfl,?_,pG
    ·rw[ax];exact bD tL
    ·rw[vp,wu]
   ·rintro σ H2 ⟨dd,v5,v6,v7,rfl,rfl,bU⟩;have gE:m.take (qs.map V.ref).length=m:=by rw[ax,bF.length,dG]
    rw[gE,<-P7,<-bB]at bU;nomatch dd,_,_,_,_,_,rfl,rfl,bU
  ·rintro σ H2 ⟨dd,v3,v4,v5,v6,v7,rfl,rfl,bU⟩;have gE:l.take (ps.map V.ref).length=l:=by rw[ax,hT.length,dG]
   rw[gE]at bU;have mh:=bU.len;rw[oX]at mh;exists d,dd,rfl,ar,bU.nd,DD bU h5,λc ks H3 hc fU dW om s3=>?_;refine q c (dz dd ks) H3 ((s0 _).free hc) fU (BX bU dW om) ?_ ((s0 _).trans s3);have h1:=vW dd ks;have h2:=dW.length_eq;rw[ax]at h2;lia
def H9(T:Txt w K mg):GF.Ok P w K mg base 2 (R3 K):=by
  refine T.d_Z65.k ?_;rintro vs H Q E ⟨a,l,rfl,⟨ps,hS,hT⟩,aK,xM,q⟩;refine wl fun hr hu nd=>⟨_,(ak (aE 1 nd rY) (ak (dR c8 rfl (cH (pV 0)) (iu (n:=2) rfl (cJ (aI 2 nd) (cJ (aI 3 nd) g9))) (ao (rP hu (pV 1) (pV 2) (ay d0.j (sh hu (pV 1) (pV 2) ai ⟨rfl,rfl,rfl,rfl⟩) (pV 3)) rfl))) (ao (aB (aD T.d_Z9 (ME T) hr (aa (pV 1) ag)))))),?_⟩
  intro d hd;have s0:af H (upd H d (.dK [])):=af.upd hd;exists ⟨_,s0.seq hS⟩,?_;refine jo (K:=K) (a:=a) (xs:=ps.map V.ref) (λi σ H2=>∃(dd:aq) (v2 v3:Option V),σ=[some (.ref a),some (.ref d),v2,v3]/\H2=upd H d (.dK (dd.map cV))/\DictOf dd (l.take i))
   ⟨[],none,none,rfl,rfl,A8⟩ (λi σ H2 _ ⟨_,_,_,_,e,_⟩=>by rw[e];exact (af.upd hd).seq hS) ?_ ?_
  ·rintro i y σ H2 hi ⟨dd,v2,v3,rfl,rfl,bU⟩;obtain⟨p,cO,rfl⟩:=fQ hi;obtain⟨t,aY,cj⟩:=hT.at' cO;have bB:l.take (i+1)=l.take i++[t]:=by rw[cZ,aY];rfl
   have gD:=(dO.mp aY).1;have mh:dd.length<=i:=aX bU.len (by grind);have pG:=bU.snoc t;rw[<-bB]at pG;exists _,az.of ((af.upd hd) _ _ cj),rfl,?_;exists d,rfl,.inl ⟨_,.inl ar⟩,_,dj.k (k:=Sum.inl t.1) ar,?_;rw[ni];have eg:((look dd t.1).map V.int).getD (V.int 0)=V.int (cB dd t.1):=by
    unfold cB;cases look dd t.1<;>rfl
   rw[eg];exists d,_,rfl,lH.k (k:=Sum.inl t.1) ar ?_,fh dd t.1 (cB dd t.1+t.2),_,_,rfl,?_,pG
   ·rw[ax];exact bD tL
   ·rw[vp,wu]
  ·rintro σ H2 ⟨dd,v2,v3,rfl,rfl,bU⟩;have gE:l.take (ps.map V.ref).length=l:=by rw[ax,hT.length,dG]
   rw[gE]at bU;exists d,dd,rfl,ar,bU.nd,DD bU xM,λb ks H3 hb fU dW om s3=>?_;have EU:b≠d:=by intro z;subst z;rw[ar]at hb;cases hb
   have hHb:H b=none:=by have:=hb;rw[aS EU]at this;exact this
   refine q b (dz dd ks) H3 hHb fU (BX bU dW om) ?_ ((af.upd hd).trans s3);have h1:=vW dd ks;have h2:=dW.length_eq;rw[ax]at h2;have h3:=bU.len;lia
def zat:Sp:=λvs H Q _=>∃(a b:Addr) (l m:aq),vs=[.ref a,.ref b]/\aG H a l/\aG H b m/\l.length+m.length<=100000/\eQ (l++m) /\
 ∀(c:Addr) (f:aq) (H':Hp),H c=none->aG H' c f->aZ f (l++m)->f.length<=l.length+m.length->af H H'->Q (.ref c) H'
def tu(T:Txt w K mg):F6.Ok P w K mg base 3 zat:=by
  refine T.d_Z71.k ?_;rintro vs H Q E ⟨a,b,l,m,rfl,ir,gU,aK,h5,q⟩;refine wl λhr hu nd=>⟨_,(ao (aB (aD T.d_Z65 (H9 T) hr (aa (ay sr (pV 0) (pV 1)) ag)))),?_⟩
  obtain⟨ps,ha,hp⟩:=id ir;obtain⟨qs,hb,hq⟩:=id gU;have n1:=hp.length;have n2:=hq.length;exists a,b,_,_,rfl,rfl,ha,hb,(by rw[ax,ax];exact bE (bD tL)),λc hc=>?_;have s1:af H (upd H c (.lst (ps.map V.ref++qs.map V.ref))):=af.upd hc;exists c,l++m,rfl,(aG.cat (a:=a) (b:=b) hp hq s1 ar).tl,(by simp_all),h5,λd f H' hd hT hF hl s2=>?_;rw[bh]at hl;exact q d f H' (s1.free hd) hT hF hl (s1.trans s2)
def zdv(K:Frag):Sp:=λvs H Q _=>∃(a:Addr) (l:aq) (n:Int),vs=[.ref a,.int n]/\TL K H a l/\l.length<=100000/\eQ l/\(∀t∈l,IntMulOk t.2 n) /\
 ∀(b:Addr) (f:aq) (H':Hp),H b=none->aG H' b f->aZ f (l.map λt=>(t.1,t.2*n))->f.length<=l.length->af H H'->Q (.ref b) H'
def J4:(["members","own","number"]:List Str).Nodup:=by decide+kernel
def Oe(T:Txt w K mg):B2.Ok P w K mg base 3 (zdv K):=by
  refine T.d_Z78.k ?_;rintro vs H Q E ⟨a,l,n,rfl,hT,aK,h5,er,q⟩;refine wl fun hr hu nd=>⟨_,(ao (aB (aD T.d_Z65 (H9 T) hr (aa (du (g:=(eI K 2 (bT (aW 0) (bT (aW 1) e7)))) ["members", "own", "number"] 2 [1] rfl (cL B2) (cH (pV 0)) (λa b c d e=>(ft (n:=2) rfl (b9 (aI 0 J4) (b9 (aI 1 J4) fB)))) (λa b c d e=>gA) (λa b d e f=>(bx (aa (pV 0) (aa (ay fI.c (pV 1) (pV 2)) ag))))) ag)))),?_⟩
  exists hT.seq,?_;refine Dy (λt=>(t.1,t.2*n)) hT tL [some (.int n)] rfl (λt ht H2 R s2 k=>?_) λD ys H2 hD ck s1=>?_
  ·nomatch er t ht,bL,k
  ·exists D,_,rfl,ck.tl,(by simp_all),zbv h5 _,λb f H' hb kj hF hl s'=>?_;rw[ax]at hl;exact q b f H' (s1.free hb) kj hF hl (s1.trans s')
def U1:Sp:=λvs H Q _=>∃(a b:Addr) (l m:aq),vs=[.ref a,.ref b]/\aG H a l/\aG H b m/\l.length+m.length<=100000/\eQ (l++m) /\
 ∀(c:Addr) (f:aq) (H':Hp),H c=none->aG H' c f->IsForm f->(∀k,aL f k=aL l k-aL m k)->f.length<=l.length+m.length->af H H'->Q (.ref c) H'
def BL(T:Txt w K mg):Hg.Ok P w K mg base 4 U1:=by
  refine T.d_Z62.k ?_;rintro vs H Q E ⟨a,b,l,m,rfl,ir,gU,aK,h5,q⟩;refine wl λhr hu nd=>⟨_,(ao (aB (aD T.d_Z71 (tu T) hr (aa (pV 0) (aa (aD T.d_Z78 (Oe T) hr (aa (pV 1) (aa (nN oQ ai) ag))) ag))))),?_⟩
  exists _,rfl,b,m,-1,rfl,gU.tl,tL,zdo h5,λt _=>kZ tD tD,λd g H1 hd ck cU dI s1=>?_;exists a,d,l,g,rfl,ir.keep s1,ck,tL,Mb h5 (λt ht=>?_),λc f H2 hc bF d6 fS s2=>?_
  ·rw[aQ,bA];rcases bA.mp ht with z|z
   ·exact .inl (bp.mpr ⟨t,z,rfl⟩)
   ·have:=cU.src t z
    rw[fk]at this;exact .inr this
  refine q c f H2 (s1.free hc) bF d6.toIsForm (λk=>?_) tL (s1.trans s2);rw[d6.val,cG,cU.val];have e:(m.map λt=>(t.1,t.2 * -1))=m.map λt=>(t.1,-t.2):=qi λt _=>by simp
  rw[e,nL];lia
def zaO(K:Frag):Sp:=λvs H Q _=>∃(w:Nat) (a b:Addr) (l m:aq),vs=[.str (gK w),.ref a,.ref b]/\w<3/\aG H a l/\aG H b m/\(l.length<=64/\m.length<=64)/\(∃ls,ls.length<=5/\K5 ls l/\K5 ls m)/\(w=2->∀t∈l,∀u∈m,IntMulOk t.2 u.2) /\
 ∀(c:Addr) (f:aq) (H':Hp),H c=none->aG H' c f->aZ f (HU w l m)->af H H'->Q (.ref c) H'
def VG(T:Txt w K mg):HY.Ok P w K mg base 5 (zaO K):=by
  refine T.d_Z3.k ?_;rintro vs H Q E ⟨wo,a,b,l,m,rfl,hw,ir,gU,aK,h5,er,q⟩;refine wl fun hr hu nd=>⟨_,(ak (bW (bX aV (pV 0) aA) (ao (aB (aD T.d_Z71 (tu T) hr.m (aa (pV 1) (aa (pV 2) ag))))) aN) (ak (bW (bX aV (pV 0) aA) (ao (aB (aD T.d_Z62 (BL T) hr (aa (pV 1) (aa (pV 2) ag))))) aN) (ao (aB (aD T.d_Z85 (zW T) hr.m (aa (pV 1) (aa (pV 2) ag))))))),?_⟩
  obtain⟨ls,z5,zl,zm⟩:=h5;have kD:=fM aK.1 aK.2;obtain rfl|rfl|rfl:wo=0\/wo=1\/wo=2:=by lia
  ·refine vy ?_;nomatch a,b,l,m,rfl,ir,gU,tL,⟨ls,z5,zl.app zm⟩,λc f H1 hc hT hF hl s1=>q c f H1 hc hT hF s1
  ·refine vn ?_;refine vy ?_;exists a,b,l,m,rfl,ir,gU,tO,⟨ls,z5,zl.app zm⟩,λc f H1 hc hT hI hv hl s1=>?_;refine q c f H1 hc hT (lG hI λk=>?_) s1;show _=aL (l++m.map λt=>(t.1,-t.2)) k;rw[hv,cG,nL];lia
  ·refine vn ?_;refine vn ?_;nomatch a,b,l,m,rfl,ir.tl,gU.tl,tL,⟨ls,z5,zl.prod zm⟩,er rfl,λc f H1 hc hT hF hl s1=>q c f H1 hc hT hF s1
def zdC:Sp:=λvs H Q E=>∃fs ls:List Nat,vs=[.str (S fs),.str (S ls)]/\(∀c∈fs,48<=c/\c<=57)/\fs.length<=1000/\(∀n:Nat,kN fs ls=some n->Q (.int (n:Int)) H)/\(kN fs ls=none->False)
def XO(T:Txt w K mg):GO.Ok P w K mg base 1 zdC:=by
  refine T.d_Z74.k ?_;rintro vs H Q E ⟨fs,ls,rfl,hd,aK,q,e⟩;refine wl fun hr hu nd=>⟨_,(ak (a9 (PW.pt (iQ (aR ou (pv 0) aA) (i8 (aR zZ (pv 1) aA)))) (ao (aB ai)) aN) (ak (a9 (PW.pt (jy (aR ou (pv 0) aA) (jy (aR ou (oB qe (pv 0) ai) aA) (j2 (PW.pt (iQ (aR ou (pv 0) aA) (i8 (aR zZ (pv 1) aA)))))))) (ao gX) aN) (ak (aE 2 nd ai) (ak (dR c8 rfl (yU (pv 0)) (aI 3 nd) (ao (aE 2 nd (ay d0 (ay fI (pv 2) ai) (eA Im rfl T.n_int ra (aa (pv 3) ag)))))) (ao (aB (pv 2))))))),?_⟩
  have run:∀n:Nat,digitsVal fs=n->Q (.int (n:Int)) H->C6 (uQ (tC (V.int 0)) (aW 2)) (C6 (J0 (K7 (me 0)) (aW 3) (uQ (jS (kL λi j=>V.int (i+j)) (jS (rI IntMulOk λi j=>V.int (i*j)) (me 2) (tC (V.int 10))) (yt (λxs H Q=>∃x n,xs=[V.str x]/\intText? x=some n/\x.length<=640/\Q (V.int n) H) (pT (me 3) sy))) (aW 2))) (Ax (me 2))) {nx:=λx H'=>Q V.non H',rt:=Q} [some (V.str (S (fs))),some (V.str (S (ls))),none,none] H:=by
   intro n hn hq;exists _,rfl,_,rfl,Bc (λc hc=>by have:=hd c hc;lia),?_;refine Mh (l:=fs) (λi σ G=>∃v3:Option V,σ=[some (.str (S fs)),some (.str (S ls)),some (.int ((digitsVal (fs.take i):Nat):Int)),v3]/\G=H)
    ⟨none,rfl,rfl⟩ ?_ ?_
   ·rintro i c σ G hc ⟨v3,rfl,rfl⟩;have kh:=hd c (cM hc);obtain⟨d,rfl⟩:∃d,c=48+d:=⟨c-48,tL⟩;have bB:fs.take (i+1)=fs.take i++[48+d]:=by rw[cZ,hc];rfl
    exists _,rfl,_,_,rfl,rfl,kZ tD tD,_,rfl,_,_,rfl,DN d tL,(by show 1<=640;decide),_,_,rfl,rfl,?_;exists some (.str (S [48+d])),?_,rfl;rw[bB,NumText.digitsVal_snoc];have e:((digitsVal (fs.take i)*10+(48+d-48):Nat):Int)=((digitsVal (fs.take i):Nat):Int)*10+(d:Int):=by lia
    rw[e];rfl
   ·rintro σ G ⟨v3,rfl,rfl⟩;exists _,rfl,?_;rw[dG,hn];exact hq
  exists _,rfl,rfl,_,rfl,?_;by_cases h1:fs=[]
  ·refine a7 (aU ((pO _).mpr h1)) ?_;exists _,rfl,rfl,_,rfl,?_;by_cases h2:ls=[]
   ·refine aM (by rw[aU ((pO _).mpr h2)];decide) ?_;exists _,rfl,rfl,_,rfl,a7 (aU ((pO _).mpr h1)) ?_;exact e (by unfold kN;rw[av (λz=>z.2 h2),aC (.inl h1)])
   ·refine a7 (by rw[bo (λy=>h2 ((pO _).mp y))];rfl) ?_;exact q 1 (by unfold kN;rw[aC ⟨h1,h2⟩])
  ·refine aM (λy=>h1 ((pO _).mp (bP y))) ?_;exists _,rfl,rfl,_,rfl,aM (λy=>h1 ((pO _).mp (bP y))) ?_;obtain⟨c,r,QR⟩:∃c r,fs=c::r:=by
    cases fs with
    |nil=>exact absurd rfl h1
    |cons c r=>nomatch c,r,rfl
   have hz:(S fs).length<=sizeLine:=by rw[aH];exact aX aK tD
   have kr:dN (S fs).cps.toList 0=some c:=by rw[gf,QR];exact bc (j:=0) rfl
   exists _,rfl,_,_,_,rfl,rfl,hz,kr,rfl,_,rfl,?_;by_cases h3:c=48
   ·refine a7 (aU (by rw[h3,jM];rfl)) ?_;exact e (by unfold kN;rw[av (λz=>h1 z.1),aC (.inr (.inl (by rw[QR,h3];rfl)))])
   ·refine aM (λy=>h3 (by
     have:=bP y
     injection this with this
     rw[jM]at this
     have:=dU (a:=[c]) this
     simpa using this)) ?_
    have nW:¬fs.head?=some 48:=by simp_all
    exists _,rfl,rfl,_,rfl,?_;by_cases h4:fs=[49]
    ·refine a7 (aU (by rw[h4,xu])) ?_;exists _,rfl,rfl,_,rfl,?_;by_cases h2:ls=[]
     ·refine aM (by rw[aU ((pO _).mpr h2)];decide) ?_;exact run _ rfl (q _ (by unfold kN;rw[av (λz=>h1 z.1),av (λz=>by lia)]))
     ·refine a7 (by rw[bo (λy=>h2 ((pO _).mp y))];rfl) ?_;exact e (by unfold kN;rw[av (λz=>h1 z.1),aC (.inr (.inr ⟨h4,h2⟩))])
    ·refine aM (λw=>h4 (by
      have:=bP w
      injection this with this
      rw[xu]at this;exact dU this)) ?_
     exact run _ rfl (q _ (by unfold kN;rw[av (λz=>h1 z.1),av (λz=>by
      rcases z with z|z|z
      ·exact h1 z
      ·exact nW z
      ·exact h4 z.1)]))
def Zw:Sp:=λvs H Q _=>∃m:Nat,vs=[.int (m:Int)]/\m<=100/\Q (.int (2^m)) H
def oZ(T:Txt w K mg):FV.Ok P w K mg base 1 Zw:=by
  refine T.d_Z4.k ?_;rintro vs H Q E ⟨m,rfl,hm,q⟩;refine wl fun hr hu nd=>⟨_,(ak (aE 1 nd ai) (ak (dR c8 rfl (jD rfl T.n_range (aa (pV 0) ag)) (aI 2 nd) (ao (aE 1 nd (ay fI.c (pV 1) ai)))) (ao (aB (pV 1))))),?_⟩
  exists (m:Int),rfl,tL,tL,qp (n:=m) (λi σ H2=>∃v2:Option V,σ=[some (.int (m:Int)),some (.int (2^i)),v2]/\H2=H) ⟨none,rfl,rfl⟩ ?_ ?_
  ·rintro i σ H2 hi ⟨v2,rfl,rfl⟩;exists kZ tD tD,some (.int (0+(i:Int))),?_,rfl;rw[Q4];rfl
  ·rintro σ H2 ⟨v2,rfl,rfl⟩;exact q
def Yh:Sp:=λvs H Q E=>∃l:List Nat,vs=[.str (S l)]/\(∀c∈l,c<128)/\(∀m:Nat,lr l (-1) 0=some m->Q (.int (m:Int)) H)/\(lr l (-1) 0=none->False)
def Wi(T:Txt w K mg):E7.Ok P w K mg base 2 Yh:=by
  refine T.d_Z75.k ?_;rintro vs H Q E ⟨l,rfl,ha,q,e⟩;refine wl fun hr hu nd=>⟨_,(ak (aE 1 nd ai) (ak (aE 2 nd (nN oQ ai)) (ak (dR c8 rfl (yU (pV 0)) (aI 3 nd) (ak (aE 4 nd (bO fc Hc EN II (fg (v:=.str "abcdefghijklmnop") (by rfl) T.g_LETTERS ⟨_,rfl⟩) (aa (pV 3) ag)))
   (ak (bW (bX rA.j (pV 4) (pV 2)) (ao gX) aN) (ak (aE 1 nd (ay d0.j (pV 1) (aD T.d_Z4 (oZ T) hr (aa (pV 4) ag)))) (ao (aE 2 nd (pV 4)))))))
   (ao (aB (pV 1)))))),?_⟩
  exists _,rfl,_,rfl,Bc ha,?_;refine Mh (l:=l) (λi σ G=>∃(v3 v4:Option V) (la:Int) (m:Nat),σ=[some (.str (S l)),some (.int (m:Int)),some (.int la),v3,v4] /\ -1<=la/\lr l (-1) 0=lr (l.drop i) la m/\G=H)
   ⟨none,none,-1,0,rfl,tL,by simp,rfl⟩ ?_ ?_
  ·rintro i c σ G hc ⟨v3,v4,la,m,rfl,gz,hr,rfl⟩;have gD:=(dO.mp hc).1;have ed:l.drop i=c::l.drop (i+1):=by
    rw[qS gD];congr 1;exact (dO.mp hc).2
   have YX:=ha c (cM hc);rw[ed]at hr;exists rfl,_,_,rfl,rfl,?_;rw[kJ,Z3 c YX];refine v2 (λz=>?_) (λz=>?_)
   ·have z':=bP z;exact e (by rw[hr];unfold lr;rw[aC z'])
   ·have z':¬nR c<=la:=λy=>z (aU y)
    obtain⟨k,hk⟩:∃k:Nat,nR c=(k:Int):=⟨(nR c).toNat,tL⟩;have gN:k<16:=by
     unfold nR at hk;split at hk<;>lia
    rw[hk];exists k,rfl,tL,?_;exists some (.str (S [c])),some (.int (k:Int)),(k:Int),m+2^k,?_,tL,?_,rfl
    ·rw[show ((m+2^k:Nat):Int)=(m:Int)+2^k by simp];rfl
    ·rw[hr]
     conv=>lhs;unfold lr
     rw[av z',hk,oM]
  ·rintro σ G ⟨v3,v4,la,m,rfl,gz,hr,rfl⟩;rw[Ao]at hr;exact q m hr
def Yn:Sp:=λvs H Q E=>∃sg wo:List Nat,vs=[.str (S sg),.str (S wo)]/\(∀c∈wo,c<128)/\wo.length<=1000/\(∀t,nV sg wo=some t->∀c,H c=none->Q (.ref c) (upd H c (.tup [.int t.1,.int t.2])))/\(nV sg wo=none->False)
def zeE(T:Txt w K mg):Ir.Ok P w K mg base 3 Yn:=by
  refine T.d_Z76.k ?_;rintro vs H Q E ⟨BV,wo,rfl,ha,hl,q,e⟩;refine wl fun hr hu nd=>⟨_,(ak (a9 (PW.pt (iQ (aR ke (pV 0) aA) (i8 (aR ke (pV 0) aA)))) (ao gX) aN) (ak (aE 2 nd (bO fc PySem.F.slot_str_lstrip PySem.F.type_str_lstrip zbg (pV 1) (aa (fg (v:=.str "0123456789") (by rfl) T.g_FIGURES ⟨_,rfl⟩) ag)))
   (ak (aE 3 nd (aD T.d_Z74 (XO T) hr.m (aa (j4 zh (pV 1) lX (fJ (ay iW.j (bq m7 (by rfl) T.n_len dC (aa (pV 1) ag)) (bq m7 (by rfl) T.n_len dC (aa (pV 2) ag))))) (aa (pV 2) ag))))
   (ao (aB (bx (aa (aD T.d_Z75 (Wi T) hr (aa (pV 2) ag)) (aa (sZ (aR aV (pV 0) aA) (nN oQ (pV 3)) (pV 3)) ag)))))))),?_⟩
  have sg:∀(a:List Nat) (b:Nat),(V.str (S a)=V.str (S [b]))↔a=[b]:=λa b=>⟨λz=>by
   injection z with z
   exact dU z,λz=>by rw[z]⟩
  have t6:=zbJ wo;have hll':(kM wo).length+(fW wo).length=wo.length:=by grind
  have fu:(S wo).length<=sizeLine:=by rw[aH];exact aX hl tD
  have kD:(S (fW wo)).length<=sizeLine:=by rw[aH];exact aX (show (fW wo).length<=1000 by lia) tD
  have el:Txt.lstripChars (S wo) (ofString "0123456789")=S (fW wo):=by
   rw[Pt]
   conv=>lhs;rw[t6]
   exact za5 (FY wo) zeL
  have es:Txt.slice (S wo) none (some (((S wo).length:Int)-((S (fW wo)).length:Int)))=S (kM wo):=by
   have e1:((S wo).length:Int)-((S (fW wo)).length:Int)=((kM wo).length:Int):=by
    rw[aH,aH];lia
   rw[e1]
   have:=X4 (a:=kM wo) (b:=fW wo)
   rwa [<-t6]at this
  have uj:∀c∈fW wo,c<128:=λc hc=>ha c (by rw[t6];exact f9 _ hc)
  by_cases hs:BV=[43]\/BV=[45]
  ·have hT:nV BV wo=match kN (kM wo) (fW wo),lr (fW wo) (-1) 0 with
    |some n,some m=>some ((m:Int),if BV=[45]then -(n:Int)else (n:Int))
    |_,_=>none:=aC hs
   rcases hs with rfl|rfl
   ·exists _,rfl,aM (by rw[wc,aU rfl];decide) ?_;exists rfl,_,_,rfl,rfl,fu,?_;rw[el];exists _,rfl,fu,_,rfl,kD,_,rfl,fu,kM wo,fW wo,(by rw[es];rfl),FY wo,tL,λn hn=>?_,λhn=>e (by rw[hT,hn]);exists fW wo,rfl,uj,λm hm=>?_,λhm=>e (by rw[hT,hn,hm]);exists _,rfl,?_;refine aM (by rw[kn];exact λy=>absurd ((sg _ _).mp (bP y)) tD) ?_;nomatch bL,λc hc=>q _ (by rw[hT,hn,hm]) c hc
   ·exists _,rfl,a7 (by rw[wc,bo (λy=>absurd ((sg _ _).mp y) tD)];rfl) ?_;exists _,rfl,aM (by rw[kn,aU rfl];decide) ?_;exists rfl,_,_,rfl,rfl,fu,?_;rw[el];exists _,rfl,fu,_,rfl,kD,_,rfl,fu,kM wo,fW wo,(by rw[es];rfl),FY wo,tO,λn hn=>?_,λhn=>e (by rw[hT,hn]);exists fW wo,rfl,uj,λm hm=>?_,λhm=>e (by rw[hT,hn,hm]);exists _,rfl,?_;refine a7 (by rw[kn];exact aU rfl) ?_;nomatch _,rfl,bL,λc hc=>q _ (by rw[hT,hn,hm]) c hc
  ·exists _,rfl,a7 (by rw[wc,bo (λy=>hs (.inl ((sg _ _).mp y)))];rfl) ?_;exists _,rfl,a7 (by rw[kn,bo (λy=>hs (.inr ((sg _ _).mp y)))];rfl) ?_;exact e (by unfold nV;rw[av hs])
def zdS(K:Frag):Sp:=λvs H Q _=>∃(a:Addr) (f:aq),vs=[.ref a]/\aG H a f/\Q (.bl (jj f (-1))) H
def zdt(T:Txt w K mg):IV.Ok P w K mg base 1 (zdS K):=by
  refine T.d_Z20.k ?_;rintro vs H Q E ⟨a,f,rfl,hT,q⟩;refine wl fun hr hu nd=>⟨_,(ak (aE 1 nd (nN oQ ai)) (ak (dR c8 rfl (cH (pV 0)) (iu (n:=2) rfl (cJ (aI 2 nd) (cJ (aI 3 nd) g9))) (ak (a9 (PW.pt (jy (aR rA.j (pV 2) (pV 1)) (j2 (aR aV (pV 3) ai)))) (ao (aB p7)) aN) (ao (aE 1 nd (pV 2))))) (ao (aB p7)))),?_⟩
  obtain⟨ps,hS,hP⟩:=id hT;have cX:=hP.length;exists _,rfl,⟨_,aj.of hS⟩,?_;refine jo (K:=K) (a:=a) (xs:=ps.map V.ref) (λi σ G=>∃(v2 v3:Option V) (la:Int),σ=[some (.ref a),some (.int la),v2,v3]/\jj f (-1)=jj (f.drop i) la/\G=H)
   ⟨none,none,-1,rfl,by simp,rfl⟩ (λi σ G _ ⟨_,_,_,_,_,e⟩=>by rw[e];exact aj.of hS) ?_ ?_
  ·rintro i y σ G hi ⟨v2,v3,la,rfl,gz,rfl⟩;obtain⟨p,cO,rfl⟩:=fQ hi;obtain⟨t,aY,cj⟩:=hP.at' cO;have ed:f.drop i=t::f.drop (i+1):=by
    rw[qS (dO.mp aY).1];congr 1;exact (dO.mp aY).2
   rw[ed]at gz;exists _,az.of cj,rfl,?_;exists _,rfl,dD (λz=>?_) (λz=>?_)
   ·have z':=bP z;have e1:jj f (-1)=false:=by rw[gz];unfold jj;rw[aC (.inl z')]
    rw[e1]at q;exact eh q
   ·have z':¬t.1<=la:=λy=>z (aU y)
    exists _,rfl,dD (λz2=>?_) (λz2=>?_)
    ·have y:t.2=0:=by have h:=bP z2;injection h
     have e1:jj f (-1)=false:=by rw[gz];unfold jj;rw[aC (.inr y)]
     rw[e1]at q;exact q
    ·have y:¬t.2=0:=λy=>z2 (aU (by rw[y]))
     exists _,_,t.1,rfl,?_,rfl;rw[gz]
     conv=>lhs;unfold jj
     rw[av (λw=>w.elim z' y)]
  ·rintro σ G ⟨v2,v3,la,rfl,gz,rfl⟩;rw[ax,cX,Ao]at gz;rw[gz]at q;exact q
def zez:Sp:=λvs H Q E=>∃l:List Nat,vs=[.str (S l)]/\(∀c∈l,c<128)/\l.length<=900/\(∀f,nj l=some f->∀(c:Addr) (H':Hp),H c=none->aG H' c f->af H H'->Q (.ref c) H')/\(nj l=none->∀H',af H H'->False)
def Kj:(["sign","word"]:List Str).Nodup:=by decide+kernel
def zcr(T:Txt w K mg):B7.Ok P w K mg base 4 zez:=by
  refine T.d_Z14.k ?_;rintro vs H Q E ⟨l,rfl,ha,hl,q,e⟩;refine wl fun hr hu nd=>⟨_,(ak (a9 (aR aV (pV 0) aA) (ao (aB (bG ag))) aN) (ak (aE 1 nd (bO fc FU HR G8 (pV 0) (aa aA ag))) (ak (kx (a9 (j3 (bO fc CN HX Tc (pV 0) (aa aA ag))) (ak (qd (j4 zh (xL (pV 1) ai) (fJ ai) lX) (QE (pV 1) ai Q9)) (ao (d5 (bO cy KP QH Tg (pV 1) (aa ai (aa aA ag)))))) (ao (d5 (bO cy KP QH Tg (pV 1) (aa ai (aa aA ag))))))) (ak (a9 (aR ke (ay bS.c (bq fO (by rfl) T.n_len dC (aa (pV 1) ag)) ai) ai) (ao gX) aN)
   (ak (uA (i:=2) (g:=(eI K 2 (bT (aW 0) (bT (aW 1) e7)))) ["sign", "word"] 2 [] nd rfl (Or.inl rfl) rfl (cL B7) (Rc rfl T.n_zip (aa (zd (pV 1) (fJ ai) (fJ ai)) (aa (zd (pV 1) (fJ ai) (fJ ai)) ag))) (λa b c d e=>(ft (n:=2) rfl (b9 (aI 0 Kj) (b9 (aI 1 Kj) fB)))) (λa b c d e=>gA) (λa b c d e=>(aD T.d_Z76 (zeE T) hr (aa (pV 0) (aa (pV 1) ag))))) (ak (a9 (nK (j3 (aD T.d_Z20 (zdt T) hr.m (aa (pV 2) ag)))) (ao gX) aN) (ao (aB (pV 2))))))))),?_⟩
  exists _,rfl,?_;by_cases h0:l=[48]
  ·refine a7 (aU (by rw[h0,jM])) ?_;nomatch bM _,λc hc=>q [] (by unfold nj;rw[aC h0]) c _ hc ⟨[],ar,.nil⟩ (af.upd hc)
  refine aM (λw=>h0 (by
   have:=bP w
   injection this with this
   rw[jM]at this;exact dU this)) ?_
  have iF:Txt.split (S l) (S [32])=(br l).map S:=by
   have:=CZ (c:=32) (lN l) (xq l)
   rwa [vC l]at this
  exists rfl,_,_,rfl,rfl,(by rw[mD];rfl),(by rw[aH];exact jm hl tD),λW hW=>?_;rw[mD,iF];generalize eU:upd H W _=H1;obtain⟨s1,w1⟩:=nw eU hW;have lI:=vd l;have jc:=wQ l;exists λσ' G'=>σ'=[some (.str (S l)),some (.ref W),none]/\G' W=some (.lst (((gQ l).map S).map V.str))/\af H G',?_,?_
  ·obtain⟨w0,wr,ew⟩:∃w0 wr,br l=w0::wr:=by
    cases e:br l with
    |nil=>exact absurd e (lN l)
    |cons a b=>nomatch a,b,rfl
   rw[ew]at w1;exists rfl,_,_,rfl,rfl,_,rfl,?_;have hwrl:((wr.map S).map V.str).length<=1001:=by rw[ax,ax];rw[ew,bH]at lI;lia
   by_cases rF:l.head?=some 45
   ·refine a7 (by rw[kn,P1];exact aU rF) ?_;obtain⟨w',rfl⟩:=zbS rF tD ew;have fu:(S (45::w')).length<=sizeLine:=by
     rw[aH]
     have:=lI.2 (45::w') (by rw[ew];simp)
     exact aX this (aX hl tD)
    have Uq:Txt.slice (S (45::w')) (some 1) none=S w':=Le (a:=[45]) (b:=w');exists _,aj.of w1,bc (j:=0) rfl,_,rfl,fu,W,_,_,0,rfl,rfl,w1,(by show j9 (_+1) 0=some 0;unfold j9;simp),?_;exists .inl ⟨rfl,_,aj.of ar⟩,W,_,0,_,rfl,rfl,ar,bM _,?_,?_
    ·rw[GS];show ((wr.map S).map V.str).length+1<_;exact bD tL
    exists rfl,?_,(s1.write hW).write hW;rw[ar,Uq,kn];unfold gQ;rw[aC rF,ew];rfl
   ·refine aM (by rw[kn,P1,bo rF];decide) ?_;exists .inl ⟨rfl,_,aj.of w1⟩,W,_,0,_,rfl,rfl,w1,bM _,?_,?_
    ·show ((wr.map S).map V.str).length+1<_;exact bD tL
    exists rfl,?_,s1.write hW;rw[ar,wc];unfold gQ;rw[av rF,ew];rfl
  ·rintro σ' G' ⟨rfl,w2,s2⟩;have oy:=V8 l;have jF:∀x,nZ (gQ l)=x->nj l=match x with
     |some f=>if jj f (-1)=true then some f else none
     |none=>none:=λx hx=>by unfold nj;rw[av h0,hx]<;>(cases x<;>rfl)
   exists W,_,rfl,.inl (aj.of w2),(by simp),_,rfl,?_;by_cases hev:(gQ l).length%2=0
   rotate_left
   ·refine a7 (by
     show (!decide (V.int (((((gQ l).map S).map V.str).length:Int)%2)=V.int 0))=true;rw[ax,ax,bo (λz=>by lia)];rfl) ?_
    exact e (jF none (Mn hev)) G' s2
   refine aM (by
    show ¬(!decide (V.int (((((gQ l).map S).map V.str).length:Int)%2)=V.int 0))=true;rw[ax,ax,aU (by congr 1;lia)];decide) ?_
   obtain⟨pp,jg⟩:=LZ hev;have cX:2*pp.length=(gQ l).length:=by rw[jg,Z5]
   have ev:((gQ l).map S).map V.str=pp.flatMap λt:List Nat×List Nat=>[V.str (S t.1),V.str (S t.2)]:=by
    rw[jg,fk,S9];rfl
   have Hy:nZ (gQ l)=jO pp:=by rw[jg];exact Ff pp
   have mE:∀t∈pp,t.2∈gQ l:=λt ht=>by rw[jg];exact Bs.mpr ⟨t,ht,tS⟩
   rw[ev]at w2;have ie:(pp.flatMap λt:List Nat×List Nat=>[V.str (S t.1),V.str (S t.2)]).length=2*pp.length:=sH _ _ _;exists rfl,0,W,_,rfl,rfl,aj.of w2,bM _,λA hA=>?_;rw[WQ (λt:List Nat×List Nat=>V.str (S t.1)) (λt=>V.str (S t.2))];have b1:af G' (upd G' A (.lst (pp.map λt=>V.str (S t.1)))):=af.upd hA;have dZ:1<=pp.length:=by lia
   exists rfl,1,W,_,rfl,rfl,aj.of (b1 _ _ w2),by rw[ie];lia,λB hB=>?_;rw[zdk (λt:List Nat×List Nat=>V.str (S t.1)) (λt=>V.str (S t.2))];have b2:af (upd G' A (.lst (pp.map λt=>V.str (S t.1)))) (upd (upd G' A (.lst (pp.map λt=>V.str (S t.1)))) B (.lst (pp.map λt=>V.str (S t.2)))):=af.upd hB;have s3:=s2.trans (b1.trans b2);have wA:=b2 _ _ (ar:upd G' A (.lst (pp.map λt=>V.str (S t.1))) A=_);have wB:(upd (upd G' A (.lst (pp.map λt=>V.str (S t.1)))) B (.lst (pp.map λt=>V.str (S t.2)))) B=some (.lst (pp.map λt=>V.str (S t.2))):=ar;generalize upd (upd G' A (.lst (pp.map λt=>V.str (S t.1)))) B (.lst (pp.map λt=>V.str (S t.2)))=H2 at s3 wA wB;exists A,B,rfl,⟨_,aj.of wA⟩,⟨_,aj.of wB⟩,?_;refine Nt (K:=K) (a:=A) (b:=B) (xs:=pp.map λt=>V.str (S t.1)) (ys:=pp.map λt=>V.str (S t.2)) (by simp)
    (λi zs σ G=>∃(v0 v1:Option V) (qs:List Addr) (fs:aq),σ=[v0,v1]/\zs=qs.map V.ref/\cn G qs fs/\fs.length=i/\(∀rest,jO (pp.drop i)=some rest->jO pp=some (fs++rest))/\(jO (pp.drop i)=none->jO pp=none)/\G A=some (.lst (pp.map λt=>V.str (S t.1)))/\G B=some (.lst (pp.map λt=>V.str (S t.2)))/\af H G)
    ⟨none,none,[],[],rfl,rfl,.nil,rfl,(λrest h=>by assumption),(λh=>by assumption),wA,wB,s3⟩ (by rintro i zs σ G hi ⟨_,_,qs,fs,_,e1,e2,e5,_,_,e3,e4,_⟩;exact⟨aj.of e3,aj.of e4,by rw[e1,ax,e2.length,e5];exact aT _⟩) (by rw[ax];exact bE (bD (by lia))) ?_ ?_
   ·rintro i x y zs σ G T' hx hy ⟨v0,v1,qs,fs,rfl,rfl,g1,g5,g6,g7,g2,g3,g4⟩ kj;rw[cQ]at hx hy;obtain⟨t,ht,rfl⟩:∃t,pp[i]?=some t/\V.str (S t.1)=x:=by simp_all
    rw[ht]at hy;cases hy;have ed:pp.drop i=t::pp.drop (i+1):=by
     rw[qS (dO.mp ht).1];congr 1;exact (dO.mp ht).2
    have gv:=mE t (cM ht);have c1:af G (upd G T' (.tup [V.str (S t.1),V.str (S t.2)])):=af.upd kj;exists T',_,rfl,az.of ar,rfl,_,_,rfl,_,_,rfl,rfl,?_;refine tt ?_;exists t.1,t.2,rfl,(λc hc=>((oy.2.2 t.2 gv).1 c hc).elim (ha c) (λz=>by rw[z];decide)),(by have:=(oy.2.2 t.2 gv).2;lia),λu hu c hc=>?_,λhn=>?_
    ·have c2:af (upd G T' (.tup [V.str (S t.1),V.str (S t.2)])) (upd (upd G T' (.tup [V.str (S t.1),V.str (S t.2)])) c (.tup [.int u.1,.int u.2])):=af.upd hc;have c3:=c1.trans c2;exists _,_,qs++[c],fs++[u],rfl,(by rw[aQ];rfl),cn.snoc (g1.keep λb xs z=>c3 b _ z) ar,by simp_all,λrest hr=>?_,λhr=>?_,c3 _ _ g2,c3 _ _ g3,g4.trans c3
     ·rw[gr];exact g6 (u::rest) (by rw[ed];unfold jO;rw[hu,hr])
     ·exact g7 (by rw[ed];unfold jO;rw[hu,hr])
    ·exact e (jF none (by rw[Hy];exact g7 (by rw[ed];unfold jO;rw[hn]))) _ (g4.trans c1)
   ·rintro zs σ G ⟨v0,v1,qs,fs,rfl,rfl,g1,g5,g6,g7,g2,g3,g4⟩ D hD;rw[ax,Ao]at g6;have OB:=g6 [] rfl;rw[iD]at OB;have d1:af G (upd G D (.lst (qs.map V.ref))):=af.upd hD;have hT:aG (upd G D (.lst (qs.map V.ref))) D fs:=⟨qs,ar,g1.keep λb xs z=>d1 b _ z⟩;have Eh:=jF (some fs) (by rw[Hy];exact OB);exists D,fs,rfl,hT,?_;cases hi:jj fs (-1)with
    |true=>nomatch true,rfl,gn (q fs (by rw[Eh];exact aC hi) D _ (g4.free hD) hT (g4.trans d1))
    |false=>nomatch false,rfl,eh (e (by rw[Eh];exact av (by rw[hi];decide)) _ (g4.trans d1))
def zcZ(K:Frag):Sp:=λvs H Q _=>∃(l:List Nat) (k:Nat),vs=[.str (S l),.int (k:Int)]/\k<l.length/\l.length<=100000/\Q (.str (S (kR (l.drop k)))) H
def zaU(T:Txt w K mg):CP.Ok P w K mg base 1 (zcZ K):=by
  refine T.d_Z86.k ?_;rintro vs H Q E ⟨l,k,rfl,hk,hl,q⟩;refine wl fun hr hu nd=>⟨_,(ak (dR c8 rfl (Wl (fg (v := .ref ue) (by rfl) T.g_SPACED rfl)) (aI 2 nd)
    (ao (a9 (j3 (bO fc CN HX Xu (pV 0) (aa (pV 2) (aa (pV 1) ag)))) (ao (aB (pV 2))) aN)))
   (ao (aB (oB qe (pV 0) (pV 1))))),?_⟩
  have hq:∀G:Hp,az K G ue (n9.map λt=>V.str (S t)):=λG=>by rw[<-zcJ];exact T.q_SPACED G
  exists ue,rfl,⟨_,hq _⟩,?_;refine zbC (K:=K) (a:=ue) (xs:=n9.map λt=>V.str (S t)) (λi σ G=>∃v2:Option V,σ=[some (.str (S l)),some (.int (k:Int)),v2]/\(∀j t',j<i->n9[j]?=some t'->¬t' <+: l.drop k)/\G=H)
   ⟨none,rfl,(λj t' hj _=>absurd hj (uZ _)),rfl⟩ (λi σ G _ _=>hq _) ?_ ?_
  ·rintro i y σ G hi ⟨v2,rfl,hb,rfl⟩;rw[cQ]at hi;obtain⟨t,ht,rfl⟩:∃t,n9[i]?=some t/\V.str (S t)=y:=by simp_all
   exists rfl,_,_,k,rfl,rfl,_,rfl,?_;rw[XX l t k (bE hk)];by_cases z:t <+: l.drop k
   ·refine a7 (aU z) ?_;rw[YM ht hb z]at q;exact q
   ·refine aM (λy=>z (bP y)) ?_;exists _,rfl,λj t' hj fV=>?_,rfl;rcases kU j i with w|w
    ·exact hb j t' w fV
    ·have:j=i:=by lia
     subst this;rw[ht]at fV;cases fV;exact z
  ·rintro σ G ⟨v2,rfl,hb,rfl⟩;have e:=zcj hb;obtain⟨c,hc⟩:∃c,l[k]?=some c:=⟨_,d4 hk⟩;have e1:(l.drop k).take 1=[c]:=by rw[List.take_one,List.head?_drop,hc];rfl
   rw[e,e1]at q;nomatch _,_,c,rfl,rfl,by rw[aH];exact bE (bD tL),by rw[gf];exact bc hc,q
def zaA(K:Frag):Sp:=λvs H Q _=>∃ts:List (List Nat),vs=[.str (S ts.flatten)]/\Cuts ts []/\ts.flatten.length<=10000/\∀(c:Addr) (H':Hp),H c=none->H' c=some (.lst (ts.map λt=>V.str (S t)))->af H H'->Q (.ref c) H'
def zbw(T:Txt w K mg):Dn.Ok P w K mg base 2 (zaA K):=by
  refine T.d_Z87.k ?_;rintro vs H Q E ⟨ts,rfl,hc,hl,q⟩;refine wl fun hr hu nd=>⟨_,(ak (aE 1 nd (bG ag)) (ak (aE 2 nd ai) (ak (tw c8 (aR kc.j (pV 2) (bq m7 (by rfl) T.n_len dC (aa (pV 0) ag))) (ak (aE 3 nd (aD T.d_Z86 (zaU T) hr (aa (pV 0) (aa (pV 2) ag))))
   (ak (d5 (bO cy f7 fX fY (pV 1) (aa (pV 3) ag))) (ao (aE 2 nd (ay d0.j (pV 2) (bq m7 (by rfl) T.n_len dC (aa (pV 3) ag))))))))
   (ao (aB (pV 1)))))),?_⟩
  exists bM _,λc yP=>?_;have s0:af H (upd H c (.lst [])):=af.upd yP;have hz:(S ts.flatten).length<=sizeLine:=by rw[aH];exact iq tL
  exists λm σ G=>∃(i:Nat) (v3:Option V),σ=[some (.str (S ts.flatten)),some (.ref c),some (.int (((ts.take i).flatten.length:Nat):Int)),v3]/\i<=ts.length/\m=ts.length-i/\G c=some (.lst ((ts.take i).map λt=>V.str (S t)))/\af H G,⟨ts.length,0,none,rfl,bM _,rfl,ar,s0⟩,?_;rintro m σ G ⟨i,v3,rfl,hi,rfl,g1,sG⟩;exists _,rfl,hz,_,rfl,?_;by_cases z:i<ts.length
  ·obtain⟨t,ht⟩:∃t,ts[i]?=some t:=⟨_,d4 z⟩;obtain⟨tn,tf⟩:=PV hc ht;rw[iD]at tf;have bB:ts.take (i+1)=ts.take i++[t]:=by rw[cZ,ht];rfl
   have jV:(ts.take (i+1)).flatten.length=(ts.take i).flatten.length+t.length:=by simp_all
   have zV:=P0.mpr tn;have hle:(ts.take (i+1)).flatten.length<=ts.flatten.length:=by
    have:=congrArg (λx:List (List Nat)=>x.flatten.length) (NJ (i+1) ts)
    simp only[zF,bh]at this;lia
   refine a7 (by rw[aH];exact aU tL) ?_;exists λσ' G'=>∃v3:Option V,σ'=[some (.str (S ts.flatten)),some (.ref c),some (.int (((ts.take (i+1)).flatten.length:Nat):Int)),v3]/\G' c=some (.lst ((ts.take (i+1)).map λt=>V.str (S t)))/\af H G',λσ' G' ⟨v3,e1,e2,e3⟩=>⟨ts.length-(i+1),tL,i+1,v3,e1,z,rfl,e2,e3⟩,?_;exists ts.flatten,(ts.take i).flatten.length,rfl,tL,tL,?_;rw[JR,tf];refine⟨.inl ⟨rfl,_,aj.of g1⟩,_,g1,(by
    rw[ax,fR];have hn:=GB hc;exact bD tL),?_⟩
   exists _,rfl,(by rw[aH];exact iq tL),?_;exists some (.str (S t)),?_,?_,sG.write yP
   ·have e:(((ts.take (i+1)).flatten.length:Nat):Int)=(((ts.take i).flatten.length:Nat):Int)+((S t).length:Int):=by rw[jV,aH];lia
    rw[e];rfl
   ·rw[ar,bB,aQ];rfl
  ·have gY:i=ts.length:=by lia
   subst gY;rw[dG]at g1 ⊢;refine aM (by rw[aH];simp) ?_;exact q c G yP g1 sG
def tR(t:Sm)(ah:List Itm):Sm×List Itm:=match ah.getLast? with
 |some (.jn w s)=>(.two w s t,ah.dropLast)
 |_=>(t,ah)
def Nf(t:Sm)(r:List Itm)(it:Itm):tR t (r++[it])=match it with|.jn w s=>(.two w s t,r)|_=>(t,r++[it]):=by
 unfold tR;rw[Gj];cases it<;>simp
def V5(K:Frag):Sp:=λvs H Q _=>∃(v:V) (s:Sm) (b:Addr) (ah:List Itm),vs=[v,.ref b]/\Is H v s.d/\gV H b ah/\ah.length<=10000 /\
 ∀(v':V) (H':Hp),Is H' v' (tR s ah).1.d->gV H' b (tR s ah).2->bu b H H'->Q v' H'
def NM(T:Txt w K mg):GL.Ok P w K mg base 1 (V5 K):=by
  refine T.d_Z95.k ?_;rintro vs H Q E ⟨v,s0,b,ah,rfl,hI,hB,hl,q⟩;refine wl fun hr hu nd=>⟨_,(ak (a9 (PW.pt (iQ (pI (pV 1) (fun _=>rfl)) (i8 (oG ph (xT (xL (pV 1) (nN oQ ai)) ai) (fg (v := .ref iM) (by rfl) T.g_JOINING rfl) rfl)))) (ao (aB (ay NR (gy cy kO kG kP (pV 1)) (bx (aa (pV 0) ag))))) aN)
   (ao (aB (pV 0)))),?_⟩
  rcases Au ah with rfl|⟨r,it,rfl⟩
  ·exists false,.inl ⟨_,aj.of hB.nil,rfl⟩,?_;refine gn ?_;refine gn ?_;exact q v H hI hB (bu.refl _ _)
  ·obtain⟨xs,y,hb,hp,hy⟩:=hB.last;rw[Nf]at q;exists true,.inl ⟨_,aj.of hb,tS⟩,?_;refine eh ?_;cases it with
   |nt =>
    obtain⟨p,rfl,h1⟩:=Av hy;exists _,rfl,_,aj.of hb,o6 _ _,_,az.of h1,rfl,iM,_,rfl,.inr (T.q_JOINING _),rfl,rfl,_,rfl,aM tD ?_;exact q v H hI hB (bu.refl _ _)
   |op =>
    obtain⟨p,rfl,h1⟩:=yF hy;exists _,rfl,_,aj.of hb,o6 _ _,_,az.of h1,rfl,iM,_,rfl,.inr (T.q_JOINING _),rfl,rfl,_,rfl,aM tD ?_;exact q v H hI hB (bu.refl _ _)
   |jn w s2 =>
    obtain⟨p,x,rfl,h1,h2⟩:=DK hy;exists _,rfl,_,aj.of hb,o6 _ _,_,az.of h1,rfl,iM,_,rfl,.inr (T.q_JOINING _),rfl,rfl,_,rfl,a7 (Q5 w) ?_;exists .inl ⟨rfl,_,aj.of hb⟩,b,_,.ref p,rfl,rfl,hb,tS,?_;rw[sA];have b1:bu b H (upd H b (.lst xs)):=bu.upd;exists de,λt ht=>?_;have EM:p≠b:=λz=>by rw[z,hb]at h1;cases h1
    have dZ:upd H b (.lst xs) p=some (.tup [.str (wd w),x]):=by rw[aS EM];exact h1
    have b2:af (upd H b (.lst xs)) (upd (upd H b (.lst xs)) t (.tup [v])):=af.upd ht;exists p,t,_,_,rfl,rfl,az.of (b2 _ _ dZ),az.of ar,tS,c5,(λz=>by cases z),λ_ p' g0=>?_;have b3:af (upd (upd H b (.lst xs)) t (.tup [v])) (upd (upd (upd H b (.lst xs)) t (.tup [v])) p' (.tup ([.str (wd w),x]++[v]))):=af.upd g0;have xF:=b1.trans (bu.of (b2.trans b3));have kt:=xF.tups hb;exact q (.ref p') _ (yv ar (dr.mpr rfl) (gS kt h2) (gS kt hI)) ⟨xs,(b2.trans b3) _ _ ar,qJ kt hp⟩ xF
def YZ(K:Frag):Sp:=λvs H Q _=>∃(v:V) (s:Sm) (b:Addr) (ah:List Itm) (k:Nat),vs=[v,.ref b]/\Is H v s.d/\gV H b (ah++List.replicate k .nt)/\iS j5 ah/\ah.length+k<=10000 /\
 ∀(v':V) (H':Hp),Is H' v' (jP k s).d->gV H' b ah->bu b H H'->Q v' H'
def Fp(T:Txt w K mg):Fe.Ok P w K mg base 1 (YZ K):=by
  refine T.d_Z96.k ?_;rintro vs H Q E ⟨v,s0,b,ah,kk,rfl,hI,hB,hn,hl,q⟩;refine wl fun hr hu nd=>⟨_,(ak (tw c8 (PW.pt (iQ (pI (pV 1) (fun _=>rfl)) (i8 (aR aV (xT (xL (pV 1) (nN oQ ai)) ai) aA)))) (ao (aE 0 nd (ay NR (gy cy kO kG kP (pV 1)) (bx (aa (pV 0) ag)))))) (ao (aB (pV 0)))),?_⟩
  exists λm σ G=>∃(v1:V) (s1:Sm) (k:Nat),σ=[some v1,some (.ref b)]/\Is G v1 s1.d/\gV G b (ah++List.replicate k .nt)/\m=k/\jP k s1=jP kk s0/\k<=kk/\bu b H G,⟨kk,v,s0,kk,rfl,hI,hB,rfl,rfl,aT _,bu.refl _ _⟩,?_;rintro m σ G ⟨v1,s1,k,rfl,oo,n6,rfl,e,hk,sB⟩;cases m with
  |zero =>
   rw[Em,iD]at n6;have fin:∀G',G'=G->Q v1 G':=λG' z=>by rw[z];exact q v1 G (by rw[<-e];exact oo) n6 sB
   rcases Au ah with rfl|⟨r,it,rfl⟩
   ·exists false,.inl ⟨_,aj.of n6.nil,rfl⟩,?_;refine gn ?_;refine gn ?_;exact fin _ rfl
   ·obtain⟨xs,y,hb,hp,hy⟩:=n6.last;have cx:=hn it (Gj r it);exists true,.inl ⟨_,aj.of hb,tS⟩,?_;refine eh ?_;cases it with
    |nt=>exact absurd trivial cx
    |op =>
     obtain⟨p,rfl,h1⟩:=yF hy;exists _,rfl,_,aj.of hb,o6 _ _,_,az.of h1,rfl,_,rfl,?_;refine aM tD ?_;exact fin _ rfl
    |jn w s2 =>
     obtain⟨p,x,rfl,h1,h2⟩:=DK hy;exists _,rfl,_,aj.of hb,o6 _ _,_,az.of h1,rfl,_,rfl,?_;refine aM (λz=>uM.2.2 (by have z':=bP z;injection z')) ?_;exact fin _ rfl
  |succ k =>
   rw[<-Oj]at n6;obtain⟨xs,y,hb,hp,hy⟩:=n6.last;obtain⟨p,rfl,h1⟩:=Av hy;have aK:xs.length=ah.length+k:=by have:=eV hp;rw[bh,yN]at this;exact this
   exists true,.inl ⟨_,aj.of hb,tS⟩,?_;refine eh ?_;exists _,rfl,_,aj.of hb,o6 _ _,_,az.of h1,rfl,_,rfl,?_;refine a7 tD ?_;exists λσ' G'=>∃(v2:V) (s2:Sm),σ'=[some v2,some (.ref b)]/\Is G' v2 s2.d/\gV G' b (ah++List.replicate k .nt)/\jP k s2=jP kk s0/\bu b H G',λσ' G' ⟨v2,s2,e1,e2,e3,e4,e5⟩=>⟨k,wY k,v2,s2,k,e1,e2,e3,rfl,e4,tL,e5⟩,?_;exists .inl ⟨rfl,_,aj.of hb⟩,b,_,.ref p,rfl,rfl,hb,tS,?_;rw[sA];have b1:bu b G (upd G b (.lst xs)):=bu.upd;exists de,λt ht=>?_;have EM:p≠b:=λz=>by simp_all
   have dZ:upd G b (.lst xs) p=some (.tup [.str "not"]):=by rw[aS EM];exact h1
   have b2:af (upd G b (.lst xs)) (upd (upd G b (.lst xs)) t (.tup [v1])):=af.upd ht;exists p,t,_,_,rfl,rfl,az.of (b2 _ _ dZ),az.of ar,tS,bL,(λz=>by cases z),λ_ p' g0=>?_;have b3:af (upd (upd G b (.lst xs)) t (.tup [v1])) (upd (upd (upd G b (.lst xs)) t (.tup [v1])) p' (.tup ([.str "not"]++[v1]))):=af.upd g0;have xF:=b1.trans (bu.of (b2.trans b3));have kt:=xF.tups hb;nomatch .ref p',.no s1,rfl,j0 ar (dr.mpr rfl) (gS kt oo),⟨xs,(b2.trans b3) _ _ ar,qJ kt hp⟩,e,sB.trans xF
def Cu(H:Hp)(v:V):Option Sm->Prop
 |none=>v=.non
 |some s=>Is H v s.d
def Va(K:Frag):Sp:=λvs H Q _=>∃(t:List Nat) (b:Addr) (ah:List Itm) (st:oE),vs=[.str (S t),.ref b]/\gV H b ah/\ah.length<=9000/\Step (none,ah) t st /\
 ∀(v':V) (H':Hp),Cu H' v' st.1->gV H' b st.2->bu b H H'->Q v' H'
def Up:Txt.strip (S [110,111,116,32])=ofString "not" := by decide+kernel
def zeJ:Txt.strip (S [40])=ofString "(" := by decide+kernel
def zbo(T:Txt w K mg):Dc.Ok P w K mg base 2 (Va K):=by
  refine T.d_Z69.k ?_;rintro vs H Q E ⟨t,b,ah,st,rfl,hB,hl,a8,q⟩;refine wl fun hr hu nd=>⟨_,(ak (a9 (PW.pt (jy (aR aV (pV 0) aA) (j2 (aR aV (pV 0) aA)))) (ak (d5 (bO cy f7 fX fY (pV 1) (aa (bx (aa (gy fc Lh NG Qw (pV 0)) ag)) ag))) (ao (aB iX))) aN) (ak (a9 (PW.pt (jy (aR aV (pV 0) aA) (j2 (aR aV (pV 0) aA)))) (ao (aB (aD T.d_Z96 (Fp T) hr (aa (bx (aa aA (aa (eA Im rfl T.n_int ra (aa (pV 0) ag)) ag))) (aa (pV 1) ag))))) aN) (ak (aE 2 nd (bO fc Hc EN II (fg (v:=.str "abcdefghijklmnop") (by rfl) T.g_LETTERS ⟨_,rfl⟩) (aa (pV 0) ag)))
   (ak (bW (bX kc.j (pV 2) ai) (ao gX) aN) (ao (aB (aD T.d_Z96 (Fp T) hr (aa (bx (aa aA (aa (pV 2) ag))) (aa (pV 1) ag))))))))),?_⟩
  have nb:∀{a c:List Nat},a≠c->¬decide (V.str (S a)=V.str (S c))=true:=λh z=>h (by have:=bP z;injection this with this;exact dU this)
  cases a8 with
  |no ah =>
   obtain⟨xs,h1,h2⟩:=hB;exists _,rfl,a7 (by rw[rG];exact aU rfl) ?_;refine eh ?_;exists .inl ⟨rfl,_,aj.of h1⟩,rfl,_,rfl,rfl,(by rw[aH];show 4<=sizeLine;decide),?_;rw[Up];exists de,λt' ht=>?_;have c1:af H (upd H t' (.tup [.str "not"])):=af.upd ht;exists _,c1 _ _ h1,(by rw[eV h2];exact bD tL),?_;have c2:bu b H (upd (upd H t' (.tup [.str "not"])) b (.lst (xs++[.ref t']))):=(bu.of c1).trans bu.upd;have kt:=c2.tups h1;have vt:t'≠b:=λz=>by simp_all
   exact q .non _ rfl ⟨xs++[.ref t'],ar,qO (qJ kt h2) (show Is _ _ (.tup [.str "not"]) from yo (by rw[aS vt];exact ar) (dr.mpr rfl))⟩ c2
  |op ah =>
   obtain⟨xs,h1,h2⟩:=hB;exists _,rfl,aM (by rw[rG];exact nb tD) ?_;exists _,rfl,?_;have e40:decide (V.str (S [40])=V.str (ofString "("))=true:=by rw[wg];exact aU rfl
   rw[e40];refine eh ?_;exists .inl ⟨rfl,_,aj.of h1⟩,rfl,_,rfl,rfl,(by rw[aH];show 1<=sizeLine;decide),?_;rw[zeJ];exists de,λt' ht=>?_;have c1:af H (upd H t' (.tup [.str "("])):=af.upd ht;exists _,c1 _ _ h1,(by rw[eV h2];exact bD tO),?_;have c2:bu b H (upd (upd H t' (.tup [.str "("])) b (.lst (xs++[.ref t']))):=(bu.of c1).trans bu.upd;have kt:=c2.tups h1;have vt:t'≠b:=λz=>by simp_all
   exact q .non _ rfl ⟨xs++[.ref t'],ar,qO (qJ kt h2) (show Is _ _ (.tup [.str "("]) from yo (by rw[aS vt];exact ar) (dr.mpr rfl))⟩ c2
  |bit ah k j hn hj =>
   exists _,rfl,aM (by rw[rG];exact nb (λz=>by simp at z)) ?_;exists _,rfl,aM (by rw[wg];exact nb (λz=>by simp at z;lia)) ?_;exists _,rfl,aM (by rw[jM];exact nb (λz=>by simp at z;lia)) ?_;exists _,rfl,aM (by rw[xu];exact nb (λz=>by simp at z;lia)) ?_;exists rfl,_,_,rfl,rfl,?_;rw[kJ,Hh j hj];refine vN (by simp) ?_;exists bL,λt' ht=>?_;have c1:af H (upd H t' (.tup [.str "bit",.int (j:Int)])):=af.upd ht;nomatch .ref t',.bit j,b,ah,k,rfl,j0 ar (dr.mpr rfl) (nE.mpr rfl),hB.keep c1,hn,by simp at hl;lia,λv' H' i' s' b'=>q v' H' i' s' ((bu.of c1).trans b')
  |fix ah k c hn hc =>
   exists _,rfl,aM (by rw[rG];exact nb (λz=>by simp at z)) ?_;exists _,rfl,aM (by rw[wg];exact nb (λz=>by simp at z;lia)) ?_;rcases hc with rfl|rfl
   ·exists _,rfl,a7 (by rw[jM];exact aU rfl) ?_;refine eh ?_;exists _,_,rfl,DN 0 tD,(by show 1<=640;decide),bL,λt' ht=>?_;have c1:af H (upd H t' (.tup [.str "fix",.int ((0:Nat):Int)])):=af.upd ht;nomatch .ref t',.fix 0,b,ah,k,rfl,j0 ar (dr.mpr rfl) (nE.mpr rfl),hB.keep c1,hn,by simp at hl;lia,λv' H' i' s' b'=>q v' H' i' s' ((bu.of c1).trans b')
   ·exists _,rfl,aM (by rw[jM];exact nb tD) ?_;exists _,rfl,?_;have e1:decide (V.str (S [48+(1:Int).toNat])=V.str (ofString "1"))=true:=by rw[xu];exact aU rfl
    rw[e1];refine eh ?_;exists _,_,rfl,DN 1 tD,(by show 1<=640;decide),bL,λt' ht=>?_;have c1:af H (upd H t' (.tup [.str "fix",.int ((1:Nat):Int)])):=af.upd ht;nomatch .ref t',.fix 1,b,ah,k,rfl,j0 ar (dr.mpr rfl) (nE.mpr rfl),hB.keep c1,hn,by grind,λv' H' i' s' b'=>q v' H' i' s' ((bu.of c1).trans b')
def UU{w:Nat}(h:w<3):Txt.strip (S ([32]++jw w++[32]))=wd w:=by
 rcases (show w=0\/w=1\/w=2 by lia)with rfl|rfl|rfl<;>decide+kernel
def YU:Txt.strip (S [41])=ofString ")" := by decide+kernel
def ZM(K:Frag):Sp:=λvs H Q _=>∃(t:List Nat) (v:V) (s:Sm) (b:Addr) (ah:List Itm) (st:oE),vs=[.str (S t),v,.ref b]/\Is H v s.d/\gV H b ah/\ah.length<=9000/\Step (some s,ah) t st /\
 ∀(v':V) (H':Hp),Cu H' v' st.1->gV H' b st.2->bu b H H'->Q v' H'
def zcS(T:Txt w K mg):HL.Ok P w K mg base 2 (ZM K):=by
  refine T.d_Z68.k ?_;rintro vs H Q E ⟨t,v,s0,b,ah,st,rfl,hI,hB,hl,a8,q⟩;refine wl fun hr hu nd=>⟨_,(ak (aE 3 nd (gy fc Lh NG Qw (pV 0))) (ak (a9 (oG ph (pV 3) (fg (v:=.ref iM) (by rfl) T.g_JOINING rfl) rfl) (ak (kx (a9 (PW.pt (iQ (pI (pV 2) (λ_=>rfl)) (i8 (oG ph (xT (xL (pV 2) (nN oQ ai)) ai) (fg (v:=.ref iM) (by rfl) T.g_JOINING rfl) rfl)))) (ao gX) aN))
   (ak (d5 (bO cy f7 fX fY (pV 2) (aa (bx (aa (pV 3) (aa (pV 1) ag))) ag))) (ao (aB iX)))) aN)
   (ak (bW (bX ke (pV 0) aA) (ao gX) aN) (ak (aE 1 nd (aD T.d_Z95 (NM T) hr (aa (pV 1) (aa (pV 2) ag)))) (ak (a9 (nK (pI (pV 2) (λ_=>rfl))) (ao gX) aN) (ak (d5 (gy cy kO kG kP (pV 2))) (ao (aB (aD T.d_Z96 (Fp T) hr (aa (pV 1) (aa (pV 2) ag))))))))))),?_⟩
  cases a8 with
  |jn ah s1 w hn hw =>
   obtain⟨xs,h1,h2⟩:=id hB;have fu:=Cy w;exists rfl,_,rfl,rfl,(by rw[aH];exact iq (by simp;lia)),?_;rw[UU hw];exists iM,_,rfl,.inr (T.q_JOINING _),rfl,rfl,_,rfl,a7 (Q5 w) ?_;exists λσ' G'=>σ'=[some (.str (S ([32]++jw w++[32]))),some v,some (.ref b),some (.str (wd w))]/\G'=H,?_,?_
   ·rcases Au ah with rfl|⟨r,it,rfl⟩
    ·exists false,.inl ⟨_,aj.of hB.nil,rfl⟩,?_;refine gn ?_;refine gn ?_;nomatch rfl,rfl
    ·obtain⟨rg,y,hb,hp,hy⟩:=hB.last;have cx:=hn it (Gj r it);exists true,.inl ⟨_,aj.of hb,tS⟩,?_;refine eh ?_;cases it with
     |jn w' s'=>exact absurd trivial cx
     |nt =>
      obtain⟨p,rfl,h3⟩:=Av hy;exists _,rfl,_,aj.of hb,o6 _ _,_,az.of h3,rfl,iM,_,rfl,.inr (T.q_JOINING _),rfl,rfl,_,rfl,aM tD ?_;nomatch rfl,rfl
     |op =>
      obtain⟨p,rfl,h3⟩:=yF hy;exists _,rfl,_,aj.of hb,o6 _ _,_,az.of h3,rfl,iM,_,rfl,.inr (T.q_JOINING _),rfl,rfl,_,rfl,aM tD ?_;nomatch rfl,rfl
   ·rintro σ' G' ⟨rfl,rfl⟩;exists .inl ⟨rfl,_,aj.of h1⟩,bL,λt' ht=>?_;have c1:af G' (upd G' t' (.tup [.str (wd w),v])):=af.upd ht;exists _,c1 _ _ h1,(by rw[eV h2];exact bD tL),?_;have c2:bu b G' (upd (upd G' t' (.tup [.str (wd w),v])) b (.lst (xs++[.ref t']))):=(bu.of c1).trans bu.upd;have kt:=c2.tups h1;have vt:t'≠b:=λz=>by simp_all
    exact q .non _ rfl ⟨xs++[.ref t'],ar,qO (qJ kt h2) (show Is _ _ (.tup [.str (wd w),s0.d]) from j0 (by rw[aS vt];exact ar) (dr.mpr rfl) (gS kt hI))⟩ c2
  |cl ah k w s1 t1 hn hw =>
   have ej:tR s0 (ah++List.replicate k .nt++[.op,.jn w s1])=(.two w s1 s0,ah++List.replicate k .nt++[.op]):=by
    have:ah++List.replicate k Itm.nt++[.op,.jn w s1]=(ah++List.replicate k Itm.nt++[.op])++[.jn w s1]:=by simp
    rw[this,Nf]
   exists rfl,_,rfl,rfl,(by rw[aH];show 1<=sizeLine;decide),?_;rw[YU];exists iM,_,rfl,.inr (T.q_JOINING _),rfl,rfl,_,rfl,aM tD ?_;refine vN (by rw[CL,aU rfl];decide) ?_;exists v,s0,b,_,rfl,hI,hB,by lia,λv1 H1 i1 rj b1=>?_;rw[ej]at i1 rj;obtain⟨xs,y,hb,hp,hy⟩:=rj.last;exists true,.inl ⟨_,aj.of hb,tS⟩,?_;refine gn ?_;exists .inl ⟨rfl,_,aj.of hb⟩,b,_,y,rfl,rfl,hb,tS,?_;rw[sA];have c1:bu b H1 (upd H1 b (.lst xs)):=bu.upd;have kt:=c1.tups hb;nomatch v1,.two w s1 s0,b,ah,k,rfl,gS kt i1,⟨xs,ar,qJ kt hp⟩,hn,by simp at hl;lia,λv' H' i' s' b'=>q v' H' i' s' (b1.trans (c1.trans b'))
def Zx(K:Frag):Sp:=λvs H Q _=>∃s:Sm,vs=[.str (S (bY s))]/\s.ok (λk=>k<16)/\(bY s).length<=9000/\∀(v':V) (H':Hp),Is H' v' s.d->af H H'->Q v' H'
def X1(T:Txt w K mg):DM.Ok P w K mg base 3 (Zx K):=by
  refine T.d_Z73.k ?_;rintro vs H Q E ⟨s0,rfl,hok,hl,q⟩;refine wl fun hr hu nd=>⟨_,(ak (aE 1 nd (bG ag)) (ak (aE 2 nd iX) (ak (dR c8 rfl (cH (aD T.d_Z87 (zbw T) hr (aa (pV 0) ag))) (aI 3 nd) (ao (bW (bX qU (pV 2) iX) (ao (aE 2 nd (aD T.d_Z69 (zbo T) hr (aa (pV 3) (aa (pV 1) ag))))) (ao (aE 2 nd (aD T.d_Z68 (zcS T) hr (aa (pV 3) (aa (pV 2) (aa (pV 1) ag))))))))) (ak (bW (bX qU (pV 2) iX) (ao gX) aN) (ak (aE 2 nd (aD T.d_Z95 (NM T) hr.m (aa (pV 2) (aa (pV 1) ag)))) (ak (a9 (pI (pV 1) (λ_=>rfl)) (ao gX) aN) (ao (aB (pV 2))))))))),?_⟩
  obtain⟨e,fits,U7,N0⟩:=XC hok;obtain⟨f,f0,fn,fs⟩:=U7.path;have vT:=(Aw hok).1;have t6:=(AN (r:=[]) hok).1 [] (.inl rfl);have zN:(dm s0).length<=9000:=by have:=GB t6;rw[vT]at this;lia
  exists bM _,λb hb=>?_;have s1:af H (upd H b (.lst [])):=af.upd hb;exists dm s0,by rw[vT];rfl,t6,by rw[vT];lia,λc H1 hc F7 s2=>?_;have fj:=s2 _ _ ar;have Uv:c≠b:=λz=>by rw[z,ar]at hc;cases hc
  exists ⟨_,aj.of F7⟩,?_;refine jo (K:=K) (a:=c) (xs:=(dm s0).map λt=>V.str (S t)) (λi σ G=>∃(v:V) (v3:Option V),σ=[some (.str (S (bY s0))),some (.ref b),some v,v3]/\Cu G v (f i).1/\gV G b (f i).2/\(f i).2.length<=i/\bu b H1 G)
   ⟨.non,none,rfl,(by rw[f0];rfl),(by rw[f0];nomatch [],fj,.nil),(by simp_all),bu.refl _ _⟩ (by rintro i σ G _ ⟨_,_,_,_,_,_,e⟩;exact aj.of (e _ _ Uv F7)) ?_ ?_
  ·rintro i y σ G hi ⟨v,v3,rfl,g1,g2,g3,g4⟩;rw[cQ]at hi;obtain⟨t,ht,rfl⟩:∃t,(dm s0)[i]?=some t/\V.str (S t)=y:=by simp_all
   have a8:=fs i t ht;have gD:=(dO.mp ht).1;have AJ:=TN a8;cases hp:(f i).1 with
   |none =>
    rw[hp]at g1;cases (show v=.non from g1);have vM:Step (none,(f i).2) t (f (i+1)):=by rw[<-hp];exact a8
    exists rfl,vy ?_;exists t,b,(f i).2,f (i+1),rfl,g2,tL,vM,λv' G' p' s' b'=>?_;nomatch v',_,rfl,p',s',tL,g4.trans b'
   |some pB =>
    rw[hp]at g1;have hI:=g1;have vM:Step (some pB,(f i).2) t (f (i+1)):=by rw[<-hp];exact a8
    exists rfl,vN (λz=>OU hI (bP z)) ?_;exists t,v,pB,b,(f i).2,f (i+1),rfl,hI,g2,tO,vM,λv' G' p' s' b'=>?_;nomatch v',_,rfl,p',s',tO,g4.trans b'
  ·rintro σ G ⟨v,v3,rfl,g1,g2,g3,g4⟩;rw[ax,fn]at g1 g2;have hI:=g1;have ej:tR e fits=(s0,[]):=by
    rcases N0 with ⟨rfl,rfl⟩|⟨w,a,rfl,rfl⟩
    ·rfl
    ·rfl
   have jV:fits.length<=1:=by
    rcases N0 with ⟨rfl,_⟩|⟨w,a,rfl,_⟩
    ·exact bM _
    ·exact aT _
   exists rfl,vN (λz=>OU hI (bP z)) ?_;exists v,e,b,fits,rfl,hI,g2,tL,λv1 H2 i1 rj b1=>?_;rw[ej]at i1 rj;exists false,.inl ⟨_,aj.of rj.nil,rfl⟩,?_;refine gn ?_;exact q v1 H2 i1 (bu.same (s1.trans s2) (g4.trans b1) hb)
def zee:Sp:=λvs H Q _=>∃(v:V) (s:Sm),vs=[v]/\Is H v s.d/\s.dp<=20/\∀(D:Addr) (xs:List V) (H':Hp),H D=none->H' D=some (.lst xs)->eY H xs s.pre->af H H'->Q (.ref D) H'
def K4(T:Txt w K mg):Dh.Ok P w K mg base 1 zee:=by
  refine T.d_Z70.k ?_;rintro vs H Q E ⟨v,s',rfl,hI,zv,q⟩;refine wl fun hr hu nd=>⟨_,(ak (aE 1 nd (bG ag)) (ak (aE 2 nd (bG (aa (pV 0) ag))) (ak (tw c8 (pI (pV 2) (λ_=>rfl)) (ak (aE 3 nd (gy cy kO kG kP (pV 2))) (ak (d5 (bO cy f7 fX fY (pV 1) (aa (pV 3) ag))) (ao (a9 (PW.pt (jy (aR aV (xT (pV 3) ai) aA) (j2 (oG ph (xT (pV 3) ai) (fg (v:=.ref iM) (by rfl) T.g_JOINING rfl) rfl)))) (ao (d5 (bO cy PySem.F.slot_list_extend PySem.F.type_list_extend V6 (pV 2) (aa (j4 zaz (pV 3) (fJ ai) lX) ag)))) aN)))))
   (ao (aB (pV 1)))))),?_⟩
  exists bM _,λD hD=>?_;exists de,λW hW=>?_;have s0:af H (upd H D (.lst [])):=af.upd hD;have s1:af (upd H D (.lst [])) (upd (upd H D (.lst [])) W (.lst [v])):=af.upd hW;have A9:D≠W:=λz=>by rw[<-z,ar]at hW;cases hW
  have EG:=s0.free hW;exists λm σ G=>∃(ps ws:List V) (dn td:List Sm) (v3:Option V),σ=[some v,some (.ref D),some (.ref W),v3]/\G D=some (.lst ps)/\G W=some (.lst ws)/\eY H ps dn/\eY H ws td/\dn++(td.reverse.flatMap Sm.pre)=s'.pre/\(td.map Sm.sz).sum=m/\af H G,⟨s'.sz,[],[v],[],[s'],none,rfl,s1 _ _ ar,ar,.nil,.cons hI .nil,tS,tS,s0.trans s1⟩,?_;rintro m σ G ⟨ps,ws,dn,td,v3,rfl,g1,g2,g3,g4,g5,g6,sG⟩;exists _,.inl ⟨ws,aj.of g2,rfl⟩,?_;have cX:=eV g3;have mh:dn.length+(td.reverse.flatMap Sm.pre).length=s'.sz:=by rw[<-Sm.pre_len,<-g5,bh]
  have vQ:=Qe zv;by_cases cx:ws=[]
  ·refine aM (by rw[cx];simp) ?_;have e:td=[]:=by subst cx;cases g4;rfl
   subst e;exact q D ps G hD g1 (by simp_all) sG
  ·refine a7 (by simpa using cx) ?_;obtain⟨ys,y,lK,p,rfl,rfl,h1,h2⟩:=eY.last g4 cx;have hyl:=eV h1;have htl:lK.length+p.sz<=((lK++[p]).reverse.flatMap Sm.pre).length:=by
    rw[pH,List.reverse_singleton,List.singleton_append,ky,bh,Sm.pre_len]
    have:∀l:List Sm,l.length<=(l.flatMap Sm.pre).length:=λl=>by
     induction l with
     |nil=>exact aT _
     |cons a l ih =>
      rw[ky,bh,Sm.pre_len,bH]
      have:=a.sz_pos
      lia
    have:=this lK.reverse
    rw[List.length_reverse]at this;lia
   have hpz:=p.sz_pos;exists _,λσ' G' z=>z,?_;exists .inl ⟨rfl,_,aj.of g2⟩,W,ys++[y],y,rfl,rfl,g2,tS,?_;have jr:=sG.write (o:=.lst (ys++[y]).dropLast) EG;have w1:upd G W (.lst (ys++[y]).dropLast) W=some (.lst ys):=by rw[ar,sA]
   have w2:upd G W (.lst (ys++[y]).dropLast) D=some (.lst ps):=by rw[aS A9];exact g1
   generalize upd G W (.lst (ys++[y]).dropLast)=G1 at jr w1 w2 ⊢;exists .inl ⟨rfl,_,aj.of w2⟩,_,w2,rQ tL,?_;have gc:=jr.write (o:=.lst (ps++[y])) hD;have w3:upd G1 D (.lst (ps++[y])) D=some (.lst (ps++[y])):=ar;have w4:upd G1 D (.lst (ps++[y])) W=some (.lst ys):=by rw[aS (Ne.symm A9)];exact w1
   generalize upd G1 D (.lst (ps++[y]))=G2 at gc w3 w4 ⊢;have rR:=eY.snoc g3 h2;cases p with
   |bit k =>
    obtain⟨p,rfl,hp⟩:=qu (h2.keep gc);exists _,az.of hp,rfl,_,rfl,aM tD ?_;exists _,az.of hp,rfl,iM,_,rfl,.inr (T.q_JOINING _),rfl,rfl,_,rfl,aM tD ?_;exists (lK.map Sm.sz).sum,?_,ps++[.ref p],ys,dn++[.bit k],lK,_,rfl,w3,w4,rR,h1,?_,rfl,gc
    ·rw[<-g6,aQ,o7];simp[Sm.sz]
    ·rw[<-g5,pH];simp[Sm.pre]
   |fix c =>
    obtain⟨p,rfl,hp⟩:=qj (h2.keep gc);exists _,az.of hp,rfl,_,rfl,aM tD ?_;exists _,az.of hp,rfl,iM,_,rfl,.inr (T.q_JOINING _),rfl,rfl,_,rfl,aM tD ?_;exists (lK.map Sm.sz).sum,?_,ps++[.ref p],ys,dn++[.fix c],lK,_,rfl,w3,w4,rR,h1,?_,rfl,gc
    ·rw[<-g6,aQ,o7];simp[Sm.sz]
    ·rw[<-g5,pH];simp[Sm.pre]
   |no s1 =>
    obtain⟨p,x,rfl,hp,hx⟩:=ow (h2.keep gc);have DJ:Is H x s1.d:=by
     obtain⟨p',x',e',g0,fL⟩:=ow h2;cases e'
     have:=gc _ _ g0
     rw[hp]at this;cases this;exact fL
    exists _,az.of hp,rfl,_,rfl,a7 tD (eh ?_);exists .inl ⟨rfl,_,aj.of w4⟩,p,_,rfl,az.of hp,(by show ¬(1=0/\_);exact λz=>absurd z.1 tD),λt ht=>?_;have st:af G2 (upd G2 t (.tup [x])):=af.upd ht;have wt:upd G2 t (.tup [x]) t=some (.tup [x]):=ar;exists W,t,ys,[x],rfl,rfl,st _ _ w4,az.of wt,(by show ys.length+1<=sizeLine;exact rQ tL),?_;exists ((lK++[s1]).map Sm.sz).sum,?_,ps++[.ref p],ys++[x],dn++[.no s1],lK++[s1],_,rfl,(by rw[aS A9];exact st _ _ w3),ar,rR,eY.snoc h1 DJ,?_,rfl,(gc.trans st).write EG
    ·rw[<-g6,aQ,aQ,o7,o7];simp[Sm.sz]
    ·rw[<-g5,pH,pH];simp[Sm.pre]
   |two j s1 s2 =>
    obtain⟨p,x,z,rfl,hp,hx,hz⟩:=oh (h2.keep gc);obtain⟨DJ,UQ⟩:Is H x s1.d/\Is H z s2.d:=by
     obtain⟨p',x',z',e',g0,fL,Gn⟩:=oh h2;cases e'
     have:=gc _ _ g0
     rw[hp]at this;cases this;nomatch fL,Gn
    obtain⟨n1,n2,n3⟩:=uM (w:=j);have hsz:(Sm.two j s1 s2).sz=s1.sz+s2.sz+1:=rfl;have iJ:=s1.sz_pos;have jQ:=s2.sz_pos;exists _,az.of hp,rfl,_,rfl,aM (by simpa using n3) ?_;exists _,az.of hp,rfl,iM,_,rfl,.inr (T.q_JOINING _),rfl,rfl,_,rfl,a7 (Vu j) ?_;exists .inl ⟨rfl,_,aj.of w4⟩,p,_,rfl,az.of hp,(by show ¬(1=0/\_);exact λz=>absurd z.1 tD),λt ht=>?_;have st:af G2 (upd G2 t (.tup [x,z])):=af.upd ht;have wt:upd G2 t (.tup [x,z]) t=some (.tup [x,z]):=ar;exists W,t,ys,[x,z],rfl,rfl,st _ _ w4,az.of wt,(by show ys.length+2<=sizeLine;exact rQ tL),?_;exists ((lK++[s1,s2]).map Sm.sz).sum,?_,ps++[.ref p],ys++[x,z],dn++[.two j s1 s2],lK++[s1,s2],_,rfl,(by rw[aS A9];exact st _ _ w3),ar,rR,?_,?_,rfl,(gc.trans st).write EG
    ·rw[<-g6,aQ,aQ,o7,o7];simp[Sm.sz]
    ·have:=eY.snoc (eY.snoc h1 DJ) UQ
     rwa [gr,gr]at this
    ·rw[<-g5,pH,pH];simp[Sm.pre]
def zc5(K:Frag):Sp:=λvs H Q _=>∃(p r:Addr) (l o:aq) (M:Nat),vs=[.ref p,.ref r]/\aG H p l/\aG H r o/\(∀t∈l,0<=t.1/\t.1<2^M)/\(∀t∈o,0<=t.1/\t.1<2^M)/\l.length<=32/\o.length<=32/\M<=16/\(∀m:Nat,(∀t∈l,0<=t.1/\t.1<2^m)->(∀t∈o,0<=t.1/\t.1<2^m)->l.length*o.length<=(m+1)*2^m)/\Q .non H
def zeb(T:Txt w K mg):FI.Ok P w K mg base 2 (zc5 K):=by
  refine T.d_Z66.k ?_;rintro vs H Q E ⟨p,r,l,o,M,rfl,cg,oR,hl,ho,ll,lo,hM,AQ,q1⟩;refine wl fun hr hu nd=>⟨_,(ak (aE 2 nd (gy xj vU vX wb (ay vo.j (aD T.d_Z90 (Ac T) hr (aa (pV 0) ag)) (aD T.d_Z90 (Ac T) hr (aa (pV 1) ag))))) (ak (a9 (aR rA.j (ay fI.c (bq fO (by rfl) T.n_len dC (aa (pV 0) ag)) (bq fO (by rfl) T.n_len dC (aa (pV 1) ag))) (ay fI.c (ay d0.j (pV 2) ai) (aD T.d_Z4 (oZ T) hr (aa (pV 2) ag)))) (ao (aB iX)) aN)
   (ao gX))),?_⟩
  have u1:=EA hl;have u2:=EA ho;exists p,l,rfl,cg.tl,(λt ht=>(hl t ht).1),?_;exists r,o,rfl,oR.tl,(λt ht=>(ho t ht).1),rfl,_,rfl,rfl,?_;have Jq:Builtin.bitOr ((cT l 0:Nat):Int) ((cT o 0:Nat):Int)=((cT l 0|||cT o 0:Nat):Int):=As _ _;have hmany:intBits (Builtin.bitOr ((cT l 0:Nat):Int) ((cT o 0:Nat):Int))<=M:=by
   rw[Jq];exact Hv (Nat.or_lt_two_pow u1 u2)
  have kl:=GC (U:=cT l 0|||cT o 0) (λt ht=>(hl t ht).1) λj hj=>by simp_all
  have ko:=GC (U:=cT l 0|||cT o 0) (λt ht=>(ho t ht).1) λj hj=>by simp_all
  rw[<-Jq]at kl ko;generalize intBits (Builtin.bitOr ((cT l 0:Nat):Int) ((cT o 0:Nat):Int))=many at hmany kl ko;obtain⟨pa,VO,hpa2⟩:=id cg;obtain⟨pc,hpc1,X5⟩:=id oR;have la:=hpa2.length;have lc:=X5.length;exists p,_,rfl,.inl (aj.of VO),r,_,rfl,.inl (aj.of hpc1),gG (by lia) (by rw[ax];lia),?_;exists many,rfl,tL,gG (by lia) tL,_,rfl,?_;have h:=AQ many kl ko;refine a7 (aU ?_) q1;rw[ax,ax,la,lc];exact_mod_cast h
def YO(K:Frag):Sp:=λvs H Q _=>∃(a b:Addr) (l o:aq) (w:Nat),vs=[.str (wd w),.ref a,.ref b]/\aG H a l/\aG H b o/\w<3/\l.length+o.length+l.length*o.length<=100000/\eQ (l++o)/\(∀t∈l,∀u∈o,IntMulOk t.2 u.2) /\
 ∀(c:Addr) (f:aq) (H':Hp),H c=none->aG H' c f->aZ f (gR w l o)->af H H'->Q (.ref c) H'
def zch(T:Txt w K mg):HS.Ok P w K mg base 4 (YO K):=by
  refine T.d_Z25.k ?_;rintro vs H Q E ⟨a,b,l,o,w',rfl,hT,eP,hw,aK,h5,er,q⟩;refine wl fun hr hu nd=>⟨_,(ak (aE 3 nd (aD T.d_Z85 (zW T) hr.m (aa (pV 1) (aa (pV 2) ag)))) (ak (bW (bX aV (pV 0) aA) (ao (aB (pV 3))) aN) (ak (aE 4 nd (sZ (aR aV (pV 0) aA) (nN oQ ai) (nN oQ ai))) (ao (aB (aD T.d_Z71 (tu T) hr (aa (aD T.d_Z71 (tu T) hr (aa (pV 1) (aa (pV 2) ag))) (aa (aD T.d_Z78 (Oe T) hr (aa (pV 3) (aa (pV 4) ag))) ag)))))))),?_⟩
  obtain⟨zs,z5,zz⟩:=id h5;have zl:K5 zs l:=λt ht=>zz t (mz _ ht)
  have zo:K5 zs o:=λt ht=>zz t (f9 _ ht)
  exists a,b,l,o,rfl,hT.tl,eP.tl,tL,⟨zs,z5,zl.prod zo⟩,er,λc p H1 hc ck cU dI s1=>?_;have comb:∀(n:Int) (f g h:aq),w'≠0->n=(if w'=1 then -1 else -2)->aZ g (l++o)->aZ h (p.map λt=>(t.1,t.2*n))->aZ f (g++h)->aZ f (gR w' l o):=λn f g h JJ hn hg hh hf=>by
   have ec:∀k,aL (g++h) k=aL (gR w' l o) k:=λk=>by
    unfold gR;rw[av JJ,cG,cG,hg.val,hh.val,<-hn];have e:∀(x:aq),aL (x.map λt=>(t.1,t.2*n)) k=aL x k*n:=λx=>by
     rw[tN,tN,BI]
    rw[e,e,cU.val]
   exists hf.toIsForm,λk=>by rw[hf.val,ec],λt ht=>?_;have h1:=hf.src t ht;unfold gR;rw[av JJ,aQ,bA];rw[aQ,bA]at h1;rcases h1 with z|z
   ·obtain⟨u,hu,e⟩:=bp.mp z;exact .inl (by rw[<-e];exact hg.src u hu)
   ·obtain⟨u,hu,e⟩:=bp.mp z;have h2:=hh.src u hu;rw[fk]at h2 ⊢;obtain⟨v,hv,e2⟩:=bp.mp h2;have h3:=cU.src v hv;obtain⟨x,hx,e3⟩:=bp.mp h3;exact .inr (bp.mpr ⟨x,hx,by rw[<-e,<-e2];exact e3⟩)
  obtain rfl|rfl|rfl:w'=0\/w'=1\/w'=2:=by lia
  ·refine vy ?_;exact q c p H1 hc ck (by assumption) s1
  ·refine vn ?_;exists _,rfl,a7 tD ⟨_,rfl,?_⟩;exists a,b,l,o,rfl,hT.keep s1,eP.keep s1,tL,h5,λx g H2 hx bF d6 fS s2=>?_;exists c,p,(-1),rfl,(ck.keep s2).tl,tL,⟨zs,z5,(zl.prod zo).of cU⟩,(λt _=>kZ tD tD),λy h H3 hy fU gg ma s3=>?_;exists x,y,g,h,rfl,bF.keep s3,fU,tL,⟨zs,z5,(K5.of (zl.app zo) d6).app (K5.of (((zl.prod zo).of cU).map _) gg)⟩,λz f H4 hz i9 il xX s4=>?_;exact q z f H4 (s1.free (s2.free (s3.free hz))) i9 (comb (-1) f g h tD rfl d6 gg il) (s1.trans (s2.trans (s3.trans s4)))
  ·refine vn ?_;exists _,rfl,aM tD ⟨_,rfl,?_⟩;exists a,b,l,o,rfl,hT.keep s1,eP.keep s1,tO,h5,λx g H2 hx bF d6 fS s2=>?_;exists c,p,(-2),rfl,(ck.keep s2).tl,tO,⟨zs,z5,(zl.prod zo).of cU⟩,(λt _=>kZ tD tD),λy h H3 hy fU gg ma s3=>?_;exists x,y,g,h,rfl,bF.keep s3,fU,tO,⟨zs,z5,(K5.of (zl.app zo) d6).app (K5.of (((zl.prod zo).of cU).map _) gg)⟩,λz f H4 hz i9 il xX s4=>?_;exact q z f H4 (s1.free (s2.free (s3.free hz))) i9 (comb (-2) f g h tD rfl d6 gg il) (s1.trans (s2.trans (s3.trans s4)))
def Yd(K:Frag):Sp:=λvs H Q _=>∃(b:Addr) (p:Sm) (w:Str) (fs:List aq) (ls:List Nat),vs=[.str w,.ref b]/\Xz p w fs/\p.ok (λk=>k∈ls)/\p.ln<=5/\ls.length<=5/\(∀x∈ls,x<16)/\U2 H b fs /\
 ∀(c:Addr) (f:aq) (H':Hp),H c=none->aG H' c f->aZ f p.tl->af H H'->Q (.ref c) H'
set_option tactic.hygienic true in
def MX(T:Txt w K mg):CK.Ok P w K mg base 5 (Yd K):=by
  refine T.d_Z13.k ?_;rintro vs H Q E ⟨b,p0,wo,fs,ls,rfl,hP,hok,ie,bb,cI,Qt,q⟩;refine wl fun hr hu nd=>⟨_,(ak (bW (bX aV (pV 0) aA) (ao (aB (aD T.d_Z62 (BL T) hr (aa (bG (aa (bx (aa ai (aa ai ag))) ag)) (aa (xL (pV 1) ai) ag))))) aN) (ak (aE 2 nd (aD T.d_Z66 (zeb T) hr.m (aa (xL (pV 1) ai) (aa (xL (pV 1) ai) ag)))) (ak (bW (bX qU (pV 2) iX) (ao (aB (aD T.d_Z25 (zch T) hr (aa (pV 0) (aa (xL (pV 1) ai) (aa (xL (pV 1) ai) ag)))))) aN) (ao gX)))),?_⟩
  have k5:∀{s:Sm}{f:aq},s.ok (λk=>k∈ls)->aZ f s.tl->K5 ls f/\f.length<2^s.ln/\(s.ln<=5->f.length<32):=fun {s f} h hF=>by
   have h1:=aZ.cnt hF;have h2:=wH s;exact⟨(rn h).of hF,tL,λz=>by have:=dB (show 2>0 by decide) z;lia⟩
  cases p0 with
  |bit _=>exact hP.elim
  |fix _=>exact hP.elim
  |no s0 =>
   obtain⟨rfl,l,rfl,hF⟩:=hP;have QT:s0.ln+1<=5:=ie;obtain⟨ps,hb,hQ⟩:=Qt;cases hQ with
   |cons cg r =>
   cases r;rename_i p;obtain⟨kl,_,ll⟩:=k5 (s:=s0) hok hF;have ll:=ll tL;refine vy ?_;exists bL,λt1 aY=>⟨de,λe1 gF=>?_⟩;have b1:af H (upd H t1 (.tup [.int 0,.int 1])):=af.upd aY;have b2:af (upd H t1 (.tup [.int 0,.int 1])) (upd (upd H t1 (.tup [.int 0,.int 1])) e1 (.lst [.ref t1])):=af.upd gF;have B:=b1.trans b2;exists _,aj.of (B _ _ hb),rfl,e1,p,[(0,1)],l,rfl,⟨[t1],ar,.cons (b2 _ _ ar) .nil⟩,cg.keep B,(by show 1+l.length<=100000;lia),⟨ls,bb,(zX 1).app kl⟩,λc f H2 hc bF zY hv2 fS s2=>?_;exact q c f H2 (B.free hc) bF (LJ hF zY hv2) (B.trans s2)
  |two w s0 t0 =>
   obtain⟨rfl,hw,l,o,rfl,yG,gZ⟩:=hP;obtain⟨_,nJ,m9⟩:=hok;have QT:s0.ln+t0.ln<=5:=ie;obtain⟨ps,hb,hQ⟩:=Qt;cases hQ with
   |cons cg r =>
   cases r with
   |cons oR r =>
   cases r;rename_i p r;obtain⟨kl,lz,ll⟩:=k5 nJ yG;obtain⟨ko,oz,lo⟩:=k5 m9 gZ;have ll:=ll tL;have lo:=lo tL;have kD:l.length*o.length<=32*32:=fM tL tL;obtain⟨_,_,n3⟩:=uM (w:=w);refine vN (by simpa using n3) ?_;exists _,aj.of hb,rfl,_,aj.of hb,rfl,p,r,l,o,16,rfl,cg,oR,kl.low cI,ko.low cI,tO,tO,tD,(λm k1 k2=>zaf lz oz QT (JF yG.toIsForm k1) (JF gZ.toIsForm k2)),?_;exists rfl,vy ?_;exists _,aj.of hb,rfl,_,aj.of hb,rfl,p,r,l,o,w,rfl,cg,oR,hw,tL,⟨ls,bb,kl.app ko⟩,(λt ht u hu=>lL (xQ nJ tO yG t ht) (xQ m9 tO gZ u hu)),λd f H2 hd bF d6 s2=>?_;exact q d f H2 hd bF (Rl yG gZ d6) s2
def zaZ(K:Frag)(d:Nat):Sp:=λvs H Q _=>∃(v:V) (s:Sm) (ls:List Nat),vs=[v]/\Is H v s.d/\s.ok (λk=>k∈ls)/\s.dp<d/\s.dp<=20/\ls.length<=5/\(∀x∈ls,x<16)/\s.ln<=5 /\
 ∀(b:Addr) (f:aq) (H':Hp),H b=none->aG H' b f->aZ f s.tl->af H H'->Q (.ref b) H'
set_option tactic.hygienic true in
def X2(T:Txt w K mg):DT.Ok P w K mg base 6 (zaZ K 22):=by
  refine T.d_Z11.k ?_;rintro vs H Q E ⟨v,s',ls,rfl,hI,hok,hd,hsz,bb,cf,ie,q⟩;refine wl fun hr hu nd=>⟨_,(ak (aE 1 nd (bG ag)) (ak (dR c8 rfl (zdq rfl T.n_reversed (aa (aD T.d_Z70 (K4 T) hr.m (aa (pV 0) ag)) ag)) (aI 2 nd) (ak (aE 3 nd (xT (pV 2) ai)) (ao (bW (bX aV (pV 3) aA) (ao (d5 (bO cy f7 fX fY (pV 1) (aa (bG (aa (bx (aa (aD T.d_Z4 (oZ T) hr.m (aa (xT (pV 2) ai) ag)) (aa ai ag))) ag)) ag)))) (ao (bW (bX aV (pV 3) aA) (ao (d5 (bO cy f7 fX fY (pV 1) (aa (aD T.d_Z65 (H9 T) hr.m (aa (bG (aa (bx (aa ai (aa (xT (pV 2) ai) ag))) ag)) ag)) ag)))) (ao (bW (bX aV (pV 3) aA) (ao (d5 (bO cy f7 fX fY (pV 1) (aa (aD T.d_Z13 (MX T) hr (aa (pV 3) (aa (bG (aa (gy cy kO kG kP (pV 1)) ag)) ag))) ag)))) (ak (aE 4 nd (gy cy kO kG kP (pV 1))) (ao (d5 (bO cy f7 fX fY (pV 1) (aa (aD T.d_Z13 (MX T) hr (aa (pV 3) (aa (bG (aa (gy cy kO kG kP (pV 1)) (aa (pV 4) ag))) ag))) ag))))))))))))) (ao (aB (xL (pV 1) ai))))),?_⟩
  exists bM _,λC hC=>?_;have s0:af H (upd H C (.lst [])):=af.upd hC;exists v,s',rfl,hI.keep s0,hsz,λD xs H1 hD hX hS s1=>⟨D,xs,rfl,aj.of hX,?_⟩;have Kb:eY H xs s'.pre:=Paired.mapP hS λx p e=>gS (λa ys z=>by
   by_cases y:a=C
   ·rw[y,ar]at z;cases z
   ·rw[aS y]at z;exact z) e
  have lT:D≠C:=λz=>by rw[z,ar]at hD;cases hD
  have oJ:xs.length=s'.sz:=by rw[<-Sm.pre_len];exact eV Kb
  have vQ:=Qe hsz;refine zd5 (K:=K) (a:=D) (xs:=xs) (λi σ G=>∃(qs:List Addr) (fl:List aq) (st:List Sm) (v2 v3 v4:Option V),σ=[some v,some (.ref C),v2,v3,v4]/\G C=some (.lst (qs.map V.ref))/\dP G qs fl/\Paired A7 st fl/\r6 [s'] st (s'.pre.reverse.drop i)/\st.length<=i/\(∀p∈qs,H p=none/\p≠C)/\G D=some (.lst xs)/\af H G)
   ⟨[],[],[],none,none,none,rfl,s1 _ _ ar,.nil,.nil,(by have:=yL (fin:=[s']) s' [] [] rfl;rwa [iD]at this),aT _,(λp hp=>by cases hp),hX,s0.trans s1⟩
   (by rintro i σ G _ ⟨_,_,_,_,_,_,_,_,_,_,_,_,_,e,_⟩;exact aj.of e) ?_ ?_
  ·rintro i y σ G hi ⟨qs,fl,st,v2,v3,v4,rfl,g1,g2,g3,g4,g5,g6,g7,sG⟩;obtain⟨p,dZ,cg⟩:=Kb.rev.at hi;have xR:=Sm.pre_ok hok p (Oa.mp (cM dZ));have mS:=aX (Sm.ln_pre (Oa.mp (cM dZ))) ie;have gD:i<s'.sz:=by grind
   have GQ:s'.pre.reverse.drop i=p::s'.pre.reverse.drop (i+1):=by
    obtain⟨h1,h2⟩:=dO.mp dZ;rw[qS h1,h2]
   rw[GQ]at g4;obtain⟨dE,hN,hR⟩:=g4;have hql:=g2.length;have jV:st.length=fl.length:=eV g3;have put:∀{G2:Hp}{e:Addr}{f:aq}{qa:List Addr}{fa:List aq}{sa:List Sm},G2 C=some (.lst (qa.map V.ref))->dP G2 qa fa->Paired A7 sa fa->(∀p∈qa,H p=none/\p≠C)->G2 D=some (.lst xs)->af H G2->sa.length<=i->H e=none->e≠C->aG G2 e f->A7 p f->dE=sa++[p]->∀v2 v3 v4:Option V,
     (∃(qs:List Addr) (fl:List aq) (st:List Sm) (Ym v3' DG:Option V),[some v,some (.ref C),v2,v3,v4]=[some v,some (V.ref C),Ym,v3',DG]/\upd G2 C (.lst (qa.map V.ref++[.ref e])) C=some (.lst (qs.map V.ref))/\dP (upd G2 C (.lst (qa.map V.ref++[.ref e]))) qs fl/\Paired A7 st fl/\r6 [s'] st (s'.pre.reverse.drop (i+1))/\st.length<=i+1/\(∀p∈qs,H p=none/\p≠C)/\upd G2 C (.lst (qa.map V.ref++[.ref e])) D=some (.lst xs)/\af H (upd G2 C (.lst (qa.map V.ref++[.ref e])))):=by
    intro G2 e f qa fa sa h1 h2 h3 h4 h5 h6 h6b h7 h8 h9 xa P4 v2 v3 v4;exists qa++[e],fa++[f],sa++[p],v2,v3,v4,rfl,(by rw[ar,aQ];rfl),?_,qO h3 xa,(by simp_all),(by simp_all),λp' g0=>?_,(by rw[aS lT];exact h5),h6.write hC
    ·refine dP.keepU h1 (dP.snoc h2 h9) λz=>?_
     rcases bA.mp z with y|y
     ·exact (h4 C y).2 rfl
     ·exact h8 (bw.mp y).symm
    ·rcases bA.mp g0 with y|y
     ·exact h4 p' y
     ·rw[bw.mp y];nomatch h7,h8
   cases p with
   |bit k =>
    obtain⟨p,rfl,hp⟩:=qu (cg.keep sG);have gN:=cf k xR;exists _,az.of hp,rfl,?_;refine vy ?_;exists .inl ⟨rfl,_,aj.of g1⟩,_,az.of hp,rfl,k,rfl,tL,bL,λt1 aY=>⟨de,λe1 gF=>?_⟩;have b1:af G (upd G t1 (.tup [.int (2^k),.int 1])):=af.upd aY;have b2:af (upd G t1 (.tup [.int (2^k),.int 1])) (upd (upd G t1 (.tup [.int (2^k),.int 1])) e1 (.lst [.ref t1])):=af.upd gF;have B:=b1.trans b2;nomatch _,B _ _ g1,rQ (by rw[ax];lia),put (B _ _ g1) (g2.keep B) g3 g6 (B _ _ g7) (sG.trans B) g5 (sG.free (b1.free gF)) (wC g1 (b1.free gF)) ⟨[t1],ar,.cons (b2 _ _ ar) .nil⟩ (CW tD) hN _ _ _
   |fix c =>
    obtain⟨p,rfl,hp⟩:=qj (cg.keep sG);exists _,az.of hp,rfl,?_;refine vn ?_;refine vy ?_;exists .inl ⟨rfl,_,aj.of g1⟩,_,az.of hp,rfl,bL,λt1 aY=>⟨de,λe1 gF=>?_⟩;have b1:af G (upd G t1 (.tup [.int 0,.int c])):=af.upd aY;have b2:af (upd G t1 (.tup [.int 0,.int c])) (upd (upd G t1 (.tup [.int 0,.int c])) e1 (.lst [.ref t1])):=af.upd gF;have eT:aG (upd (upd G t1 (.tup [.int 0,.int c])) e1 (.lst [.ref t1])) e1 [(0,c)]:=⟨[t1],ar,.cons (b2 _ _ ar) .nil⟩;exists e1,[(0,c)],rfl,eT.tl,(by simp),⟨ls,bb,λt ht=>by rw[bw.mp ht];exact⟨PM _,λj hj=>by simp at hj⟩⟩,λb f H2 hb bF d6 fS s2=>?_;have B:=(b1.trans b2).trans s2;nomatch _,B _ _ g1,rQ (by rw[ax];lia),put (B _ _ g1) (g2.keep B) g3 g6 (B _ _ g7) (sG.trans B) g5 (sG.free ((b1.trans b2).free hb)) (wC g1 ((b1.trans b2).free hb)) bF d6 hN _ _ _
   |no s1 =>
    obtain⟨sa,rfl,rfl⟩:=hN;obtain⟨fa,fb,rfl,a1,a2⟩:=G9 g3;cases a2 with
    |cons xb a3 =>
    cases a3;rename_i f1;obtain⟨qa,qb,rfl,c1,c2⟩:=xN (m:=fa) g2;cases c2 with
    |cons GJ c3 =>
    cases c3;rename_i b1;obtain⟨p,x,rfl,hp,hx⟩:=ow (cg.keep sG);exists _,az.of hp,rfl,?_;refine vn ?_;refine vn ?_;refine vy ?_;have Es:((qa++[b1]).map V.ref)[((qa++[b1]).map V.ref).length-1]?=some (V.ref b1):=by simp
    exists .inl ⟨rfl,_,aj.of g1⟩,.inl ⟨rfl,_,aj.of g1⟩,C,_,.ref b1,rfl,rfl,g1,Es,?_;have w1:upd G C (.lst ((qa++[b1]).map V.ref).dropLast) C=some (.lst (qa.map V.ref)):=by rw[ar,aQ];exact congrArg (λz=>some (HO.lst z)) sA
    have w2:dP (upd G C (.lst ((qa++[b1]).map V.ref).dropLast)) (qa++[b1]) (fa++[f1]):=dP.keepU g1 g2 λz=>(g6 C z).2 rfl
    have w3:upd G C (.lst ((qa++[b1]).map V.ref).dropLast) D=some (.lst xs):=by rw[aS lT];exact g7
    have jr:=sG.write (o:=.lst ((qa++[b1]).map V.ref).dropLast) hC;generalize upd G C (.lst ((qa++[b1]).map V.ref).dropLast)=G1 at w1 w2 w3 jr ⊢;obtain⟨x1,x2,ex,w4,w5⟩:=xN (m:=fa) w2;obtain⟨rfl,Io⟩:=MS ex (by rw[eV c1,eV w4]);subst Io;cases w5 with
    |cons fj w6 =>
    exists de,λe he=>?_;have k1:af G1 (upd G1 e (.lst [.ref b1])):=af.upd he;exists e,.no s1,_,[f1],ls,rfl,⟨rfl,f1,rfl,xb⟩,xR,mS,bb,cf,⟨[b1],ar,.cons (fj.keep k1) .nil⟩,λc f H6 hc hT hF s6=>?_;have B:=k1.trans s6;nomatch _,B _ _ w1,rQ (by rw[ax,eV w4,<-eV a1];rw[bh]at g5;lia),put (B _ _ w1) (dP.keep w4 B) a1 (λp hp=>g6 p (mz _ hp)) (B _ _ w3) (jr.trans B) (by rw[bh]at g5;lia) (jr.free (k1.free hc)) (wC w1 (k1.free hc)) hT hF rfl _ _ _
   |two j s1 s2 =>
    obtain⟨sa,rfl,rfl⟩:=hN;obtain⟨lU,nJ,m9⟩:=xR;obtain⟨fa,fb,rfl,a1,a2⟩:=G9 g3;cases a2 with
    |cons xb a3 =>
    cases a3 with
    |cons ZJ a4 =>
    cases a4;rename_i f1 f2;obtain⟨qa,qb,rfl,c1,c2⟩:=xN (m:=fa) g2;cases c2 with
    |cons GJ c3 =>
    cases c3 with
    |cons hq2 c4 =>
    cases c4;rename_i b1 b2;obtain⟨p,x,z,rfl,hp,hx,hz⟩:=oh (cg.keep sG);obtain⟨n1,n2,n3⟩:=uM (w:=j);exists _,az.of hp,rfl,?_;refine vN (by simpa using n1) ?_;refine vN (by simpa using n2) ?_;refine vN (by simpa using n3) ?_;have Es:((qa++[b1,b2]).map V.ref)[((qa++[b1,b2]).map V.ref).length-1]?=some (V.ref b2):=by simp
    exists .inl ⟨rfl,_,aj.of g1⟩,C,_,.ref b2,rfl,rfl,g1,Es,?_;have ed:((qa++[b1,b2]).map V.ref).dropLast=(qa++[b1]).map V.ref:=by rw[aQ,aQ];exact List.dropLast_append_cons
    have w1:upd G C (.lst ((qa++[b1,b2]).map V.ref).dropLast) C=some (.lst ((qa++[b1]).map V.ref)):=by rw[ar,ed]
    have w2:dP (upd G C (.lst ((qa++[b1,b2]).map V.ref).dropLast)) (qa++[b1,b2]) (fa++[f1,f2]):=dP.keepU g1 g2 λz=>(g6 C z).2 rfl
    have w3:upd G C (.lst ((qa++[b1,b2]).map V.ref).dropLast) D=some (.lst xs):=by rw[aS lT];exact g7
    have jr:=sG.write (o:=.lst ((qa++[b1,b2]).map V.ref).dropLast) hC;generalize upd G C (.lst ((qa++[b1,b2]).map V.ref).dropLast)=G1 at w1 w2 w3 jr ⊢;have hlast2:((qa++[b1]).map V.ref)[((qa++[b1]).map V.ref).length-1]?=some (V.ref b1):=by simp
    exists .inl ⟨rfl,_,aj.of w1⟩,.inl ⟨rfl,_,aj.of w1⟩,C,_,.ref b1,rfl,rfl,w1,hlast2,?_;have y1:upd G1 C (.lst ((qa++[b1]).map V.ref).dropLast) C=some (.lst (qa.map V.ref)):=by rw[ar,aQ];exact congrArg (λz=>some (HO.lst z)) sA
    have y2:dP (upd G1 C (.lst ((qa++[b1]).map V.ref).dropLast)) (qa++[b1,b2]) (fa++[f1,f2]):=dP.keepU w1 w2 λz=>(g6 C z).2 rfl
    have y3:upd G1 C (.lst ((qa++[b1]).map V.ref).dropLast) D=some (.lst xs):=by rw[aS lT];exact w3
    have gc:=jr.write (o:=.lst ((qa++[b1]).map V.ref).dropLast) hC;generalize upd G1 C (.lst ((qa++[b1]).map V.ref).dropLast)=G2 at y1 y2 y3 gc ⊢;obtain⟨x1,x2,ex,w4,w5⟩:=xN (m:=fa) y2;obtain⟨rfl,Io⟩:=MS ex (by rw[eV c1,eV w4]);subst Io;cases w5 with
    |cons fj w6 =>
    cases w6 with
    |cons ik w7 =>
    exists bL,λe he=>?_;have k1:af G2 (upd G2 e (.lst [.ref b1,.ref b2])):=af.upd he;exists e,.two j s1 s2,_,[f1,f2],ls,rfl,⟨rfl,lU,f1,f2,rfl,xb,ZJ⟩,⟨lU,nJ,m9⟩,mS,bb,cf,⟨[b1,b2],ar,.cons (fj.keep k1) (.cons (ik.keep k1) .nil)⟩,λc f H6 hc hT hF s6=>?_;have B:=k1.trans s6;nomatch _,B _ _ y1,rQ (by rw[ax,eV w4,<-eV a1];rw[bh]at g5;lia),put (B _ _ y1) (dP.keep w4 B) a1 (λp hp=>g6 p (mz _ hp)) (B _ _ y3) (gc.trans B) (by rw[bh]at g5;lia) (gc.free (k1.free hc)) (wC y1 (k1.free hc)) hT hF rfl _ _ _
  ·rintro σ G ⟨qs,fl,st,v2,v3,v4,rfl,g1,g2,g3,g4,g5,g6,g7,sG⟩;have e:s'.pre.reverse.drop xs.length=[]:=by rw[oJ,<-Sm.pre_len];exact SR (by simp)
   rw[e]at g4;have e2:st=[s']:=g4;subst e2;cases g3 with
   |cons xb a3 =>
   cases a3;cases g2 with
   |cons GJ c3 =>
   cases c3;rename_i f1 b1;nomatch _,aj.of g1,rfl,q b1 f1 G (g6 b1 tS).1 GJ xb sG
def zc4:Sp:=λvs H Q _=>∃(v:V) (s:Sm) (ls:List Nat),vs=[v]/\Is H v s.d/\s.ok (λk=>k∈ls)/\s.dp<=20/\ls.length<=20/\∀(e:Addr) (ks:List Int) (H':Hp),H' e=some (.lst (ks.map V.int))->ks.length<=ls.length->af H H'->Q (.ref e) H'
set_option tactic.hygienic true in
def vD{kvs:List (cu×V)}{ks:List Int}(h:kvs.map (·.1)=ks.map Sum.inl)(k:Int)(v:V):∃jl:List Int,(d8 kvs (Sum.inl k) v).map (·.1)=jl.map Sum.inl/\(ks.Nodup->jl.Nodup)/\∀x∈jl,x∈ks\/x=k:=by
 unfold d8;split
 ·exists ks,?_,id,λx hx=>.inl hx;rw[fk,<-h];refine qi λp _=>?_
  show (if p.1=Sum.inl k then (p.1,v)else p).1=p.1;split<;>rfl
 ·rename_i hn;exists ks++[k],by rw[aQ,aQ,h];rfl,λnd=>?_,λx hx=>?_
  ·refine Rx nd λhk=>hn ?_
   have:(Sum.inl k:cu)∈kvs.map (·.1):=by simp_all
   obtain⟨p,hp,e⟩:=bp.mp this;exact vF.mpr ⟨p,hp,aU e⟩
  ·rcases bA.mp hx with y|y
   ·exact .inl y
   ·exact .inr (bw.mp y)
def zd6(T:Txt w K mg):DY.Ok P w K mg base 2 zc4:=by
  refine T.d_Z1.k ?_;rintro vs H Q E ⟨v,s',ls,rfl,hI,hok,hsz,CB,q⟩;refine wl fun hr hu nd=>⟨_,(ak (aE 1 nd rY) (ak (dR c8 rfl (cH (aD T.d_Z70 (K4 T) hr (aa (pV 0) ag))) (aI 2 nd) (ao (bW (bX aV (xT (pV 2) ai) aA) (ao (rP hu (pV 1) (xT (pV 2) ai) p7 rfl)) aN))) (ao (aB (bq (Bd rfl) (by rfl) T.n_sorted xK (aa (pV 1) ag)))))),?_⟩
  intro d hd;have s0:af H (upd H d (.dK [])):=af.upd hd;exists v,s',rfl,hI.keep s0,hsz,λD xs H1 hD hX hS s1=>⟨⟨_,aj.of hX⟩,?_⟩;have tJ:=s1 _ _ ar;have V7:D≠d:=λz=>by simp_all
  refine jo (K:=K) (a:=D) (xs:=xs) (λi σ G=>∃(kvs:List (cu×V)) (ks:List Int) (v2:Option V),σ=[some v,some (.ref d),v2]/\G d=some (.dK kvs)/\kvs.map (·.1)=ks.map Sum.inl/\ks.Nodup/\(∀k∈ks,k∈ls.map λj:Nat=>(j:Int))/\bu d H1 G)
   ⟨[],[],none,rfl,tJ,rfl,zt,(λk hk=>by cases hk),bu.refl _ _⟩ (by rintro i σ G _ ⟨_,_,_,_,_,_,_,_,e⟩;exact aj.of (e _ _ V7 hX)) ?_ ?_
  ·rintro i y σ G hi ⟨kvs,ks,v2,rfl,g1,g2,g3,g4,g5⟩;obtain⟨p,dZ,cg⟩:=hS.at hi;have xR:=Sm.pre_ok hok p (cM dZ);have ia:ks.length<=ls.length:=by
    have:=pP g3 g4
    rw[ax]at this;exact this
   have hkv:kvs.length=ks.length:=by have:=congrArg List.length g2;simpa using this
   have BU:=gS (λa ys z=>g5 _ _ (λw=>by simp_all) z) (cg.keep s1);cases p with
   |bit k =>
    obtain⟨pp,rfl,hp⟩:=qu BU;exists _,az.of hp,rfl,vy ?_;obtain⟨jl,k1,k2,k3⟩:=vD g2 (k:Int) (.bl true);exists _,az.of hp,rfl,d,_,rfl,lH.k (k:=Sum.inl (k:Int)) g1 (bD tL),?_;exists _,jl,_,rfl,ar,k1,k2 g3,λx hx=>?_,g5.trans bu.upd;rcases k3 x hx with y|y
    ·exact g4 x y
    ·rw[y];exact bp.mpr ⟨k,xR,rfl⟩
   |fix c =>
    obtain⟨pp,rfl,hp⟩:=qj BU;exists _,az.of hp,rfl,vn ?_;nomatch _,_,_,rfl,g1,g2,g3,g4,g5
   |no s1 =>
    obtain⟨pp,x,rfl,hp,_⟩:=ow BU;exists _,az.of hp,rfl,vn ?_;nomatch _,_,_,rfl,g1,g2,g3,g4,g5
   |two j s1 s2 =>
    obtain⟨pp,x,z,rfl,hp,_,_⟩:=oh BU;obtain⟨n1,_,_⟩:=uM (w:=j);exists _,az.of hp,rfl,vN (by simpa using n1) ?_;nomatch _,_,_,rfl,g1,g2,g3,g4,g5
  ·rintro σ G ⟨kvs,ks,v2,rfl,g1,g2,g3,g4,g5⟩;have ia:ks.length<=ls.length:=by
    have:=pP g3 g4
    rw[ax]at this;exact this
   exists d,_,ks,rfl,g1,g2,tL,λe jl he dW om=>?_;have sG:=bu.same (s0.trans s1) g5 hd;exact q e jl _ ar (by rw[dW.length_eq];exact ia) (sG.trans (af.upd he))
def VQ(K:Frag):Sp:=λvs H Q _=>∃(s:Sm) (ls:List Nat),vs=[.str (S (bY s))]/\s.ok (λk=>k∈ls)/\s.ln<=5/\ls.length<=5/\(∀x∈ls,x<16) /\
 ∀(b:Addr) (f:aq) (H':Hp),H b=none->aG H' b f->aZ f s.tl->af H H'->Q (.ref b) H'
def WC(T:Txt w K mg):DB.Ok P w K mg base 7 (VQ K):=by
  refine T.d_Z12.k ?_;rintro vs H Q E ⟨s0,ls,rfl,hok,ie,bb,cf,q⟩;refine wl fun hr hu nd=>⟨_,(ak (aE 1 nd (aD T.d_Z73 (X1 T) hr.m (aa (pV 0) ag))) (ak (a9 (aR jI.j (bq fO (by rfl) T.n_len dC (aa (aD T.d_Z1 (zd6 T) hr.m (aa (pV 1) ag)) ag)) ai) (ao gX) aN)
   (ao (aB (aD T.d_Z11 (X2 T) hr (aa (pV 1) ag)))))),?_⟩
  have zv:=tZ s0;have nq:=si s0;have vT:=tU hok;exists s0,rfl,Sm.ok.imp (λk hk=>cf k hk) hok,tL,λv H1 hI pB=>?_;exists v,s0,ls,rfl,hI,hok,tL,tL,λe ks H2 he ia s2=>⟨e,_,rfl,.inl (aj.of he),_,rfl,?_⟩;refine aM (λy=>by have:=bP y;rw[ax]at this;lia) ?_;nomatch v,s0,ls,rfl,hI.keep s2,hok,tL,tL,bb,cf,ie,λb f H3 hb hT hF s3=>q b f H3 (pB.free (s2.free hb)) hT hF (pB.trans (s2.trans s3))
def Y6(K:Frag):Sp:=λvs H Q _=>∃(a:Addr) (l:aq) (k:Nat),vs=[.ref a,.int (2^k)]/\TL K H a l/\(∀t∈l,0<=t.1)/\l.length<=100000 /\
 ∀(c:Addr) (H':Hp),H c=none->aG H' c (gm k l)->af H H'->Q (.ref c) H'
def Rr:(["members","number","bit"]:List Str).Nodup:=by decide+kernel
def Ct(T:Txt w K mg):Ah.Ok P w K mg base 1 (Y6 K):=by
  refine T.d_Z97.k ?_;rintro vs H Q E ⟨a,l,k,rfl,hT,h0,aK,q⟩;refine wl fun hr hu nd=>⟨_,(ao (aB (du (g:=(eI K 2 (bT (aW 0) (bT (aW 1) e7)))) ["members", "number", "bit"] 2 [1] rfl (cL Ah) (cH (pV 0)) (λa b c d e=>(ft (n:=2) rfl (b9 (aI 0 Rr) (b9 (aI 1 Rr) fB)))) (λa b c d e=>(gH (aR aV (ay su.j (pV 0) (pV 2)) ai))) (λa b c d e=>(bx (aa (pV 0) (aa (pV 1) ag))))))),?_⟩
  exists hT.seq,?_;refine tX (λt => !eO k t) (λt=>t) hT tO [some (.int (2^k))] rfl (λt ht H2 R s2 r=>?_) (λt ht hp H2 R s2 r=>?_) λD ys H2 hD ck s1=>?_
  ·exists _,rfl,?_;rw[GD (h0 t ht)];exact r
  ·nomatch bL,r
  ·exact q D _ hD (by rw[wk]at ck;exact ck) s1
def zdI(K:Frag):Sp:=λvs H Q _=>∃(a:Addr) (l:aq) (k:Nat),vs=[.ref a,.int (2^k)]/\TL K H a l/\(∀t∈l,0<=t.1)/\l.length<=100000 /\
 ∀(c:Addr) (H':Hp),H c=none->aG H' c (eF k l)->af H H'->Q (.ref c) H'
def LB:(["members","number","bit"]:List Str).Nodup:=by decide+kernel
def SI(T:Txt w K mg):zB.Ok P w K mg base 1 (zdI K):=by
  refine T.d_Z16.k ?_;rintro vs H Q E ⟨a,l,k,rfl,hT,h0,aK,q⟩;refine wl fun hr hu nd=>⟨_,(ao (aB (du (g:=(eI K 2 (bT (aW 0) (bT (aW 1) e7)))) ["members", "number", "bit"] 2 [1] rfl (cL zB) (cH (pV 0)) (λa b c d e=>(ft (n:=2) rfl (b9 (aI 0 LB) (b9 (aI 1 LB) fB)))) (λa b c d e=>(gH (aR ke (ay su.j (pV 0) (pV 2)) ai))) (λa b c d e=>(bx (aa (ay iW.j (pV 0) (pV 2)) (aa (pV 1) ag))))))),?_⟩
  exists hT.seq,?_;refine tX (λt=>eO k t) (λt=>(t.1-2^k,t.2)) hT tO [some (.int (2^k))] rfl (λt ht H2 R s2 r=>?_) (λt ht hp H2 R s2 r=>?_) λD ys H2 hD ck s1=>?_
  ·exists _,rfl,?_;rw[GD (h0 t ht),Bool.not_not];exact r
  ·nomatch bL,r
  ·exact q D _ hD ck s1
def zef(K:Frag):Sp:=λvs H Q _=>∃(a:Addr) (l:aq) (k:Nat) (b:Int),vs=[.ref a,.int (k:Int),.int b]/\aG H a l/\IsForm l/\(∀t∈l,0<=t.1)/\l.length<=100000/\eQ l/\k<=100/\(b=0\/b=1) /\
 ∀(c:Addr) (f:aq) (H':Hp),H c=none->aG H' c f->aZ f (iG k b l)->f.length<=l.length->af H H'->Q (.ref c) H'
def EX(T:Txt w K mg):D8.Ok P w K mg base 4 (zef K):=by
  refine T.d_Z7.k ?_;rintro vs H Q E ⟨a,l,k,b,rfl,hT,hF,h0,aK,h5,hk,hb,q⟩;refine wl fun hr hu nd=>⟨_,(ak (aE 3 nd (aD T.d_Z4 (oZ T) hr.m (aa (pV 1) ag))) (ak (a9 (aR aV (pV 2) ai) (ao (aB (aD T.d_Z97 (Ct T) hr.m (aa (pV 0) (aa (pV 3) ag))))) aN) (ao (aB (aD T.d_Z71 (tu T) hr (aa (aD T.d_Z97 (Ct T) hr.m (aa (pV 0) (aa (pV 3) ag))) (aa (aD T.d_Z16 (SI T) hr.m (aa (pV 0) (aa (pV 3) ag))) ag))))))),?_⟩
  exists k,rfl,hk,?_;exists _,rfl,?_;rcases hb with rfl|rfl
  ·refine a7 tD ?_;exists a,l,k,rfl,hT.tl,h0,aK,λc H' hc kj s'=>?_;refine q c _ H' hc kj ?_ (xJ k l) s'
   have:=aZ.self (hF.filter λt => !eO k t)
   unfold iG;rw[aC rfl,iD];exact this
  ·refine aM tD ?_;exists a,l,k,rfl,hT.tl,h0,aK,λc H1 hc ck s1=>?_;exists a,l,k,rfl,(hT.keep s1).tl,h0,aK,λd H2 hd bF s2=>?_;have e:=QZ k l;exists c,d,gm k l,eF k l,rfl,ck.keep s2,bF,tL,(let ⟨ls,z5,z⟩:=h5; ⟨ls,z5,(z.out k).app (z.off k)⟩),λx f H3 hx fU gg ma s3=>?_;refine q x f H3 (s1.free (s2.free hx)) fU ?_ tL (s1.trans (s2.trans s3));unfold iG;rw[av tD];exact gg
def Yw(K:Frag):Sp:=λvs H Q _=>∃(a b:Addr) (l o:aq) (k:Nat),vs=[.ref a,.int (k:Int),.ref b]/\aG H a l/\aG H b o/\(∀t∈l,0<=t.1)/\l.length+l.length*o.length<=100000/\l.length<=100000/\eQ (l++o)/\k<=100/\(∀t∈l,∀u∈o,IntMulOk t.2 u.2) /\
 ∀(c:Addr) (f:aq) (H':Hp),H c=none->aG H' c f->aZ f (qm k o l)->f.length<=l.length+l.length*o.length->af H H'->Q (.ref c) H'
def Yg(T:Txt w K mg):IQ.Ok P w K mg base 4 (Yw K):=by
  refine T.d_Z72.k ?_;rintro vs H Q E ⟨a,b,l,o,k,rfl,hT,eP,h0,aK,uL,h5,hk,er,q⟩;refine wl fun hr hu nd=>⟨_,(ak (aE 3 nd (aD T.d_Z4 (oZ T) hr.m (aa (pV 1) ag))) (ao (aB (aD T.d_Z71 (tu T) hr (aa (aD T.d_Z97 (Ct T) hr.m (aa (pV 0) (aa (pV 3) ag))) (aa (aD T.d_Z85 (zW T) hr.m (aa (aD T.d_Z16 (SI T) hr.m (aa (pV 0) (aa (pV 3) ag))) (aa (pV 2) ag))) ag)))))),?_⟩
  obtain⟨zs,z5,zz⟩:=h5;have zl:K5 zs l:=λt ht=>zz t (mz _ ht)
  have zo:K5 zs o:=λt ht=>zz t (f9 _ ht)
  have n1:=xJ k l;have n2:=yx k l;have n3:(eF k l).length*o.length<=l.length*o.length:=pK _ n2;exists k,rfl,hk,?_;exists a,l,k,rfl,hT.tl,h0,uL,λc H1 hc ck s1=>?_;exists a,l,k,rfl,(hT.keep s1).tl,h0,uL,λd H2 hd bF s2=>?_;exists d,b,eF k l,o,rfl,bF.tl,((eP.keep s1).keep s2).tl,tL,⟨zs,z5,(zl.off k).prod zo⟩,(λt ht u hu=>?_),λe g H3 he fU gg ma s3=>?_
  ·obtain⟨_,v,hv,e,_⟩:=ui h0 ht;rw[e];exact er v hv u hu
  exists c,e,gm k l,g,rfl,(ck.keep s2).keep s3,fU,tL,⟨zs,z5,(zl.out k).app (((zl.off k).prod zo).of gg)⟩,λx f H4 hx i9 il xX s4=>?_;refine q x f H4 (s1.free (s2.free (s3.free hx))) i9 ⟨il.toIsForm,λj=>?_,λt ht=>?_⟩ tL (s1.trans (s2.trans (s3.trans s4)))
  ·rw[il.val,cG,gg.val];unfold qm;rw[cG]
  ·have:=il.src t ht
   unfold qm;rw[aQ,bA]at this ⊢;rcases this with z|z
   ·exact .inl z
   ·obtain⟨u,hu,e⟩:=bp.mp z;rw[<-e];exact .inr (gg.src u hu)
def zam(K:Frag):Sp:=λvs H Q _=>∃(a:Addr) (l:aq),vs=[.ref a]/\aG H a l/\l.length*l.length<=100000/\eQ l/\(∀t∈l,∀u∈l,IntMulOk t.2 u.2) /\
 ∀(f:aq) (H':Hp),aZ f (bK l l)->af H H'->Q (.bl (decide (f=l))) H'
def Ys(T:Txt w K mg):GP.Ok P w K mg base 3 (zam K):=by
  refine T.d_Z24.k ?_;rintro vs H Q E ⟨a,l,rfl,hT,aK,h5,er,q⟩;refine wl λhr hu nd=>⟨_,(ao (aB (jA (BN (pz hr)) (aD T.d_Z85 (zW T) hr (aa (pV 0) (aa (pV 0) ag))) (pV 0)))),?_⟩
  exists a,a,l,l,rfl,hT.tl,hT.tl,aK,(let ⟨ls,z5,z⟩:=h5; ⟨ls,z5,z.prod z⟩),er,λc f H1 hc ck cU dI s1=>?_;exists dF f,dF l,ck.is,(hT.keep s1).is,aX (Cp f) tD,?_;rw[Ti];exact q f H1 cU s1
def zcm(NY:Addr):Sp:=λvs H Q E=>∃(a:Addr) (l:aq),vs=[.ref a]/\aG H a l/\l.length*l.length<=100000/\eQ l/\(∀t∈l,∀u∈l,IntMulOk t.2 u.2)/\(∀H',af H H'->pM l->Q (.ref a) H')/\(∀H',af H H'->¬pM l->E (.ref NY) none H')
def Rp(T:Txt w K mg):IS.OkE P w K mg base 4 (zcm eR):=by
  refine T.d_Z99.e ?_;rintro vs H Q E ⟨a,l,rfl,hT,aK,h5,er,q,e⟩;refine wl fun hr hu nd=>⟨_,(ak (a9 (nK (j3 (aD T.d_Z24 (Ys T) hr (aa (pV 0) ag)))) (ao (C7 iT rfl (by rfl) T.g_NoYesNo T.x_NoYesNo)) aN)
   (ao (PS.nox (aB (pV 0))))),?_⟩
  exists a,l,rfl,hT,aK,h5,er,λf H1 hF s1=>⟨_,rfl,?_⟩;by_cases z:f=l
  ·refine aM (by simp_all) ?_;exact q H1 s1 ⟨f,hF,z⟩
  ·refine a7 (by simp_all) ?_;refine e H1 s1 λ⟨g,hg,eg⟩=>z ?_
   rw[<-eg];exact aZ.unique hF (eg ▸ hg) λk=>rfl
def Ve(K:Frag)(C NN NY:Addr):Sp:=λvs H Q E=>∃(p d t:Addr) (st:eK) (c:bI) (ls:List Nat),vs=[.ref p,.str c.wd,.ref t]/\H t=some (.lst c.th)/\kE C H p d st/\ls.length<=5/\(∀x∈ls,x<16)/\(∀nf∈st,dh ls nf.2)/\zQ ls c /\
 (∀H',iE ls st c .name->af H H'->E (.ref NN) none H')/\(∀H',iE ls st c .yesno->af H H'->E (.ref NY) none H')/\(∀f b H',iE ls st c (.form f)->H b=none->aG H' b f->af H H'->Q (.ref b) H')
def zeQ(T:Txt w K mg):Iv.OkE P w K mg base 8 (Ve K gq eJ eR):=by
  refine Rw.okE T.d_Desk_form_for.F T.d_Desk_form_for.S ?_;rintro vs H Q E ⟨p,d,t,st,c,ls,rfl,ht,hD,bb,cf,a8,hok,qn,qy,q⟩;refine wl fun hr hu nd=>⟨_,(ak (PS.nox (bW (bX aV (pV 1) aA) (ao (aB (aD T.d_Z14 (zcr T) hr.m (aa (xL (pV 2) ai) ag)))) aN)) (ak (PS.nox (bW (bX aV (pV 1) aA) (ao (aB (aD T.d_Z12 (WC T) hr (aa (xL (pV 2) ai) ag)))) aN)) (ak (aE 3 nd (qv (pV 0) T.cl_Desk T.d_Desk_kept.m (sM T) hr.m T.d_Desk_kept.b .nil (jR iT) (aa (xL (pV 2) ai) ag))) (ak (PS.nox (bW (bX aV (pV 1) aA) (ao (aB (aD T.d_Z7 (EX T) hr.m (aa (pV 3) (aa (xL (pV 2) ai) (aa (xL (pV 2) ai) ag)))))) aN)) (ak (bW (bX aV (pV 1) aA) (ao (aB (aD T.d_Z72 (Yg T) hr.m (aa (pV 3) (aa (xL (pV 2) ai) (aa (uT (Rp T) hr.m (by rfl) T.d_Z99.m T.d_Z99.F.kp T.d_Z99.b .nil (jR iT) (aa (qv (pV 0) T.cl_Desk T.d_Desk_kept.m (sM T) hr.m T.d_Desk_kept.b .nil (jR iT) (aa (xL (pV 2) ai) ag)) ag)) ag)))))) aN)
   (ao (aB (aD T.d_Z3 (VG T) hr.m (aa (pV 1) (aa (pV 3) (aa (qv (pV 0) T.cl_Desk T.d_Desk_kept.m (sM T) hr.m T.d_Desk_kept.b .nil (jR iT) (aa (xL (pV 2) ai) ag)) ag))))))))))),?_⟩
  obtain⟨⟨dx,ho⟩,_⟩:=id hD;cases c with
  |form n tx =>
   have ew:(bI.form n tx).wd=ofString "=" := rfl;refine vY (by rw[ew];decide) ?_;obtain⟨k1,k2,k3⟩:=hok;exists _,aj.of ht,bc (j:=0) rfl,tx,rfl,k1,k2,λf hf b H1 hb hT s1=>?_,λhf=>?_
   ·exact q f b H1 ⟨f,rfl,hf⟩ hb hT s1
   ·rw[hf]at k3;cases k3
  |stat n s0 =>
   have ew:(bI.stat n s0).wd=ofString ":=" := rfl;obtain⟨k1,k2⟩:=hok;refine vN (by rw[ew];decide) ?_;refine vY (by rw[ew];decide) ?_;exists _,aj.of ht,bc (j:=0) rfl,s0,ls,rfl,k1,k2,bb,cf,λb f H1 hb hT hF s1=>?_;exact q f b H1 ⟨f,rfl,hF⟩ hb hT s1
  |fixd n a k b =>
   have ew:(bI.fixd n a k b).wd=ofString "fixed" := rfl;obtain⟨k1,k2⟩:=hok;refine vN (by rw[ew];decide) ?_;refine vN (by rw[ew];decide) ?_;exists p,dx,_,rfl,ho,jz d tE,_,aj.of ht,bc (j:=0) rfl,p,d,st,a,rfl,hD,λx l hg hT=>?_,λhg=>qn H (.inl ⟨hg,rfl⟩) (af.refl _);have hF:=d7 a8 hg;have zJ:=K5.len hF.1 hF.2.1 bb;refine vY (by rw[ew];decide) ?_;exists _,aj.of ht,bc (j:=1) rfl,_,aj.of ht,bc (j:=2) rfl,x,l,k,b,rfl,hT,hF.1,(λt ht=>(hF.2.1 t ht).1),tL,⟨ls,bb,hF.2.1⟩,k1,k2,λc f H1 hc oS lZ _ s1=>?_;exact q f c H1 (.inr ⟨l,f,hg,rfl,lZ⟩) hc oS s1
  |put n a k b =>
   have ew:(bI.put n a k b).wd=ofString "put" := rfl;refine vN (by rw[ew];decide) ?_;refine vN (by rw[ew];decide) ?_;exists p,dx,_,rfl,ho,jz d tE,_,aj.of ht,bc (j:=0) rfl,p,d,st,a,rfl,hD,λx l hg hT=>?_,λhg=>qn H (.inl ⟨hg,rfl⟩) (af.refl _);have hF:=d7 a8 hg;have zJ:=K5.len hF.1 hF.2.1 bb;refine vN (by rw[ew];decide) ?_;refine vY (by rw[ew];decide) ?_;exists _,aj.of ht,bc (j:=1) rfl,p,dx,_,rfl,ho,jz d tE,_,aj.of ht,bc (j:=2) rfl,p,d,st,b,rfl,hD,λy o mO eP=>?_,λmO=>qn H (.inr (.inl ⟨l,hg,mO,rfl⟩)) (af.refl _);have gZ:=d7 a8 mO;have yI:=K5.len gZ.1 gZ.2.1 bb;have hoo:=fM yI yI;have uL:=fM zJ yI;exists y,o,rfl,eP,tL,⟨ls,bb,gZ.2.1⟩,(λt ht u hu=>lL (gZ.2.2 t ht) (gZ.2.2 u hu)),λH1 s1 hy=>?_,λH1 s1 hy=>qy H1 (.inr (.inr ⟨l,o,hg,mO,.inl ⟨hy,rfl⟩⟩)) s1;exists x,y,l,o,k,rfl,hT.keep s1,eP.keep s1,(λt ht=>(hF.2.1 t ht).1),tL,tL,⟨ls,bb,hF.2.1.app gZ.2.1⟩,hok,(λt ht u hu=>lL (hF.2.2 t ht) (gZ.2.2 u hu)),λc f H2 hc oS lZ _ s2=>?_;exact q f c H2 (.inr (.inr ⟨l,o,hg,mO,.inr ⟨hy,f,rfl,lZ⟩⟩)) (Nc s1 hc) oS (s1.trans s2)
  |two wo n a b =>
   have ew:(bI.two wo n a b).wd=gK wo:=rfl;have lU:wo<3:=hok;obtain⟨n1,n2,n3,n4⟩:=T9 lU;refine vN (by rw[ew,n1];decide) ?_;refine vN (by rw[ew,n2];decide) ?_;exists p,dx,_,rfl,ho,jz d tE,_,aj.of ht,bc (j:=0) rfl,p,d,st,a,rfl,hD,λx l hg hT=>?_,λhg=>qn H (.inl ⟨hg,rfl⟩) (af.refl _);have hF:=d7 a8 hg;have zJ:=K5.len hF.1 hF.2.1 bb;refine vN (by rw[ew,n3];decide) ?_;refine vN (by rw[ew,n4];decide) ?_;exists p,dx,_,rfl,ho,jz d tE,_,aj.of ht,bc (j:=1) rfl,p,d,st,b,rfl,hD,λy o mO eP=>?_,λmO=>qn H (.inr (.inl ⟨l,hg,mO,rfl⟩)) (af.refl _);have gZ:=d7 a8 mO;have yI:=K5.len gZ.1 gZ.2.1 bb;exists wo,x,y,l,o,rfl,lU,hT,eP,⟨tL,tL⟩,⟨ls,bb,hF.2.1,gZ.2.1⟩,(λ_ t ht u hu=>lL (hF.2.2 t ht) (gZ.2.2 u hu)),λc f H2 hc oS lZ s2=>?_;exact q f c H2 (.inr (.inr ⟨l,o,f,hg,mO,rfl,lZ⟩)) hc oS s2
def UG(K:Frag):Sp:=λvs H Q _=>∃(a:Addr) (l:aq),vs=[.ref a]/\aG H a l/\l.length<=300/\(∀t∈l,t.2.natAbs<10^100)/\∀H',af H H'->Q .non H'
def Lx:(["members","number","bound"]:List Str).Nodup:=by decide+kernel
def zaT(T:Txt w K mg):AK.Ok P w K mg base 1 (UG K):=by
  refine T.d_Z77.k ?_;rintro vs H Q E ⟨a,l,rfl,hT,aK,hs,q⟩;refine wl fun hr hu nd=>⟨_,(ak (a9 (aR jI (bq fO (by rfl) T.n_len dC (aa (pv 0) ag)) ai) (ao gX) aN)
   (ak (aE 1 nd (ay zdz (ay uw ai ai) ai))
   (ao (a9 (j3 (bq (zbf rfl) (by rfl) T.n_any jht (aa (du (g:=(eI K 2 (bT (aW 0) (bT (aW 1) e7)))) ["members", "number", "bound"] 2 [1] rfl (cL AK) (Cc (pv 0))
    (λa b c d e=>(ft (n:=2) rfl (b9 (aI 0 Lx) (b9 (aI 1 Lx) fB)))) (λa b c d e=>gA) (λa b c d e=>(jA Gd (bq xw (by rfl) T.n_abs yj (aa (pv 1) ag)) (pv 2)))) ag))) (ao gX) aN)))),?_⟩
  obtain⟨ps,h1,h2⟩:=id hT;have cX:=h2.length;exists _,rfl,a,_,rfl,.inl (aj.of h1),_,_,rfl,rfl,_,rfl,?_;refine aM (by grind) ?_;exists _,_,rfl,rfl,⟨tD,tD,tD⟩,_,_,rfl,rfl,⟨tD,tE⟩,?_;have yf:∀t∈l,decide (((10:Int)^Int.toNat 50)^Int.toNat 20<=if t.2<0 then -t.2 else t.2)=false:=λt ht=>bo λy=>by grind
  dsimp only;generalize ((10:Int)^Int.toNat 50)^Int.toNat 20=B at yf ⊢;exists _,rfl,a,rfl,⟨_,aj.of h1⟩,?_;refine gW (K:=K) (a:=a) (xs:=ps.map V.ref) (λi ys σ G=>∃v0 v1:Option V,σ=[v0,v1,some (.int B)]/\ys=(List.replicate i false).map V.bl/\G=H)
   ⟨none,none,rfl,rfl,rfl⟩ (by rintro i ys σ G hi ⟨_,_,_,e1,e2⟩;exact⟨by rw[e2];exact aj.of h1,by rw[e1];simp⟩) (by rw[ax];exact bE (bD tL)) ?_ ?_
  ·rintro i y ys σ G hi ⟨v0,v1,rfl,rfl,rfl⟩;obtain⟨p,cO,rfl⟩:=fQ hi;obtain⟨t,aY,cj⟩:=h2.at' cO;exists p,_,rfl,az.of cj,rfl,_,_,rfl,_,_,rfl,rfl,?_;refine tt ?_;exists _,rfl,_,rfl,_,rfl,_,_,rfl,rfl,?_;dsimp only;rw[yf t (cM aY)];exists _,_,rfl,?_,rfl;rw[P5,aQ];rfl
  ·rintro ys σ G ⟨v0,v1,rfl,rfl,rfl⟩ D hD;exists D,_,rfl,aj.of ar,_,rfl,?_;refine aM ?_ (q _ (af.upd hD));rw[ax];intro y;obtain⟨b,hb,z⟩:=vF.mp y;rw[(List.mem_replicate.mp hb).2]at z;cases z
def zeK(K:Frag):Sp:=λvs H Q _=>∃(a:Addr) (ns:List Int) (m:Nat) (s:Int),vs=[.ref a,.int s]/\H a=some (.lst (ns.map V.int))/\ns.length=2^m/\(s=1\/s = -1)/\m<=16 /\
 ∀(D:Addr) (H':Hp),(D=a\/H D=none)->H' D=some (.lst ((sk s ns m).map V.int))->af H H'->Q (.ref D) H'
def Od:(["number","low","sign"]:List Str).Nodup:=by decide+kernel
def X0(T:Txt w K mg):Cd.Ok P w K mg base 1 (zeK K):=by
  refine T.d_Z17.k ?_;rintro vs H Q E ⟨a,ns,m,s',rfl,ha,aK,hs,hm,q⟩;refine wl fun hr hu nd=>⟨_,(ak (aE 2 nd (ay iW.j (gy xj vU vX wb (bq fO (by rfl) T.n_len dC (aa (pV 0) ag))) ai))
   (ak (dR c8 rfl (jD rfl T.n_range (aa (pV 2) ag)) (aI 3 nd) (ak (aE 4 nd (zd (pV 0) (fJ ai) (fJ ai))) (ao (aE 0 nd (ay sr (pV 4) (du (g:=(eI K 2 (bT (aW 0) (bT (aW 1) e7)))) ["number", "low", "sign"] 2 [1] rfl (cL Cd) (Rc rfl T.n_zip (aa (zd (pV 0) (fJ ai) (fJ ai)) (aa (pV 4) ag))) (λa b c d e=>(ft (n:=2) rfl (b9 (aI 0 Od) (b9 (aI 1 Od) fB)))) (λa b c d e=>gA) (λa b d e f=>(ay d0.j (pV 0) (ay fI.c (pV 2) (pV 1)))))))))) (ao (aB (pV 0))))),?_⟩
  have R6:(2:Nat)^m<=2^16:=dB tD hm;exists a,_,rfl,.inl (aj.of ha),rfl,_,rfl,rfl,?_;rw[ax,aK,zd7];exists (((m+1:Nat):Int)-1),rfl,tL,tL,?_;have em:((((m+1:Nat):Int)-1)).toNat=m:=by lia
  rw[em];refine qp (n:=m) (λi σ H2=>∃(v3 v4:Option V) (b:Addr) (ms:List Int),σ=[some (.ref b),some (.int s'),some (.int (((m+1:Nat):Int)-1)),v3,v4]/\(b=a\/H b=none)/\H2 b=some (.lst (ms.map V.int))/\oA s' (cv ns) m i ms/\af H H2)
   ⟨none,none,a,ns,rfl,.inl rfl,ha,oA.start _ _ _ aK,af.refl _⟩ ?_ ?_
  ·rintro i σ H2 hi ⟨v3,v4,b,ms,rfl,hb,ik,ht,s2⟩;have Ha:=ht.1;have e1:2^m=2*2^(m-1):=by rw[<-Ai];congr 1;lia
   have fS:(ms.map V.int).length=2*2^(m-1):=by simp_all
   have p0:=jk (m-1);have yy:(2:Nat)^(m-1)<=2^16:=dB tD tL;generalize hn:2^(m-1)=n at *;have ec:∀c,c<2->mj c (((ms.map V.int).length-c+1)/2) (ms.map V.int)=((List.range n).map λk=>cv ms (2*k+c)).map V.int:=λc hc=>by
    rw[fS,show (2*n-c+1)/2=n by lia];exact Vs c n ms (by simp_all) hc
   exists rfl,0,b,_,rfl,rfl,aj.of ik,bM _,λw hw=>?_;generalize eU:upd H2 w _=H3;have s3:=(nw eU hw).1;have lU:H3 w=some (.lst (((List.range n).map λk=>cv ms (2*k)).map V.int)):=by rw[(nw eU hw).2,ec 0 tD];rfl
   exists rfl,1,b,_,rfl,rfl,aj.of (s3 _ _ ik),tL,λx hx=>?_;generalize eU:upd H3 x _=H4;have s4:=(nw eU hx).1;have Oy:H4 x=some (.lst (((List.range n).map λk=>cv ms (2*k+1)).map V.int)):=by rw[(nw eU hx).2,ec 1 tD]
   have IU:=s4 _ _ lU;exists x,w,rfl,⟨_,aj.of Oy⟩,⟨_,aj.of IU⟩,?_;refine Nt (K:=K) (a:=x) (b:=w) (xs:=((List.range n).map λk=>cv ms (2*k+1)).map V.int) (ys:=((List.range n).map λk=>cv ms (2*k)).map V.int) tS (λi zs σ H5=>∃v0 v1:Option V,σ=[v0,v1,some (.int s')]/\zs=((List.range i).map λk=>cv ms (2*k+1)+s'*cv ms (2*k)).map V.int/\af H4 H5)
    ⟨none,none,rfl,rfl,af.refl _⟩ (by rintro i zs σ H5 hi ⟨_,_,_,e1,e2⟩;exact⟨aj.of (e2 _ _ Oy),aj.of (e2 _ _ IU),by rw[e1];simp⟩) (by simp;exact bE (bD tL)) ?_ ?_
   ·rintro i u v zs σ H5 W hu hv ⟨v0,v1,rfl,rfl,s5⟩ hW;have rN:i<n:=by
     have:=(dO.mp hu).1
     simpa using this
    have eu:u=V.int (cv ms (2*i+1)):=by simp_all
    have ev:v=V.int (cv ms (2*i)):=by simp_all
    subst eu ev;have s6:af H5 (upd H5 W (.tup [.int (cv ms (2*i+1)),.int (cv ms (2*i))])):=af.upd hW;exists W,_,rfl,az.of ar,rfl,_,_,rfl,_,_,rfl,rfl,?_;refine tt ?_;exists gG tL tL,some (.int (cv ms (2*i+1))),some (.int (cv ms (2*i))),rfl,?_,s5.trans s6;rw[mw,aQ,aQ];rfl
   ·rintro zs σ H5 ⟨v0,v1,rfl,rfl,s5⟩ D hD;have hlx:(((List.range n).map λk=>cv ms (2*k+1)).map V.int).length=n:=by simp
    rw[hlx];have s6:af H5 (upd H5 D (.lst (((List.range n).map λk=>cv ms (2*k+1)+s'*cv ms (2*k)).map V.int))):=af.upd hD;exists w,D,_,_,rfl,rfl,s6 _ _ (s5 _ _ IU),ar,(by simp;exact bE (bD tL)),λc hc=>?_;have S6:=s2.trans (s3.trans (s4.trans (s5.trans s6)));exists _,_,c,oq s' n ms,rfl,.inr (S6.free hc),?_,?_,S6.trans (af.upd hc)
    ·rw[ar];unfold oq;rw[aQ]
    ·rw[<-hn];exact ht.next hi
  ·rintro σ H2 ⟨v3,v4,b,ms,rfl,hb,ik,ht,s2⟩;refine q b H2 hb ?_ s2;rw[<-ht.all aK];exact ik
def zec(K:Frag):Sp:=λvs H Q _=>∃(a:Addr) (l:aq) (m:Nat),vs=[.ref a,.int (m:Int)]/\TL K H a l/\IsForm l/\l.length<=100000/\m<=16 /\
 ∀(D:Addr) (H':Hp),H D=none->H' D=some (.lst ((sk 1 ((List.range (2^m)).map λk:Nat=>aL l (k:Int)) m).map V.int))->af H H'->Q (.ref D) H'
def VR:(["members","numbers"]:List Str).Nodup:=by decide+kernel
def UK(T:Txt w K mg):yV.Ok P w K mg base 2 (zec K):=by
  refine T.d_Z82.k ?_;rintro vs H Q E ⟨a,l,m,rfl,hT,hF,aK,hm,q⟩;refine wl fun hr hu nd=>⟨_,(ak (aE 2 nd (eA (Zl rfl) rfl T.n_dict Yy (aa (pV 0) ag))) (ao (aB (aD T.d_Z17 (X0 T) hr (aa (du (g:=(aW 0)) ["members", "numbers"] 1 [2] rfl (cL yV) (jD rfl T.n_range (aa (aD T.d_Z4 (oZ T) hr (aa (pV 1) ag)) ag)) (λa b c d e=>(aI 0 VR)) (λa b c d e=>gA) (λa b c d e=>(sh hu (pV 1) (pV 0) ai ⟨rfl,rfl,rfl,rfl⟩))) (aa ai ag)))))),?_⟩
  exists a,l,rfl,hT,tL,λd hd=>?_;generalize eU:upd H d _=H1;obtain⟨s1,bU⟩:=nw eU hd;have pw:((2:Int)^m)=((2^m:Nat):Int):=by norm_cast
  have e2:((2:Int)^m).toNat=2^m:=by rw[pw];rfl
  have R6:(2:Nat)^m<=2^16:=dB tD hm;exists m,rfl,tL,(2:Int)^m,rfl,tL,tL,?_;refine tH (lo:=0) (n:=((2:Int)^m).toNat) (λi ys σ H2=>∃v0:Option V,σ=[v0,some (.ref d)]/\ys=((List.range i).map λk:Nat=>aL l (k:Int)).map V.int/\H2=H1) ⟨none,rfl,rfl,rfl⟩ (λi ys σ H2 ⟨_,_,e,_⟩=>by rw[e];simp) (by rw[e2];exact bE (bD tL)) ?_ ?_
  ·rintro i ys σ H2 hi ⟨v0,rfl,rfl,rfl⟩;unfold aW;refine tt ?_;exists d,rfl,.inl ⟨_,.inl bU⟩,_,dj.k (k:=Sum.inl (0+(i:Int))) bU,?_;rw[ni];have eg:((look (nP [] l) (0+(i:Int))).map V.int).getD (V.int 0)=V.int (aL l (i:Int)):=by
    rw[<-ZU hF,pF];unfold cB;cases look (nP [] l) (i:Int)<;>rfl
   exists some (.int (0+(i:Int))),rfl,?_,rfl;rw[mw,aQ,aQ,eg];rfl
  ·rintro ys σ H2 ⟨v0,rfl,rfl,rfl⟩ D hD;rw[e2];have s2:af H2 (upd H2 D (.lst (((List.range (2^m)).map λk:Nat=>aL l (k:Int)).map V.int))):=af.upd hD;exists D,_,m,1,rfl,ar,tS,.inl rfl,hm,λD' H' hD' hl s3=>?_;refine q D' H' ?_ hl (s1.trans (s2.trans s3));rcases hD' with z|z
   ·subst z;exact s1.free hD
   ·exact s1.free (s2.free z)
def VX:Sp:=λvs H Q _=>∃(g m:Nat),vs=[.int (g:Int),.int (m:Int)]/\m<=100000 /\
 ∀(D:Addr) (H':Hp),H D=none->H' D=some (.lst (((List.range m).map λi:Nat=>((g/2^i%2:Nat):Int)).map V.int))->af H H'->Q (.ref D) H'
def zbx(T:Txt w K mg):FR.Ok P w K mg base 1 VX:=by
  refine T.d_Z2.k ?_;rintro vs H Q E ⟨g,m,rfl,hm,q⟩;refine wl fun hr hu nd=>⟨_,(ak (aE 2 nd (bG ag)) (ak (dR c8 rfl (jD rfl T.n_range (aa (pV 1) ag)) (aI 3 nd) (ak (d5 (bO cy f7 fX fY (pV 2) (aa (ay bS.c (pV 0) ai) ag))) (ao (aE 0 nd (ay gC.c (pV 0) ai))))) (ao (aB (pV 2))))),?_⟩
  exists bM _,λD hD=>?_;exists (m:Int),rfl,tL,tL,qp (n:=m) (λi σ H2=>∃v3:Option V,σ=[some (.int ((g/2^i:Nat):Int)),some (.int (m:Int)),some (.ref D),v3]/\H2=upd H D (.lst (((List.range i).map λi:Nat=>((g/2^i%2:Nat):Int)).map V.int))) ⟨none,?_,rfl⟩ ?_ ?_
  ·rw[Nat.pow_zero,Nat.div_one];rfl
  ·rintro i σ H2 hi ⟨v3,rfl,rfl⟩;exists .inl ⟨rfl,_,aj.of ar⟩,(by simp),_,ar,(by rw[ax,ax,kQ];exact bD tL),?_;exists ⟨tD,tD⟩,some (.int (0+(i:Int))),?_,?_
   ·show [some (V.int (((g/2^i:Nat):Int)/2)),_,_,_]=_;rw[show ((g/2^i:Nat):Int)/2=((g/2^(i+1):Nat):Int) by rw[ml,<-Nat.div_div_eq_div_mul];norm_cast]
   ·rw[vp,mw,aQ,aQ];rfl
  ·rintro σ H2 ⟨v3,rfl,rfl⟩;exact q D _ hD ar (af.upd hD)
def VA(K:Frag):Sp:=λvs H Q _=>∃(a:Nat),vs=[.int (a:Int)]/\a<2^1000 /\
 ∀(D:Addr) (H':Hp),H D=none->H' D=some (.lst (((lst a).map λk:Nat=>(k:Int)).map V.int))->af H H'->Q (.ref D) H'
def Jr:(["k","bit"]:List Str).Nodup:=by decide+kernel
def O7(T:Txt w K mg):zT.Ok P w K mg base 2 (VA K):=by
  refine T.d_Z64.k ?_;rintro vs H Q E ⟨a,rfl,ha,q⟩;refine wl fun hr hu nd=>⟨_,(ao (aB (du (g:=(eI K 2 (bT (aW 0) (bT (aW 1) e7)))) ["k", "bit"] 2 [] rfl (cL zT) (zcT rfl T.n_enumerate (aa (aD T.d_Z2 (zbx T) hr (aa (pV 0) (aa (gy xj vU vX wb (pV 0)) ag))) ag)) (λa b c d e=>(ft (n:=2) rfl (b9 (aI 0 Jr) (b9 (aI 1 Jr) fB)))) (λa b c d e=>(gH (aR aV (pV 1) ai))) (λa b c d e=>(pV 0))))),?_⟩
  have hb:=Hv ha;exists rfl,_,rfl,rfl,a,intBits (a:Int),rfl,tL,λb H1 sD fj s1=>?_;exists b,rfl,⟨_,aj.of fj⟩,?_;refine zeX (K:=K) (a:=b) (xs:=((List.range (intBits (a:Int))).map λi:Nat=>((a/2^i%2:Nat):Int)).map V.int) (λi ys σ H2=>∃v0 v1:Option V,σ=[v0,v1]/\ys=(((List.range i).filter λk=>a.testBit k).map λk:Nat=>(k:Int)).map V.int/\af H1 H2)
   ⟨none,none,rfl,rfl,af.refl _⟩ (λi ys σ H2 hi ⟨_,_,_,e1,e2⟩=>⟨aj.of (e2 _ _ fj),by
    rw[e1,ax,ax];exact aX (lW _ _) (by simp)⟩) (by rw[ax,ax,kQ];exact bE (bD tL)) ?_ ?_
  ·rintro i x ys σ H2 W hi ⟨v0,v1,rfl,rfl,s2⟩ hW;obtain⟨n,hn,rfl⟩:=so hi;rw[cQ]at hn;have gD:i<intBits (a:Int):=by
    rcases kU i (intBits (a:Int))with z|z
    ·exact z
    ·rw[GZ (by rw[kQ];exact z)]at hn;cases hn
   rw[vE gD]at hn;have qW:((a/2^i%2:Nat):Int)=n:=gd hn;have s3:af H2 (upd H2 W (.tup [.int (i:Nat),.int n])):=af.upd hW;exists W,_,rfl,az.of ar,rfl,_,_,rfl,_,_,rfl,rfl,?_;exists _,rfl,?_;have yM:=uS (x:=a) (i:=i);by_cases h1:a/2^i%2=1
   ·have fj:a.testBit i=true:=by rw[yM];exact aU h1
    refine a7 (by simp_all) ?_;exists _,_,rfl,?_,s2.trans s3;rw[mw,dX,aQ,aQ];simp[fj]
   ·have fj:a.testBit i=false:=by rw[yM];exact bo h1
    have h0:a/2^i%2=0:=by simp_all
    refine aM (by rw[<-qW,h0];decide) ⟨_,_,rfl,?_,s2.trans s3⟩;rw[mw,dX,aQ,aQ];simp[fj]
  ·rintro ys σ H2 ⟨v0,v1,rfl,rfl,s2⟩ D hD;refine q D _ (s1.free (s2.free hD)) ?_ (s1.trans (s2.trans (af.upd hD)));rw[ar,ax,ax,kQ];rfl
def V2(K:Frag):Sp:=λvs H Q _=>∃(a:Addr) (f:aq) (ks:List Nat),vs=[.ref a]/\aG H a f/\(∀t∈f,0<=t.1/\t.1<2^16)/\Within ks f/\ks.length<=60/\(∃t∈f,t.2<0/\t.1≠0)/\∀(k:Nat) (H':Hp),k∈ks->af H H'->Q (.int (k:Int)) H'
def zaS:(["k","weights"]:List Str).Nodup:=by decide+kernel
def ze0(T:Txt w K mg):A5.Ok P w K mg base 3 (V2 K):=by
  refine T.d_Z18.k ?_;rintro vs H Q E ⟨a,f,ks,rfl,hT,h0,BE,ia,Vf,q⟩;refine wl fun hr hu nd=>⟨_,(ak (aE 1 nd rY) (ak (dR c8 rfl (cH (pV 0)) (iu (n:=2) rfl (cJ (aI 2 nd) (cJ (aI 3 nd) g9))) (ao (a9 (aR kc.j (pV 3) ai) (ao (dR c8 rfl (cH (aD T.d_Z64 (O7 T) hr (aa (pV 2) ag))) (aI 4 nd) (ao (rP hu (pV 1) (pV 4) (ay d0.j (sh hu (pV 1) (pV 4) ai ⟨rfl,rfl,rfl,rfl⟩) (pV 3)) rfl)))) aN)))
   (ao (aB (xT (bq (Yu rfl hu) (by rfl) T.n_min BF (aa (du (g:=(aW 0)) ["k", "weights"] 1 [1] rfl (cL A5) (cH (bq (Bd rfl) (by rfl) T.n_sorted xK (aa (pV 1) ag)))
    (λa b c d e=>(aI 0 zaS)) (λa b c d e=>gA) (λa b c d e=>(bx (aa (jq hu (pV 1) (pV 0)) (aa (pV 0) ag))))) ag)) ai))))),?_⟩
  obtain⟨ps,hS,hP⟩:=id hT;intro d hd;have s0:af H (upd H d (.dK [])):=af.upd hd;exists ⟨_,aj.of (s0 _ _ hS)⟩,?_;refine jo (K:=K) (a:=a) (xs:=ps.map V.ref) (λi σ G=>∃(dd:aq) (v2 v3 v4:Option V),σ=[some (.ref a),some (.ref d),v2,v3,v4]/\G d=some (.dK (dd.map cV))/\mZ ks dd/\((∃t∈f.take i,t.2<0/\t.1≠0)->0<dd.length)/\af H G)
   ⟨[],none,none,none,rfl,ar,mZ.nil ks,(λ⟨t,ht,_⟩=>by simp at ht),s0⟩ (by rintro i σ G _ ⟨_,_,_,_,_,_,_,_,e⟩;exact aj.of (e _ _ hS)) ?_ ?_
  ·rintro i y σ G hi ⟨dd,v2,v3,v4,rfl,g1,g2,g3,g4⟩;obtain⟨p,cO,rfl⟩:=fQ hi;obtain⟨t,aY,cj⟩:=hP.at' cO;have bB:f.take (i+1)=f.take i++[t]:=by rw[cZ,aY];rfl
   have gv:t∈f:=cM aY;exists _,az.of (g4 _ _ cj),rfl,?_;exists _,rfl,?_;refine dD (λhn=>?_) (λhn=>?_)
   ·obtain⟨t0,t16⟩:=h0 t gv;obtain⟨tn,zN⟩:∃tn:Nat,t.1=(tn:Int):=⟨_,(gh t0).symm⟩;have ba:tn<2^1000:=cS (by lia:tn<2^16) (dB tD tD);exists tn,(by rw[zN];rfl),ba,λb H1 hb fj s1=>?_;have EU:b≠d:=wC g1 hb;exists ⟨_,aj.of fj⟩,?_;refine jo (K:=K) (a:=b) (xs:=((lst tn).map λk:Nat=>(k:Int)).map V.int) (λj σ G'=>∃(ix:aq) (v4:Option V),σ=[some (.ref a),some (.ref d),some (.int t.1),some (.int t.2),v4]/\G' d=some (.dK (ix.map cV))/\G' b=some (.lst (((lst tn).map λk:Nat=>(k:Int)).map V.int))/\mZ ks ix/\(0<dd.length\/0<j->0<ix.length)/\af H G')
     ⟨dd,v4,rfl,s1 _ _ g1,fj,g2,(λz=>by simp_all),g4.trans s1⟩ (by rintro j σ G' _ ⟨_,_,_,_,e,_⟩;exact aj.of e) ?_ ?_
    ·rintro j y σ G' hj ⟨ix,v4,rfl,w1,w2,w3,w4,w5⟩;obtain⟨x,hxj,rfl⟩:=so hj;obtain⟨k,hk,rfl⟩:=bp.mp (cM hxj);have hkk:k∈ks:=BE t gv k (by rw[zN];exact xv.mp hk);have mh:=w3.len;exists d,rfl,.inl ⟨_,.inl w1⟩,_,dj.k (k:=Sum.inl (k:Int)) w1,?_;rw[ni];have eg:((look ix (k:Int)).map V.int).getD (V.int 0)=V.int (cB ix (k:Int)):=by
      unfold cB;cases look ix (k:Int)<;>rfl
     rw[eg];exists d,_,rfl,lH.k (k:=Sum.inl (k:Int)) w1 ?_,fh ix (k:Int) (cB ix (k:Int)+t.2),_,rfl,?_,?_,w3.put hkk _,(λ_=>zdl _ _ _),w5.write hd
     ·rw[ax];exact bD tL
     ·rw[ar,wu]
     ·rw[aS EU];exact w2
    ·rintro σ G' ⟨ix,v4,rfl,w1,w2,w3,w4,w5⟩;exists ix,_,_,_,rfl,w1,w3,λ⟨u,hu,qf⟩=>?_,w5;rw[bB]at hu;rcases bA.mp hu with z|z
     ·exact w4 (.inl (g3 ⟨u,z,qf⟩))
     ·have e:u=t:=by simpa using z
      rw[e,zN]at qf
      have:=zej (a:=tn) tL
      exact w4 (.inr (by simp_all))
   ·exists dd,_,_,_,rfl,g1,g2,λ⟨u,hu,qf⟩=>?_,g4;rw[bB]at hu;rcases bA.mp hu with z|z
    ·exact g3 ⟨u,z,qf⟩
    ·have e:u=t:=by simpa using z
     rw[e]at qf;exact absurd (aU qf.1) hn
  ·rintro σ G ⟨dd,v2,v3,v4,rfl,g1,g2,g3,g4⟩;rw[ax,hP.length,dG]at g3;have tG:=g3 Vf;have mh:=g2.len;exists d,_,dd.map (·.1),rfl,g1,Hl dd,(by rw[ax];lia),λe js he dW om=>?_;have vx:d≠e:=c7 g1 he;have ki:js.length=dd.length:=by have:=dW.length_eq;rw[ax]at this;exact this
   exists ⟨_,aj.of ar⟩,?_;refine gW (K:=K) (a:=e) (xs:=js.map V.int) (λi ys σ H2=>∃(v0:Option V) (qs:List Addr),σ=[v0,some (.ref d)]/\ys=qs.map V.ref/\cn H2 qs ((js.take i).map λx=>(cB dd x,x))/\H2 d=some (.dK (dd.map cV))/\H2 e=some (.lst (js.map V.int))/\af H H2)
    ⟨none,[],rfl,rfl,.nil,(by rw[aS vx];exact g1),ar,g4.trans (af.upd he)⟩ (λi ys σ H2 hi ⟨_,qs,_,e1,e2,_,e4,_⟩=>⟨aj.of e4,by
     rw[e1,ax,e2.length,ax,fR];lia⟩) (by rw[ax];exact bE (bD tL)) ?_ ?_
   ·rintro i y ys σ H2 hi ⟨v0,qs,rfl,rfl,z2,z3,z4,z5⟩;obtain⟨x,y8,rfl⟩:=so hi;have hxm:x∈dd.map (·.1):=dW.mem_iff.mp (cM y8);obtain⟨v,hv⟩:∃v,look dd x=some v:=by
     cases e:look dd x with
     |none=>exact absurd e (ud.mpr hxm)
     |some v=>nomatch v,rfl
    have rX:cB dd x=v:=by unfold cB;rw[hv];rfl
    have bB:js.take (i+1)=js.take i++[x]:=by rw[cZ,y8];rfl
    have sj:dj H2 d (.int x) (some (.int v)):=by
     have:=dj.k (k:=Sum.inl x) z3
     rw[ni,hv]at this;exact this
    unfold aW;refine tt ?_;exists _,sj,bL,λt ht=>?_;have s3:af H2 (upd H2 t (.tup [.int v,.int x])):=af.upd ht;exists _,qs++[t],rfl,(by rw[aQ];rfl),?_,s3 _ _ z3,s3 _ _ z4,z5.trans s3;rw[bB,aQ];refine cn.snoc (z2.keep λb xs z=>s3 b _ z) ?_;dsimp only;rw[rX];exact ar
   ·rintro ys σ H2 ⟨v0,qs,rfl,rfl,z2,z3,z4,z5⟩ D hD;rw[ax,dG]at z2;have s3:af H2 (upd H2 D (.lst (qs.map V.ref))):=af.upd hD;have Rg:=z2.keep λb xs z=>s3 b _ z
    exists D,qs,_,rfl,aj.of ar,Rg,(by simp_all),λb p t hb hl hm=>?_;obtain⟨t',h1,h2⟩:=Rg.at' hb;rw[hl]at h1;cases h1;rw[cQ]at hl;obtain⟨x,hx,rfl⟩:∃x,js[b]?=some x/\(cB dd x,x)=t:=by simp_all
    obtain⟨k,rfl,hk⟩:=g2.src x (dW.mem_iff.mp (cM hx));nomatch _,az.of h2,rfl,q k _ hk (z5.trans s3)
def Mv:(["members","number"]:List Str).Nodup:=by decide+kernel
def zdG(T:Txt w K mg):zy.Ok P w K mg base 1 (VV K):=by
  refine T.d_Z8.k ?_;rintro vs H Q E ⟨a,l,rfl,⟨ps,hS,hT⟩,aK,q⟩;refine wl fun hr hu nd=>⟨_,(ao (aB (bq (sJ rfl) (by rfl) T.n_sum ug (aa (du (g:=(eI K 2 (bT (aW 0) (bT (aW 1) e7)))) ["members", "number"] 2 [] rfl (cL zy) (cH (pV 0))
    (λa b c d e=>(ft (n:=2) rfl (b9 (aI 0 Mv) (b9 (aI 1 Mv) fB)))) (λa b c d e=>(gH (PW.pt (jy (aR aV (pV 0) ai) (j2 (aR kc.j (pV 1) ai)))))) (λa b c d e=>(pV 1))) ag)))),?_⟩
  exists ⟨_,hS⟩,?_;refine gW (K:=K) (a:=a) (xs:=ps.map V.ref) (λi ys σ H2=>∃(v0 v1:Option V),σ=[v0,v1]/\H2=H/\ys=(((l.take i).filter k6).map (·.2)).map V.int)
   ⟨none,none,rfl,rfl,rfl⟩ (by rintro i ys σ H2 hi ⟨_,_,_,e,e2⟩;exact⟨by rw[e];exact hS,by grind⟩) (by rw[ax,hT.length];exact bE (bD tO)) ?_ ?_
  ·rintro i y ys σ H2 hi ⟨v0,v1,rfl,rfl,rfl⟩;obtain⟨p,cO,rfl⟩:=fQ hi;obtain⟨t,aY,cj⟩:=hT.at' cO;have bB:l.take (i+1)=l.take i++[t]:=by rw[cZ,aY];rfl
   exists p,_,rfl,az.of cj,rfl,_,_,rfl,_,_,rfl,rfl,?_;exists _,rfl,?_;refine dD (λh1=>?_) (λh1=>?_)
   ·have bJ:t.1=0:=by have:=bP h1;injection this
    have hp:k6 t=true:=by unfold k6;simp[bJ]
    refine eh ⟨_,_,rfl,rfl,?_⟩;rw[bB,dX,aQ,aQ];simp[hp]
   ·have bJ:¬t.1=0:=λz=>h1 (aU (congrArg V.int z))
    exists _,rfl,?_;refine dD (λh2=>?_) (λh2=>?_)
    ·have hp:k6 t=true:=by unfold k6;simp[bP h2]
     exists _,_,rfl,rfl,?_;rw[bB,dX,aQ,aQ];simp[hp]
    ·have hp:k6 t=false:=by
      unfold k6;have d9:¬t.2<0:=λz=>h2 (aU z)
      simp[bJ,d9]
     exists _,_,rfl,rfl,?_;rw[bB,dX,aQ,aQ];simp[hp]
  ·rintro ys σ H2 ⟨v0,v1,rfl,rfl,rfl⟩ D hD;exists D,_,rfl,aj.of ar,?_
   have:=q _ (af.upd (o:=.lst ((((l.take (ps.map V.ref).length).filter k6).map (·.2)).map V.int)) hD)
   rw[ax,hT.length,dG]at this ⊢;exact this
def OW(h:∀t∈l,0<=t.1)(hf:aZ f (iG k b l))(hk:Within ks l):Within (ks.erase k) f:=by
 intro t ht j hj;obtain⟨u,hu,e⟩:=bp.mp (hf.src t ht);rw[<-e]at hj;have key:∃v∈l,v.1.toNat.testBit j=true/\j≠k:=by
  rcases bA.mp hu with z|z
  ·unfold gm at z;have z':=gJ.mp z;exists u,z'.1,hj,λy=>?_;subst y;have z2:=z'.2;unfold eO at z2;rw[hj]at z2;cases z2
  ·split at z
   ·cases z
   ·unfold eF at z;obtain⟨v,hv,rfl⟩:=bp.mp z;have ng:=gJ.mp hv;have hb:v.1.toNat.testBit k=true:=ng.2;have uD:=uq hb;have h0:=h v ng.1;have e2:(v.1-2^k).toNat=nI v.1.toNat k false:=by
     unfold nI;rw[av tD,aC hb,qh];exact Int.toNat_sub' _ _
    have fV:=hj;rw[e2,q9]at fV;by_cases y:j=k
    ·rw[aC y]at fV;cases fV
    ·rw[av y]at fV;nomatch v,ng.1,fV,y
 obtain⟨v,hv,h1,h2⟩:=key;exact (LX h2).mpr (hk v hv j h1)
def Lr(K:Frag)(d:Nat):Sp:=λvs H Q _=>∃(a:Addr) (f:aq) (n:Int) (ks:List Nat),vs=[.ref a,.int n]/\aG H a f/\IsForm f/\K5 ks f/\ks.length<d/\ks.length<=5/\(∀k∈ks,k<16)/\(∀g:Nat,n<=fw f (g:Int)) /\
 ∀(v:V) (H':Hp),af H H'->Q v H'
def Zb(T:Txt w K mg)(d:Nat):yu.Ok P w K mg base (5+d) ((Lr K) d):=by
  induction d with
  |zero=>exact Rw.ok T.d_Z67.F T.d_Z67.S λvs H Q E h=>by obtain⟨a,f,n,ks,rfl,hT,hf,hK,hd,h5,gN,hn,q⟩:=h;exact absurd hd (uZ _)
  |succ d ih =>
  refine T.d_Z67.k (k:=5+d) ?_;rintro vs H Q E ⟨a,f,n,ks,rfl,hT,hf,hK,hd,h5,gN,hn,q⟩;refine wl fun hr hu nd=>⟨_,(ak (a9 (aR Gd.j (aD T.d_Z8 (zdG T) (hr.mono tL) (aa (pV 0) ag)) (pV 1)) (ao (aB ai)) aN) (ak (aE 2 nd (aD T.d_Z18 (ze0 T) (hr.mono tL) (aa (pV 0) ag))) (ao (aB (bx (aa (pV 2) (aa (aD T.d_Z67 ih hr (aa (aD T.d_Z7 (EX T) (hr.mono tL) (aa (pV 0) (aa (pV 2) (aa ai ag)))) (aa (pV 1) ag))) (aa (aD T.d_Z67 ih hr (aa (aD T.d_Z7 (EX T) (hr.mono tO) (aa (pV 0) (aa (pV 2) (aa ai ag)))) (aa (pV 1) ag))) ag)))))))),?_⟩
  have h0:=hK.low gN;have qK:∀t∈f,0<=t.1:=λt ht=>(h0 t ht).1
  have hl:=hK.len hf h5;exists a,f,rfl,hT.tl,tL,λH1 s1=>?_;exists _,rfl,?_;refine dD (λh1=>q (.int 0) H1 s1) (λh1=>?_);have bJ:xY f<n:=by simp_all
  exists a,f,ks,rfl,hT.keep s1,h0,(λt ht=>(hK t ht).2),tL,Xj qK hn bJ,λk H2 hk s2=>?_;have S2:=s1.trans s2;have BQ:(ks.erase k).length<d/\(ks.erase k).length<=5:=by grind
  have hk6:=gN k hk;exists a,f,k,1,rfl,hT.keep S2,hf,qK,tL,⟨ks,h5,hK⟩,tL,.inr rfl,λc1 f1 H3 F7 fU cU dI s3=>?_;exists c1,f1,n,ks.erase k,rfl,fU,cU.toIsForm,(λt ht=>⟨(cU.keys (J3 h0) t ht).1,OW qK cU (λt ht=>(hK t ht).2) t ht⟩),BQ.1,BQ.2,(λj hj=>gN j (N6 hj)),Ml (.inr rfl) qK cU hn,λv1 H4 s4=>?_;have S4:=S2.trans (s3.trans s4);exists a,f,k,0,rfl,hT.keep S4,hf,qK,tL,⟨ks,h5,hK⟩,tL,.inl rfl,λc0 f0 H5 EY xD BD gE s5=>?_;exists c0,f0,n,ks.erase k,rfl,xD,BD.toIsForm,(λt ht=>⟨(BD.keys (J3 h0) t ht).1,OW qK BD (λt ht=>(hK t ht).2) t ht⟩),BQ.1,BQ.2,(λj hj=>gN j (N6 hj)),Ml (.inl rfl) qK BD hn,λv0 H6 s6=>?_;exists c5,λt ht=>?_;have s7:af H6 (upd H6 t (.tup [.int (k:Int),v1,v0])):=af.upd ht;exact q (.ref t) _ (S4.trans (s5.trans (s6.trans s7)))
def zaF(T:Txt w K mg):yu.Ok P w K mg base 17 ((Lr K) 12):=Zb T 12
def zd0(K:Frag):Sp:=λvs H Q _=>∃(a:Addr) (f:aq) (m:Nat) (ks:List Nat),vs=[.ref a,.int (m:Int)]/\aG H a f/\IsForm f/\K5 ks f/\ks.length<=5/\(∀k∈ks,k<16)/\(∀t∈f,0<=t.1/\t.1<2^m)/\m<=10 /\
 ∀(c:Addr) (n:Int) (v:V) (H':Hp),H' c=some (.tup [.int n,.int (((fT f m).idxOf n:Nat):Int),v])->mR n (fT f m)->af H H'->Q (.ref c) H'
def OQ:(["members","own","size"]:List Str).Nodup:=by decide+kernel
def za1(T:Txt w K mg):A1.Ok P w K mg base 18 (zd0 K):=by
  refine T.d_Z61.k ?_;rintro vs H Q E ⟨a,f,m,ks,rfl,hT,hf,hK,h5,gN,h0,hm,q⟩;refine wl fun hr hu nd=>⟨_,(ak (aE 2 nd (aD T.d_Z82 (UK T) hr.m (aa (pV 0) (aa (pV 1) ag)))) (ak (aE 3 nd (bq (IJ rfl) (by rfl) T.n_min BF (aa (pV 2) ag)))
   (ak (aE 4 nd (aD T.d_Z4 (oZ T) hr.m (aa (pV 1) ag))) (ak (uA (i:=5) (g:=(eI K 2 (bT (aW 0) (bT (aW 1) e7)))) ["members", "own", "size"] 2 [4] nd rfl (Or.inl rfl) rfl (cL A1) (cH (pV 0)) (λa b c d e=>(ft (n:=2) rfl (b9 (aI 0 OQ) (b9 (aI 1 OQ) fB)))) (λa b c d e=>(gH (aR kc.j (pV 0) (pV 2)))) (λa b c d e=>(bx (aa (pV 0) (aa (pV 1) ag))))) (ao (aB (bx (aa (pV 3) (aa (bO cy Ds DF RL (pV 2) (aa (pV 3) ag)) (aa (aD T.d_Z67 (zaF T) hr (aa (pV 5) (aa (pV 3) ag))) ag)))))))))),?_⟩
  have jg:=jk m;have hl:=hK.len hf h5;exists a,f,m,rfl,hT.tl,hf,tL,tL,λD H1 hD rm s1=>?_;rw[za8 h0]at rm;have KW:H1 D=some (.lst ((fT f m).map V.int)):=rm;exists D,_,rfl,aj.of KW,(by unfold fT;rw[ax,kQ];exact jg),λn hn=>?_;exists m,rfl,tL,?_;exists (hT.keep s1).tl.seq,?_;refine tX (λt=>decide (t.1<2^m)) (λt=>t) (hT.keep s1).tl tL [some (.int (2^m))] rfl (λt ht H2 R s2 r=>?_) (λt ht hp H2 R s2 r=>?_) λE2 ys H2 hE bF s2=>?_
  ·nomatch _,rfl,r
  ·nomatch bL,r
  rw[wk,List.filter_eq_self.mpr λt ht=>aU (h0 t ht).2]at bF;have rD:=s2 _ _ KW;exists .inl ⟨rfl,_,aj.of rD⟩,D,_,n,rfl,rfl,rD,hn.1,?_;exists E2,f,n,ks,rfl,bF,hf,hK,tL,h5,gN,XI h0 hn,λv H3 s3=>?_;exists c5,λc hc=>?_;have s4:af H3 (upd H3 c (.tup [.int n,.int (((fT f m).idxOf n:Nat):Int),v])):=af.upd hc;exact q c n v _ ar hn (s1.trans (s2.trans (s3.trans s4)))
def zci:Sp:=λvs H Q _=>∃n:Int,vs=[.int n]/\Q (.str (S [32,bt n,32])) H
def LA(T:Txt w K mg):Hu.Ok P w K mg base 1 zci:=by
  refine T.d_Z80.k ?_;rintro vs H Q E ⟨n,rfl,q⟩;refine wl λhr hu nd=>⟨_,(ao (aB (sZ (aR kc.j (pV 0) ai) aA aA))),?_⟩
  exists _,rfl,?_;refine dD (λh=>?_) (λh=>?_)
  ·have h':=bP h;have e:bt n=45:=aC h';rw[e]at q;rw[<-zc7]at q;exact q
  ·have h':¬n<0:=λz=>h (aU z)
   have e:bt n=43:=av h';rw[e]at q;rw[<-zbm]at q;exact q
def V9(K:Frag):Sp:=λvs H Q _=>∃m:Nat,vs=[.int (m:Int)]/\m<2^16/\∀H',af H H'->Q (.str (S (cR m))) H'
def Ws:(["k"]:List Str).Nodup:=by decide+kernel
def Hx(T:Txt w K mg):BC.Ok P w K mg base 3 (V9 K):=by
  refine T.d_Z79.k ?_;rintro vs H Q E ⟨m,rfl,hm,q⟩;refine wl fun hr hu nd=>⟨_,(ao (aB (bO fc lq lF lR aA (aa (du (g:=(aW 0)) ["k"] 1 [] rfl (cL BC) (cH (aD T.d_Z64 (O7 T) hr (aa (pV 0) ag))) (λa b c d e=>(aI 0 Ws)) (λa b c d e=>gA) (λa b c d e=>(oB qe (fg (v:=.str "abcdefghijklmnop") (by rfl) T.g_LETTERS ⟨_,rfl⟩) (pV 0)))) ag)))),?_⟩
  exists rfl,?_;exists m,rfl,cS hm (dB tD tD),λD H1 hD rm s1=>?_;exists ⟨_,aj.of rm⟩,?_;have kD:(lst m).length<=16:=by have:=p6 hm;unfold cR at this;rw[ax]at this;exact this
  refine gW (K:=K) (a:=D) (xs:=((lst m).map λk:Nat=>(k:Int)).map V.int) (λi ys σ G=>∃v0:Option V,σ=[v0]/\ys=(((cR m).take i).map λc=>S [c]).map V.str/\af H1 G)
   ⟨none,rfl,rfl,af.refl _⟩ (by rintro i ys σ G hi ⟨_,_,e1,e2⟩;exact⟨aj.of (e2 _ _ rm),by rw[e1,ax,ax,fR];exact F3 _ _⟩) (by rw[ax,ax];exact aX kD tD) ?_ ?_
  ·rintro i y ys σ G hi ⟨v0,rfl,rfl,sG⟩;obtain⟨x,hx,rfl⟩:=so hi;rw[cQ]at hx;obtain⟨k,hk,rfl⟩:∃k,(lst m)[i]?=some k/\(k:Int)=x:=by simp_all
   have gN:k<16:=by
    have:=rp hm (c:=97+k) (bp.mpr ⟨k,cM hk,rfl⟩)
    lia
   unfold aW;refine tt ?_;exists _,_,_,rfl,rfl,(by rw[kJ,aH];show 16<=sizeLine;decide),(by rw[kJ,gf];exact bc (AM k gN)),?_;exists _,rfl,?_,sG
   have:(cR m)[i]?=some (97+k):=by unfold cR;rw[cQ,hk];rfl
   rw[cZ,this,aQ,aQ];rfl
  ·rintro ys σ G ⟨v0,rfl,rfl,sG⟩ E hE;have hl:(cR m).take ((((lst m).map λk:Nat=>(k:Int)).map V.int).length)=cR m:=kY (by unfold cR;simp);rw[hl];exists _,E,(cR m).map λc=>S [c],rfl,rfl,aj.of ar,?_,?_
   ·rw[yB,iy]
    have:=p6 hm
    simp[aH];lia
   ·rw[iy,EC];exact q _ (s1.trans (sG.trans (af.upd hE)))
def Ub(K:Frag):Sp:=λvs H Q _=>∃m n:Nat,vs=[.int (m:Int),.int (n:Int)]/\m<2^16/\n<10^63/\∀H',af H H'->Q (.str (S (mY m n))) H'
def zdF(T:Txt w K mg):Df.Ok P w K mg base 4 (Ub K):=by
  refine T.d_Z81.k ?_;rintro vs H Q E ⟨m,n,rfl,hm,hn,q⟩;refine wl fun hr hu nd=>⟨_,(ak (a9 (PW.pt (iQ (aR aV (pV 1) ai) (i8 (aR ke (pV 0) ai)))) (ao (aB (aD T.d_Z79 (Hx T) hr (aa (pV 0) ag)))) aN) (ao (aB (ay eM (eA iB rfl T.n_str iL (aa (pV 1) ag)) (aD T.d_Z79 (Hx T) hr (aa (pV 0) ag)))))),?_⟩
  have fin:¬(n=1/\m≠0)->∀H1,af H H1->Q (.str (S (cb n)++S (cR m))) H1:=λz H1 s1=>by
   rw[dH];have e:mY m n=cb n++cR m:=by unfold mY;rw[av z]
   rw[<-e];exact q H1 s1
  have aK:(S (cb n)).length+(S (cR m)).length<=sizeLine:=by
   rw[aH,aH];have h1:=lO (k:=62) hn;have h2:=p6 hm;exact aX (yR h1 h2) tD
  exists _,rfl,?_;refine dD (λh1=>?_) (λh1=>?_)
  ·have n1:n=1:=by grind
   exists _,rfl,?_;refine dD (λh2=>?_) (λh2=>?_)
   ·have m0:m≠0:=λz=>by simp_all
    exists m,rfl,hm,λH1 s1=>?_;have e:mY m n=cR m:=by unfold mY;rw[aC ⟨n1,m0⟩];rfl
    rw[<-e];exact q H1 s1
   ·have z:¬(n=1/\m≠0):=λz=>h2 (by simp_all)
    exists _,rfl,zj hn,?_;rw[pq];nomatch m,rfl,hm,λH1 s1=>⟨_,_,rfl,rfl,aK,fin z H1 s1⟩
  ·have z:¬(n=1/\m≠0):=λz=>h1 (by rw[z.1];simp)
   exists _,rfl,zj hn,?_;rw[pq];nomatch m,rfl,hm,λH1 s1=>⟨_,_,rfl,rfl,aK,fin z H1 s1⟩
def QW:(["members","number"]:List Str).Nodup:=by decide+kernel
def Yj(T:Txt w K mg):yO.Ok P w K mg base 5 (LL K):=by
  refine T.d_Z15.k ?_;rintro vs H Q E ⟨a,f,rfl,hT,hs,hl,q⟩;refine wl fun hr hu nd=>⟨_,(ak (a9 (nK (pI (pV 0) (fun _=>rfl))) (ao (aB aA)) aN) (ak (uA (i:=1) (g:=(eI K 2 (bT (aW 0) (bT (aW 1) e7)))) ["members", "number"] 2 [] nd rfl (Or.inl rfl) rfl (cL yO) (cH (pV 0)) (λa b c d e=>(ft (n:=2) rfl (b9 (aI 0 QW) (b9 (aI 1 QW) fB)))) (λa b c d e=>gA) (λa b c d e=>(ay eM (aD T.d_Z80 (LA T) hr.m (aa (pV 1) ag)) (aD T.d_Z81 (zdF T) hr (aa (pV 0) (aa (bq xw (by rfl) T.n_abs yj (aa (pV 1) ag)) ag))))))
   (ak (aE 2 nd (sZ (aR kc.j (xT (xL (pV 0) ai) ai) ai) aA aA)) (ao (aB (ay eM (pV 2) (j4 zh (bO fc lq lF lR aA (aa (pV 1) ag)) (fJ (bq m7 (by rfl) T.n_len dC (aa (aD T.d_Z80 (LA T) hr.m (aa (xT (xL (pV 0) ai) ai) ag)) ag))) lX))))))),?_⟩
  obtain⟨ps,hS,hP⟩:=id hT;have cX:=hP.length;cases f with
  |nil =>
   have hn:=oi cX;exists false,.inl ⟨_,aj.of hS,by rw[hn];rfl⟩,?_;refine eh ?_
   have:=q H (af.refl _)
   rw[show txt []=[48] from rfl,<-jM]at this;exact this
  |cons t0 r =>
   have hn:ps≠[]:=λz=>by simp_all
   exists true,.inl ⟨_,aj.of hS,by simp_all⟩,?_;refine gn ?_;exists ⟨_,aj.of hS⟩,?_;have hlf:(t0::r).length<=100000:=by lia
   refine gW (K:=K) (a:=a) (xs:=ps.map V.ref) (λi ys σ G=>∃v0 v1:Option V,σ=[v0,v1]/\ys=(((t0::r).take i).map λt=>S (cE t)).map V.str/\af H G)
    ⟨none,none,rfl,rfl,af.refl _⟩ (by rintro i ys σ G hi ⟨_,_,_,e1,e2⟩;exact⟨aj.of (e2 _ _ hS),by rw[e1,ax,ax,fR];exact F3 _ _⟩) (by rw[ax];exact bE (bD tL)) ?_ ?_
   ·rintro i y ys σ G hi ⟨v0,v1,rfl,rfl,sG⟩;obtain⟨p,cO,rfl⟩:=fQ hi;obtain⟨t,aY,cj⟩:=hP.at' cO;have hok:=hs t (cM aY);obtain⟨h0,h1,h2,h3⟩:=id hok;exists p,_,rfl,az.of (sG _ _ cj),rfl,_,_,rfl,_,_,rfl,rfl,?_;refine tt ?_;have ea:(if t.2<0 then -t.2 else t.2)=((t.2.natAbs:Nat):Int):=by split<;>lia
    have em:=(gh h0).symm;exists t.2,rfl,?_;exists _,rfl,?_;exists t.1.toNat,t.2.natAbs,by rw[ea,<-em];rfl,tL,h3,λG1 s1=>?_;have hle:(S [32,bt t.2,32]).length+(S (mY t.1.toNat t.2.natAbs)).length<=sizeLine:=by
     rw[aH,aH];exact aX (Bq (Bg tO h3) _) (by show 3+79<=sizeLine;decide)
    exists _,_,rfl,rfl,hle,?_;exists _,_,rfl,?_,sG.trans s1;rw[dH,cZ,aY,aQ,aQ];rfl
   ·rintro ys σ G ⟨v0,v1,rfl,rfl,sG⟩ D hD;have gE:(t0::r).take (ps.map V.ref).length=t0::r:=by simp_all
    rw[gE];have s1:af H (upd G D (.lst (((t0::r).map λt=>S (cE t)).map V.str))):=sG.trans (af.upd hD);have w1:upd G D (.lst (((t0::r).map λt=>S (cE t)).map V.str)) D=some (.lst (((t0::r).map λt=>S (cE t)).map V.str)):=ar;generalize upd G D (.lst (((t0::r).map λt=>S (cE t)).map V.str))=H1 at s1 w1;cases ps with
    |nil=>exact absurd rfl hn
    |cons p0 ps =>
     cases hP with
     |cons hp0 hP =>
      have mF:=s1 _ _ hS;have dZ:=s1 _ _ hp0;have hsum:(((t0::r).map λt=>S (cE t)).map (·.length)).sum<=82*(t0::r).length:=by
       have go:∀l:aq,(∀t∈l,gp t)->((l.map λt=>S (cE t)).map (·.length)).sum<=82*l.length:=λl=>by
        induction l with
        |nil=>intro _;exact aT _
        |cons t l ih =>
         intro xf;rw[bN,bN,mm,aH,bH];have h1:=Eb (xf t tS);have h2:=ih λu hu=>xf u (by simp[hu])
         lia
       exact go _ hs
      have ej:Txt.join (S []) ((t0::r).map λt=>S (cE t))=S ([32,bt t0.2,32]++(bz t0++r.flatMap cE)):=by
       have:=Ql ((t0::r).map cE)
       rw[fk]at this;refine (show Txt.join (S []) ((t0::r).map (S ∘ cE))=_ from this).trans ?_;rw[bN,oO,<-List.flatMap_def];unfold cE;simp
      have Td:([32,bt t0.2,32]++(bz t0++r.flatMap cE)).length<=6000:=by
       have h1:=Eb (hs t0 tS);have h2:=FL (r:=r) λu hu=>hs u (by simp[hu])
       have h3:([32,bt t0.2,32]++(bz t0++r.flatMap cE)).length=(cE t0).length+(r.flatMap cE).length:=by unfold cE;simp;lia
       simp only[bH]at hl;lia
      have fin:∀(x:Str),x=S (dA t0.2)->(∀G2,af H G2->Q (.str (x++S (bz t0++r.flatMap cE))) G2):=λx hx G2 s2=>by
       rw[hx,dH,<-gr];exact q G2 s2
      have e3:Txt.slice (S ([32,bt t0.2,32]++(bz t0++r.flatMap cE))) (some ((S [32,bt t0.2,32]).length:Int)) none=S (bz t0++r.flatMap cE):=Le;have ki:(((t0::r).map λt=>S (cE t)).map (·.length)).sum+((t0::r).map λt=>S (cE t)).length*(ofString "").length<=16777216:=by
       rw[iy,aH,nk,zf];lia
      have wm:dN (List.map V.ref (p0::ps)) 0=some (V.ref p0):=bc (xs:=List.map V.ref (p0::ps)) (j:=0) rfl;have OO:∀(x:Str),x=S (dA t0.2)->x.length+(S (bz t0++r.flatMap cE)).length<=sizeLine:=λx hx=>by
       rw[hx,aH,aH];have h3:(dA t0.2).length<=1:=by unfold dA;split<;>simp
       have h4:(bz t0++r.flatMap cE).length<=6000:=by grind
       exact aX (yR h3 h4) tD
      exists _,aj.of mF,wm,_,az.of dZ,rfl,_,rfl,?_;refine dD (λh=>?_) (λh=>?_)
      ·have hx:("-" : Str)=S (dA t0.2):=by rw[kn];unfold dA;rw[aC (bP h)]
       exists rfl,_,D,_,rfl,rfl,aj.of w1,ki,?_;exists _,aj.of mF,wm,_,az.of dZ,rfl,t0.2,rfl,_,rfl,c5,?_;exists _,rfl,(by rw[iy,ej,aH];exact aX Td tD),_,_,rfl,rfl,?_,?_
       ·rw[iy,ej,e3];exact OO _ hx
       ·rw[iy,ej,e3];exact fin _ hx _ s1
      ·have hx:("" : Str)=S (dA t0.2):=by rw[iy];unfold dA;rw[av (λz=>h (aU z))]
       exists rfl,_,D,_,rfl,rfl,aj.of w1,ki,?_;exists _,aj.of mF,wm,_,az.of dZ,rfl,t0.2,rfl,_,rfl,c5,?_;exists _,rfl,(by rw[iy,ej,aH];exact aX Td tD),_,_,rfl,rfl,?_,?_
       ·rw[show Txt.join (ofString "")=Txt.join (S []) by rw[iy],ej,e3];exact OO _ hx
       ·rw[show Txt.join (ofString "")=Txt.join (S []) by rw[iy],ej,e3];exact fin _ hx _ s1
def Wz(K:Frag)(TM:Addr):Sp:=λvs H Q E=>∃(a:Addr) (l:aq),vs=[.ref a]/\aG H a l/\(∀t∈l,0<=t.1)/\(¬10<bQ l->Q (.int ((bQ l:Nat):Int)) H)/\(10<bQ l->E (.ref TM) none H)
def NO(T:Txt w K mg):Iy.OkE P w K mg base 2 (Wz K fE):=by
  refine T.d_Z5.e ?_;rintro vs H Q E ⟨a,l,rfl,hT,h0,q,e⟩;refine wl fun hr hu nd=>⟨_,(ak (PS.nox (aE 1 nd (gy xj vU vX wb (aD T.d_Z90 (Ac T) hr (aa (pV 0) ag))))) (ak (a9 (aR jI.j (pV 1) ai) (ao (C7 iT rfl (by rfl) T.g_TooMany T.x_TooMany)) aN)
   (ao (PS.nox (aB (pV 1)))))),?_⟩
  exists a,l,rfl,hT.tl,h0,rfl,_,rfl,rfl,?_;exists _,rfl,?_;refine dD (λz=>?_) (λz=>?_)
  ·exact e (by have:=bP z;unfold bQ;lia)
  ·exact q λy=>z (aU (by unfold bQ at y;lia))
def VT:Sp:=λvs H Q _=>∃(b m:Nat),vs=[.int (b:Int),.int (2^m)]/\b<2^m/\m<=100/\Q (.int (2^(m-pc b))) H
def Ue(T:Txt w K mg):Iw.Ok P w K mg base 1 VT:=by
  refine T.d_Z19.k ?_;rintro vs H Q E ⟨b,m,rfl,hb,hm,q⟩;refine wl fun hr hu nd=>⟨_,(ak (tw c8 (aR zZ (pv 0) ai) (ak (aE 0 nd (ay su (pv 0) (ay iW (pv 0) ai))) (ao (aE 1 nd (ay gC (pv 1) ai))))) (ao (aB (pv 1)))),?_⟩
  have pw:∀i:Nat,((2:Int)^i)=((2^i:Nat):Int):=λi=>by norm_cast
  refine zeU (λσ H2=>∃c k:Nat,σ=[some (.int (c:Int)),some (.int (2^k))]/\H2=H/\pc c<=k/\k-pc c=m-pc b)
   (λσ _=>match σ with|[some (.int c),_]=>c.toNat|_=>0) ⟨b,m,rfl,rfl,Gv m b hb,rfl⟩ ?_ ?_
  ·rintro σ H2 ⟨c,k,rfl,rfl,h1,h2⟩;exists _,rfl,rfl,_,rfl,?_;by_cases hc:c=0
   ·subst hc;rw[ur,Nat.sub_zero]at h2;refine aM tS ⟨_,rfl,?_⟩;rw[h2];exact q
   ·obtain⟨l1,l2⟩:=Q8 c c (aT _) hc;refine a7 (by simp_all) ?_;have e1:Builtin.bitAnd (c:Int) ((c:Int)-1)=((c&&&(c-1):Nat):Int):=by
     rw[show (c:Int)-1=((c-1:Nat):Int) by lia,vw]
    have e2:((2:Int)^k)/2=2^(k-1):=by
     rw[show k=k-1+1 by lia,Q4];simp
    exists _,rfl,_,rfl,_,_,rfl,rfl,_,_,rfl,rfl,_,rfl,_,_,rfl,rfl,⟨tD,tD⟩,⟨c&&&(c-1),k-1,?_,rfl,tL,tL⟩,?_
    ·show [some (V.int (Builtin.bitAnd (c:Int) ((c:Int)-1))),some (V.int ((2:Int)^k/2))]=_;rw[e1,e2]
    ·show (Builtin.bitAnd (c:Int) ((c:Int)-1)).toNat<((c:Nat):Int).toNat;rw[e1];simpa using l1
  ·rintro σ H2 Q1 Q2 h ⟨v,h1,h2,b,h3,h4⟩;nomatch v,h1,h2,b,h3,h _ _ h4
def Qr(K:Frag):Sp:=λvs H Q _=>∃(a:Addr) (l:aq) (m:Nat),vs=[.ref a,.int (m:Int)]/\TL K H a l/\(∀t∈l,0<=t.1/\t.1<2^m)/\l.length<=100000/\m<=100/\Ui (2^5000) l /\
 ∀H',af H H'->Q (.int (wa m l)) H'
def OT:(["members","number","size"]:List Str).Nodup:=by decide+kernel
def zcL(T:Txt w K mg):AW.Ok P w K mg base 2 (Qr K):=by
  refine T.d_Z94.k ?_;rintro vs H Q E ⟨a,l,m,rfl,⟨ps,hS,hT⟩,hk,aK,hm,vQ,q⟩;refine wl fun hr hu nd=>⟨_,(ak (aE 2 nd (aD T.d_Z4 (oZ T) hr (aa (pV 1) ag)))
   (ao (aB (bq (sJ rfl) (by rfl) T.n_sum ug (aa (du (g:=(eI K 2 (bT (aW 0) (bT (aW 1) e7)))) ["members", "number", "size"] 2 [2] rfl (cL AW) (cH (pV 0))
    (λa b c d e=>(ft (n:=2) rfl (b9 (aI 0 OT) (b9 (aI 1 OT) fB)))) (λa b c d e=>(gH (aR kc.j (pV 0) (pV 2)))) (λa b d e f=>(ay fI.c (pV 1) (aD T.d_Z19 (Ue T) hr (aa (pV 0) (aa (pV 2) ag)))))) ag))))),?_⟩
  have pw:∀i:Nat,((2:Int)^i)=((2^i:Nat):Int):=λi=>by norm_cast
  exists m,rfl,hm,?_;exists ⟨_,hS⟩,?_;refine gW (K:=K) (a:=a) (xs:=ps.map V.ref) (λi ys σ H2=>∃v0 v1:Option V,σ=[v0,v1,some (.int (2^m))]/\ys=((l.take i).map λt=>t.2*2^(m-pc t.1.toNat)).map V.int/\H2=H)
   ⟨none,none,rfl,rfl,rfl⟩ (by rintro i ys σ H2 hi ⟨_,_,_,e1,e2⟩;exact⟨by rw[e2];exact hS,by rw[e1,ax,ax,fR];lia⟩) (by rw[ax,hT.length];exact bE (bD tO)) ?_ ?_
  ·rintro i y ys σ H2 hi ⟨v0,v1,rfl,rfl,rfl⟩;obtain⟨p,cO,rfl⟩:=fQ hi;obtain⟨t,aY,cj⟩:=hT.at' cO;have gv:=cM aY;obtain⟨k0,k1⟩:=hk t gv;have bB:l.take (i+1)=l.take i++[t]:=by rw[cZ,aY];rfl
   have e1:=gh k0;have e2:=pw m;exists p,_,rfl,az.of cj,rfl,_,_,rfl,_,_,rfl,rfl,?_;exists _,rfl,a7 (aU k1) ?_;exists t.1.toNat,m,(by rw[e1];rfl),tL,hm,?_;have fj:t.2.natAbs<2^5001:=jm (vQ t gv) (El tD tD);have ik:((2:Int)^(m-pc t.1.toNat)).natAbs<2^101:=by
    rw[pw,pX];exact El tD tL
   exists Xo fj ik tD,some (.int t.1),some (.int t.2),rfl,?_,rfl;rw[bB,aQ,aQ];rfl
  ·rintro ys σ H2 ⟨v0,v1,rfl,rfl,rfl⟩ D hD;rw[ax,hT.length,dG];nomatch D,_,rfl,aj.of ar,q _ (af.upd hD)
def zcp(T:Txt w K mg):Gb.Ok P w K mg base 3 (Qr K):=by
  refine T.d_Z93.k ?_;rintro vs H Q E ⟨a,l,m,rfl,hT,hk,aK,hm,vQ,q⟩;refine wl λhr hu nd=>⟨_,(ao (aB (aD T.d_Z94 (zcL T) hr (aa (pV 0) (aa (pV 1) ag))))),?_⟩
  nomatch a,l,m,rfl,hT,hk,aK,hm,vQ,q
def ub(NN NY TM:Addr)(H:Hp)(Q:VK)(E:XK):An->Prop
 |.txt s=>∀H',af H H'->Q (.str s) H'
 |.name=>∀H',af H H'->E (.ref NN) none H'
 |.yesno=>∀H',af H H'->E (.ref NY) none H'
 |.many=>∀H',af H H'->E (.ref TM) none H'
def zcx(K:Frag)(NN NY TM:Addr):Sp:=λvs H Q E=>∃(a:Addr) (f:aq) (q:W1) (ls:List Nat),vs=[.str q.wd,.ref a]/\aG H a f/\dh ls f/\ls.length<=5/\(∀x∈ls,x<16)/\ub NN NY TM H Q E (q.an f)
def zeW(T:Txt w K mg):FN.OkE P w K mg base 19 (zcx K eJ eR fE):=by
  refine T.d_Z88.e ?_;rintro vs H Q E ⟨a,f,q0,ls,rfl,hT,hF,h5,cI,hq⟩;refine wl fun hr hu nd=>⟨_,(ak (PS.nox (bW (bX aV (pV 0) aA) (ao (aB (aD T.d_Z15 (Yj T) hr.m (aa (pV 1) ag)))) aN)) (ak (PS.nox (bW (bX aV (pV 0) aA) (ao (aB (zdK (aD T.d_Z79 (Hx T) hr.m (aa (aD T.d_Z90 (Ac T) hr.m (aa (pV 1) ag)) ag)) (px aA)))) aN)) (ak (bW (bX aV (pV 0) aA) (ao (aB (eA iB rfl T.n_str iL (aa (aD T.d_Z93 (zcp T) hr.m (aa (uT (Rp T) hr.m (by rfl) T.d_Z99.m T.d_Z99.F.kp T.d_Z99.b .nil (jR iT) (aa (pV 1) ag)) (aa (uT (NO T) hr.m (by rfl) T.d_Z5.m T.d_Z5.F.kp T.d_Z5.b .nil (jR iT) (aa (pV 1) ag)) ag))) ag)))) aN)
   (ak (aE 2 nd (aD T.d_Z61 (za1 T) hr (aa (pV 1) (aa (uT (NO T) hr.m (by rfl) T.d_Z5.m T.d_Z5.F.kp T.d_Z5.b .nil (jR iT) (aa (pV 1) ag)) ag))))
   (ao (PS.nox (aB (ay eM (ay eM (eA iB rfl T.n_str iL (aa (xT (pV 2) ai) ag)) aA) (eA iB rfl T.n_str iL (aa (xT (pV 2) ai) ag)))))))))),?_⟩
  have aK:=hF.len h5;have Eh:=fM aK aK;have h0:∀t∈f,0<=t.1:=λt ht=>(hF.2.1 t ht).1
  cases q0 with
  |shw =>
   refine vy ?_;nomatch a,f,rfl,hT,hF.say cI,aX aK tD,λH1 s1=>hq H1 s1
  |unk =>
   refine vn ?_;refine vy ?_;exists a,f,rfl,hT.tl,h0,cT f 0,rfl,hF.any cI,λH1 s1=>?_;have ie:=p6 (hF.any cI);exists _,rfl,by rw[aH];exact aX ie tD,?_;have fF:=hq H1 s1;by_cases z:cT f 0=0
   ·rw[aC z]at fF;rw[z];exact a7 rfl fF
   ·rw[av z]at fF;exact aM (λy=>z (Co.mp (oi (by assumption)))) fF
  |way =>
   refine vn ?_;refine vn ?_;refine vy ?_;refine⟨a,f,rfl,hT,tL,⟨ls,h5,hF.2.1⟩,(λt ht u hu=>lL (hF.2.2 t ht) (hF.2.2 u hu)),λH1 s1 hy=>?_,λH1 s1 hy=>by unfold W1.an at hq;dsimp only at hq;rw[av hy]at hq;exact hq H1 s1⟩;unfold W1.an at hq;dsimp only at hq;rw[aC hy]at hq;refine⟨a,f,rfl,hT.keep s1,h0,λhm=>?_,λhm=>by rw[aC hm]at hq;exact hq H1 s1⟩;rw[av hm]at hq;exists a,f,bQ f,rfl,(hT.keep s1).tl,hF.keysM,tL,tL,(λt ht=>bE (lQ (hF.2.2 t ht) tE)),λH2 s2=>?_;nomatch _,rfl,hF.wsumF h5 tL,hq H2 (s1.trans s2)
  |lea =>
   refine vn ?_;refine vn ?_;refine vn ?_;refine⟨a,f,rfl,hT,h0,λhm=>?_,λhm=>by unfold W1.an at hq;dsimp only at hq;rw[aC hm]at hq;exact hq H (af.refl _)⟩;unfold W1.an at hq;dsimp only at hq;rw[av hm]at hq;exists a,f,bQ f,ls,rfl,hT,hF.1,hF.2.1,h5,cI,hF.keysM,tO,λc n v H1 hc hn s1=>?_;obtain⟨b1,b2,l1,l2⟩:=hF.lea h5 tO hn;exists _,az.of hc,bc (j:=0) rfl,_,rfl,b1,_,_,rfl,rfl,l1,?_;exists _,az.of hc,bc (j:=1) rfl,_,rfl,b2,_,_,rfl,rfl,l2,?_
   have:=hq H1 s1
   unfold AZ at this;rw[PQ hn]at this;exact this
def Zz:Sp:=λvs H Q _=>∃f:aq,vs=[zM f]/\(∀t∈f,t.1.natAbs.log2<1920)/\Q (.str (AO f)) H
def Pp(T:Txt w K mg):Ek.Ok P w K mg base 1 Zz:=by
  refine T.d_Z89.k ?_;rintro vs H Q E ⟨f,rfl,hk,q⟩;refine wl λhr hu nd=>⟨_,(ao (aB (sZ (aR qU (pV 0) iX) aA (eA iB rfl T.n_str iL (aa (pV 0) ag))))),?_⟩
  cases f with
  |nil=>nomatch rfl,_,rfl,a7 tD q
  |cons t r=>nomatch rfl,_,rfl,aM (by simp[zM]) ⟨_,rfl,hk t tS,q⟩
def Lf:(["members","number","given"]:List Str).Nodup:=by decide+kernel
def zdL(T:Txt w K mg):Ab.Ok P w K mg base 1 (Lz K):=by
  refine T.d_Z98.k ?_;rintro vs H Q E ⟨a,l,g,rfl,⟨ps,hS,hT⟩,aK,q⟩;refine wl fun hr hu nd=>⟨_,(ao (aB (bq (sJ rfl) (by rfl) T.n_sum ug (aa (du (g:=(eI K 2 (bT (aW 0) (bT (aW 1) e7)))) ["members", "number", "given"] 2 [1] rfl (cL Ab) (cH (pV 0))
    (λa b c d e=>(ft (n:=2) rfl (b9 (aI 0 Lf) (b9 (aI 1 Lf) fB)))) (λa b c d e=>(gH (aR aV (ay su.j (pV 0) (pV 2)) (pV 0)))) (λa b c d e=>(pV 1))) ag)))),?_⟩
  exists ⟨_,hS⟩,?_;refine gW (K:=K) (a:=a) (xs:=ps.map V.ref) (λi ys σ H2=>∃(v0 v1:Option V),σ=[v0,v1,some (.int g)]/\H2=H/\ys=(((l.take i).filter λt=>decide (Builtin.bitAnd t.1 g=t.1)).map (·.2)).map V.int)
   ⟨none,none,rfl,rfl,rfl⟩ (by rintro i ys σ H2 hi ⟨_,_,_,e,e2⟩;exact⟨by rw[e];exact hS,by grind⟩) (by rw[ax,hT.length];exact bE (bD tO)) ?_ ?_
  ·rintro i y ys σ H2 hi ⟨v0,v1,rfl,rfl,rfl⟩;obtain⟨p,cO,rfl⟩:=fQ hi;obtain⟨t,aY,cj⟩:=hT.at' cO;have bB:l.take (i+1)=l.take i++[t]:=by rw[cZ,aY];rfl
   exists p,_,rfl,az.of cj,rfl,_,_,rfl,_,_,rfl,rfl,?_;exists _,rfl,?_;refine dD (λh1=>?_) (λh1=>?_)
   ·have bJ:Builtin.bitAnd t.1 g=t.1:=by have:=bP h1;injection this
    exists _,_,rfl,rfl,?_;rw[bB,dX,aQ,aQ];simp[bJ]
   ·have bJ:¬Builtin.bitAnd t.1 g=t.1:=λz=>h1 (aU (congrArg V.int z))
    exists _,_,rfl,rfl,?_;rw[bB,dX,aQ,aQ];simp[bJ]
  ·rintro ys σ H2 ⟨v0,v1,rfl,rfl,rfl⟩ D hD;exists D,_,rfl,aj.of ar,?_
   have:=q _ (af.upd (o:=.lst ((((l.take (ps.map V.ref).length).filter λt=>decide (Builtin.bitAnd t.1 g=t.1)).map (·.2)).map V.int)) hD)
   rw[ax,hT.length,dG]at this ⊢;exact this
def XU(K:Frag):Sp:=λvs H Q _=>∃(a:Addr) (l:aq),vs=[.ref a]/\aG H a l/\(l=[]->Q .non H)/\∀t r,l=t::r->Q (.int t.1) H
def Lu(T:Txt w K mg):CG.Ok P w K mg base 1 (XU K):=by
  refine T.d_Z6.k ?_;rintro vs H Q E ⟨a,l,rfl,hT,q⟩;refine wl λhr hu nd=>⟨_,(ao (aB (sZ (pI (pV 0) (λ_=>rfl)) (xT (xL (pV 0) ai) ai) iX))),?_⟩
  obtain⟨ps,hS,hP⟩:=id hT;cases l with
  |nil =>
   have hn:=hP.length;have e:ps=[]:=by simp_all
   subst e;nomatch false,.inl ⟨_,aj.of hS,rfl⟩,gn (q.1 rfl)
  |cons t r =>
   have hn:=hP.length;obtain⟨p,Ka,rfl⟩:∃p Ka,ps=p::Ka:=by cases ps with|nil=>simp at hn|cons x r=>nomatch x,r,rfl
   obtain⟨t',aY,cj⟩:=hP.at' (i:=0) (p:=p) rfl;have e:t=t':=by simpa using aY
   subst e;exists true,.inl ⟨_,aj.of hS,rfl⟩,eh ?_;nomatch V.ref p,aj.of hS,bc (j:=0) rfl,_,az.of cj,rfl,q.2 t r rfl
def zeY(K:Frag):Sp:=λvs H Q _=>∃(a b:Addr) (l o:aq),vs=[.ref a,.ref b]/\aG H a l/\aG H b o/\l.length+o.length<=100000/\eQ (l++o) /\
 ∀H':Hp,af H H'->Q (zM (oa l o)) H'
def Ng(h:IsForm f)(hv:∀k,aL f k=aL l k-aL o k):f=oa l o:=Ih (lG h λk=>by rw[hv,cG,nL];lia)
def zdD(T:Txt w K mg):Dx.Ok P w K mg base 5 (zeY K):=by
  refine T.d_Z91.k ?_;rintro vs H Q E ⟨a,b,l,o,rfl,hT,eP,aK,h5,q⟩;refine wl λhr hu nd=>⟨_,(ao (aB (aD T.d_Z6 (Lu T) hr.m (aa (aD T.d_Z62 (BL T) hr (aa (pV 0) (aa (pV 1) ag))) ag)))),?_⟩
  exists a,b,l,o,rfl,hT,eP,aK,h5,λc f H1 hc ck cU hv dI s1=>?_;rw[Ng cU hv]at ck;exists c,_,rfl,ck,λe=>?_,λt r e=>?_
  ·have:=q H1 s1;rw[e]at this;exact this
  ·have:=q H1 s1;rw[e]at this;exact this
def ZV(K:Frag):Sp:=λvs H Q _=>∃(a b:Addr) (l o:aq) (m:Int),vs=[.ref a,.ref b,.int m]/\aG H a l/\aG H b o/\l.length+o.length<=100000/\eQ (l++o)/\0<m /\
 ∀H':Hp,af H H'->Q (zM (r9 m (oa l o))) H'
def Jc:(["members","number","m"]:List Str).Nodup:=by decide+kernel
def zaX(T:Txt w K mg):yK.Ok P w K mg base 5 (ZV K):=by
  refine T.d_Z92.k ?_;rintro vs H Q E ⟨a,b,l,o,m,rfl,hT,eP,aK,h5,hm,q⟩;refine wl fun hr hu nd=>⟨_,(ao (aB (aD T.d_Z6 (Lu T) hr.m (aa (du (g:=(eI K 2 (bT (aW 0) (bT (aW 1) e7)))) ["members", "number", "m"] 2 [2] rfl (cL yK) (cH (aD T.d_Z62 (BL T) hr (aa (pV 0) (aa (pV 1) ag)))) (λa b c d e=>(ft (n:=2) rfl (b9 (aI 0 Jc) (b9 (aI 1 Jc) fB)))) (λa b d e f=>(gH (aR ke (ay bS.c (pV 1) (pV 2)) ai))) (λa b c d e=>(bx (aa (pV 0) (aa (pV 1) ag))))) ag)))),?_⟩
  exists a,b,l,o,rfl,hT,eP,aK,h5,λc f H1 hc ck cU hv dI s1=>?_;rw[Ng cU hv]at ck dI;exists ck.tl.seq,?_;refine tX (λt=>decide (t.2%m≠0)) (λt=>t) ck.tl tL [some (.int m)] rfl (λt ht H2 R s2 r=>?_) (λt ht hp H2 R s2 r=>?_) λD ys H2 hD bF s2=>?_
  ·exists hm,_,rfl,?_;have e:(!decide (V.int (t.2%m)=V.int 0))=decide (t.2%m≠0):=by simp
   rw[e];exact r
  ·nomatch bL,r
  ·rw[wk]at bF
   have:=q _ (s1.trans s2)
   exists D,r9 m (oa l o),rfl,bF,λe=>?_,λt r e=>?_
   ·rw[e]at this;exact this
   ·rw[e]at this;exact this
def ZK(K:Frag)(C NN NY TM:Addr):Sp:=λvs H Q E=>∃(p d t:Addr) (st:eK) (q:Ask) (ls:List Nat),vs=[.ref p,.str q.wd,.ref t]/\H t=some (.lst q.th)/\kE C H p d st/\ls.length<=5/\(∀x∈ls,x<16)/\(∀nf∈st,dh ls nf.2)/\q.ok/\ub NN NY TM H Q E (q.tells st)
def VN(T:Txt w K mg):CC.OkE P w K mg base 20 (ZK K gq eJ eR fE):=by
  refine Rw.okE T.d_Desk_answer.F T.d_Desk_answer.S ?_;rintro vs H Q E ⟨p,d,t,st,q0,ls,rfl,ht,hD,h5,cI,a8,hok,hq⟩;refine wl fun hr hu nd=>⟨_,(ak (aE 3 nd (qv (pV 0) T.cl_Desk T.d_Desk_kept.m (sM T) hr.m T.d_Desk_kept.b .nil (jR iT) (aa (xL (pV 2) ai) ag))) (ak (PS.nox (bW (bX aV (pV 1) aA) (ao (aB (eA iB rfl T.n_str iL (aa (aD T.d_Z98 (zdL T) hr.m (aa (pV 3) (aa (xL (pV 2) ai) ag))) ag)))) aN)) (ak (bW (bX aV (pV 1) aA) (ao (aB (aD T.d_Z89 (Pp T) hr.m (aa (aD T.d_Z91 (zdD T) hr.m (aa (pV 3) (aa (qv (pV 0) T.cl_Desk T.d_Desk_kept.m (sM T) hr.m T.d_Desk_kept.b .nil (jR iT) (aa (xL (pV 2) ai) ag)) ag))) ag)))) aN) (ak (bW (bX aV (pV 1) aA) (ao (aB (aD T.d_Z89 (Pp T) hr.m (aa (aD T.d_Z92 (zaX T) hr.m (aa (pV 3) (aa (qv (pV 0) T.cl_Desk T.d_Desk_kept.m (sM T) hr.m T.d_Desk_kept.b .nil (jR iT) (aa (xL (pV 2) ai) ag)) (aa (xL (pV 2) ai) ag)))) ag)))) aN) (ao (aB (uT (zeW T) hr (by rfl) T.d_Z88.m T.d_Z88.F.kp T.d_Z88.b .nil (jR iT) (aa (pV 1) (aa (pV 3) ag))))))))),?_⟩
  obtain⟨⟨dx,ho⟩,_⟩:=id hD;unfold Ask.tells at hq;cases q0 with
  |one w n =>
   rw[show (Ask.one w n).wd=w.wd from rfl];exists p,dx,_,rfl,ho,jz d tE,_,aj.of ht,bc (j:=0) rfl,p,d,st,n,rfl,hD,λa f hf hT=>?_,λhg=>?_
   rotate_left
   ·dsimp only at hq;rw[hg]at hq;exact hq H (af.refl _)
   dsimp only at hq;rw[hf]at hq;refine vN (by cases w<;>decide) ?_;refine vN (by cases w<;>decide) ?_;refine vN (by cases w<;>decide) ?_;nomatch a,f,w,ls,rfl,hT,d7 a8 hf,h5,cI,hq
  |wor n g =>
   have ew:(Ask.wor n g).wd=ofString "worth" := rfl;exists p,dx,_,rfl,ho,jz d tE,_,aj.of ht,bc (j:=0) rfl,p,d,st,n,rfl,hD,λa f hf hT=>?_,λhg=>?_
   rotate_left
   ·dsimp only at hq;rw[hg]at hq;exact hq H (af.refl _)
   dsimp only at hq;rw[hf]at hq;have hF:=d7 a8 hf;have aK:=hF.len h5;refine vY (by rw[ew];decide) ?_;exists _,aj.of ht,bc (j:=1) rfl,a,f,(g:Int),rfl,hT.tl,tL,λH1 s1=>?_;nomatch _,rfl,hF.worth h5 _,hq H1 s1
  |ali n m =>
   have ew:(Ask.ali n m).wd=ofString "alike" := rfl;exists p,dx,_,rfl,ho,jz d tE,_,aj.of ht,bc (j:=0) rfl,p,d,st,n,rfl,hD,λa f hf hT=>?_,λhg=>?_
   rotate_left
   ·dsimp only at hq;rw[hg]at hq;exact hq H (af.refl _)
   dsimp only at hq;rw[hf]at hq;refine vN (by rw[ew];decide) ?_;refine vY (by rw[ew];decide) ?_;exists p,dx,_,rfl,ho,jz d tE,_,aj.of ht,bc (j:=1) rfl,p,d,st,m,rfl,hD,λb o hg eP=>?_,λhg=>?_
   rotate_left
   ·dsimp only at hq;rw[hg]at hq;exact hq H (af.refl _)
   dsimp only at hq;rw[hg]at hq;have hF:=d7 a8 hf;have hO:=d7 a8 hg;have l1:=hF.len h5;have l2:=hO.len h5;exists a,b,f,o,rfl,hT,eP,tL,⟨ls,h5,hF.2.1.app hO.2.1⟩,λH1 s1=>?_;nomatch _,rfl,Ce (hF.minus hO) cI,hq H1 s1
  |rst n m k =>
   have ew:(Ask.rst n m k).wd=ofString "rest" := rfl;exists p,dx,_,rfl,ho,jz d tE,_,aj.of ht,bc (j:=0) rfl,p,d,st,n,rfl,hD,λa f hf hT=>?_,λhg=>?_
   rotate_left
   ·dsimp only at hq;rw[hg]at hq;exact hq H (af.refl _)
   dsimp only at hq;rw[hf]at hq;refine vN (by rw[ew];decide) ?_;refine vN (by rw[ew];decide) ?_;refine vY (by rw[ew];decide) ?_;exists p,dx,_,rfl,ho,jz d tE,_,aj.of ht,bc (j:=1) rfl,p,d,st,m,rfl,hD,λb o hg eP=>?_,λhg=>?_
   rotate_left
   ·dsimp only at hq;rw[hg]at hq;exact hq H (af.refl _)
   dsimp only at hq;rw[hg]at hq;have hF:=d7 a8 hf;have hO:=d7 a8 hg;have l1:=hF.len h5;have l2:=hO.len h5;exists _,aj.of ht,bc (j:=2) rfl,a,b,f,o,(k:Int),rfl,hT,eP,tO,⟨ls,h5,hF.2.1.app hO.2.1⟩,by have:=hok.2.2.1;lia,λH1 s1=>?_;nomatch _,rfl,(λu hu=>Ce (hF.minus hO) cI u (gJ.mp hu).1),hq H1 s1
def za4(K:Frag)(C NN NY TM:Addr):Sp:=λvs H Q E=>∃(p d:Addr) (st:eK) (l ls:List Nat),vs=[.ref p,.str (S l)]/\kE C H p d st/\(∀c∈l,c<128)/\l.length<=9000/\ls.length<=5/\(∀x∈ls,x<16)/\(∀nf∈st,dh ls nf.2)/\st.length<=1000 /\
 ((∃ c:bI,eZ l=some (some c.nm,c.wl,c.th)/\zQ ls c/\(∀ H',iE ls st c .name->af H H'->E (.ref NN) none H')/\(∀ H',iE ls st c .yesno->af H H'->E (.ref NY) none H') /\ ∀f,iE ls st c (.form f)->(f.length<=300/\∀t∈f,t.2.natAbs<10^100)/\∀(kvs:List (cu×V)) (b:Addr) (H1:Hp),H d=some (.dK kvs)->H b=none->aG H1 b f->af H H1->Q (.str "ok") (upd H1 d (.dK (d8 kvs (Sum.inr (S c.nm)) (.ref b))))) \/ (∃q:Ask,eZ l=some (none,q.wl,q.th)/\q.ok/\ub NN NY TM H Q E (q.tells st)))
def ub.up{NN NY TM:Addr}{H H1:Hp}{Q:VK}{E:XK}{r:An}(h:ub NN NY TM H Q E r)(s:af H H1):ub NN NY TM H1 Q E r:=by
 cases r<;>exact λH' s'=>h H' (s.trans s')
def ZQ(T:Txt w K mg):Ik.OkE P w K mg base 21 (za4 K gq eJ eR fE):=by
  refine Rw.okE T.d_Desk_say.F T.d_Desk_say.S ?_;rintro vs H Q E ⟨p,d,st,l,ls,rfl,hD,ha,hl,bb,cf,a8,AJ,Fb⟩;refine wl fun hr hu nd=>⟨_,(ak (PS.nox (qd (aD T.d_Z63 (zbF T) hr.m (aa (pV 1) ag)) (iu (n:=3) rfl (cJ (aI 2 nd) (cJ (aI 3 nd) (cJ (aI 4 nd) g9)))))) (ak (bW (bX qU (pV 2) iX) (ao (aB (qv (pV 0) T.cl_Desk T.d_Desk_answer.m (VN T) hr T.d_Desk_answer.b .nil (jR iT) (aa (pV 3) (aa (pV 4) ag))))) aN) (ak (aE 5 nd (qv (pV 0) T.cl_Desk T.d_Desk_form_for.m (zeQ T) hr.m T.d_Desk_form_for.b .nil (jR iT) (aa (pV 3) (aa (pV 4) ag)))) (ak (PS.nox (d5 (aD T.d_Z77 (zaT T) hr.m (aa (pV 5) ag)))) (ak (PS.nox (rP hu (FC (pV 0) rfl) (pV 2) (pV 5) rfl)) (ao (PS.nox (aB aA)))))))),?_⟩
  obtain⟨⟨dx,ho⟩,_⟩:=id hD;rcases Fb with ⟨c,hc,hok,qn,qy,q⟩|⟨q0,hc,hok,hq⟩
  ·refine⟨l,rfl,ha,hl,λo wo vs pp cc H1 hr hp mJ s1=>?_,λH1 hr s1=>by simp_all⟩;rw[hc]at hr;cases hr;exists _,az.of hp,rfl,?_;exists rfl,vN (by simp[GR]) ?_;exists p,dx,_,rfl,s1 _ _ ho,jz d tE,p,d,cc,st,c,ls,(by rw[wl_S];rfl),mJ,hD.keep s1,bb,cf,a8,hok,(λH2 hm s2=>qn H2 hm (s1.trans s2)),(λH2 hm s2=>qy H2 hm (s1.trans s2)),λf b H2 hm hb hT s2=>?_;obtain⟨⟨f1,f2⟩,f3⟩:=q f hm;exists b,f,rfl,hT,f1,f2,λH3 s3=>?_;have S3:=s1.trans (s2.trans s3);obtain⟨kvs,rB,HH⟩:=id hD.dc;have ia:=eV HH;exists p,_,dx,_,_,rfl,S3 _ _ ho,T.cl_Desk,T.nf_Desk_forms,IM d,d,_,rfl,lH.k (k:=Sum.inr (S c.nm)) (S3 _ _ rB) (bD tL),?_;exact f3 kvs b H3 rB (Nc s1 hb) (hT.keep s3) S3
  ·refine⟨l,rfl,ha,hl,λo wo vs pp cc H1 hr hp mJ s1=>?_,λH1 hr s1=>by simp_all⟩;rw[hc]at hr;cases hr;exists _,az.of hp,rfl,?_;exists rfl,vy ?_;nomatch p,dx,_,rfl,s1 _ _ ho,jz d tE,p,d,cc,st,q0,ls,(by rw[Ask.wl_S];rfl),mJ,hD.keep s1,bb,cf,a8,hok,hq.up s1
inductive Er where
 |name|yesno|many
noncomputable def Er.wo:Er->Str
 |.name => "name" |.yesno => "yes no" |.many => "many"
def Er.a:Er->Addr
 |.name=>eJ|.yesno=>eR|.many=>fE
noncomputable def Er.n:Er->Nat
 |.name=>3|.yesno=>4|.many=>5
def Er.b(k:Er)(i:Nat):Bool:=decide (i=k.n)
def pj(H:Hp)(Q:VK)(k:Er):Prop:=∀e H',H' e=some (.lst [.str k.wo])->af H H'->Q (.ref e) H'
def rf(H:Hp)(Q:VK):An->Prop
 |.txt s=>∀H',af H H'->Q (.str s) H'
 |.name=>pj H Q .name
 |.yesno=>pj H Q .yesno
 |.many=>pj H Q .many
def WI(K:Frag)(C:Addr):Sp:=λvs H Q _=>∃(p d:Addr) (st:eK) (l ls:List Nat),vs=[.ref p,.str (S l)]/\kE C H p d st/\(∀c∈l,c<128)/\l.length<=9000/\ls.length<=5/\(∀x∈ls,x<16)/\(∀nf∈st,dh ls nf.2)/\st.length<=1000 /\
 ((∃ c:bI,eZ l=some (some c.nm,c.wl,c.th)/\zQ ls c/\(iE ls st c .name->pj H Q .name)/\(iE ls st c .yesno->pj H Q .yesno) /\ ∀f,iE ls st c (.form f)->(f.length<=300/\∀t∈f,t.2.natAbs<10^100)/\∀(kvs:List (cu×V)) (b:Addr) (H1:Hp),H d=some (.dK kvs)->H b=none->aG H1 b f->af H H1->Q (.str "ok") (upd H1 d (.dK (d8 kvs (Sum.inr (S c.nm)) (.ref b))))) \/ (∃q:Ask,eZ l=some (none,q.wl,q.th)/\q.ok/\rf H Q (q.tells st)))
noncomputable def eW:List V:=[.str "line",.str "form",.str "statement",.str "name",.str "yes no",.str "many",.str "pull"]
def Er.at(k:Er):eW[k.n]?=some (.str k.wo):=by cases k<;>rfl
def zba:(["_law_one"]:List Str).Nodup:=by decide+kernel
def Dw(T:Txt w K mg):Bj.Ok P w K mg base 22 (WI K gq):=by
  refine T.d_Z47.k ?_;rintro vs H Q E ⟨p,d,st,l,ls,rfl,hD,ha,hl,bb,cf,a8,AJ,Fb⟩;refine wl fun hr hu nd=>⟨_,(ak (aE 2 nd iX) (ak (aE 3 nd iX) (ak (kx (Vc (i:=4) (j:=2) (l:=3) (W5 Tt) (pV 0) T.cl_Desk T.d_Desk_say.m (ZQ T) hr T.d_Desk_say.b (aa (pV 1) ag) nd rfl rfl rfl tD T.g_FormError T.x_FormError)) (ak (bW (bX qU (pV 2) iX) (ao (aB (pV 3))) aN) (ak (aE 5 nd (bG (aa (bq o9 (by rfl) T.n_isinstance pW (aa (pV 2) (aa (fg (v:=.ref qL) (by rfl) T.g_NoLine rfl) ag))) (aa (bq o9 (by rfl) T.n_isinstance pW (aa (pV 2) (aa (fg (v:=.ref rK) (by rfl) T.g_NoForm rfl) ag))) (aa (bq o9 (by rfl) T.n_isinstance pW (aa (pV 2) (aa (fg (v:=.ref qT) (by rfl) T.g_NoStatement rfl) ag))) ag)))))
   (ak (aE 5 nd (ay sr (pV 5) (bG (aa (bq o9 (by rfl) T.n_isinstance pW (aa (pV 2) (aa (fg (v:=.ref eJ) (by rfl) T.g_NoName rfl) ag))) (aa (bq o9 (by rfl) T.n_isinstance pW (aa (pV 2) (aa (fg (v:=.ref eR) (by rfl) T.g_NoYesNo rfl) ag))) (aa (bq o9 (by rfl) T.n_isinstance pW (aa (pV 2) (aa (fg (v:=.ref fE) (by rfl) T.g_TooMany rfl) ag))) ag))))))
   (ak (d5 (bO cy f7 fX fY (pV 5) (aa (bq o9 (by rfl) T.n_isinstance pW (aa (pV 2) (aa (fg (v:=.ref qE) (by rfl) T.g_NoPull rfl) ag))) ag)))
   (ak (a9 (PW.pt (jy (aR ke (bq fO (by rfl) T.n_len dC (aa (du (g:=(aW 0)) ["_law_one"] 1 [] rfl (cL Bj) (cH (pV 5))
    (λa b c d e=>(aI 0 zba)) (λa b c d e=>(gH (j3 (pV 0)))) (λa b c d e=>(pV 0))) ag)) ai) (j2 (nK (j3 (bq o9 (by rfl) T.n_isinstance pW (aa (pV 2) (aa (W2 (v:=.ty "ValueError") (by rfl) T.n_ValueError Vk rfl) ag)))))))) (ao (aB (bG (aa aA ag)))) aN)
   (ao (aB (bG (aa (xL (bG (aa aA (aa aA (aa aA (aa aA (aa aA (aa aA (aa aA ag)))))))) (bO cy Ds DF ZY (pV 5) (aa p7 ag))) ag)))))))))))),?_⟩
  obtain⟨⟨dx,ho⟩,_⟩:=id hD;exists λσ G=>(∃(v:V) (v4:Option V),σ=[some (.ref p),some (.str (S l)),some .non,some v,v4,none]/\Q v G)\/(∃(e0:Addr) (k:Er) (v3 v4:Option V),σ=[some (.ref p),some (.str (S l)),some (.ref e0),v3,v4,none]/\G e0=some (oF e0 k.a)/\pj G Q k),?_,?_
  ·have up:∀{k:Er}{H1:Hp}{e0:Addr},pj H Q k->af H H1->H1 e0=none->pj (upd H1 e0 (oF e0 k.a)) Q k:=λh s1 he e H' h1 h2=>h e H' h1 (s1.trans ((af.upd he).trans h2))
   exists p,dx,_,rfl,ho,jz d tE,p,d,st,l,ls,rfl,hD,ha,hl,bb,cf,a8,AJ,?_;rcases Fb with ⟨c,hc,hok,qn,qy,q⟩|⟨q0,hc,hok,hq⟩
   ·refine .inl ⟨c,hc,hok,λH1 hm s1=>⟨eJ,_,rfl,T.x_NoName,tS,λe0 he=>.inr ⟨e0,.name,_,_,rfl,ar,up (qn hm) s1 he⟩⟩,λH1 hm s1=>⟨eR,_,rfl,T.x_NoYesNo,tS,λe0 he=>.inr ⟨e0,.yesno,_,_,rfl,ar,up (qy hm) s1 he⟩⟩,λf hm=>?_⟩;obtain⟨f1,f2⟩:=q f hm;nomatch f1,λkvs b H1 h1 h2 h3 h4=>.inl ⟨_,_,rfl,f2 kvs b H1 h1 h2 h3 h4⟩
   ·refine .inr ⟨q0,hc,hok,?_⟩;cases hr:q0.tells st with
    |txt s=>rw[hr]at hq;exact λH1 s1=>.inl ⟨_,_,rfl,hq H1 s1⟩
    |name=>rw[hr]at hq;exact λH1 s1=>⟨eJ,_,rfl,T.x_NoName,tS,λe0 he=>.inr ⟨e0,.name,_,_,rfl,ar,up hq s1 he⟩⟩
    |yesno=>rw[hr]at hq;exact λH1 s1=>⟨eR,_,rfl,T.x_NoYesNo,tS,λe0 he=>.inr ⟨e0,.yesno,_,_,rfl,ar,up hq s1 he⟩⟩
    |many=>rw[hr]at hq;exact λH1 s1=>⟨fE,_,rfl,T.x_TooMany,tS,λe0 he=>.inr ⟨e0,.many,_,_,rfl,ar,up hq s1 he⟩⟩
  ·rintro σ G (⟨v,v4,rfl,hq⟩|⟨e0,k,v3,v4,rfl,hx,hq⟩)
   ·exists rfl,vy ?_;exact hq
   exists rfl,vN tS ?_;obtain⟨bm,x0,i1,i2,i3,i4,i5,i6,i7,vV⟩:∃bm:List Value,jK K k.a bm=true/\kitOne K (.ref k.a) (.ref qL)=some (k.b 0)/\kitOne K (.ref k.a) (.ref rK)=some (k.b 1)/\kitOne K (.ref k.a) (.ref qT)=some (k.b 2)/\kitOne K (.ref k.a) (.ref eJ)=some (k.b 3)/\kitOne K (.ref k.a) (.ref eR)=some (k.b 4)/\kitOne K (.ref k.a) (.ref fE)=some (k.b 5)/\kitOne K (.ref k.a) (.ref qE)=some (k.b 6)/\kitOne K (.ref k.a) (.type "ValueError")=some true:=by
    cases k with
    |name=>nomatch _,T.x_NoName,T.i_NoName_NoLine,T.i_NoName_NoForm,T.i_NoName_NoStatement,T.i_NoName_NoName,T.i_NoName_NoYesNo,T.i_NoName_TooMany,T.i_NoName_NoPull,T.v_NoName
    |yesno=>nomatch _,T.x_NoYesNo,T.i_NoYesNo_NoLine,T.i_NoYesNo_NoForm,T.i_NoYesNo_NoStatement,T.i_NoYesNo_NoName,T.i_NoYesNo_NoYesNo,T.i_NoYesNo_TooMany,T.i_NoYesNo_NoPull,T.v_NoYesNo
    |many=>nomatch _,T.x_TooMany,T.i_TooMany_NoLine,T.i_TooMany_NoForm,T.i_TooMany_NoStatement,T.i_TooMany_NoName,T.i_TooMany_NoYesNo,T.i_TooMany_TooMany,T.i_TooMany_NoPull,T.v_TooMany
   obtain⟨b0,yf⟩:∃b,b=k.b 0:=⟨_,rfl⟩;obtain⟨b1,fj⟩:∃b,b=k.b 1:=⟨_,rfl⟩;obtain⟨b2,ik⟩:∃b,b=k.b 2:=⟨_,rfl⟩;obtain⟨b3,ES⟩:∃b,b=k.b 3:=⟨_,rfl⟩;obtain⟨b4,wy⟩:∃b,b=k.b 4:=⟨_,rfl⟩;obtain⟨b5,Ci⟩:∃b,b=k.b 5:=⟨_,rfl⟩;obtain⟨b6,QU⟩:∃b,b=k.b 6:=⟨_,rfl⟩;have hB:[b0,b1,b2,b3,b4,b5,b6]=(List.range 7).map k.b:=by rw[yf,fj,ik,ES,wy,Ci,QU];rfl
   rw[<-yf]at i1;rw[<-fj]at i2;rw[<-ik]at i3;rw[<-ES]at i4;rw[<-wy]at i5;rw[<-Ci]at i6;rw[<-QU]at i7;exists e0,k.a,_,b0,hx,x0,.inl ⟨qL,rfl,i1⟩,?_;exists e0,k.a,_,b1,hx,x0,.inl ⟨rK,rfl,i2⟩,?_;exists e0,k.a,_,b2,hx,x0,.inl ⟨qT,rfl,i3⟩,?_;exists by show 3<=sizeLine;decide,λl1 dI=>?_;generalize eU:upd G l1 _=H3;obtain⟨t2,y1⟩:=nw eU dI;have x1:=t2 _ _ hx;exists e0,k.a,_,b3,x1,x0,.inl ⟨eJ,rfl,i4⟩,?_;exists e0,k.a,_,b4,x1,x0,.inl ⟨eR,rfl,i5⟩,?_;exists e0,k.a,_,b5,x1,x0,.inl ⟨fE,rfl,i6⟩,?_;exists by show 3<=sizeLine;decide,λl2 fS=>?_;generalize eU:upd H3 l2 _=H4;obtain⟨t3,y2⟩:=nw eU fS;have x2:=t3 _ _ x1;have Us:=t3 _ _ y1;exists l1,l2,_,_,rfl,rfl,Us,y2,Dp,λl3 ma=>?_;generalize eU:upd H4 l3 _=H5;have t4:=(nw eU ma).1;have y3:H5 l3=some (.lst [.bl b0,.bl b1,.bl b2,.bl b3,.bl b4,.bl b5]):=(nw eU ma).2;have x3:=t4 _ _ x2;have n3:=t2.free (t3.free ma);have T5:=t2.trans (t3.trans t4);exists .inl ⟨rfl,_,aj.of y3⟩,e0,k.a,_,b6,x3,x0,.inl ⟨qE,rfl,i7⟩,_,y3,(by show 6<sizeLine;decide),?_;have y4:upd H5 l3 (.lst ([.bl b0,.bl b1,.bl b2,.bl b3,.bl b4,.bl b5]++[.bl b6])) l3=some (.lst ([b0,b1,b2,b3,b4,b5,b6].map V.bl)):=ar;have ne3:e0≠l3:=λz=>by simp_all
   have x4:upd H5 l3 (.lst ([.bl b0,.bl b1,.bl b2,.bl b3,.bl b4,.bl b5]++[.bl b6])) e0=some (oF e0 k.a):=by rw[aS ne3];exact x3
   have T6:af G (upd H5 l3 (.lst ([.bl b0,.bl b1,.bl b2,.bl b3,.bl b4,.bl b5]++[.bl b6]))):=T5.write n3;generalize upd H5 l3 (.lst ([.bl b0,.bl b1,.bl b2,.bl b3,.bl b4,.bl b5]++[.bl b6]))=H6 at y4 x4 T6;have e1:(([b0,b1,b2,b3,b4,b5,b6].filter id).map V.bl).length=1:=by rw[hB];cases k<;>rfl
   generalize hbs:[b0,b1,b2,b3,b4,b5,b6]=bs at y4 e1;have Ot:bs.length=7:=by rw[<-hbs];rfl
   exists ⟨_,aj.of y4⟩,?_;refine gW (K:=K) (a:=l3) (xs:=bs.map V.bl) (λi ys σ G'=>∃v0:Option V,σ=[v0]/\ys=((bs.take i).filter id).map V.bl/\G'=H6)
    ⟨none,rfl,rfl,rfl⟩ (by rintro i ys σ G' hi ⟨_,_,e1,e2⟩;exact⟨by rw[e2];exact aj.of y4,by grind⟩) (by rw[ax,Ot];decide) ?_ ?_
   ·rintro i y ys σ G' hi ⟨v0,rfl,rfl,rfl⟩;rw[cQ]at hi;obtain⟨b,hb,rfl⟩:∃b,bs[i]?=some b/\V.bl b=y:=by simp_all
    have bB:bs.take (i+1)=bs.take i++[b]:=by rw[cZ,hb];rfl
    unfold aW;exists b,rfl,?_;cases b with
    |false =>
     refine gn ?_;exists _,rfl,?_,rfl;rw[bB,dX];simp
    |true =>
     refine eh ?_;exists _,rfl,?_,rfl;rw[bB,dX,aQ];rfl
   ·rintro ys σ G' ⟨v0,rfl,rfl,rfl⟩ D hD;rw[ax,dG];rw[ax]at e1;have t7:af G' (upd G' D (.lst ((bs.filter id).map V.bl))):=af.upd hD;exists D,_,rfl,.inl (aj.of ar),_,rfl,?_;rw[ax,e1];refine aM tD ?_;have x5:=t7 _ _ x4;have y5:=t7 _ _ y4;have T7:=T6.trans t7;generalize upd G' D (.lst ((bs.filter id).map V.bl))=H7 at x5 y5 T7 ⊢;exists e0,k.a,_,true,x5,x0,.inr ⟨"ValueError",rfl,vV⟩,true,rfl,aM tD ?_;exists by show 7<=sizeLine;decide,λl5 rZ=>?_;have t8:af H7 (upd H7 l5 (.lst eW)):=af.upd rZ;have y6:=t8 _ _ y5;have z6:upd H7 l5 (.lst eW) l5=some (.lst eW):=ar;have T8:=T7.trans t8;exists .inl ⟨rfl,_,aj.of y6⟩,l3,_,.bl true,k.n,rfl,rfl,y6,rfl,(by rw[<-hbs,hB];cases k<;>rfl),⟨_,(by rw[<-hbs,hB];cases k<;>rfl),rfl⟩,(λm z hm hz=>?_),.str k.wo,aj.of z6,bc (j:=k.n) k.at,de,λl6 VZ=>hq l6 _ ar (T8.trans (af.upd VZ));rw[<-hbs,hB,fk,cQ,vE (by grind)]at hz;cases hz;show jC (.bl (k.b m)) (.bl true)=false;unfold Er.b;rw[bo tL];rfl
def zdj(K:Frag):Sp:=λvs H Q _=>∃(a:Addr) (f:aq),vs=[.ref a]/\aG H a f/\f.length<=64/\∀(b:Bool) (H':Hp),(b=true->∀t∈f,t.2.natAbs<10^20)->af H H'->Q (.bl b) H'
def LN:(["_law_where","_law_number"]:List Str).Nodup:=by decide+kernel
def OA(T:Txt w K mg):BO.Ok P w K mg base 1 (zdj K):=by
  refine T.d_Z50.k ?_;rintro vs H Q E ⟨a,f,rfl,hT,aK,q⟩;refine wl fun hr hu nd=>⟨_,(ao (aB (jA kc.j (bq (WV rfl) (by rfl) T.n_max TU (aa (ay sr (bG (aa ai ag)) (du (g:=(eI K 2 (bT (aW 0) (bT (aW 1) e7)))) ["_law_where", "_law_number"] 2 [] rfl (cL BO) (cH (pV 0))
    (λa b c d e=>(ft (n:=2) rfl (b9 (aI 0 LN) (b9 (aI 1 LN) fB)))) (λa b c d e=>gA) (λa b c d e=>(bq xw (by rfl) T.n_abs yj (aa (pV 1) ag))))) ag)) (ay uw.c ai ai)))),?_⟩
  obtain⟨ps,hS,hP⟩:=id hT;have cX:=hP.length;exists de,λl1 dI=>?_;generalize eU:upd H l1 _=H1;obtain⟨s1,y1⟩:=nw eU dI;have mF:=s1 _ _ hS;exists ⟨_,aj.of mF⟩,?_;refine gW (K:=K) (a:=a) (xs:=ps.map V.ref) (λi ys σ G=>∃v0 v1:Option V,σ=[v0,v1]/\ys=((f.take i).map λt=>(t.2.natAbs:Int)).map V.int/\G=H1)
   ⟨none,none,rfl,rfl,rfl⟩ (by rintro i ys σ G hi ⟨_,_,_,e1,e2⟩;exact⟨by rw[e2];exact aj.of mF,by simp_all⟩) (by rw[ax];exact bE (bD tL)) ?_ ?_
  ·rintro i y ys σ G hi ⟨v0,v1,rfl,rfl,rfl⟩;obtain⟨p,cO,rfl⟩:=fQ hi;obtain⟨t,aY,cj⟩:=hP.at' cO;have ea:(if t.2<0 then -t.2 else t.2)=((t.2.natAbs:Nat):Int):=by split<;>lia
   exists p,_,rfl,az.of (s1 _ _ cj),rfl,_,_,rfl,_,_,rfl,rfl,?_;refine tt ?_;exists _,rfl,?_;exists _,_,rfl,?_,rfl;rw[cZ,aY,ea,aQ,aQ];rfl
  ·rintro ys σ G ⟨v0,v1,rfl,rfl,rfl⟩ D hD;rw[ax,cX,dG]at *;generalize eU:upd G D _=H2;obtain⟨s2,y2⟩:=nw eU hD;exists l1,D,_,_,rfl,rfl,s2 _ _ y1,y2,(by rw[ax,ax];exact bE (bD (by show 1+f.length<=_;lia))),λc hc=>?_;exists c,0::f.map (λt=>(t.2.natAbs:Int)),rfl,aj.of ar,CU _,λm hm=>?_;exists ⟨tD,tD,tD⟩,?_;refine q _ _ (λz t ht=>?_) (s1.trans (s2.trans (af.upd hc)));have h1:=hm.2 (t.2.natAbs:Int) (dM _ (bp.mpr ⟨t,ht,rfl⟩));have h2:=bP z;have h3:(10:Int)^Int.toNat 20=((10^20:Nat):Int):=by decide
   rw[h3]at h2;lia
def zbA:(["_law_one","_law_numbers"]:List Str).Nodup:=by decide+kernel
def DC(T:Txt w K mg):yz.Ok P w K mg base 1 (R3 K):=by
  refine T.d_Z37.k ?_;rintro vs H Q E ⟨a,l,rfl,⟨ps,hS,hT⟩,aK,xM,q⟩;refine wl fun hr hu nd=>⟨_,(ak (aE 1 nd rY) (ak (dR c8 rfl (cH (pV 0)) (iu (n:=2) rfl (cJ (aI 2 nd) (cJ (aI 3 nd) g9))) (ao (rP hu (pV 1) (pV 2) (ay d0.j (sh hu (pV 1) (pV 2) ai ⟨rfl,rfl,rfl,rfl⟩) (pV 3)) rfl)))
   (ao (aB (du (g:=(aW 0)) ["_law_one", "_law_numbers"] 1 [1] rfl (cL yz) (cH (bq (Bd rfl) (by rfl) T.n_sorted xK (aa (pV 1) ag)))
    (λa b c d e=>(aI 0 zbA)) (λa b c d e=>(gH (aR ke (jq hu (pV 1) (pV 0)) ai))) (λa b c d e=>(bx (aa (pV 0) (aa (jq hu (pV 1) (pV 0)) ag))))))))),?_⟩
  intro d hd;have s0:af H (upd H d (.dK [])):=af.upd hd;exists ⟨_,s0.seq hS⟩,?_;refine jo (K:=K) (a:=a) (xs:=ps.map V.ref) (λi σ H2=>∃(dd:aq) (v2 v3:Option V),σ=[some (.ref a),some (.ref d),v2,v3]/\H2=upd H d (.dK (dd.map cV))/\DictOf dd (l.take i))
   ⟨[],none,none,rfl,rfl,A8⟩ (λi σ H2 _ ⟨_,_,_,_,e,_⟩=>by rw[e];exact (af.upd hd).seq hS) ?_ ?_
  ·rintro i y σ H2 hi ⟨dd,v2,v3,rfl,rfl,bU⟩;obtain⟨p,cO,rfl⟩:=fQ hi;obtain⟨t,aY,cj⟩:=hT.at' cO;have bB:l.take (i+1)=l.take i++[t]:=by rw[cZ,aY];rfl
   have gD:=(dO.mp aY).1;have mh:dd.length<=i:=aX bU.len (by grind);have pG:=bU.snoc t;rw[<-bB]at pG;exists _,az.of ((af.upd hd) _ _ cj),rfl,?_;exists d,rfl,.inl ⟨_,.inl ar⟩,_,dj.k (k:=Sum.inl t.1) ar,?_;rw[ni];have eg:((look dd t.1).map V.int).getD (V.int 0)=V.int (cB dd t.1):=by
    unfold cB;cases look dd t.1<;>rfl
   rw[eg];exists d,_,rfl,lH.k (k:=Sum.inl t.1) ar ?_,fh dd t.1 (cB dd t.1+t.2),_,_,rfl,?_,pG
   ·rw[ax];exact bD tO
   ·rw[vp,wu]
  ·rintro σ H2 ⟨dd,v2,v3,rfl,rfl,bU⟩;have gE:l.take (ps.map V.ref).length=l:=by rw[ax,hT.length,dG]
   rw[gE]at bU;have hddl:=aX bU.len aK;generalize eU:upd H d _=H1;obtain⟨s1,rB⟩:=nw eU hd;exists d,_,dd.map (·.1),rfl,rB,Hl dd,(by rw[ax];exact DD bU xM),λe ks he dW om=>?_;have vx:=c7 rB he;exists ⟨_,aj.of ar⟩,?_;have ia:ks.length<=100000:=by have:=dW.length_eq;rw[ax]at this;lia
   refine gW (K:=K) (a:=e) (xs:=ks.map V.int) (λi ys σ H2=>∃(v0:Option V) (qs:List Addr),σ=[v0,some (.ref d)]/\ys=qs.map V.ref/\cn H2 qs (dz dd (ks.take i))/\H2 d=some (.dK (dd.map cV))/\H2 e=some (.lst (ks.map V.int))/\af H1 H2)
    ⟨none,[],rfl,rfl,.nil,(by rw[aS vx];exact rB),ar,af.upd he⟩ (λi ys σ H2 hi ⟨_,qs,_,e1,e2,_,e4,_⟩=>⟨aj.of e4,by
     rw[e1,ax,e2.length]
     have:=vW dd (ks.take i)
     rw[fR]at this;lia⟩) (by rw[ax];exact bE (bD tL)) ?_ ?_
   ·rintro i y ys σ H2 hi ⟨v0,qs,rfl,rfl,g2,g3,g4,g5⟩;obtain⟨k,rk,rfl⟩:=so hi;have FH:k∈dd.map (·.1):=dW.mem_iff.mp (cM rk);obtain⟨v,hv⟩:∃v,look dd k=some v:=by
     cases e:look dd k with
     |none=>exact absurd e (ud.mpr FH)
     |some v=>nomatch v,rfl
    have rX:cB dd k=v:=by unfold cB;rw[hv];rfl
    have bB:ks.take (i+1)=ks.take i++[k]:=by rw[cZ,rk];rfl
    have sj:∀{H3:Hp},H3 d=some (.dK (dd.map cV))->dj H3 d (.int k) (some (.int v)):=fun {H3} z=>by
     have:=dj.k (k:=Sum.inl k) z
     rw[ni,hv]at this;exact this
    exists _,sj g3,_,rfl,?_;by_cases hv0:v=0
    ·subst hv0;refine Kh rfl ⟨_,qs,rfl,rfl,?_,g3,g4,g5⟩
     have:dz dd (ks.take (i+1))=dz dd (ks.take i):=by
      rw[bB];unfold dz;rw[dX,aQ];simp[rX]
     rw[this];exact g2
    ·have cx:¬(V.int v=V.int 0):=λz=>hv0 (by injection z)
     rw[bo cx];refine eh ?_;exists _,sj g3,bL,λt ht=>?_;have s3:af H2 (upd H2 t (.tup [.int k,.int v])):=af.upd ht;exists _,qs++[t],rfl,(by rw[aQ];rfl),?_,s3 _ _ g3,s3 _ _ g4,g5.trans s3
     have:dz dd (ks.take (i+1))=dz dd (ks.take i)++[(k,v)]:=by
      rw[bB];unfold dz;rw[dX,aQ];simp[rX,hv0]
     rw[this];exact cn.snoc (g2.keep λb xs z=>s3 b _ z) ar
   ·rintro ys σ H2 ⟨v0,qs,rfl,rfl,g2,g3,g4,g5⟩ D hD;rw[ax,dG]at g2;have s3:af H2 (upd H2 D (.lst (qs.map V.ref))):=af.upd hD;refine q D (dz dd ks) _ ((s1.trans g5).free hD) ⟨qs,ar,g2.keep λb xs z=>s3 b _ z⟩ (BX bU dW om) ?_ (s1.trans (g5.trans s3));have h1:=vW dd ks;have h2:=dW.length_eq;rw[ax]at h2;have h3:=bU.len;omega
def zbL(K:Frag):Sp:=λvs H Q _=>∃(a b:Addr) (xs:List Int) (ls:List Nat),vs=[.ref a,.ref b]/\H a=some (.lst (xs.map V.int))/\(xs.length=12/\∀x∈xs,0<=x)/\H b=some (.lst (bj ls))/\ls.Nodup/\ls.length<=5/\(∀x∈ls,x<16) /\
 ∀(c:Addr) (f:aq) (H':Hp),aG H' c f->dh ls f->f.length<=4->(∀t∈f,t.2.natAbs<10^4)->af H H'->Q (.ref c) H'
def YE:(["_law_letter","_law_xs","_law_j"]:List Str).Nodup:=by decide+kernel
def XG(T:Txt w K mg):Cr.Ok P w K mg base 2 (zbL K):=by
  refine T.d_Z57.k ?_;rintro vs H Q E ⟨a,b,xs,ls,rfl,hX,hx12,hL,kH,bb,cf,q⟩;refine wl fun hr hu nd=>⟨_,(ak (aE 2 nd (bG ag)) (ak (dR c8 rfl (jD rfl T.n_range (aa (ay bS.c (xL (pV 0) ai) ai) ag)) (aI 3 nd) (ak (aE 4 nd (bq (sJ rfl) (by rfl) T.n_sum ug (aa (du (g:=(aW 0)) ["_law_letter","_law_xs","_law_j"] 1 [0,3] rfl (cL Cr) (cH (pV 1))
    (λa b c d e=>(aI 0 YE)) (λa b d e f=>(gH (aR aV (ay bS.c (ay gC.c (oB (xlK K rfl) (pV 1) (ay d0.j ai (pV 2))) (ay n0.c ai (pV 0))) ai) ai))) (λa b d e f=>(ay n0.c ai (pV 0)))) ag)))
   (ao (d5 (bO cy f7 fX fY (pV 2) (aa (bx (aa (pV 4) (aa (ay iW.j (ay bS.c (xL (pV 0) (ay d0.j ai (pV 3))) ai) ai) ag))) ag))))))
   (ao (aB (aD T.d_Z37 (DC T) hr (aa (pV 2) ag)))))),?_⟩
  obtain⟨oJ,md⟩:=hx12;have eX:∀i:Nat,i<12->∃x:Int,0<=x/\dN (xs.map V.int) (i:Int)=some (V.int x):=λi hi=>⟨xs[i]'tL,md _ (jT _),bc (by simp)⟩
  exists bM _,λe he=>?_;have s0:af H (upd H e (.lst [])):=af.upd he;have t0:aG (upd H e (.lst [])) e []:=⟨[],ar,.nil⟩;generalize upd H e (.lst [])=H1 at s0 t0;obtain⟨x2,x20,e2⟩:=eX 2 tD;have Uh:=iO x2 (show (5:Int)≠0 by decide);have hm5':=iU x2 (show (0:Int)<5 by decide);exists _,aj.of (s0 _ _ hX),e2,(by simp),x2%5,rfl,tL,tL,?_;refine qp (n:=(x2%5).toNat) (λi σ G=>∃(e:Addr) (l:aq) (v3 v4:Option V),σ=[some (.ref a),some (.ref b),some (.ref e),v3,v4]/\H e=none/\aG G e l/\l.length=i/\K5 ls l/\(∀t∈l,t.2.natAbs<=6)/\af H G)
   ⟨e,[],none,none,rfl,he,t0,rfl,(λt ht=>by cases ht),(λt ht=>by cases ht),s0⟩ ?_ ?_
  ·rintro i σ G hi ⟨e,l,v3,v4,rfl,he,hT,kD,BW,h6,sG⟩;have hi4:i<4:=by lia
   obtain⟨x3,x30,e3⟩:=eX (3+i) tL;obtain⟨x4,x40,e4⟩:=eX (4+i) tL;exists ⟨_,aj.of (sG _ _ hL)⟩,?_;refine gW (K:=K) (a:=b) (xs:=bj ls) (λi' ys σ G'=>∃v0:Option V,σ=[v0,some (.ref a),some (.int (0+(i:Int)))]/\ys=(((ls.take i').filter λk=>x3.toNat.testBit k).map λk:Nat=>((2^k:Nat):Int)).map V.int/\G'=G)
    ⟨none,rfl,rfl,rfl⟩ (by rintro i' ys σ G' hi ⟨_,_,e1,e2⟩;exact⟨by rw[e2];exact aj.of (sG _ _ hL),by grind⟩) (by unfold bj;rw[ax];exact bE (bD tL)) ?_ ?_
   ·rintro i' y ys σ G' gY ⟨v0,rfl,rfl,rfl⟩;have wV:(ls.map λk:Nat=>V.int (k:Int))[i']?=some y:=gY;rw[cQ]at wV;obtain⟨k,hk,rfl⟩:∃k:Nat,ls[i']?=some k/\V.int (k:Int)=y:=by simp_all
    have gN:=cf k (cM hk);have bB:ls.take (i'+1)=ls.take i'++[k]:=by rw[cZ,hk];rfl
    have ba:(2:Nat)^k<2^60:=El tD tL;have jg:=jk k;have e1:(1:Int)*2^((k:Int)).toNat=((2^k:Nat):Int):=by simp
    have ei:(3:Int)+(0+(i:Int))=((3+i:Nat):Int):=by lia
    unfold aW;exists V.int x3,aj.of (sG _ _ hX),(by rw[ei];exact e3),⟨tL,tL,tD⟩,(by rw[e1];exact ib tL tO),(by simp),_,rfl,?_;have ex:x3=((x3.toNat:Nat):Int):=(gh x30).symm;have eb:x3/(1*2^((k:Int)).toNat)%2=if x3.toNat.testBit k=true then 1 else 0:=by
     rw[e1,uS];generalize x3.toNat=n3 at ex;rw[ex]
     have:((n3:Int)/((2^k:Nat):Int)%2)=((n3/2^k%2:Nat):Int):=by norm_cast
     rw[this];by_cases z:n3/2^k%2=1
     ·simp[z]
     ·have:n3/2^k%2=0:=by lia
      simp[this]
    show if decide (V.int (x3/(1*2^((k:Int)).toNat)%2)=V.int 1)=true then _ else _
    rw[eb];by_cases hb:x3.toNat.testBit k=true
    ·rw[aC hb];refine a7 tD ?_;exists ⟨tO,tO,tD⟩,_,rfl,?_,rfl;rw[bB,dX,aQ,aQ];dsimp only;rw[e1];simp[hb]
    ·rw[av hb];refine aM tD ⟨_,rfl,?_,rfl⟩;rw[bB,dX];simp[hb]
   ·rintro ys σ G' ⟨v0,rfl,rfl,rfl⟩ D hD;have enl:(bj ls).length=ls.length:=by unfold bj;rw[ax]
    rw[enl,dG];exists D,_,rfl,aj.of ar,?_;generalize eU:upd G' D _=H2;have s1:=(nw eU hD).1;have S1:=sG.trans s1;have bF:=hT.keep s1;obtain⟨ps,rR,tQ⟩:=id bF;have ei:(4:Int)+(0+(i:Int))=((4+i:Nat):Int):=by lia
    exists .inl ⟨rfl,_,aj.of rR⟩,V.int x4,aj.of (S1 _ _ hX),(by rw[ei];exact e4),(by simp),bL,λt1 aY=>?_;have VU:∀zs:List Nat,(zs.map λk:Nat=>((2^k:Nat):Int)).sum=(((zs.map λk=>2^k).sum:Nat):Int):=λzs=>by
     induction zs with
     |nil=>rfl
     |cons z r ih=>rw[bN,mm,bN,mm,ih];norm_cast
    rw[VU];have qC:(ls.filter λk=>x3.toNat.testBit k).Nodup:=kH.filter _;have JN:∀j,((((ls.filter λk=>x3.toNat.testBit k).map λk=>2^k).sum:Nat)).testBit j=true->j∈ls:=λj hj=>(gJ.mp (show j∈_ from bP ((BJ qC j).symm.trans hj))).1
    generalize ((ls.filter λk=>x3.toNat.testBit k).map λk=>2^k).sum=W at JN ⊢;have m0:=iO x4 (show (13:Int)≠0 by decide);have m1:=iU x4 (show (0:Int)<13 by decide);generalize x4%13=N at m0 m1 ⊢;obtain⟨H3,Gr⟩:∃H3,H3=upd H2 t1 (.tup [.int (W:Int),.int (N-6)]):=⟨_,rfl⟩;have s3:af H2 H3:=by rw[Gr];exact af.upd aY
    have y3:H3 t1=some (.tup [.int (W:Int),.int (N-6)]):=by rw[Gr];exact ar
    refine (?_:(λH3=>_) (upd H2 t1 (.tup [.int (W:Int),.int (N-6)])));rw[<-Gr];have cX:=tQ.length;exists _,s3 _ _ rR,bD (by rw[ax];lia),?_;have et:t1≠e:=λz=>by simp_all
    exists e,l++[((W:Int),N-6)],_,_,rfl,he,⟨ps++[t1],(by rw[ar,aQ];rfl),cn.append (tQ.keep λb xs z=>?_) (.cons (by rw[aS et];exact y3) .nil)⟩,by simp_all,BW.app (λt ht=>?_),(λt ht=>?_),(S1.trans s3).write he
    ·have hz:=s3 _ _ z
     have:b≠e:=λy=>by simp_all
     rw[aS this];exact hz
    ·rw[bw.mp ht];nomatch iC _,λj hj=>JN j (by simpa using hj)
    ·rcases bA.mp ht with z|z
     ·exact h6 t z
     ·rw[bw.mp z];show (N-6).natAbs<=6;lia
  ·rintro σ G ⟨e,l,v3,v4,rfl,he,hT,kD,BW,h6,sG⟩;exists e,l,rfl,hT.tl,tL,⟨ls,bb,BW⟩,λc f H' hc kj hF jV s'=>?_;have ba:=qA (n:=4) (B:=6) (C:=10^4) hF tL h6 tD;exact q c f H' kj ⟨hF.toIsForm,BW.of hF,λt ht=>lQ (ba t ht) tE⟩ tL ba (sG.trans s')
structure iH(ls:List Nat)(n:Nat)(G:Hp)(c:Addr)(xs:List V):Prop where
 here:G c=some (.lst xs)
 all:∃ss:List Sm,Paired (λx (s:Sm)=>Is G x s.d/\s.ok (λk=>k∈ls)) xs ss/\(ss.map Sm.ln).sum<=n
def iH.keep(h:iH ls n G c xs)(k:af G G'):iH ls n G' c xs:=by
 obtain⟨h1,ss,h2,h3⟩:=h;nomatch k _ _ h1,ss,Paired.mapP h2 λ_ _ e=>⟨e.1.keep k,e.2⟩,h3
def iH.pop(h:iH ls n G c xs)(h0:0<xs.length):∃(y:V) (s:Sm),xs[xs.length-1]?=some y/\Is (upd G c (.lst xs.dropLast)) y s.d/\s.ok (λk=>k∈ls)/\s.ln<=n/\iH ls (n-s.ln) (upd G c (.lst xs.dropLast)) c xs.dropLast:=by
 obtain⟨h1,ss,h2,h3⟩:=h;rcases Au ss with rfl|⟨r,s,rfl⟩
 ·cases h2;exact absurd h0 (kS _)
 ·obtain⟨rg,y,rfl,p,q⟩:=F5 h2;rw[aQ,o7]at h3;have nW:(r.map Sm.ln).sum+(s.ln+0)<=n:=h3;rw[sA];nomatch y,s,tS,BZ q.1 h1,q.2,tL,ar,r,Paired.mapP p λ_ _ e=>⟨BZ e.1 h1,e.2⟩,tL
def iH.push{ls:List Nat}{n n':Nat}{G:Hp}{c t:Addr}{xs zs:List V}{s:Sm}(h:iH ls n G c xs)(ht:G t=none)(hs:∀G':Hp,(∀p ys,G p=some (.tup ys)->G' p=some (.tup ys))->G' t=some (.tup zs)->Is G' (.ref t) s.d)(hok:s.ok λk=>k∈ls)(hd:n+s.ln<=n') :
  upd G t (.tup zs) c=some (.lst xs)/\iH ls n' (upd (upd G t (.tup zs)) c (.lst (xs++[.ref t]))) c (xs++[.ref t]):=by
 obtain⟨h1,ss,h2,h3⟩:=h;have s1:af G (upd G t (.tup zs)):=af.upd ht;have k:∀p ys,G p=some (.tup ys)->upd (upd G t (.tup zs)) c (.lst (xs++[.ref t])) p=some (.tup ys):=λp ys e=>by
  have cx:p≠c:=λz=>by simp_all
  rw[aS cx];exact s1 _ _ e
 have Vr:t≠c:=λz=>by simp_all
 exists s1 _ _ h1,ar,ss++[s],qO (Paired.mapP h2 λ_ _ e=>⟨gS k e.1,e.2⟩) ⟨hs _ k (by rw[aS Vr];exact ar),hok⟩,?_;rw[aQ,o7];show _+(s.ln+0)<=n';lia
def PL{c A B X:Prop}[Decidable c](b:B)(h:c->B->A):if c then A else (if false=true then X else B):=by simp_all
def iH.up(h:iH ls n G c xs)(k:n<=m):iH ls m G c xs:=⟨h.1,let ⟨ss,h2,h3⟩:=h.2; ⟨ss,h2,aX h3 k⟩⟩
def zaL(K:Frag):Sp:=λvs H Q _=>∃(a b:Addr) (ns:List Int) (ls:List Nat),vs=[.ref a,.ref b]/\H a=some (.lst (ns.map V.int))/\H b=some (.lst (bj ls))/\ns.length<=5/\0<ls.length/\ls.length<=8 /\
 ∀(v:V) (s:Sm) (H':Hp),Is H' v s.d->s.ok (λk=>k∈ls)->s.ln<=5->af H H'->Q v H'
def zaq(T:Txt w K mg):FK.Ok P w K mg base 1 (zaL K):=by
  refine T.d_Z53.k ?_;rintro vs H Q E ⟨a,b,ns,ls,rfl,hS,hb,kT,gE,hl8,q⟩;refine wl fun hr hu nd=>⟨_,(ak (aE 2 nd (bG ag)) (ak (dR c8 rfl (cH (pV 0)) (aI 3 nd) (ao (a9 (PW.pt (iQ (aR aV (ay bS.c (pV 3) ai) ai) (i8 (aR jI.j (bq fO (by rfl) T.n_len dC (aa (pV 2) ag)) ai)))) (ao (d5 (bO cy f7 fX fY (pV 2) (aa (bx (aa aA (aa (gy cy kO kG kP (pV 2)) ag))) ag)))) (ao (a9 (PW.pt (iQ (aR jI.j (ay bS.c (pV 3) ai) ai) (i8 (aR jI.j (bq fO (by rfl) T.n_len dC (aa (pV 2) ag)) ai)))) (ak (aE 4 nd (gy cy kO kG kP (pV 2)))
   (ak (aE 5 nd (gy cy kO kG kP (pV 2))) (ao (d5 (bO cy f7 fX fY (pV 2) (aa (bx (aa (xL (bG (aa aA (aa aA (aa aA ag)))) (ay bS.c (ay gC.c (pV 3) ai) ai)) (aa (pV 5) (aa (pV 4) ag)))) ag)))))) (ao (a9 (aR aV (ay bS.c (pV 3) ai) ai) (ao (d5 (bO cy f7 fX fY (pV 2) (aa (bx (aa aA (aa (ay bS.c (ay gC.c (pV 3) ai) ai) ag))) ag)))) (ao (d5 (bO cy f7 fX fY (pV 2) (aa (bx (aa aA (aa (xL (pV 1) (ay bS.c (ay gC.c (pV 3) ai) (bq fO (by rfl) T.n_len dC (aa (pV 1) ag)))) ag))) ag)))))))))))
   (ak (tw c8 (aR jI.j (bq fO (by rfl) T.n_len dC (aa (pV 2) ag)) ai) (ak (aE 4 nd (gy cy kO kG kP (pV 2)))
   (ak (aE 5 nd (gy cy kO kG kP (pV 2))) (ao (d5 (bO cy f7 fX fY (pV 2) (aa (bx (aa (xL (bG (aa aA (aa aA (aa aA ag)))) (ay bS.c (bq fO (by rfl) T.n_len dC (aa (pV 2) ag)) ai)) (aa (pV 5) (aa (pV 4) ag)))) ag)))))))
   (ak (a9 (aR aV (bq fO (by rfl) T.n_len dC (aa (pV 2) ag)) ai) (ao (aB (bx (aa aA (aa ai ag))))) aN)
   (ao (aB (xL (pV 2) ai))))))),?_⟩
  exists bM _,λc hc=>?_;have s0:af H (upd H c (.lst [])):=af.upd hc;have k0:iH ls 0 (upd H c (.lst [])) c []:=⟨ar,[],.nil,aT _⟩;generalize upd H c (.lst [])=H1 at s0 k0;exists ⟨_,aj.of (s0 _ _ hS)⟩,?_;refine jo (K:=K) (a:=a) (xs:=ns.map V.int) (λi σ G=>∃(xs:List V) (v3 v4 v5:Option V),σ=[some (.ref a),some (.ref b),some (.ref c),v3,v4,v5]/\iH ls i G c xs/\xs.length<=i/\af H G)
   ⟨[],none,none,none,rfl,k0,aT _,s0⟩ (by rintro i σ G _ ⟨_,_,_,_,_,_,_,e⟩;exact aj.of (e _ _ hS)) ?_ ?_
  ·rintro i y0 σ G hi ⟨xs,v3,v4,v5,rfl,hs,oJ,sG⟩;obtain⟨x,y8,rfl⟩:=so hi;have hi8:=(dO.mp y8).1;exists (by simp),_,rfl,?_;refine PL ?_ (λh1 sQ=>?_)
   rotate_left
   exists c,_,rfl,.inl (aj.of hs.here),_,rfl,dD (λh2=>?_) (λh2=>sQ)
   ·have h0:0<xs.length:=by simp_all
    obtain⟨y,s1,vS,nX,uY,RZ,hk⟩:=hs.pop h0;exists .inl ⟨rfl,_,aj.of hs.here⟩,.inl ⟨rfl,_,aj.of hs.here⟩,c,xs,y,rfl,rfl,hs.here,vS,bL,λt ht=>?_;have dI:=sU (xs:=xs);obtain⟨p1,p2⟩:=hk.push (n':=i+1) (zs:=[.str "not",y]) (s:=.no s1) ht (λG' kk h3=>j0 h3 (dr.mpr rfl) (gS kk nX)) uY (by show _+(s1.ln+1)<=i+1;lia);nomatch _,p1,bD tL,_,_,_,_,rfl,p2,(by rw[bh];show xs.dropLast.length+1<=i+1;lia),((sG.write hc).trans (af.upd ht)).write hc
   ·exists (by simp),_,rfl,?_;refine PL ?_ (λh3 sQ=>?_)
    rotate_left
    exists c,_,rfl,.inl (aj.of hs.here),_,rfl,dD (λh4=>?_) (λh4=>sQ)
    ·have h0:1<xs.length:=by lia
     obtain⟨y,s1,vS,nX,uY,RZ,hk⟩:=hs.pop tL;exists .inl ⟨rfl,_,aj.of hs.here⟩,c,xs,y,rfl,rfl,hs.here,vS,?_;have dI:=sU (xs:=xs);have jr:=sG.write (o:=.lst xs.dropLast) hc;generalize upd G c (.lst xs.dropLast)=G1 at nX hk jr;obtain⟨z,s2,iJ,jQ,Ft,Vw,jf⟩:=hk.pop tL;exists .inl ⟨rfl,_,aj.of hk.here⟩,c,xs.dropLast,z,rfl,rfl,hk.here,iJ,?_;have fS:=sU (xs:=xs.dropLast);have gc:=jr.write (o:=.lst xs.dropLast.dropLast) hc;have yi:Is (upd G1 c (.lst xs.dropLast.dropLast)) y s1.d:=BZ nX hk.here;generalize upd G1 c (.lst xs.dropLast.dropLast)=G2 at yi jQ jf gc;have TQ:=iO (x/7) (show (3:Int)≠0 by decide);have gj2:=iU (x/7) (show (0:Int)<3 by decide);obtain⟨j,hj⟩:∃j:Nat,x/7%3=(j:Int):=⟨_,(gh TQ).symm⟩;have um:j<3:=by lia
     exists .inl ⟨rfl,_,aj.of jf.here⟩,c5,λl hl=>?_;generalize eU:upd G2 l _=G3;obtain⟨sl,wl⟩:=nw eU hl;exists ib tD tD,(by simp),V.str (wd j),aj.of wl,(by rw[hj];exact RP um),c5,λt ht=>?_;obtain⟨p1,p2⟩:=(jf.keep sl).push (n':=i+1) (zs:=[.str (wd j),z,y]) (s:=.two j s2 s1) ht (λG' kk h3=>yv h3 (dr.mpr rfl) (gS kk (jQ.keep sl)) (gS kk (yi.keep sl))) ⟨um,Ft,uY⟩ (by show _+(s2.ln+s1.ln)<=i+1;lia);nomatch _,p1,bD tL,_,_,_,_,rfl,p2,(by rw[bh];show xs.dropLast.dropLast.length+1<=i+1;lia),((gc.trans sl).trans (af.upd ht)).write hc
    ·exists (by simp),_,rfl,?_;refine dD (λh5=>?_) (λh5=>?_)
     ·exists .inl ⟨rfl,_,aj.of hs.here⟩,ib tD tD,(by simp),bL,λt ht=>?_;obtain⟨p1,p2⟩:=hs.push (n':=i+1) (zs:=[.str "fix",.int (x/28%2)]) (s:=.fix (x/28%2)) ht (λG' kk h3=>j0 h3 (dr.mpr rfl) (nE.mpr rfl)) (by show x/28%2=0\/x/28%2=1;lia) (aT _);nomatch _,p1,bD tL,_,_,_,_,rfl,p2,(by simp_all),(sG.trans (af.upd ht)).write hc
     ·have LS:=sG _ _ hb;have kD:(bj ls).length=ls.length:=by unfold bj;rw[ax]
      have gk1:=iO (x/7) (show ((bj ls).length:Int)≠0 by lia);have gk2:=iU (x/7) (show (0:Int)<((bj ls).length:Int) by lia);obtain⟨m,hm⟩:∃m:Nat,x/7%((bj ls).length:Int)=(m:Int):=⟨_,(gh gk1).symm⟩;have Ha:m<ls.length:=by lia
      have x6:(bj ls)[m]?=some (V.int ((ls[m]:Nat):Int)):=by unfold bj;rw[cQ,d4 Ha];rfl
      exists .inl ⟨rfl,_,aj.of hs.here⟩,ib tD tD,b,_,rfl,.inl (aj.of LS),tL,_,aj.of LS,(by rw[hm];exact bc x6),bL,λt ht=>?_;obtain⟨p1,p2⟩:=hs.push (n':=i+1) (zs:=[.str "bit",.int ((ls[m]:Nat):Int)]) (s:=.bit ls[m]) ht (λG' kk h3=>j0 h3 (dr.mpr rfl) (nE.mpr rfl)) (jT Ha) (aT _);nomatch _,p1,bD tL,_,_,_,_,rfl,p2,(by simp_all),(sG.trans (af.upd ht)).write hc
  ·rintro σ G ⟨xs,v3,v4,v5,rfl,hs,oJ,sG⟩;rw[ax]at hs oJ;exists λm σ G=>∃(xs:List V) (v4 v5:Option V),σ=[some (.ref a),some (.ref b),some (.ref c),v3,v4,v5]/\xs.length=m/\m<=5/\iH ls 5 G c xs/\af H G,⟨_,xs,v4,v5,rfl,rfl,tL,hs.up kT,sG⟩,?_;rintro m σ G ⟨xs,v4,v5,rfl,hm,Uh,hs,sG⟩;exists c,_,rfl,.inl (aj.of hs.here),_,rfl,?_;refine dD (λh4=>?_) (λh4=>?_)
   ·have h0:1<xs.length:=by lia
    exists λσ' G'=>∃(rg:List V) (v4 v5:Option V),σ'=[some (.ref a),some (.ref b),some (.ref c),v3,v4,v5]/\rg.length+1=m/\iH ls 5 G' c rg/\af H G',λσ' G' ⟨rg,DG,v5',z1,z2,z3,z4⟩=>⟨rg.length,tL,rg,DG,v5',z1,rfl,tL,z3,z4⟩,?_;obtain⟨y,s1,vS,nX,uY,RZ,hk⟩:=hs.pop tL;exists .inl ⟨rfl,_,aj.of hs.here⟩,c,xs,y,rfl,rfl,hs.here,vS,?_;have dI:=sU (xs:=xs);have jr:=sG.write (o:=.lst xs.dropLast) hc;generalize upd G c (.lst xs.dropLast)=G1 at nX hk jr;obtain⟨z,s2,iJ,jQ,Ft,Vw,jf⟩:=hk.pop tL;exists .inl ⟨rfl,_,aj.of hk.here⟩,c,xs.dropLast,z,rfl,rfl,hk.here,iJ,?_;have fS:=sU (xs:=xs.dropLast);have gc:=jr.write (o:=.lst xs.dropLast.dropLast) hc;have yi:Is (upd G1 c (.lst xs.dropLast.dropLast)) y s1.d:=BZ nX hk.here;generalize upd G1 c (.lst xs.dropLast.dropLast)=G2 at yi jQ jf gc;exists .inl ⟨rfl,_,aj.of jf.here⟩,c5,λl hl=>?_;generalize eU:upd G2 l _=G3;obtain⟨sl,wl⟩:=nw eU hl;have Uc:=(jf.keep sl).here;have ej:((xs.dropLast.dropLast.length:Nat):Int)%3=((xs.dropLast.dropLast.length%3:Nat):Int):=by norm_cast
    have um:=qG xs.dropLast.dropLast.length (show 0<3 by decide);generalize hjj:xs.dropLast.dropLast.length%3=j at ej um;exists c,_,rfl,.inl (aj.of Uc),(by simp),V.str (wd j),aj.of wl,(by rw[ej];exact RP um),c5,λt ht=>?_;obtain⟨p1,p2⟩:=(jf.keep sl).push (n':=5) (zs:=[.str (wd j),z,y]) (s:=.two j s2 s1) ht (λG' kk h3=>yv h3 (dr.mpr rfl) (gS kk (jQ.keep sl)) (gS kk (yi.keep sl))) ⟨um,Ft,uY⟩ (by show _+(s2.ln+s1.ln)<=5;lia);have aK:(xs.dropLast.dropLast++[V.ref t]).length=xs.length-1:=by rw[bh];show xs.dropLast.dropLast.length+1=_;lia
    nomatch _,p1,bD tL,_,_,_,rfl,tL,p2,((gc.trans sl).trans (af.upd ht)).write hc
   ·have h1:¬1<xs.length:=λz=>h4 (aU tL)
    exists c,_,rfl,.inl (aj.of hs.here),_,rfl,?_;refine dD (λh5=>?_) (λh5=>?_)
    ·exists bL,λt ht=>?_;exact q (.ref t) (.fix 1) _ (j0 ar (dr.mpr rfl) (nE.mpr rfl)) (.inr rfl) tD (sG.trans (af.upd ht))
    ·have h6:0<xs.length:=by
      rcases KI xs.length with z|z
      ·exact absurd (aU (by rw[z];rfl)) h5
      ·exact z
     obtain⟨h7,ss,h8,h9⟩:=id hs;have xa:xs.length=1:=by lia
     obtain⟨x0,rfl⟩:=Q6.mp xa;cases h8 with
     |@cons _ s1 _ ss' r r' =>
      cases r';have P4:=h9;nomatch x0,aj.of hs.here,rfl,q _ s1 G r.1 r.2 P4 sG
def zcK(K:Frag):Sp:=λvs H Q _=>∃m:Nat,vs=[.int (m:Int)]/\m<2^16/\∀H',af H H'->Q (.str (S (cR m))) H'
def Wb:(["_law_k","_law_one"]:List Str).Nodup:=by decide+kernel
def Tj(T:Txt w K mg):Bh.Ok P w K mg base 1 (zcK K):=by
  refine T.d_Z36.k ?_;rintro vs H Q E ⟨m,rfl,hm,q⟩;refine wl fun hr hu nd=>⟨_,(ao (aB (bO fc lq lF lR aA (aa (du (g:=(aW 0)) ["_law_k", "_law_one"] 1 [0] rfl (cL Bh) (jD rfl T.n_range (aa ai ag)) (λa b c d e=>(aI 0 Wb)) (λa b d e f=>(gH (aR aV (ay bS.c (ay gC.c (pV 1) (ay n0.c ai (pV 0))) ai) ai))) (λa b c d e=>(oB qe aA (pV 0)))) ag)))),?_⟩
  exists rfl,?_;exists _,rfl,tD,tD,?_;refine tH (lo:=0) (n:=(16:Int).toNat) (λi ys σ G=>∃v0:Option V,σ=[v0,some (.int (m:Int))]/\ys=((((List.range i).filter λk=>m.testBit k).map λk=>97+k).map λc=>S [c]).map V.str/\G=H)
   ⟨none,rfl,rfl,rfl⟩ (λi ys σ G ⟨_,_,e,_⟩=>by rw[e,ax,ax,ax];exact aX (lW _ _) tS) tD ?_ ?_
  ·rintro i ys σ G hi ⟨v0,rfl,rfl,rfl⟩;have gY:=hi;have e0:(1:Int)*2^((0+(i:Int))).toNat=((2^i:Nat):Int):=by simp
   have ba:(2:Nat)^i<=2^16:=dB tD tL;have jg:=jk i;exists ⟨tL,tL,tD⟩,(by rw[e0];exact ib tL tL),(by simp),_,rfl,?_;have eb:(m:Int)/(1*2^((0+(i:Int))).toNat)%2=if m.testBit i=true then 1 else 0:=by
    rw[e0,uS]
    have:((m:Int)/((2^i:Nat):Int)%2)=((m/2^i%2:Nat):Int):=by norm_cast
    rw[this];by_cases y:m/2^i%2=1
    ·simp[y]
    ·have:m/2^i%2=0:=by lia
     simp[this]
   show if decide (V.int ((m:Int)/(1*2^((0+(i:Int))).toNat)%2)=V.int 1)=true then _ else _
   rw[eb];cases hc:m.testBit i
   ·refine aM tD ⟨_,rfl,?_,rfl⟩;rw[mw,dX];simp[hc]
   ·refine a7 tD ?_;exists _,_,_,rfl,rfl,(by rw[kJ,aH];show 16<=sizeLine;decide),(by rw[kJ,gf,pF];exact bc (AM i gY)),?_;exists _,rfl,?_,rfl;rw[mw,dX];simp[hc];rfl
  ·rintro ys σ G ⟨v0,rfl,rfl,rfl⟩ E hE;have e16:((List.range (16:Int).toNat).filter λk=>m.testBit k).map (λk=>97+k)=cR m:=by
    unfold cR;rw[<-S0 hm];rfl
   rw[e16];exists _,E,(cR m).map λc=>S [c],rfl,rfl,aj.of ar,?_,?_
   ·rw[yB,iy]
    have:=p6 hm
    simp[aH];omega
   ·rw[iy,EC];exact q _ (af.upd hE)
def Rj(T:Txt w K mg):CV.Ok P w K mg base 2 (LL K):=by
  refine T.d_Z48.k ?_;rintro vs H Q E ⟨a,f,rfl,hT,hs,hl,q⟩;refine wl fun hr hu nd=>⟨_,(ak (aE 1 nd (bG ag)) (ak (dR c8 rfl (cH (pV 0)) (iu (n:=2) rfl (cJ (aI 2 nd) (cJ (aI 3 nd) g9))) (ak (aE 4 nd (eA iB rfl T.n_str iL (aa (bq xw (by rfl) T.n_abs yj (aa (pV 3) ag)) ag)))
   (ak (kx (a9 (PW.pt (iQ (aR jI.j (pV 2) ai) (i8 (aR aV (bq xw (by rfl) T.n_abs yj (aa (pV 3) ag)) ai)))) (ao (aE 4 nd aA)) aN))
   (ak (d5 (bO cy f7 fX fY (pV 1) (aa (xL (bG (aa aA (aa aA ag))) (eA zS rfl T.n_int ra (aa (jA kc.j (pV 3) ai) ag))) ag))) (ao (d5 (bO cy f7 fX fY (pV 1) (aa (ay eM (pV 4) (aD T.d_Z36 (Tj T) hr (aa (pV 2) ag))) ag))))))))
   (ak (a9 (aR aV (bq fO (by rfl) T.n_len dC (aa (pV 1) ag)) ai) (ao (aB aA)) aN)
   (ak (kx (a9 (aR aV (xL (pV 1) ai) aA) (ao (qd (ay eM aA (xL (pV 1) ai)) (QE (pV 1) ai Q9))) aN)) (ao (aB (bO fc lq lF lR aA (aa (j4 oY (pV 1) (fJ ai) lX) ag)))))))),?_⟩
  obtain⟨ps,hS,hP⟩:=id hT;have cX:=hP.length;exists bM _,λc hc=>?_;have s0:af H (upd H c (.lst [])):=af.upd hc;exists ⟨_,aj.of (s0 _ _ hS)⟩,?_;refine jo (K:=K) (a:=a) (xs:=ps.map V.ref) (λi σ G=>∃v2 v3 v4:Option V,σ=[some (.ref a),some (.ref c),v2,v3,v4]/\G c=some (.lst ((f.take i).flatMap λt=>[V.str (S [bt t.2]),V.str (S (bz t))]))/\af H G)
   ⟨none,none,none,rfl,ar,s0⟩ (by rintro i σ G _ ⟨_,_,_,_,_,e⟩;exact aj.of (e _ _ hS)) ?_ ?_
  ·rintro i y σ G hi ⟨v2,v3,v4,rfl,g1,sG⟩;obtain⟨p,cO,rfl⟩:=fQ hi;obtain⟨t,aY,cj⟩:=hP.at' cO;have hok:=hs t (cM aY);obtain⟨h0,h1,h2,h3⟩:=id hok;have gD:i<f.length:=(dO.mp aY).1;have ea:(if t.2<0 then -t.2 else t.2)=((t.2.natAbs:Nat):Int):=by split<;>lia
   have em:=(gh h0).symm;have hm:t.1.toNat<2^16:=by lia
   exists _,az.of (sG _ _ cj),rfl,?_;exists t.2,rfl,?_;exists _,rfl,by rw[ea];exact zj h3,?_;rw[ea,pq];exists λσ' G'=>σ'=[some (.ref a),some (.ref c),some (.int t.1),some (.int t.2),some (.str (S (gj t.1.toNat t.2.natAbs)))]/\G'=G,?_,?_
   ·exists _,rfl,?_;refine dD (λk1=>?_) (λk1=>?_)
    ·have k1':=bP k1;exists t.2,rfl,?_;rw[ea];exists _,rfl,?_;refine dD (λk2=>?_) (λk2=>?_)
     ·have G7:t.2.natAbs=1:=by grind
      exists ?_,rfl
      have:gj t.1.toNat t.2.natAbs=[]:=aC ⟨G7,tL⟩
      rw[this,<-iy];rfl
     ·have G7:¬t.2.natAbs=1:=λz=>k2 (by rw[z];simp)
      exists ?_,rfl
      have:gj t.1.toNat t.2.natAbs=cb t.2.natAbs:=av (λz=>G7 z.1)
      rw[this];rfl
    ·have k1':¬0<t.1:=λz=>k1 (aU z)
     exists ?_,rfl
     have:gj t.1.toNat t.2.natAbs=cb t.2.natAbs:=av (λz=>z.2 tL)
     rw[this];rfl
   ·rintro σ' G' ⟨rfl,rfl⟩;have Ib:((f.take i).flatMap λt=>[V.str (S [bt t.2]),V.str (S (bz t))]).length=2*i:=by rw[sH,fR];lia
    exists .inl ⟨rfl,_,aj.of g1⟩,?_;exists bL,λl xf=>?_;have b1:af G' (upd G' l (.lst [.str "+",.str "-"])):=af.upd xf;have esg:dN [V.str "+",V.str "-"] (if decide (t.2<0)=true then 1 else 0)=some (V.str (S [bt t.2])):=by
     by_cases z:t.2<0
     ·rw[aC (aU z),show bt t.2=45 from aC z,<-kn];rfl
     ·rw[av (by simpa using z),show bt t.2=43 from av z,<-wc];rfl
    refine .inr ⟨_,rfl,?_⟩;exists _,aj.of ar,esg,?_;exists _,b1 _ _ g1,?_,?_
    ·rw[Ib];exact bD tL
    have g2:upd (upd G' l (.lst [.str "+",.str "-"])) c (.lst (((f.take i).flatMap λt=>[V.str (S [bt t.2]),V.str (S (bz t))])++[V.str (S [bt t.2])])) c=some (.lst (((f.take i).flatMap λt=>[V.str (S [bt t.2]),V.str (S (bz t))])++[V.str (S [bt t.2])])):=ar;have S1:af H (upd (upd G' l (.lst [.str "+",.str "-"])) c (.lst (((f.take i).flatMap λt=>[V.str (S [bt t.2]),V.str (S (bz t))])++[V.str (S [bt t.2])]))):=(sG.trans b1).write hc;generalize upd (upd G' l (.lst [.str "+",.str "-"])) c (.lst (((f.take i).flatMap λt=>[V.str (S [bt t.2]),V.str (S (bz t))])++[V.str (S [bt t.2])]))=H1 at g2 S1;have hle:(S (gj t.1.toNat t.2.natAbs)).length+(S (cR t.1.toNat)).length<=sizeLine:=by
     rw[aH,aH];exact aX (yR (TH h3) (p6 hm)) tD
    exists .inl ⟨rfl,_,aj.of g2⟩,?_;exists t.1.toNat,by rw[<-em];rfl,hm,λH2 s2=>?_;exists _,_,rfl,rfl,hle,?_;exists _,s2 _ _ g2,?_,?_
    ·rw[bh,Ib];exact bD (by simp;lia)
    exists _,_,_,rfl,?_,(S1.trans s2).write hc;rw[ar,dH,cZ,aY,Px];have ew:bz t=gj t.1.toNat t.2.natAbs++cR t.1.toNat:=rfl;simp[ew]
  ·rintro σ G ⟨v2,v3,v4,rfl,g1,sG⟩;rw[ax,cX,dG]at g1;exists c,_,rfl,.inl (aj.of g1),_,rfl,?_;cases f with
   |nil =>
    refine a7 (by rfl) ?_
    have:=q G sG
    rw[show txt []=[48] from rfl,<-jM]at this;exact this
   |cons t0 r =>
    have ie:((t0::r).flatMap λt=>[V.str (S [bt t.2]),V.str (S (bz t))]).length=2*(r.length+1):=sH _ _ _;refine aM (by rw[ie];simp;lia) ?_;have j6:((t0::r).flatMap λt=>[V.str (S [bt t.2]),V.str (S (bz t))])=V.str (S [bt t0.2])::V.str (S (bz t0))::(r.flatMap λt=>[V.str (S [bt t.2]),V.str (S (bz t))]):=rfl;rw[j6]at g1;have hok:=hs t0 tS;have fu:(jx (t0::r)).map (λw=>V.str (S w))=V.str (S (dA t0.2++bz t0))::(r.flatMap λt=>[V.str (S [bt t.2]),V.str (S (bz t))]):=by
     show V.str (S (dA t0.2++bz t0))::(r.flatMap λu=>[[bt u.2],bz u]).map (λw=>V.str (S w))=_;rw[S9];rfl
    exists λσ' G'=>σ'=[some (.ref a),some (.ref c),v2,v3,v4]/\G' c=some (.lst (V.str (S [bt t0.2])::(jx (t0::r)).map λw=>V.str (S w)))/\af H G',?_,?_
    ·have wm:dN (V.str (S [bt t0.2])::V.str (S (bz t0))::(r.flatMap λt=>[V.str (S [bt t.2]),V.str (S (bz t))])) 0=some (V.str (S [bt t0.2])):=bc (j:=0) rfl;have XH:dN (V.str (S [bt t0.2])::V.str (S (bz t0))::(r.flatMap λt=>[V.str (S [bt t.2]),V.str (S (bz t))])) 1=some (V.str (S (bz t0))):=bc (j:=1) rfl;exists _,aj.of g1,wm,_,rfl,?_;by_cases z:t0.2<0
     ·have es:bt t0.2=45:=aC z;refine a7 (by rw[es,<-kn];simp) ?_;exists _,aj.of g1,XH,_,_,rfl,rfl,?_,?_
      ·rw[kn,aH,aH];exact aX (Bq (Bg (by have:=hok.1;have:=hok.2.1;lia) hok.2.2.2) _) (by show 1+79<=sizeLine;decide)
      exists c,_,_,1,rfl,rfl,g1,(by show j9 (_+1+1) 1=some 1;unfold j9;simp;lia),?_;exists rfl,?_,sG.write hc;rw[ar,fu,kn,dH]
      have:dA t0.2=[45]:=aC z
      rw[this];rfl
     ·have es:bt t0.2=43:=av z;refine aM (by rw[es,kn];intro y;have:=bP y;injection this with this;exact absurd (dU this) tD) ?_;exists rfl,?_,sG;rw[g1,fu]
      have:dA t0.2=[]:=av z
      rw[this];rfl
    ·rintro σ' G' ⟨rfl,g2,s2⟩;have ecut:gk (V.str (S [bt t0.2])::(jx (t0::r)).map λw=>V.str (S w)) (some 1) none=((jx (t0::r)).map S).map V.str:=by
      unfold gk;rw[show HT.sIx (V.str (S [bt t0.2])::(jx (t0::r)).map λw=>V.str (S w)).length 0 (some 1)=1 from (HT.sIx_nat _ _ 1).trans (mT tS)];rw[fk];refine kY ?_;simp[HT.sIx]
     have hws:(((jx (t0::r)).map S).map (·.length)).sum+((jx (t0::r)).map S).length*(ofString " ").length<=16777216:=by
      have h1:(((jx (t0::r)).map S).map (·.length)).sum<=(txt (t0::r)).length:=by
       rw[<-IC,fk];have go:∀ws:List (List Nat),(ws.map ((·.length) ∘ S)).sum<=(bR 32 ws).length:=λws=>by
        induction ws with
        |nil=>exact aT _
        |cons w ws ih =>
         cases ws with
         |nil=>show w.length+0<=w.length;lia
         |cons w2 ws =>
          have:(bR 32 (w::w2::ws)).length=w.length+1+(bR 32 (w2::ws)).length:=by rw[bR,bh,bH];lia
          rw[this,bN,mm];show w.length+_<=_;lia
       exact go _
      have h2:=ZA hs;have h3:(jx (t0::r)).length=2*r.length+1:=by
       show (_::r.flatMap λu=>[[bt u.2],bz u]).length=_;rw[bH,sH]
      rw[mD,aH,ax,h3];simp only[bH,nk]at h2 hl ⊢;lia
     exists rfl,?_;exists c,_,rfl,aj.of g2,λd hd=>?_;rw[ecut];exists _,d,_,rfl,rfl,aj.of ar,hws,?_;rw[mD,qY,IC];exact q _ (s2.trans (af.upd hd))
def UE(T:Txt w K mg)(d:Nat):GI.Ok P w K mg base (1+d) ((zcP K) d)/\A6.Ok P w K mg base (1+d) ((MY K) d):=by
 induction d with
 |zero=>exact⟨Rw.ok T.d_Z28.F T.d_Z28.S λvs H Q E h=>by obtain⟨v,s0,rfl,hI,hok,hd,aK,q⟩:=h;exact absurd hd (uZ _),Rw.ok T.d_Z55.F T.d_Z55.S λvs H Q E h=>by obtain⟨v,s0,rfl,hI,hok,hd,aK,q⟩:=h;exact absurd hd (uZ _)⟩
 |succ d ih =>
 exists ?_,?_
 ·refine T.d_Z28.k (k:=1+d) ?_;rintro vs H Q E ⟨v,s0,rfl,hI,hok,hd,aK,q⟩;refine wl fun hr hu nd=>⟨_,(ak (a9 (oG ph (xT (pV 0) ai) (bG (aa aA (aa aA (aa aA ag)))) rfl) (ao (aB (ay eM (ay eM aA (aD T.d_Z55 ih.2 hr (aa (pV 0) ag))) aA))) aN) (ao (aB (aD T.d_Z55 ih.2 hr (aa (pV 0) ag))))),?_⟩
  cases s0 with
  |bit k =>
   obtain⟨p,rfl,hp⟩:=qu hI;have e:gB (.bit k)=bY (.bit k):=rfl;rw[e]at q;exists _,az.of hp,rfl,c5,λl hl=>?_;have z1:af H (upd H l (.lst [.str "and",.str "or",.str "xor"])):=af.upd hl;exists l,_,rfl,.inl (aj.of ar),rfl,rfl,_,rfl,aM tD ?_;nomatch .ref p,(.bit k),rfl,hI.keep z1,hok,tL,aK,λH1 k1=>q H1 (z1.trans k1)
  |fix c =>
   obtain⟨p,rfl,hp⟩:=qj hI;have e:gB (.fix c)=bY (.fix c):=rfl;rw[e]at q;exists _,az.of hp,rfl,c5,λl hl=>?_;have z1:af H (upd H l (.lst [.str "and",.str "or",.str "xor"])):=af.upd hl;exists l,_,rfl,.inl (aj.of ar),rfl,rfl,_,rfl,aM tD ?_;nomatch .ref p,(.fix c),rfl,hI.keep z1,hok,tL,aK,λH1 k1=>q H1 (z1.trans k1)
  |no s1 =>
   obtain⟨p,x,rfl,hp,hx⟩:=ow hI;have e:gB (.no s1)=bY (.no s1):=rfl;rw[e]at q;exists _,az.of hp,rfl,c5,λl hl=>?_;have z1:af H (upd H l (.lst [.str "and",.str "or",.str "xor"])):=af.upd hl;exists l,_,rfl,.inl (aj.of ar),rfl,rfl,_,rfl,aM tD ?_;nomatch .ref p,(.no s1),rfl,hI.keep z1,hok,tL,aK,λH1 k1=>q H1 (z1.trans k1)
  |two w s1 s2 =>
   obtain⟨p,x,y,rfl,hp,hx,hy⟩:=oh hI;have e:gB (.two w s1 s2)=[40]++bY (.two w s1 s2)++[41]:=rfl;rw[e]at q;exists _,az.of hp,rfl,c5,λl hl=>?_;have z1:af H (upd H l (.lst [.str "and",.str "or",.str "xor"])):=af.upd hl;exists l,_,rfl,.inl (aj.of ar),rfl,rfl,_,rfl,a7 (zdw hok.1) ?_;exists .ref p,.two w s1 s2,rfl,hI.keep z1,hok,tL,aK,λH1 k1=>?_;exists _,_,rfl,rfl,(by rw[wg,aH,aH];exact iq (by simp;lia)),?_;rw[wg,dH];exists _,_,rfl,rfl,(by rw[CL,aH,aH];exact iq (by simp;lia)),?_;rw[CL,dH];exact q H1 (z1.trans k1)
 ·refine T.d_Z55.k (k:=1+d) ?_;rintro vs H Q E ⟨v,s0,rfl,hI,hok,hd,aK,q⟩;refine wl fun hr hu nd=>⟨_,(ak (bW (bX aV (xT (pV 0) ai) aA) (ao (aB (oB qe aA (xT (pV 0) ai)))) aN) (ak (bW (bX aV (xT (pV 0) ai) aA) (ao (aB (eA iB rfl T.n_str iL (aa (xT (pV 0) ai) ag)))) aN) (ak (bW (bX aV (xT (pV 0) ai) aA) (ao (aB (ay eM aA (aD T.d_Z28 ih.1 hr (aa (xT (pV 0) ai) ag))))) aN) (ak (aE 1 nd (aD T.d_Z28 ih.1 hr (aa (xT (pV 0) ai) ag))) (ao (aB (ay eM (ay eM (ay eM (ay eM (pV 1) aA) (xT (pV 0) ai)) aA) (aD T.d_Z28 ih.1 hr (aa (xT (pV 0) ai) ag))))))))),?_⟩
  cases s0 with
  |bit k =>
   obtain⟨p,rfl,hp⟩:=qu hI;have hk:k<16:=hok;exists _,az.of hp,rfl,vy ?_;exists _,az.of hp,rfl,_,_,_,rfl,rfl,(by rw[kJ,aH];show 16<=sizeLine;decide),(by rw[kJ,gf];exact bc (AM k hk)),?_;exact q H (af.refl _)
  |fix c =>
   obtain⟨p,rfl,hp⟩:=qj hI;have hc:c=0\/c=1:=hok;obtain⟨n,rfl⟩:∃n:Nat,c=(n:Int):=⟨c.toNat,tL⟩;exists _,az.of hp,rfl,vn ?_;exists _,az.of hp,rfl,vy ?_;exists _,az.of hp,rfl,_,rfl,Ud tL,?_;rw[pq];exact q H (af.refl _)
  |no s1 =>
   obtain⟨p,x,rfl,hp,hx⟩:=ow hI;rw[xP]at aK;have dI:(gB s1).length<=10000:=by grind
   have fS:(bY s1).length<=10000:=aX (GW s1) dI;exists _,az.of hp,rfl,vn ?_;exists _,az.of hp,rfl,vn ?_;exists _,az.of hp,rfl,vy ?_;exists _,az.of hp,rfl,x,s1,rfl,hx,hok,(by have:2*(s1.dp+1)+1<d+1:=hd;lia),fS,λH1 k1=>?_;exists _,_,rfl,rfl,(by rw[rG,aH,aH];exact iq (by simp;lia)),?_;rw[rG,dH,<-xP];exact q H1 k1
  |two w s1 s2 =>
   obtain⟨p,x,y,rfl,hp,hx,hy⟩:=oh hI;obtain⟨lU,nJ,m9⟩:=hok;obtain⟨n1,n2,n3⟩:=zcH lU;rw[xW]at aK;have fu:=Cy w;have dI:(gB s1).length<=10000:=by simp only[bh]at aK;lia
   have FD:(gB s2).length<=10000:=by grind
   have fS:(bY s1).length<=10000:=aX (GW s1) dI;have ma:(bY s2).length<=10000:=aX (GW s2) FD;have bU:2*(max s1.dp s2.dp+1)+1<d+1:=hd;exists _,az.of hp,rfl,vN (by rw[n1];decide) ?_;exists _,az.of hp,rfl,vN (by rw[n2];decide) ?_;exists _,az.of hp,rfl,vN (by rw[n3];decide) ?_;exists _,az.of hp,rfl,x,s1,rfl,hx,nJ,tL,fS,λH1 k1=>?_;exists _,_,rfl,rfl,(by rw[mD,aH,aH];exact iq (by simp;lia)),?_;rw[mD,dH];have dZ:=k1 _ _ hp;rw[zcQ lU]at dZ;exists _,az.of dZ,rfl,_,_,rfl,rfl,(by rw[aH,aH];exact iq (by simp;lia)),?_;rw[dH];exists _,_,rfl,rfl,(by rw[aH,aH];exact iq (by simp;lia)),?_;rw[dH];exists _,az.of dZ,rfl,y,s2,rfl,hy.keep k1,m9,tL,ma,λH2 k2=>?_;exists _,_,rfl,rfl,(by rw[aH,aH];exact iq (by simp;lia)),?_;rw[dH,<-xW];exact q H2 (k1.trans k2)
def W3(T:Txt w K mg):A6.Ok P w K mg base 101 ((MY K) 100):=(UE T 100).2
def uh:(" = " : Str)=S [32,61,32]:=by decide+kernel
def Fj:(" := " : Str)=S [32,58,61,32]:=by decide+kernel
def iV:(" " : Str)=S [32]:=by decide+kernel
def HJ:("=" : Str)=S [61]:=by decide+kernel
def zaw:("fixed" : Str)=S kK:=by decide+kernel
def X8:("put" : Str)=S kX:=by decide+kernel
theorem zU:∀ws:List (List Nat),(∀w∈ws,w.length<=8)->((ws.map S).map (·.length)).sum<=8*ws.length
 |[],_=>aT _
 |w::r,h=>by
  have ih:=zU r λx hx=>h x (by simp[hx])
  have:=h w tS
  rw[bN,bN,mm,aH,bH];lia
def WX(K:Frag):Sp:=λvs H Q _=>∃(d a b x:Addr) (st:eK) (ns:List (List Nat)) (ls:List Nat) (xs:List Int),vs=[.ref d,.ref a,.ref b,.ref x]/\hZ H d st/\H a=some (.lst (ns.map λx=>V.str (S x)))/\H b=some (.lst (bj ls))/\H x=some (.lst (xs.map V.int))/\(∀nf∈st,dh ls nf.2)/\(ns.length=4/\∀x∈ns,bf x=true)/\(ls.Nodup/\0<ls.length/\ls.length<=5/\∀x∈ls,x<16)/\(xs.length=12/\∀x∈xs,0<=x) /\
 ∀(p e:Addr) (c:bI) (H':Hp),H' p=some (.tup [.str (S c.nm),.ref e])->mn H' e c->uc ls st c->c.nm∈ns->af H H'->Q (.ref p) H'
def zb9(T:Txt w K mg):CJ.Ok P w K mg base 102 (WX K):=by
  refine T.d_Z38.k ?_;rintro vs H Q E ⟨d,a,b,x,st,ns,ls,xs,rfl,hD,hN,hL,hX,a8,kT,CB,j6,q⟩;refine wl fun hr hu nd=>⟨_,(ak (aE 4 nd (xL (pV 1) (ay bS.c (xL (pV 3) ai) ai))) (ak (aE 5 nd (xL (pV 1) (ay bS.c (xL (pV 3) ai) ai))) (ak (aE 6 nd (xL (pV 2) (ay bS.c (xL (pV 3) ai) (bq fO (by rfl) T.n_len dC (aa (pV 2) ag)))))
   (ak (aE 7 nd (oB qe aA (pV 6))) (ak (aE 8 nd (xL (pV 1) (ay bS.c (xL (pV 3) ai) ai))) (ak (aE 9 nd (ay bS.c (xL (pV 3) ai) ai)) (ak (kx (aE 10 nd (uP (aD T.d_Z50 (OA T) hr.m (aa (sh hu (pV 0) (pV 4) (bG ag) ⟨rfl,rfl,rfl,rfl⟩) ag)) (px (aD T.d_Z50 (OA T) hr.m (aa (sh hu (pV 0) (pV 5) (bG ag) ⟨rfl,rfl,rfl,rfl⟩) ag)))))) (ak (a9 (PW.pt (jy (aR kc.j (pV 9) ai) (j2 (nK (j3 (pV 10)))))) (ak (aE 11 nd (aD T.d_Z57 (XG T) hr.m (aa (pV 3) (aa (pV 2) ag)))) (ao (aB (bx (aa (pV 8) (aa (bx (aa aA (aa (pV 11) (aa (ay eM (ay eM (pV 8) aA) (aD T.d_Z48 (Rj T) hr.m (aa (pV 11) ag))) ag)))) ag)))))) aN) (ak (a9 (aR aV (pV 9) ai) (ak (aE 12 nd (aD T.d_Z53 (zaq T) hr.m (aa (j4 oY (pV 3) (fJ ai) (fJ ai)) (aa (pV 2) ag)))) (ao (aB (bx (aa (pV 8) (aa (bx (aa aA (aa (pV 12) (aa (ay eM (ay eM (pV 8) aA) (aD T.d_Z55 (W3 T) hr (aa (pV 12) ag))) ag)))) ag)))))) aN) (ak (a9 (aR aV (pV 9) ai) (ak (aE 13 nd (bO fc lq lF lR aA (aa (bG (aa (pV 8) (aa aA (aa aA (aa (pV 4) (aa (pV 7) (aa (eA iB rfl T.n_str iL (aa (ay bS.c (xL (pV 3) ai) ai) ag)) ag))))))) ag))) (ao (aB (bx (aa (pV 8) (aa (bx (aa aA (aa (bx (aa (pV 4) (aa (pV 6) (aa (ay bS.c (xL (pV 3) ai) ai) ag)))) (aa (pV 13) ag)))) ag)))))) aN) (ak (a9 (aR aV (pV 9) ai) (ao (aB (bx (aa (pV 8) (aa (bx (aa aA (aa (bx (aa (pV 4) (aa (pV 5) (aa (pV 6) ag)))) (aa (bO fc lq lF lR aA (aa (bG (aa (pV 8) (aa aA (aa aA (aa (pV 4) (aa (pV 7) (aa (pV 5) ag))))))) ag)) ag)))) ag))))) aN) (ak (aE 14 nd (xL (bG (aa aA (aa aA (aa aA ag)))) (ay iW.j (pV 9) ai))) (ao (aB (bx (aa (pV 8) (aa (bx (aa (pV 14) (aa (bx (aa (pV 4) (aa (pV 5) ag))) (aa (bO fc lq lF lR aA (aa (bG (aa (pV 8) (aa aA (aa (pV 14) (aa (pV 4) (aa (pV 5) ag)))))) ag)) ag)))) ag))))))))))))))))),?_⟩
  obtain⟨nq,qr⟩:=kT;obtain⟨kH,gE,bb,cf⟩:=CB;obtain⟨oJ,md⟩:=j6;have eX:∀i:Nat,i<12->∃z:Int,0<=z/\dN (xs.map V.int) (i:Int)=some (V.int z):=λi hi=>⟨xs[i]'tL,md _ (jT _),bc (by simp)⟩
  have eN:∀z:Int,∃n∈ns,bf n=true/\dN (ns.map λx=>V.str (S x)) (z%4)=some (V.str (S n)):=λz=>by
   have h0:=iO z (show (4:Int)≠0 by decide);have h1:=iU z (show (0:Int)<4 by decide);obtain⟨k,hk⟩:∃k:Nat,z%4=(k:Int):=⟨(z%4).toNat,tL⟩;rw[hk]at h1 ⊢;exists ns[k]'tL,jT _,qr _ (jT _),bc (by rw[cQ,d4 tO];rfl)
  obtain⟨x8,_,e8⟩:=eX 8 tD;obtain⟨x9,_,e9⟩:=eX 9 tD;obtain⟨vL,_,e10⟩:=eX 10 tD;obtain⟨x1,_,e1⟩:=eX 1 tD;obtain⟨x0,_,e0⟩:=eX 0 tD;obtain⟨wz,_,Af⟩:=eX 11 tD;obtain⟨fi,hfi,gu,ef⟩:=eN x8;obtain⟨se,hse,oP,es⟩:=eN x9;obtain⟨nm,uW,qV,en⟩:=eN x1;exists _,aj.of hX,e8,(by simp),_,aj.of hN,ef,?_;exists _,aj.of hX,e9,(by simp),_,aj.of hN,es,?_;have hnl2:(bj ls).length=ls.length:=by unfold bj;rw[ax]
  obtain⟨k,ia,gN,ek⟩:∃k:Nat,k∈ls/\k<16/\dN (bj ls) (vL%(((bj ls).length:Nat):Int))=some (V.int (k:Int)):=by
   have h0:=iO vL (show (((bj ls).length:Nat):Int)≠0 by lia);have h1:=iU vL (show (0:Int)<(((bj ls).length:Nat):Int) by lia);obtain⟨j,hj⟩:∃j:Nat,vL%(((bj ls).length:Nat):Int)=(j:Int):=⟨(vL%(((bj ls).length:Nat):Int)).toNat,tL⟩;rw[hj]at h1 ⊢;have ki:j<ls.length:=by lia
   nomatch ls[j],jT _,cf _ (jT _),bc (by unfold bj;rw[cQ,d4 ki];rfl)
  exists _,aj.of hX,e10,b,_,rfl,.inl (aj.of hL),(by lia),_,aj.of hL,ek,?_;exists _,_,_,rfl,rfl,(by rw[kJ,aH];show 16<=sizeLine;decide),(by rw[kJ,gf];exact bc (AM k gN)),?_;exists _,aj.of hX,e1,(by simp),_,aj.of hN,en,?_;exists _,aj.of hX,e0,(by simp),?_;obtain⟨kvs,hd,hk⟩:=id hD;have Lb:∀(n:List Nat) (G:Hp),af H G->∀e,G e=some (.lst [])->∃(a0:Addr) (f:aq),(iz kvs (Sum.inr (S n))).getD (.ref e)=.ref a0/\aG G a0 f/\f.length<=64/\((∀t∈f,t.2.natAbs<10^20)->pe st n):=λn G sG e he=>by
   rcases ly hk n with ⟨h1,h2⟩|⟨a0,f,h1,h2,h3⟩
   ·exact⟨e,[],(by rw[h1];rfl),⟨[],he,.nil⟩,bM _,λ_ l hl=>by simp_all⟩
   ·have hF:=d7 a8 h2;exact⟨a0,f,(by rw[h1];rfl),h3.keep sG,aX (hF.len bb) tD,λhs l hl=>by rw[h2]at hl;cases hl;exact hs⟩
  exists λσ G=>∃v:Bool,σ=[some (.ref d),some (.ref a),some (.ref b),some (.ref x),some (.str (S fi)),some (.str (S se)),some (.int (k:Int)),some (.str (S [97+k])),some (.str (S nm)),some (.int (x0%8)),some (.bl v),none,none,none,none]/\(v=true->pe st fi/\pe st se)/\af H G,?_,?_
  ·exists d,rfl,.inl ⟨_,.inl hd⟩,bM _,λe he=>?_;have s0:af H (upd H e (.lst [])):=af.upd he;have y0:upd H e (.lst []) e=some (.lst []):=ar;obtain⟨a0,f0,ea,hT0,W4,Uw⟩:=Lb fi _ s0 e y0;exists _,dj.k (k:=Sum.inr (S fi)) (s0 _ _ hd),a0,f0,(by rw[ea];rfl),hT0,W4,λb1 H1 fj s1=>?_;have S1:=s0.trans s1;exists b1,rfl,?_;cases b1 with
   |false=>exact gn ⟨_,rfl,(λz=>by cases z),S1⟩
   |true =>
    refine eh ?_;exists d,rfl,.inl ⟨_,.inl (S1 _ _ hd)⟩,bM _,λe2 jJ=>?_;have s2:af H1 (upd H1 e2 (.lst [])):=af.upd jJ;obtain⟨a1,f1,Ww,ck,FD,uK⟩:=Lb se _ (S1.trans s2) e2 ar;exists _,dj.k (k:=Sum.inr (S se)) (s2 _ _ (S1 _ _ hd)),a1,f1,(by rw[Ww];rfl),ck,FD,λb2 H2 ik s3=>?_;nomatch _,rfl,(λz=>⟨Uw (fj rfl),uK (ik z)⟩),S1.trans (s2.trans s3)
  ·rintro σ G ⟨v,rfl,hv,sG⟩;have k8:=sG _ _ hX;have Ei:=sG _ _ hL;have w0:=iO x0 (show (8:Int)≠0 by decide);have w8:=iU x0 (show (0:Int)<8 by decide);generalize x0%8=W at w0 w8;have IG:∀m:List Nat,nm.length+m.length<=2000->(S nm).length+(S m).length<=sizeLine:=λm hm=>by rw[aH,aH];exact bE (bD tL)
   obtain⟨m1,m2⟩:=eG qV;exists _,rfl,?_;refine dD (λz=>?_) (λz=>?_)
   ·exists x,b,xs,ls,rfl,k8,⟨oJ,md⟩,Ei,kH,bb,cf,λc f H1 hT hF jV h4 s1=>?_;have qz:=hF.say cf;obtain⟨t1,t2⟩:=FW (f:=f) tL λt ht=>⟨qz t ht,h4 t ht⟩
    exists _,_,rfl,rfl,(by rw[uh];exact IG _ (by show nm.length+3<=2000;lia)),c,f,rfl,hT,qz,tL,λH2 s2=>⟨_,_,rfl,rfl,?_,?_⟩
    ·rw[uh,dH,aH,aH,bh];exact bE (bD (by show nm.length+3+(txt f).length<=_;lia))
    rw[uh,dH,dH];exists c5,λp3 cP=>⟨bL,λp2 cg=>?_⟩;have eL:(nm++[32,61,32])++txt f=(bI.form nm (txt f)).line:=by show _=nm++([32,61,32]++txt f);rw[gr]
    refine q p2 p3 (.form nm (txt f)) _ ar (mn.keep ⟨.ref c,(by rw[ar,eL];rfl),c,f,rfl,(hT.keep s2).keep (af.upd cP),zb hF.1 qz⟩ (af.upd cg)) ⟨qV,f,rfl,hF,jV,h4⟩ uW (sG.trans (s1.trans (s2.trans ((af.upd cP).trans (af.upd cg)))))
   have hW2:2<=W:=by simp_all
   exists v,rfl,?_;cases v with
   |false =>
    refine a7 rfl ?_;exists x,b,xs,ls,rfl,k8,⟨oJ,md⟩,Ei,kH,bb,cf,λc f H1 hT hF jV h4 s1=>?_;have qz:=hF.say cf;obtain⟨t1,t2⟩:=FW (f:=f) tO λt ht=>⟨qz t ht,h4 t ht⟩
    exists _,_,rfl,rfl,(by rw[uh];exact IG _ (by grind)),c,f,rfl,hT,qz,tO,λH2 s2=>⟨_,_,rfl,rfl,?_,?_⟩
    ·rw[uh,dH,aH,aH,bh];exact bE (bD (by grind))
    rw[uh,dH,dH];exists c5,λp3 cP=>⟨bL,λp2 cg=>?_⟩;have eL:(nm++[32,61,32])++txt f=(bI.form nm (txt f)).line:=by show _=nm++([32,61,32]++txt f);rw[gr]
    refine q p2 p3 (.form nm (txt f)) _ ar (mn.keep ⟨.ref c,(by rw[ar,eL];rfl),c,f,rfl,(hT.keep s2).keep (af.upd cP),zb hF.1 qz⟩ (af.upd cg)) ⟨qV,f,rfl,hF,jV,h4⟩ uW (sG.trans (s1.trans (s2.trans ((af.upd cP).trans (af.upd cg)))))
   |true =>
   refine aM tD ?_;obtain⟨uK,kz⟩:=hv rfl;exists _,rfl,?_;refine dD (λz2=>?_) (λz2=>?_)
   ·obtain⟨ms,em,UI⟩:∃ms:List Int,gk (xs.map V.int) (some 2) (some 7)=ms.map V.int/\ms.length<=5:=by
     refine⟨(xs.drop 2).take 5,?_,by simp_all⟩;unfold gk;rw[show HT.sIx (xs.map V.int).length 0 (some 2)=2 from (HT.sIx_nat _ _ 2).trans (mT (by simp_all)),show HT.sIx (xs.map V.int).length (xs.map V.int).length (some 7)=7 from (HT.sIx_nat _ _ 7).trans (mT (by simp_all)),<-SA,<-MM]
    exists x,_,rfl,aj.of k8,λc2 uu=>?_;rw[em];have t1:af G (upd G c2 (.lst (ms.map V.int))):=af.upd uu;exists c2,b,ms,ls,rfl,ar,t1 _ _ Ei,UI,gE,tL,λvs sm H1 hI hok mI s1=>?_;have zv:=tZ sm;have nq:=si sm;have vT:=tU hok;exists _,_,rfl,rfl,(by rw[Fj];exact IG _ (by show nm.length+4<=2000;lia)),vs,sm,rfl,hI,Sm.ok.imp (λk hk=>cf k hk) hok,tL,tL,λH2 s2=>⟨_,_,rfl,rfl,?_,?_⟩
    ·rw[Fj,dH,aH,aH,bh];exact bE (bD (by show nm.length+4+(bY sm).length<=_;lia))
    rw[Fj,dH,dH];exists c5,λp3 cP=>⟨bL,λp2 cg=>?_⟩;have eL:(nm++[32,58,61,32])++bY sm=(bI.stat nm sm).line:=by show _=nm++([32,58,61,32]++bY sm);rw[gr]
    exact q p2 p3 (.stat nm sm) _ ar (mn.keep ⟨vs,(by rw[ar,eL];rfl),(hI.keep s2).keep (af.upd cP)⟩ (af.upd cg)) ⟨qV,hok,mI⟩ uW (sG.trans (t1.trans (s1.trans (s2.trans ((af.upd cP).trans (af.upd cg))))))
   have w3:W≠2:=λy=>z2 (by rw[y];simp)
   exists _,rfl,?_;refine dD (λz3=>?_) (λz3=>?_)
   ·have b0:=iO wz (show (2:Int)≠0 by decide);have b1:=iU wz (show (0:Int)<2 by decide);obtain⟨B,eB,hB⟩:∃B:Nat,wz%2=(B:Int)/\B<2:=⟨(wz%2).toNat,tL,tL⟩;exists rfl,_,aj.of k8,Af,(by simp),?_;dsimp only;rw[eB];exists _,rfl,zj (cS hB tD),?_;rw[pq,yZ tL,HJ,zaw];exists Dp,λe he=>?_;generalize eU:upd G e _=H1;have s1:=(nw eU he).1;have y1:H1 e=some (.lst (([nm,[61],kK,fi,[97+k],[48+B]].map S).map V.str)):=(nw eU he).2;exists _,e,[nm,[61],kK,fi,[97+k],[48+B]].map S,rfl,rfl,aj.of y1,?_,?_
    ·have:=zU [nm,[61],kK,fi,[97+k],[48+B]] (λw hw=>by
      have:w=nm\/w=[61]\/w=kK\/w=fi\/w=[97+k]\/w=[48+B]:=by simpa using hw
      rcases this with rfl|rfl|rfl|rfl|rfl|rfl
      ·exact m1
      ·decide
      ·decide
      ·exact (eG gu).1
      ·simp
      ·simp)
     rw[iV,aH];simp only[ax,bH,nk]at this ⊢;lia
    rw[iV,qY];exists _,aj.of (s1 _ _ k8),Af,(by simp),?_;dsimp only;rw[eB];exists c5,λp4 km=>⟨c5,λp3 cP=>⟨bL,λp2 cg=>?_⟩⟩;exact q p2 p3 (.fixd nm fi k (B:Int)) _ ar (mn.keep ⟨.ref p4,(by rw[ar];rfl),p4,rfl,(af.upd cP) _ _ ar⟩ (af.upd cg)) ⟨qV,gu,gN,tL,uK⟩ uW (sG.trans (s1.trans ((af.upd km).trans ((af.upd cP).trans (af.upd cg)))))
   have w4:W≠3:=λy=>z3 (by rw[y];simp)
   exists _,rfl,?_;refine dD (λz4=>?_) (λz4=>?_)
   ·exists c5,λp4 km=>?_;generalize eU:upd G p4 _=G1;obtain⟨s0,y0⟩:=nw eU km;exists rfl,?_;rw[HJ,X8];exists Dp,λe he=>?_;generalize eU:upd G1 e _=H1;have s1:=(nw eU he).1;have y1:H1 e=some (.lst (([nm,[61],kX,fi,[97+k],se].map S).map V.str)):=(nw eU he).2;exists _,e,[nm,[61],kX,fi,[97+k],se].map S,rfl,rfl,aj.of y1,?_,?_
    ·have:=zU [nm,[61],kX,fi,[97+k],se] (λw hw=>by
      have:w=nm\/w=[61]\/w=kX\/w=fi\/w=[97+k]\/w=se:=by simpa using hw
      rcases this with rfl|rfl|rfl|rfl|rfl|rfl
      ·exact m1
      ·decide
      ·decide
      ·exact (eG gu).1
      ·simp
      ·exact (eG oP).1)
     rw[iV,aH];simp only[ax,bH,nk]at this ⊢;lia
    rw[iV,qY];exists c5,λp3 cP=>⟨bL,λp2 cg=>?_⟩;exact q p2 p3 (.put nm fi k se) _ ar (mn.keep ⟨.ref p4,(by rw[ar];rfl),p4,rfl,(af.upd cP) _ _ (s1 _ _ y0)⟩ (af.upd cg)) ⟨qV,gu,oP,gN,uK,kz⟩ uW (sG.trans (s0.trans (s1.trans ((af.upd cP).trans (af.upd cg)))))
   have w5:W≠4:=λy=>z4 (by rw[y];simp)
   exists c5,λe0 he0=>?_;generalize eU:upd G e0 _=G0;obtain⟨t0,r0⟩:=nw eU he0;obtain⟨wo,hwo,eW⟩:∃wo:Nat,wo<3/\W-5=(wo:Int):=⟨(W-5).toNat,tL,tL⟩;have eo:dN [V.str "plus",V.str "less",V.str "times"] (W-5)=some (V.str (gK wo)):=by
    rw[eW];obtain rfl|rfl|rfl:wo=0\/wo=1\/wo=2:=by lia
    all_goals rfl
   exists _,aj.of r0,eo,?_;have eS:gK wo=S (jB wo):=(wl_S (.two wo nm fi se)).symm;have ol:(jB wo).length<=8:=by
    obtain rfl|rfl|rfl:wo=0\/wo=1\/wo=2:=by omega
    all_goals decide
   exists bL,λp4 km=>?_;generalize eU:upd G0 p4 _=G1;obtain⟨s0,y0⟩:=nw eU km;exists rfl,?_;rw[HJ];exists (by show 5<=sizeLine;decide),λe he=>?_;generalize eU:upd G1 e _=H1;have s1:=(nw eU he).1;have y1:H1 e=some (.lst (([nm,[61],jB wo,fi,se].map S).map V.str)):=by rw[(nw eU he).2,eS];rfl
   exists _,e,[nm,[61],jB wo,fi,se].map S,rfl,rfl,aj.of y1,?_,?_
   ·have:=zU [nm,[61],jB wo,fi,se] (λw hw=>by
     have:w=nm\/w=[61]\/w=jB wo\/w=fi\/w=se:=by simpa using hw
     rcases this with rfl|rfl|rfl|rfl|rfl
     ·exact m1
     ·decide
     ·exact ol
     ·exact (eG gu).1
     ·exact (eG oP).1)
    rw[iV,aH];simp only[ax,bH,nk]at this ⊢;lia
   rw[iV,qY];exists c5,λp3 cP=>⟨bL,λp2 cg=>?_⟩;exact q p2 p3 (.two wo nm fi se) _ ar (mn.keep ⟨.ref p4,(by rw[ar];rfl),p4,rfl,(af.upd cP) _ _ (s1 _ _ y0)⟩ (af.upd cg)) ⟨qV,gu,oP,hwo,uK,kz⟩ uW (sG.trans (t0.trans (s0.trans (s1.trans ((af.upd cP).trans (af.upd cg))))))
def Lo(T:Txt w K mg):Hr.Ok P w K mg base 1 zde:=by
  refine T.d_Z39.k ?_;rintro vs H Q E ⟨c,k,rfl,k1,k2,q⟩;refine wl fun hr hu nd=>⟨_,(ak (aE 2 nd (ay bS.c (ay d0.j (ay d0.j (ay fI.c (pV 0) ai) (ay fI.c (ay fI.c ai (pV 1)) (pV 1))) (pV 1)) ai)) (ak (aE 2 nd (ay bS.c (ay fI.c (pV 2) (pV 2)) ai)) (ao (aB (ay bS.c (ay fI.c (pV 2) ai) ai))))),?_⟩
  exists kZ tD tD,gG tD tD,kZ k1 k2,(by simp),?_;generalize hz:(c*1103515245+7919*k*k+k)%2147483647=z;have z1:0<=z:=by rw[<-hz];exact iO _ tD
  have z2:z<2147483647:=by rw[<-hz];exact iU _ tD
  exists gG tL tL,(by simp),?_;exists kZ tD tD,(by simp),?_;exact q _ (iO _ tD) (iU _ tD)
def zcW(K:Frag):Sp:=λvs H Q _=>∃n:Int,vs=[.int n]/\0<=n/\∀(D:Addr) (ns:List (List Nat)) (H':Hp),H' D=some (.lst (ns.map λx=>V.str (S x)))->ns.length=4->(∀x∈ns,bf x=true)->af H H'->Q (.ref D) H'
def By:("show" : Str)=S [115,104,111,119]/\("plus" : Str)=S [112,108,117,115]/\("worth" : Str)=S [119,111,114,116,104]/\("fixed" : Str)=S [102,105,120,101,100]:=by decide+kernel
def zbe:∀k:Nat,k<26->nS[k]?=some (97+k):=by decide+kernel
def K8:∃c,97<=c/\c<123/\dN nS (z%26)=some c:=by
 have h0:=iO z (show (26:Int)≠0 by decide);have h1:=iU z (show (0:Int)<26 by decide);obtain⟨k,hk⟩:∃k:Nat,z%26=(k:Int):=⟨(z%26).toNat,tL⟩;rw[hk]at h1 ⊢;nomatch 97+k,tL,tL,bc (zbe k tL)
def za9:(["_law_k","_law_letters_here","_law_number"]:List Str).Nodup:=by decide+kernel
def XB:(["_law_j","_law_tail","_law_letters_here","_law_number"]:List Str).Nodup:=by decide+kernel
def zar(T:Txt w K mg):vf.Ok P w K mg base 1 (zcW K):=by
  refine T.d_Z40.k ?_;rintro vs H Q E ⟨n,rfl,hn,q⟩;refine wl fun hr hu nd=>⟨_,(ak (aE 1 nd aA) (ak (aE 2 nd (bO fc lq lF lR aA (aa (du (g:=(aW 0)) ["_law_k", "_law_letters_here", "_law_number"] 1 [1,0] rfl (cL vf) (jD rfl T.n_range (aa (ay bS.c (pV 0) ai) ag)) (λa b c d e=>(aI 0 za9)) (λa b c d e=>gA) (λa b d e f=>(oB qe (pV 1) (ay bS.c (ay gC.c (pV 2) (ay d0.j (pV 0) ai)) ai)))) ag))) (ak (uA (i:=3) (g:=(aW 0)) ["_law_j", "_law_tail", "_law_letters_here", "_law_number"] 1 [2,1,0] nd rfl (Or.inl rfl) rfl (cL vf) (jD rfl T.n_range (aa ai ag)) (λa b c d e=>(aI 0 XB)) (λa b c d e=>gA) (λa b d e f=>(ay eM (oB qe (pV 2) (ay bS.c (ay d0.j (ay gC.c (pV 3) ai) (ay fI.c ai (pV 0))) ai)) (pV 1)))) (ak (kx (a9 (aR aV (ay bS.c (ay gC.c (pV 0) ai) ai) ai) (ao (aE 3 nd (bG (aa aA (aa aA (aa aA (aa aA ag))))))) aN)) (ao (aB (pV 3))))))),?_⟩
  have MQ:(S nS).length<=sizeLine:=by rw[aH];decide
  have h80:=iO n (show (8:Int)≠0 by decide);have h81:=iU n (show (0:Int)<8 by decide);rw[N1];exists rfl,?_;exists (by simp),n%8,rfl,tL,tL,?_;refine tH (lo:=0) (n:=(n%8).toNat) (λi ys σ G=>∃(v0:Option V) (cs:List Nat),σ=[v0,some (.str (S nS)),some (.int n)]/\ys=(cs.map λc=>S [c]).map V.str/\cs.length=i/\(∀c∈cs,97<=c/\c<123)/\H=G)
   ⟨none,[],rfl,rfl,rfl,(λc hc=>by cases hc),rfl⟩ (λi ys σ G ⟨_,cs,_,e,e2,_,_⟩=>by simp_all) (bE (bD tL)) ?_ ?_
  ·rintro i ys σ G hi ⟨v0,cs,rfl,rfl,fG,jc,rfl⟩;unfold aW;refine tt ?_;obtain⟨c,c1,c2,hc⟩:=K8 (z:=n/((0+(i:Int))+1));exists ib tL tO,(by simp),_,_,_,rfl,rfl,MQ,(by rw[gf];exact hc),?_;exists _,cs++[c],rfl,(by rw[aQ,aQ];rfl),(by simp_all),(λx hx=>?_),rfl;rcases bA.mp hx with z|z
   ·exact jc x z
   ·rw[bw.mp z];nomatch c1,c2
  ·rintro ys σ G ⟨v0,cs,rfl,rfl,fG,jc,rfl⟩ E hE;exists _,E,cs.map λc=>S [c],rfl,rfl,aj.of ar,?_,?_
   ·rw[yB,iy];simp[aH];lia
   rw[iy,EC];generalize eU:upd H E _=H1;have s1:=(nw eU hE).1;exists _,rfl,tD,tD,?_;refine tH (lo:=0) (n:=(4:Int).toNat) (λi ys σ G=>∃(v0:Option V) (ns:List (List Nat)),σ=[v0,some (.str (S cs)),some (.str (S nS)),some (.int n)]/\ys=ns.map (λx=>V.str (S x))/\ns.length=i/\(∀x∈ns,bf x=true)/\H1=G)
    ⟨none,[],rfl,rfl,rfl,(λc hc=>by cases hc),rfl⟩ (λi ys σ G ⟨_,cs,_,e,e2,_,_⟩=>by simp_all) tD ?_ ?_
   ·rintro i ys σ G hi ⟨v0,ns,rfl,rfl,nq,kT,rfl⟩;unfold aW;refine tt ?_;obtain⟨c,c1,c2,hc⟩:=K8 (z:=n/8+5*(0+(i:Int)));exists ib tD tD,gG tD tD,(by simp),_,_,_,rfl,rfl,MQ,(by rw[gf];exact hc),_,_,rfl,rfl,?_,?_
    ·rw[aH];show 1+cs.length<=sizeLine;exact bE (bD tL)
    ·exists _,ns++[[c]++cs],rfl,(by rw[aQ];show _++[V.str (S [c]++S cs)]=_;rw[dH];rfl),(by simp_all),(λx hx=>?_),rfl;rcases bA.mp hx with z|z
     ·exact kT x z
     ·rw[bw.mp z];unfold bf;rw[ff,ff,fN];exists aU tS,aU (by rw[bh];show 1+cs.length<=8;lia),λy hy=>aU ?_;rcases bA.mp hy with w|w
      ·rw[bw.mp w];nomatch c1,c2
      ·exact jc y w
   ·rintro ys σ G ⟨v0,ns,rfl,rfl,nq,kT,rfl⟩ D hD;exists λσ' G'=>∃(D:Addr) (ns:List (List Nat)),σ'=[some (.int n),some (.str (S nS)),some (.str (S cs)),some (.ref D)]/\G' D=some (.lst (ns.map λx=>V.str (S x)))/\ns.length=4/\(∀x∈ns,bf x=true)/\af H G',?_,?_
    ·exists ib tD tD,(by simp),_,rfl,?_;refine dD (λ_=>?_) (λ_=>?_)
     ·exists KD,λD2 rD=>?_;exists D2,[[115,104,111,119],[112,108,117,115],[119,111,114,116,104],[102,105,120,101,100]],rfl,(by rw[ar,By.1,By.2.1,By.2.2.1,By.2.2.2];rfl),rfl,tD,s1.trans ((af.upd hD).trans (af.upd rD))
     ·nomatch D,ns,rfl,ar,nq,kT,s1.trans (af.upd hD)
    ·rintro σ' G' ⟨D2,Yp,rfl,h1,h2,h3,h4⟩;exact q D2 Yp G' h1 h2 h3 h4
def zbu(K:Frag):Sp:=λvs H Q _=>∃(n:Int) (mo:Nat),vs=[.int n,.int (mo:Int)]/\mo<=8 /\
 ∀(b:Addr) (ls:List Nat) (H':Hp),H b=none->H' b=some (.lst (bj ls))->ls.Nodup->(∀x∈ls,x<16)->ls.length=mo->af H H'->Q (.ref b) H'
def Wf(T:Txt w K mg):HE.Ok P w K mg base 1 (zbu K):=by
  refine T.d_Z35.k ?_;rintro vs H Q E ⟨n,mo,rfl,hmo,q⟩;refine wl fun hr hu nd=>⟨_,(ak (aE 2 nd (bG ag)) (ak (dR c8 rfl (jD rfl T.n_range (aa (pV 1) ag)) (aI 3 nd) (ak (aE 4 nd (ay bS.c (ay gC.c (pV 0) (ay d0.j (pV 3) ai)) ai)) (ak (tw c8 (oG ph (pV 4) (pV 2) rfl) (ao (aE 4 nd (ay bS.c (ay d0.j (pV 4) ai) ai)))) (ao (d5 (bO cy f7 fX fY (pV 2) (aa (pV 4) ag))))))) (ao (aB (pV 2))))),?_⟩
  exists bM _,λc hc=>?_;have s0:af H (upd H c (.lst [])):=af.upd hc;exists (mo:Int),rfl,tL,tL,?_;refine qp (n:=mo) (λi σ H2=>∃(ls:List Nat) (v4 v5:Option V),σ=[some (.int n),some (.int (mo:Int)),some (.ref c),v4,v5]/\H2 c=some (.lst (bj ls))/\ls.length=i/\ls.Nodup/\(∀x∈ls,x<16)/\af H H2)
   ⟨[],none,none,rfl,ar,rfl,zt,(λx hx=>by cases hx),s0⟩ ?_ ?_
  ·rintro i σ H2 hi ⟨ls,v4,v5,rfl,h1,h2,h3,h4,h5⟩;exists ib tL tL,(by simp),?_;have g1:=iO (n/(0+(i:Int)+1)) (show ((16:Int))≠0 by lia);have g2:=iU (n/(0+(i:Int)+1)) (show (0:Int)<16 by lia);obtain⟨x0,md⟩:∃x0:Nat,n/(0+(i:Int)+1)%16=(x0:Int):=⟨_,(gh g1).symm⟩;rw[md]at g2;dsimp only;rw[md];obtain⟨m0,yy⟩:=zdx (ls:=ls) (x:=x0) tL;exists λm σ H3=>∃x:Nat,σ=[some (.int n),some (.int (mo:Int)),some (.ref c),some (.int (0+(i:Int))),some (.int (x:Int))]/\x<16/\(x+5*m)%16∉ls/\H3=H2,⟨m0,x0,rfl,tO,yy,rfl⟩,?_;rintro m σ H3 ⟨x,rfl,hx,hm,rfl⟩;exists c,_,rfl,.inl (aj.of h1),rfl,zeD ls,_,rfl,?_;unfold bj;rw[zdZ];by_cases rN:x∈ls
   ·refine a7 (by simpa using rN) ?_;have hmp:m≠0:=by
     intro z;rw[z,zf,yC,Nat.mod_eq_of_lt hx]at hm;exact hm rN
    exists λσ' H'=>σ'=[some (.int n),some (.int (mo:Int)),some (.ref c),some (.int (0+(i:Int))),some (.int (((x+5)%16:Nat):Int))]/\H'=H3,λσ' H' ⟨e1,e2⟩=>⟨m-1,tL,(x+5)%16,e1,qG _ tL,?_,e2⟩,?_
    ·have e:((x+5)%16+5*(m-1))%16=(x+5*m)%16:=by omega
     rw[e];exact hm
    ·exists (by lia),?_,rfl;have e:((((x+5)%16:Nat)):Int)=((x:Int)+5)%16:=by norm_cast
     rw[e];rfl
   ·refine aM (by simpa using rN) ?_;exists .inl ⟨rfl,_,aj.of h1⟩,_,h1,(by unfold bj;rw[ax];exact bD tL),ls++[x],_,_,rfl,(by rw[ar];unfold bj;rw[aQ];rfl),by simp[h2],?_,?_,h5.write hc
    ·rw[FA];exists h3,tS,λa' YW b' dv z=>?_
     have:b'=x:=by simpa using dv
     subst z this;exact rN YW
    ·intro y hy;rcases bA.mp hy with z|z
     ·exact h4 y z
     ·have:y=x:=by simpa using z
      rw[this];exact hx
  ·rintro σ H2 ⟨ls,v4,v5,rfl,h1,h2,h3,h4,h5⟩;exact q c ls H2 hc h1 h3 h4 h2 h5
def zcu(C:Addr):Sp:=λvs H Q _=>∃p dx:Addr,vs=[.ref p]/\H p=some (.ins C dx [])/\∀(d:Addr) (H':Hp),H d=none->kE C H' p d []->(∀b o,H b=some o->b≠p->H' b=some o)->Q .non H'
def zb7(T:Txt w K mg):Ck.Ok P w K mg base 1 (zcu gq):=by
  refine Rw.ok T.d_Desk_init.F T.d_Desk_init.S ?_;rintro vs H Q E ⟨p,dx,rfl,hp,q⟩;refine wl λhr hu nd=>⟨_,(ao (Xn (pV 0) rY rfl)),?_⟩
  intro d hd;have OY:=c7 hp hd;exists p,gq,dx,[],rfl,(by rw[aS OY];exact hp),T.cl_Desk,T.nf_Desk_forms,(by simp),?_;refine q d _ hd ⟨⟨dx,ar⟩,[],by rw[aS OY.symm,ar],.nil⟩ λb o e hb=>?_
  rw[aS hb,aS (c7 e hd)];exact e
def zeC(T:Txt w K mg):FO.Ok P w K mg base 1 (zbq K):=by
  refine T.d_Z27.k ?_;rintro vs H Q E ⟨a,ns,k,rfl,hS,q⟩;refine wl fun hr hu nd=>⟨_,(ak (a9 (aR kc.j (pV 1) (bq fO (by rfl) T.n_len dC (aa (pV 0) ag))) (ao (aB (xL (pV 0) (pV 1)))) aN)
   (ao (aB ai))),?_⟩
  exists a,_,rfl,.inl hS,_,rfl,?_;refine dD (λh1=>?_) (λh1=>?_)
  ·have bJ:k<ns.length:=by simp_all
   exists _,hS,bc (j:=k) (v:=V.int (ns.getD k 0)) ?_,q;rw[cQ,d4 bJ,m8,d4 bJ];rfl
  ·have bJ:ns.length<=k:=by simp_all
   rw[m8,GZ bJ]at q;exact q
def zav(K:Frag):Sp:=λvs H Q _=>∃cell k:Int,vs=[.int cell,.int k]/\(0<=k/\k<2^20)/\∀(D:Addr) (xs:List Int) (H':Hp),H D=none->H' D=some (.lst (xs.map V.int))->(xs.length=12/\∀x∈xs,0<=x/\x<2^28)->af H H'->Q (.ref D) H'
def YG(T:Txt w K mg):Hj.Ok P w K mg base 2 (zav K):=by
  refine T.d_Z54.k ?_;rintro vs H Q E ⟨cell,k,rfl,hm,q⟩;refine wl fun hr hu nd=>⟨_,(ak (aE 2 nd (bG ag)) (ak (bW (bX Gd.j (pV 0) (ay uw.c ai ai)) (ak (aE 3 nd (ay iW.j (pV 0) (ay uw.c ai ai))) (ak (dR c8 rfl (jD rfl T.n_range (aa ai ag)) (aI 4 nd) (ak (d5 (bO cy f7 fX fY (pV 2) (aa (ay bS.c (pV 3) ai) ag))) (ao (aE 3 nd (ay gC.c (pV 3) ai))))) (ao (aB (pV 2))))) aN) (ak (aE 5 nd (aD T.d_Z39 (Lo T) hr (aa (pV 0) (aa (pV 1) ag)))) (ak (dR c8 rfl (jD rfl T.n_range (aa ai ag)) (aI 4 nd) (ak (aE 5 nd (ay bS.c (ay d0.j (ay d0.j (ay fI.c (pV 5) (pV 5)) (ay fI.c ai (pV 4))) ai) ai)) (ao (d5 (bO cy f7 fX fY (pV 2) (aa (ay gC.c (ay bS.c (ay fI.c (pV 5) ai) ai) ai) ag)))))) (ao (aB (pV 2))))))),?_⟩
  exists bM _,λD hD=>?_;generalize eU:upd H D _=H0;have s0:=(nw eU hD).1;have w0:=(nw eU hD).2;exists ⟨tD,tD,tD⟩,v2 (λz=>?_) (λz=>?_)
  ·exists ⟨tD,tD,tD⟩,?_;exists 12,rfl,tD,tD,?_;refine qp (n:=(12:Int).toNat) (λi σ G=>∃(v4 v5:Option V) (le:Int) (xs:List Int),σ=[some (.int cell),some (.int k),some (.ref D),some (.int le),v4,v5]/\G D=some (.lst (xs.map V.int))/\xs.length=i/\(∀x∈xs,0<=x/\x<2^28)/\af H G)
    ⟨_,_,_,[],rfl,w0,rfl,(λx h=>by cases h),s0⟩ ?_ ?_
   ·rintro i σ G hi ⟨v4,v5,le,xs,rfl,g1,g2,g3,g4⟩;have gY:=hi;exists .inl ⟨rfl,_,aj.of g1⟩,(by simp),_,g1,(by rw[ax,g2];exact bD tL),?_;exists ib tD tD,_,_,_,xs++[le%134217728],rfl,(by rw[ar,aQ];rfl),by simp_all,λx hx=>?_,g4.write hD;rcases bA.mp hx with y|y
    ·exact g3 x y
    ·rw[bw.mp y];lia
   ·rintro σ G ⟨v4,v5,le,xs,rfl,g1,g2,g3,g4⟩;exact q D xs G hD g1 ⟨g2,g3⟩ g4
  exists cell,k,rfl,tL,tL,λr0 r1 r2=>?_;exists 12,rfl,tD,tD,?_;refine qp (n:=(12:Int).toNat) (λi σ G=>∃(v3 v4:Option V) (nu:Int) (xs:List Int),σ=[some (.int cell),some (.int k),some (.ref D),v3,v4,some (.int nu)]/\0<=nu/\nu<2147483629/\G D=some (.lst (xs.map V.int))/\xs.length=i/\(∀x∈xs,0<=x/\x<2^28)/\af H G)
   ⟨_,_,_,[],rfl,r1,tL,w0,rfl,(λx h=>by cases h),s0⟩ ?_ ?_
  ·rintro i σ G hi ⟨v3,v4,nu,xs,rfl,n1,n2,g1,g2,g3,g4⟩;have gY:=hi;exists kZ tL tL,kZ tL tO,(by simp),?_;dsimp only;obtain⟨nv,E6⟩:∃nv:Int,(nu*nu+7*(0+(i:Int))+1)%2147483629=nv:=⟨_,rfl⟩;have hn1:0<=nv:=by rw[<-E6];exact iO _ tD
   have t9:nv<2147483629:=by rw[<-E6];exact iU _ tD
   rw[E6];exists .inl ⟨rfl,_,aj.of g1⟩,kZ tD tD,(by simp),ib tD tD,_,g1,(by rw[ax,g2];exact bD tL),?_;exists _,_,nv,xs++[nv*69621%2147483587/16],rfl,hn1,t9,(by rw[ar,aQ];rfl),by simp_all,λx hx=>?_,g4.write hD;rcases bA.mp hx with y|y
   ·exact g3 x y
   ·rw[bw.mp y];omega
  ·rintro σ G ⟨v3,v4,nu,xs,rfl,n1,n2,g1,g2,g3,g4⟩;exact q D xs G hD g1 ⟨g2,g3⟩ g4
inductive W6 where
 |wor|ali|rst|one (w:W1)
def W6.s:W6->Str
 |.wor => "worth" |.ali => "alike" |.rst => "rest" |.one w=>w.wd
noncomputable def w8:List V:=[.str "show",.str "worth",.str "alike",.str "rest",.str "unknowns",.str "ways",.str "least",.str "worth"]
def TZ(h:k<8):∃w:W6,w8[k]?=some (.str w.s):=by
 obtain rfl|rfl|rfl|rfl|rfl|rfl|rfl|rfl:k=0\/k=1\/k=2\/k=3\/k=4\/k=5\/k=6\/k=7:=by lia
 all_goals first|exact⟨.one .shw,rfl⟩|exact⟨.wor,rfl⟩|exact⟨.ali,rfl⟩|exact⟨.rst,rfl⟩|exact⟨.one .unk,rfl⟩|exact⟨.one .way,rfl⟩|nomatch .one .lea,rfl
def zbT(K:Frag):Sp:=λvs H Q _=>∃(a b:Addr) (iw:List (List Nat)) (xs:List Int),vs=[.ref a,.ref b]/\H a=some (.lst (iw.map λn=>V.str (S n)))/\H b=some (.lst (xs.map V.int))/\iw.length=4/\(∀n∈iw,bf n=true)/\xs.length=12/\(∀x∈xs,0<=x/\x<2^28) /\
 ∀(e:Addr) (q:Ask) (H':Hp),Ip H' e q->q.ok->af H H'->Q (.ref e) H'
def zbp(T:Txt w K mg):DR.Ok P w K mg base 1 (zbT K):=by
  refine T.d_Z46.k ?_;rintro vs H Q E ⟨a,b,iw,xs,rfl,hN,hX,nq,qr,oJ,md,q⟩;refine wl fun hr hu nd=>⟨_,(ak (aE 2 nd (xL (pV 0) (ay bS.c (xL (pV 1) ai) ai))) (ak (aE 3 nd (xL (pV 0) (ay bS.c (xL (pV 1) ai) ai))) (ak (kx (aE 4 nd (xL (bG (aa aA (aa aA (aa aA (aa aA (aa aA (aa aA (aa aA (aa aA ag))))))))) (ay bS.c (xL (pV 1) ai) ai)))) (ak (bW (bX aV (pV 4) aA) (ak (aE 5 nd (xL (bG (aa (ay bS.c (xL (pV 1) ai) ai) (aa (ay bS.c (ay fI.c (xL (pV 1) ai) ai) (ay uw.c ai ai)) ag))) (ay bS.c (xL (pV 1) ai) ai))) (ao (aB (bx (aa (pV 4) (aa (bx (aa (pV 2) (aa (pV 5) ag))) (aa (bO fc lq lF lR aA (aa (bG (aa (pV 4) (aa (pV 2) (aa (eA iB rfl T.n_str iL (aa (pV 5) ag)) ag)))) ag)) ag))))))) aN) (ak (bW (bX aV (pV 4) aA) (ao (aB (bx (aa (pV 4) (aa (bx (aa (pV 2) (aa (pV 3) ag))) (aa (bO fc lq lF lR aA (aa (bG (aa (pV 4) (aa (pV 2) (aa (pV 3) ag)))) ag)) ag)))))) aN) (ak (bW (bX aV (pV 4) aA) (ak (aE 6 nd (xL (bG (aa (ay d0.j ai (ay bS.c (xL (pV 1) ai) ai)) (aa (ay d0.j (ay uw.c ai ai) (xL (pV 1) ai)) ag))) (ay gC.c (ay bS.c (xL (pV 1) ai) ai) ai))) (ao (aB (bx (aa (pV 4) (aa (bx (aa (pV 2) (aa (pV 3) (aa (pV 6) ag)))) (aa (bO fc lq lF lR aA (aa (bG (aa (pV 4) (aa (pV 2) (aa (pV 3) (aa (eA iB rfl T.n_str iL (aa (pV 6) ag)) ag))))) ag)) ag))))))) aN) (ao (aB (bx (aa (pV 4) (aa (bx (aa (pV 2) ag)) (aa (ay eM (ay eM (pV 4) aA) (pV 2)) ag)))))))))))),?_⟩
  have eX:∀i:Nat,i<12->∃z:Int,0<=z/\z<2^28/\dN (xs.map V.int) (i:Int)=some (V.int z):=λi hi=>⟨xs[i]'tL,(md _ (jT _)).1,(md _ (jT _)).2,bc (by simp)⟩
  have eN:∀z:Int,∃n,bf n=true/\dN (iw.map λx=>V.str (S x)) (z%4)=some (V.str (S n)):=λz=>by
   have h0:=iO z (show (4:Int)≠0 by decide);have h1:=iU z (show (0:Int)<4 by decide);obtain⟨k,hk⟩:∃k:Nat,z%4=(k:Int):=⟨(z%4).toNat,tL⟩;rw[hk]at h1 ⊢;exists iw[k]'tL,qr _ (jT _),bc (by rw[cQ,d4 tO];rfl)
  obtain⟨x0,_,_,e0⟩:=eX 0 tD;obtain⟨x1,_,_,e1⟩:=eX 1 tD;obtain⟨x2,_,_,e2⟩:=eX 2 tD;obtain⟨x3,p3,u3,e3⟩:=eX 3 tD;obtain⟨x4,_,_,e4⟩:=eX 4 tD;obtain⟨fi,gu,ef⟩:=eN x1;obtain⟨se,oP,es⟩:=eN x2;exists _,aj.of hX,e1,(by simp),_,aj.of hN,ef,?_;exists _,aj.of hX,e2,(by simp),_,aj.of hN,es,?_;exists λσ G=>∃w:W6,σ=[some (.ref a),some (.ref b),some (.str (S fi)),some (.str (S se)),some (.str w.s),none,none]/\af H G,?_,?_
  ·exists (by show 8<=sizeLine;decide),λl0 gE=>?_;have s0:af H (upd H l0 (.lst w8)):=af.upd gE;have h0:=iO x0 (show (8:Int)≠0 by decide);have h1:=iU x0 (show (0:Int)<8 by decide);obtain⟨k,hk⟩:∃k:Nat,x0%8=(k:Int):=⟨(x0%8).toNat,tL⟩;obtain⟨w,hw⟩:=TZ (k:=k) tL;nomatch _,aj.of (s0 _ _ hX),e0,(by simp),_,aj.of ar,(by rw[hk];exact bc hw),w,rfl,s0
  ·rintro σ G ⟨w,rfl,sG⟩;have k8:=sG _ _ hX;have jV:=(eG gu).1;cases w with
   |wor =>
    refine vy ?_;exists _,aj.of k8,e3,(by simp),_,aj.of k8,e3,kZ tD tD,⟨tD,tD,tD⟩,(by simp),bL,λl1 dI=>?_;have s1:af G (upd G l1 (.lst [.int (x3%65536),.int (x3*1000003%10^Int.toNat 18)])):=af.upd dI;have y1:upd G l1 (.lst [.int (x3%65536),.int (x3*1000003%10^Int.toNat 18)]) l1=_:=ar;dsimp only;generalize upd G l1 (.lst [.int (x3%65536),.int (x3*1000003%10^Int.toNat 18)])=G1 at s1 y1 ⊢;obtain⟨g,hg,eg⟩:∃g:Nat,g<10^18/\dN [V.int (x3%65536),V.int (x3*1000003%10^Int.toNat 18)] (x4%2)=some (V.int (g:Int)):=by
     have e18:(10:Int)^Int.toNat 18=1000000000000000000:=by decide
     rcases (show x4%2=0\/x4%2=1 by lia)with z|z
     ·exact⟨(x3%65536).toNat,tL,by rw[z];exact bc (j:=0) (by rw[gh tL];rfl)⟩
     ·exact⟨(x3*1000003%10^Int.toNat 18).toNat,by rw[e18];lia,by rw[z];exact bc (j:=1) (by grind)⟩
    exists _,aj.of (s1 _ _ k8),e4,(by simp),_,aj.of y1,eg,?_;exists bL,λp4 km=>?_;generalize eU:upd G1 p4 _=G2;obtain⟨s2,y2⟩:=nw eU km;exists rfl,_,rfl,qZ (n:=1920) (by rw[pX];exact lQ hg tE) tD,?_;rw[pq];exists c5,λe he=>?_;generalize eU:upd G2 e _=G3;have s3:=(nw eU he).1;have y3:G3 e=some (.lst ((((Ask.wor fi g).wl::(Ask.wor fi g).ws).map S).map V.str)):=by rw[(nw eU he).2];show _=some (HO.lst [.str (S (Ask.wor fi g).wl),.str (S fi),.str (S (cb g))]);rw[Ask.wl_S];rfl
    exists _,e,((Ask.wor fi g).wl::(Ask.wor fi g).ws).map S,rfl,rfl,aj.of y3,?_,?_
    ·have:=BK 18 ((Ask.wor fi g).wl::(Ask.wor fi g).ws) (λw hw=>by
      rcases (show w=(Ask.wor fi g).wl\/w=fi\/w=cb g by simpa [Ask.ws] using hw)with rfl|rfl|rfl
      ·show 5<=18;decide
      ·exact aX (eG gu).1 tD
      ·exact lO (k:=17) hg)
     rw[iV,aH];simp only[ax,bH,nk,Ask.ws]at this ⊢;lia
    rw[iV,qY];nomatch c5,λp3 cP=>q p3 (Ask.wor fi g) _ ⟨p4,ar,(af.upd cP) _ _ (s3 _ _ y2)⟩ ⟨gu,hg⟩ (sG.trans ((s1.trans s2).trans (s3.trans (af.upd cP))))
   |ali =>
    refine vn ?_;refine vy ?_;exists bL,λp4 km=>?_;generalize eU:upd G p4 _=G2;obtain⟨s2,y2⟩:=nw eU km;exists rfl,?_;exists c5,λe he=>?_;generalize eU:upd G2 e _=G3;have s3:=(nw eU he).1;have y3:G3 e=some (.lst ((((Ask.ali fi se).wl::(Ask.ali fi se).ws).map S).map V.str)):=by rw[(nw eU he).2];show _=some (HO.lst [.str (S (Ask.ali fi se).wl),.str (S fi),.str (S se)]);rw[Ask.wl_S];rfl
    exists _,e,((Ask.ali fi se).wl::(Ask.ali fi se).ws).map S,rfl,rfl,aj.of y3,?_,?_
    ·have:=BK 18 ((Ask.ali fi se).wl::(Ask.ali fi se).ws) (λw hw=>by
      rcases (show w=(Ask.ali fi se).wl\/w=fi\/w=se by simpa [Ask.ws] using hw)with rfl|rfl|rfl
      ·show 5<=18;decide
      ·exact aX (eG gu).1 tD
      ·exact aX (eG oP).1 tD)
     rw[iV,aH];simp only[ax,bH,nk,Ask.ws]at this ⊢;lia
    rw[iV,qY];nomatch c5,λp3 cP=>q p3 (Ask.ali fi se) _ ⟨p4,ar,(af.upd cP) _ _ (s3 _ _ y2)⟩ ⟨gu,oP⟩ (sG.trans (s2.trans (s3.trans (af.upd cP))))
   |rst =>
    refine vn ?_;refine vn ?_;refine vy ?_;exists _,aj.of k8,e3,(by simp),⟨tD,tD,tD⟩,_,aj.of k8,e3,bL,λl1 dI=>?_;have s1:af G (upd G l1 (.lst [.int (1+x3%12),.int (10^Int.toNat 17+x3)])):=af.upd dI;have y1:upd G l1 (.lst [.int (1+x3%12),.int (10^Int.toNat 17+x3)]) l1=_:=ar;dsimp only;generalize upd G l1 (.lst [.int (1+x3%12),.int (10^Int.toNat 17+x3)])=G1 at s1 y1 ⊢;obtain⟨m,yy,hm,em⟩:∃m:Nat,0<m/\m<10^18/\dN [V.int (1+x3%12),V.int (10^Int.toNat 17+x3)] (x4%4/3)=some (V.int (m:Int)):=by
     have Fz:(10:Int)^Int.toNat 17=100000000000000000:=by decide
     rcases (show x4%4/3=0\/x4%4/3=1 by lia)with z|z
     ·exact⟨(1+x3%12).toNat,tL,tL,by rw[z];exact bc (j:=0) (by grind)⟩
     ·exact⟨(10^Int.toNat 17+x3).toNat,by rw[Fz];lia,by rw[Fz];lia,by rw[z];exact bc (j:=1) (by rw[gh (by rw[Fz];lia)];rfl)⟩
    exists _,aj.of (s1 _ _ k8),e4,(by simp),ib tD tD,_,aj.of y1,em,?_;exists c5,λp4 km=>?_;generalize eU:upd G1 p4 _=G2;obtain⟨s2,y2⟩:=nw eU km;exists rfl,_,rfl,qZ (n:=1920) (by rw[pX];exact lQ hm tE) tD,?_;rw[pq];exists KD,λe he=>?_;generalize eU:upd G2 e _=G3;have s3:=(nw eU he).1;have y3:G3 e=some (.lst ((((Ask.rst fi se m).wl::(Ask.rst fi se m).ws).map S).map V.str)):=by rw[(nw eU he).2];show _=some (HO.lst [.str (S (Ask.rst fi se m).wl),.str (S fi),.str (S se),.str (S (cb m))]);rw[Ask.wl_S];rfl
    exists _,e,((Ask.rst fi se m).wl::(Ask.rst fi se m).ws).map S,rfl,rfl,aj.of y3,?_,?_
    ·have:=BK 18 ((Ask.rst fi se m).wl::(Ask.rst fi se m).ws) (λw hw=>by
      rcases (show w=(Ask.rst fi se m).wl\/w=fi\/w=se\/w=cb m by simpa [Ask.ws] using hw)with rfl|rfl|rfl|rfl
      ·show 4<=18;decide
      ·exact aX (eG gu).1 tD
      ·exact aX (eG oP).1 tD
      ·exact lO (k:=17) hm)
     rw[iV,aH];simp only[ax,bH,nk,Ask.ws]at this ⊢;lia
    rw[iV,qY];nomatch c5,λp3 cP=>q p3 (Ask.rst fi se m) _ ⟨p4,ar,(af.upd cP) _ _ (s3 _ _ y2)⟩ ⟨gu,oP,yy,hm⟩ (sG.trans ((s1.trans s2).trans (s3.trans (af.upd cP))))
   |one w =>
    have fu:w.wl.length<=8:=by cases w<;>decide
    refine vN (by cases w<;>decide) ?_;refine vN (by cases w<;>decide) ?_;refine vN (by cases w<;>decide) ?_;exists de,λp4 km=>?_;have s2:af G (upd G p4 (.tup [.str (S fi)])):=af.upd km;exists _,_,rfl,rfl,?_,_,_,rfl,rfl,?_,?_
    ·rw[iV];show w.wd.length+1<=sizeLine;rw[<-w.wl_S,aH];exact aX (show _<=100 by lia) tD
    ·show ((w.wd++_).length+_)<=sizeLine;rw[iV,<-w.wl_S,dH,aH,aH,bh];exact aX (show w.wl.length+1+fi.length<=100 by lia) tD
    exists c5,λp3 cP=>q p3 (Ask.one w fi) _ ⟨p4,?_,(af.upd cP) _ _ ar⟩ gu (sG.trans (s2.trans (af.upd cP)));rw[ar];show some (HO.tup [.str w.wd,.ref p4,.str (w.wd++_++S fi)])=some (HO.tup [.str w.wd,_,.str (S (w.wl++32::fi))]);rw[iV,<-w.wl_S,dH,dH,gr];rfl
def YI(T:Txt w K mg):FT.Ok P w K mg base 1 (Ry K):=by
  refine T.d_Z31.k ?_;rintro vs H Q E ⟨a,l,rfl,⟨ps,hS,hT⟩,h0,q⟩;refine wl fun hr hu nd=>⟨_,(ak (aE 1 nd ai) (ak (dR c8 rfl (cH (pV 0)) (iu (n:=2) rfl (cJ (aI 2 nd) (cJ (aI 3 nd) g9))) (ao (aE 1 nd (ay vo.j (pV 1) (pV 2))))) (ao (aB (pV 1))))),?_⟩
  exists ⟨_,hS⟩,?_;refine jo (K:=K) (a:=a) (xs:=ps.map V.ref) (λi σ H2=>∃(v2 v3:Option V),σ=[some (.ref a),some (.int (cT (l.take i) 0:Nat)),v2,v3]/\H2=H)
   ⟨none,none,rfl,rfl⟩ (λi σ H2 _ ⟨_,_,_,e⟩=>by rw[e];exact hS) ?_ ?_
  ·rintro i y σ H2 hi ⟨v2,v3,rfl,rfl⟩;obtain⟨p,cO,rfl⟩:=fQ hi;obtain⟨t,aY,cj⟩:=hT.at' cO;have gv:=cM aY;have bB:l.take (i+1)=l.take i++[t]:=by rw[cZ,aY];rfl
   have e:=gh (h0 t gv);exists _,az.of cj,rfl,?_;exists some (.int t.1),some (.int t.2),?_,rfl;rw[bB,CH];show [some (.ref a),some (V.int (Builtin.bitOr ((cT (l.take i) 0:Nat):Int) t.1)),_,_]=_;rw[<-e,As,e]
  ·rintro σ H2 ⟨v2,v3,rfl,rfl⟩;rw[ax,hT.length,dG];exact q
def KQ:(["_law_one","_law_number","_law_given"]:List Str).Nodup:=by decide+kernel
def Jj(T:Txt w K mg):Az.Ok P w K mg base 1 (Lz K):=by
  refine T.d_Z59.k ?_;rintro vs H Q E ⟨a,l,g,rfl,⟨ps,hS,hT⟩,aK,q⟩;refine wl fun hr hu nd=>⟨_,(ao (aB (bq (sJ rfl) (by rfl) T.n_sum ug (aa (du (g:=(eI K 2 (bT (aW 0) (bT (aW 1) e7)))) ["_law_one", "_law_number", "_law_given"] 2 [1] rfl (cL Az) (cH (pV 0))
    (λa b c d e=>(ft (n:=2) rfl (b9 (aI 0 KQ) (b9 (aI 1 KQ) fB)))) (λa b c d e=>(gH (aR aV (ay su.j (pV 0) (pV 2)) (pV 0)))) (λa b c d e=>(pV 1))) ag)))),?_⟩
  exists ⟨_,hS⟩,?_;refine gW (K:=K) (a:=a) (xs:=ps.map V.ref) (λi ys σ H2=>∃(v0 v1:Option V),σ=[v0,v1,some (.int g)]/\H2=H/\ys=(((l.take i).filter λt=>decide (Builtin.bitAnd t.1 g=t.1)).map (·.2)).map V.int)
   ⟨none,none,rfl,rfl,rfl⟩ (by rintro i ys σ H2 hi ⟨_,_,_,e,e2⟩;exact⟨by rw[e];exact hS,by grind⟩) (by rw[ax,hT.length];exact bE (bD tO)) ?_ ?_
  ·rintro i y ys σ H2 hi ⟨v0,v1,rfl,rfl,rfl⟩;obtain⟨p,cO,rfl⟩:=fQ hi;obtain⟨t,aY,cj⟩:=hT.at' cO;have bB:l.take (i+1)=l.take i++[t]:=by rw[cZ,aY];rfl
   exists p,_,rfl,az.of cj,rfl,_,_,rfl,_,_,rfl,rfl,?_;exists _,rfl,?_;refine dD (λh1=>?_) (λh1=>?_)
   ·have bJ:Builtin.bitAnd t.1 g=t.1:=by have:=bP h1;injection this
    exists _,_,rfl,rfl,?_;rw[bB,dX,aQ,aQ];simp[bJ]
   ·have bJ:¬Builtin.bitAnd t.1 g=t.1:=λz=>h1 (aU (congrArg V.int z))
    exists _,_,rfl,rfl,?_;rw[bB,dX,aQ,aQ];simp[bJ]
  ·rintro ys σ H2 ⟨v0,v1,rfl,rfl,rfl⟩ D hD;exists D,_,rfl,aj.of ar,?_
   have:=q _ (af.upd (o:=.lst ((((l.take (ps.map V.ref).length).filter λt=>decide (Builtin.bitAnd t.1 g=t.1)).map (·.2)).map V.int)) hD)
   rw[ax,hT.length,dG]at this ⊢;exact this
def zbR(K:Frag):Sp:=λvs H Q _=>∃(a:Addr) (f:aq) (ls:List Nat),vs=[.ref a,.int ((bQ f:Nat):Int)]/\aG H a f/\dh ls f/\ls.length<=5/\bQ f<=10/\∀H',af H H'->Q (.str (AZ f)) H'
def XJ:(["_law_given","_law_form"]:List Str).Nodup:=by decide+kernel
def U6(T:Txt w K mg):yH.Ok P w K mg base 2 (zbR K):=by
  refine T.d_Z34.k ?_;rintro vs H Q E ⟨a,f,ls,rfl,hT,hF,h5,hm,q⟩;refine wl fun hr hu nd=>⟨_,(ak (uA (i:=2) (g:=(aW 0)) ["_law_given", "_law_form"] 1 [0] nd rfl (Or.inl rfl) rfl (cL yH) (jD rfl T.n_range (aa (ay n0.c ai (pV 1)) ag)) (λa b c d e=>(aI 0 XJ)) (λa b c d e=>gA) (λa b c d e=>(aD T.d_Z59 (Jj T) hr (aa (pV 1) (aa (pV 0) ag))))) (ao (aB (ay eM (ay eM (eA iB rfl T.n_str iL (aa (bq (IJ rfl) (by rfl) T.n_min BF (aa (pV 2) ag)) ag)) aA) (eA iB rfl T.n_str iL (aa (bO cy Ds DF RL (pV 2) (aa (bq (IJ rfl) (by rfl) T.n_min BF (aa (pV 2) ag)) ag)) ag)))))),?_⟩
  have aK:=hF.len h5;have jg:=jk (bQ f);have R6:(2:Nat)^bQ f<=2^10:=dB tD hm;have pw:=qh (bQ f);have e2:((1:Int)*2^((bQ f:Int)).toNat).toNat=2^bQ f:=by rw[sO,pw];rfl
  exists ⟨iC _,tL,tD⟩,_,rfl,(by lia),(by rw[sO];lia),?_;refine tH (lo:=0) (n:=((1:Int)*2^((bQ f:Int)).toNat).toNat) (λi ys σ H2=>∃v0:Option V,σ=[v0,some (.ref a)]/\ys=((List.range i).map λg:Nat=>fw f (g:Int)).map V.int/\af H H2) ⟨none,rfl,rfl,af.refl _⟩ (λi ys σ H2 ⟨_,_,e,_⟩=>by rw[e];simp) (by rw[e2];exact bE (bD tL)) ?_ ?_
  ·rintro i ys σ H2 hi ⟨v0,rfl,rfl,s7⟩;unfold aW;refine tt ?_;exists a,f,(0+(i:Int)),rfl,(hT.keep s7).tl,tL,λH' s8=>⟨some (.int (0+(i:Int))),rfl,?_,s7.trans s8⟩;rw[mw,aQ,aQ,pF];rfl
  rintro ys σ H7 ⟨v0,rfl,rfl,s7⟩ D hD;rw[e2];have s8:af H7 (upd H7 D (.lst ((fT f (bQ f)).map V.int))):=af.upd hD;have wF:upd H7 D (.lst ((fT f (bQ f)).map V.int)) D=some (.lst ((fT f (bQ f)).map V.int)):=ar
  change (λH8:Hp=>_) (upd H7 D (.lst ((fT f (bQ f)).map V.int)))
  generalize upd H7 D (.lst ((fT f (bQ f)).map V.int))=H8 at s8 wF;have tG:0<(fT f (bQ f)).length:=by unfold fT;rw[ax,kQ];exact jg
  exists D,_,rfl,aj.of wF,tG,λn hn=>?_;obtain⟨b1,b2,l1,l2⟩:=hF.lea h5 hm hn;exists _,rfl,b1,_,_,rfl,rfl,l1,?_;exists .inl ⟨rfl,_,aj.of wF⟩,D,_,rfl,aj.of wF,tG,λn3 ZP=>?_;cases QJ ZP hn;exists D,_,_,rfl,rfl,wF,hn.1,_,rfl,b2,_,_,rfl,rfl,l2,?_
  have:=q H8 (s7.trans s8)
  unfold AZ at this;rw[PQ hn]at this;exact this
def oU(m:Nat)(f:aq):aq:=if m=0 then f else r9 (m:Int) f
def Wn(K:Frag):Sp:=λvs H Q _=>∃(a:Addr) (f:aq) (m:Nat),vs=[.ref a,.int (m:Int)]/\aG H a f/\(∀t∈f,t.1.natAbs.log2<1920)/\Q (.str (AO (oU m f))) H
def N2(T:Txt w K mg):Hd.Ok P w K mg base 1 (Wn K):=by
  refine T.d_Z43.k ?_;rintro vs H Q E ⟨a,f,m,rfl,hT,hk,q⟩;refine wl fun hr hu nd=>⟨_,(ak (dR c8 rfl (cH (pV 0)) (iu (n:=2) rfl (cJ (aI 2 nd) (cJ (aI 3 nd) g9))) (ao (a9 (PW.pt (jy (aR aV (pV 1) ai) (j2 (aR ke (ay bS.c (pV 3) (pV 1)) ai)))) (ao (aB (eA iB rfl T.n_str iL (aa (pV 2) ag)))) aN))) (ao (aB aA))),?_⟩
  obtain⟨ps,hS,hP⟩:=id hT;have cX:=hP.length;exists ⟨_,aj.of hS⟩,?_;refine jo (K:=K) (a:=a) (xs:=ps.map V.ref) (λi σ G=>∃v2 v3:Option V,σ=[some (.ref a),some (.int (m:Int)),v2,v3]/\oU m f=oU m (f.drop i)/\G=H)
   ⟨none,none,rfl,by simp,rfl⟩ (λi σ G _ ⟨_,_,_,_,e⟩=>by rw[e];exact aj.of hS) ?_ ?_
  ·rintro i y σ G hi ⟨v2,v3,rfl,gz,rfl⟩;obtain⟨p,cO,rfl⟩:=fQ hi;obtain⟨t,aY,cj⟩:=hP.at' cO;have ed:f.drop i=t::f.drop (i+1):=by
    rw[qS (dO.mp aY).1];congr 1;exact (dO.mp aY).2
   have Lg:=hk t (cM aY);rw[ed]at gz;exists _,az.of cj,rfl,?_;exists _,rfl,?_;by_cases hm:m=0
   ·refine a7 (aU (by rw[hm];rfl)) (eh ?_);rw[gz]at q;unfold oU at q;rw[aC hm]at q;nomatch _,rfl,Lg,q
   ·refine aM (λz=>hm (by simp_all)) ?_;exists (by lia),_,rfl,?_;unfold oU r9 at gz q;rw[av hm,av hm]at gz;rw[av hm,gz]at q;by_cases z:t.2%(m:Int)=0
    ·refine aM (by simp[z]) ?_;exists _,_,rfl,?_,rfl;unfold oU r9;rw[av hm,av hm,gz,l7,av (by simp[z])]
    ·refine a7 (by simp[z]) ?_;rw[l7,aC (by simp[z])]at q;nomatch _,rfl,Lg,q
  ·rintro σ G ⟨v2,v3,rfl,gz,rfl⟩;rw[ax,cX,Ao]at gz;rw[gz]at q;have e:oU m []=[]:=by unfold oU r9;split<;>rfl
   rw[e]at q;exact q
def zbM(K:Frag):Sp:=λvs H Q _=>∃(a b:Addr) (l m:aq),vs=[.ref a,.ref b]/\aG H a l/\aG H b m/\l.length*m.length<=5000/\eQ (bK l m)/\(∀t∈l,∀u∈m,IntMulOk t.2 u.2) /\
 ∀(c:Addr) (f:aq) (H':Hp),H c=none->aG H' c f->aZ f (bK l m)->af H H'->Q (.ref c) H'
def To:(["_law_theirs","_law_own","_law_mine","_law_number"]:List Str).Nodup:=by decide+kernel
def zp(T:Txt w K mg):zk.Ok P w K mg base 2 (zbM K):=by
  refine T.d_Z56.k ?_;rintro vs H Q E ⟨a,b,l,m,rfl,ir,gU,aK,h5,er,q⟩;refine wl fun hr hu nd=>⟨_,(ak (aE 2 nd (bG ag)) (ak (dR c8 rfl (cH (pV 0)) (iu (n:=2) rfl (cJ (aI 3 nd) (cJ (aI 4 nd) g9))) (ao (aE 2 nd (ay sr (pV 2) (du (g:=(eI K 2 (bT (aW 0) (bT (aW 1) e7)))) ["_law_theirs","_law_own","_law_mine","_law_number"] 2 [3,4] rfl (cL zk) (cH (pV 1)) (λa b c d e=>(ft (n:=2) rfl (b9 (aI 0 To) (b9 (aI 1 To) fB)))) (λa b c d e=>gA) (λa b d e f=>(bx (aa (ay vo.j (pV 2) (pV 0)) (aa (ay fI.c (pV 3) (pV 1)) ag))))))))) (ao (aB (aD T.d_Z37 (DC T) hr (aa (pV 2) ag)))))),?_⟩
  obtain⟨ps,ha,hp⟩:=id ir;obtain⟨qs,hb,hq⟩:=id gU;exists bM _,λe he=>?_;have s0:af H (upd H e (.lst [])):=af.upd he;have t0:aG (upd H e (.lst [])) e []:=⟨[],ar,.nil⟩;generalize upd H e (.lst [])=H1 at s0 t0;exists ⟨_,aj.of (s0 _ _ ha)⟩,?_;refine jo (K:=K) (a:=a) (xs:=ps.map V.ref) (λi σ H2=>∃(e:Addr) (v3 v4:Option V),σ=[some (.ref a),some (.ref b),some (.ref e),v3,v4]/\aG H2 e (bK (l.take i) m)/\af H H2)
   ⟨e,none,none,rfl,t0,s0⟩ (by rintro i σ H2 _ ⟨_,_,_,_,_,s2⟩;exact aj.of (s2 _ _ ha)) ?_ ?_
  ·rintro i y σ H2 hi ⟨e,v3,v4,rfl,bF,s2⟩;obtain⟨p,cO,rfl⟩:=fQ hi;obtain⟨t,aY,cj⟩:=hp.at' cO;have gD:=(dO.mp aY).1;have bB:l.take (i+1)=l.take i++[t]:=by rw[cZ,aY];rfl
   have xa:i*m.length+m.length<=l.length*m.length:=by rw[<-Ep];exact pK _ gD
   exists _,az.of (s2 _ _ cj),rfl,?_;obtain⟨rs,hr,Je⟩:=id bF;have hm:m.length<=1000000:=by lia
   exists (gU.keep s2).tl.seq,?_;refine Dy (λu=>(Builtin.bitOr t.1 u.1,t.2*u.2)) (gU.keep s2).tl hm [some (.int t.1),some (.int t.2)] rfl (λu hu H3 R s3 k=>?_) λD ys H3 hD fU s3=>?_
   ·nomatch er t (cM aY) u hu,bL,k
   ·obtain⟨us,hu,Cb⟩:=id fU;have n1:=Je.length;have n2:=Cb.length;rw[oX,fR,mT (bE gD)]at n1;rw[ax]at n2;exists e,D,_,_,rfl,rfl,s3 _ _ hr,hu,(by rw[ax,ax];exact bE (bD tL)),λc hc=>?_;have i9:=aG.cat (a:=e) (b:=D) (c:=c) (Je.keep λb xs z=>s3 b _ z) Cb (af.upd hc) ar;exists c,_,_,rfl,?_,s2.trans (s3.trans (af.upd hc));rw[bB,P7];exact i9
  ·rintro σ H2 ⟨e,v3,v4,rfl,bF,s2⟩;rw[ax,hp.length,dG]at bF;exists e,_,rfl,bF.tl,(by rw[oX];lia),h5,λx f H' hx kj hF hl s'=>q x f H' (s2.free hx) kj hF (s2.trans s')
def zcM(K:Frag):Sp:=λvs H Q _=>∃(a:Addr) (l:aq),vs=[.ref a]/\aG H a l/\l.length<=64/\eQ l/\(∀t∈l,∀u∈l,IntMulOk t.2 u.2) /\
 (∀H',af H H'->pM l->Q (.bl true) H')/\(∀H',af H H'->¬pM l->Q (.bl false) H')
def Oc(T:Txt w K mg):FP.Ok P w K mg base 3 (zcM K):=by
  refine T.d_Z60.k ?_;rintro vs H Q E ⟨a,l,rfl,hT,aK,h5,er,q⟩;refine wl λhr hu nd=>⟨_,(ao (aB (jA (BN (pz hr)) (aD T.d_Z56 (zp T) hr (aa (pV 0) (aa (pV 0) ag))) (pV 0)))),?_⟩
  have n3:=fM aK aK;exists a,a,l,l,rfl,hT,hT,tL,(let ⟨ls,z5,z⟩:=h5; ⟨ls,z5,z.prod z⟩),er,λc f H1 hc ck cU s1=>?_;exists dF f,dF l,ck.is,(hT.keep s1).is,aX (Cp f) tD,?_;rw[Ti];by_cases z:f=l
  ·rw[aU z];exact q.1 H1 s1 ⟨f,cU,z⟩
  ·rw[bo z];refine q.2 H1 s1 λ⟨g,hg,eg⟩=>z ?_
   rw[<-eg];exact aZ.unique cU (eg ▸ hg) λk=>rfl
def zai(K:Frag):Sp:=λvs H Q _=>∃m:Nat,vs=[.int (m:Int)]/\m<2^16/\∀H',af H H'->Q (.int ((pc m:Nat):Int)) H'
def zen:(["_law_k","_law_one"]:List Str).Nodup:=by decide+kernel
def YD(T:Txt w K mg):zc.Ok P w K mg base 1 (zai K):=by
  refine T.d_Z49.k ?_;rintro vs H Q E ⟨m,rfl,hm,q⟩;refine wl fun hr hu nd=>⟨_,(ao (aB (bq fO (by rfl) T.n_len dC (aa (du (g:=(aW 0)) ["_law_k", "_law_one"] 1 [0] rfl (cL zc) (jD rfl T.n_range (aa ai ag))
    (λa b c d e=>(aI 0 zen)) (λa b d e f=>(gH (aR aV (ay bS.c (ay gC.c (pV 1) (ay n0.c ai (pV 0))) ai) ai))) (λa b c d e=>(pV 0))) ag)))),?_⟩
  exists _,rfl,tD,tD,?_;refine tH (lo:=0) (n:=(60:Int).toNat) (λi ys σ G=>∃v0:Option V,σ=[v0,some (.int (m:Int))]/\ys=((List.range i).filter λk=>m.testBit k).map (λk:Nat=>V.int (k:Int))/\G=H)
   ⟨none,rfl,rfl,rfl⟩ (λi ys σ G ⟨_,_,e,_⟩=>by rw[e,ax];exact aX (lW _ _) tS) tD ?_ ?_
  ·rintro i ys σ G hi ⟨v0,rfl,rfl,rfl⟩;have gY:=hi;have e0:(1:Int)*2^((0+(i:Int))).toNat=((2^i:Nat):Int):=by simp
   have ba:(2:Nat)^i<=2^60:=dB tD tL;have jg:=jk i;exists ⟨tL,tL,tD⟩,(by rw[e0];exact ib tL tL),(by simp),_,rfl,?_;have eb:(m:Int)/(1*2^((0+(i:Int))).toNat)%2=if m.testBit i=true then 1 else 0:=by grind
   show if decide (V.int ((m:Int)/(1*2^((0+(i:Int))).toNat)%2)=V.int 1)=true then _ else _
   rw[eb];cases hc:m.testBit i
   ·refine aM tD ⟨_,rfl,?_,rfl⟩;rw[mw,dX];simp[hc]
   ·refine a7 tD ?_;exists _,rfl,?_,rfl;rw[mw,dX];simp[hc]
  ·rintro ys σ G ⟨v0,rfl,rfl,rfl⟩ E hE;exists E,_,rfl,.inl (aj.of ar),?_;have e:((((List.range (60:Int).toNat).filter λk=>m.testBit k).map λk:Nat=>V.int (k:Int)).length)=pc m:=by
    rw[ax];exact XT (m:=60) (cS hm tD)
   rw[e];exact q _ (af.upd hE)
open Classical in
def Kl(f:aq):An:=if pM f then (if 10<bQ f then .many else .txt (Txt.num (wa (bQ f) f)))else .yesno
def Xi(K:Frag):Sp:=λvs H Q _=>∃(a:Addr) (f:aq) (ls:List Nat),vs=[.ref a,.int ((bQ f:Nat):Int)]/\aG H a f/\dh ls f/\ls.length<=5/\(∀x∈ls,x<16)/\rf H Q (Kl f)
def QN:(["_law_where","_law_number","_law_many"]:List Str).Nodup:=by decide+kernel
def zdQ(T:Txt w K mg):zE.Ok P w K mg base 4 (Xi K):=by
  refine T.d_Z58.k ?_;rintro vs H Q E ⟨a,f,ls,rfl,hT,hF,h5,cI,q⟩;refine wl fun hr hu nd=>⟨_,(ak (a9 (nK (j3 (aD T.d_Z60 (Oc T) hr (aa (pV 0) ag)))) (ao (aB (bG (aa aA ag)))) aN) (ak (a9 (aR jI.j (pV 1) ai) (ao (aB (bG (aa aA ag)))) aN)
   (ao (aB (eA iB rfl T.n_str iL (aa (bq (sJ rfl) (by rfl) T.n_sum ug (aa (du (g:=(eI K 2 (bT (aW 0) (bT (aW 1) e7)))) ["_law_where", "_law_number", "_law_many"] 2 [1] rfl (cL zE) (cH (pV 0))
    (λa b c d e=>(ft (n:=2) rfl (b9 (aI 0 QN) (b9 (aI 1 QN) fB)))) (λa b c d e=>gA) (λa b d e f=>(ay gC.c (ay fI.c (pV 1) (ay n0.c ai (pV 2))) (ay n0.c ai (aD T.d_Z49 (YD T) hr.m (aa (pV 0) ag)))))) ag)) ag)))))),?_⟩
  have aK:=hF.len h5;unfold Kl at q;exists a,f,rfl,hT,aX aK tD,⟨ls,h5,hF.2.1⟩,(λt ht u hu=>lL (hF.2.2 t ht) (hF.2.2 u hu)),λH1 s1 hy=>?_,λH1 s1 hy=>?_
  rotate_left
  ·exists _,rfl,eh ?_;rw[av hy]at q;nomatch de,λe he=>q e _ ar (s1.trans (af.upd he))
  rw[aC hy]at q;exists _,rfl,gn ?_;exists _,rfl,?_;by_cases hm:10<bQ f
  ·rw[aC hm]at q;refine a7 (aU tL) ?_;nomatch de,λe he=>q e _ ar (s1.trans (af.upd he))
  rw[av hm]at q;refine aM (λz=>hm (by lia)) ?_;obtain⟨ps,hS,hP⟩:=id (hT.keep s1);have cX:=hP.length;exists ⟨_,aj.of hS⟩,?_;refine gW (K:=K) (a:=a) (xs:=ps.map V.ref) (λi ys σ G=>∃v0 v1:Option V,σ=[v0,v1,some (.int ((bQ f:Nat):Int))]/\ys=((f.take i).map λt=>t.2*2^(bQ f-pc t.1.toNat)).map V.int/\af H1 G)
   ⟨none,none,rfl,rfl,af.refl _⟩ (by rintro i ys σ G hi ⟨_,_,_,e1,e2⟩;exact⟨aj.of (e2 _ _ hS),by simp_all⟩) (by rw[ax,cX];exact bE (bD tL)) ?_ ?_
  ·rintro i y ys σ G hi ⟨v0,v1,rfl,rfl,sG⟩;obtain⟨p,cO,rfl⟩:=fQ hi;obtain⟨t,aY,cj⟩:=hP.at' cO;have gv:=cM aY;obtain⟨k0,k1⟩:=hF.keysM t gv;obtain⟨_,k16⟩:=hF.2.1.low cI t gv;have bB:f.take (i+1)=f.take i++[t]:=by rw[cZ,aY];rfl
   have e1:=gh k0;have em:((2:Int)^bQ f)=((2^bQ f:Nat):Int):=by norm_cast
   have hp:pc t.1.toNat<=bQ f:=Gv _ _ tL;exists p,_,rfl,az.of (sG _ _ cj),rfl,_,_,rfl,_,_,rfl,rfl,?_;refine tt ?_;have hm2:(2:Nat)^bQ f<=2^10:=dB tD tL;have cg:(2:Nat)^pc t.1.toNat<=2^10:=dB tD tL;have jg:=jk (pc t.1.toNat);have e2:∀k:Nat,(1:Int)*2^((k:Int)).toNat=((2^k:Nat):Int):=λk=>by simp
   have t10:2^10<10^60:=by decide
   exists ⟨tL,tL,tD⟩,lL (hF.2.2 t gv) (by rw[e2,pX];lia),t.1.toNat,(by rw[e1];rfl),tL,λH2 s2=>?_;exists ⟨tL,tL,tD⟩,(by rw[e2 (pc t.1.toNat)];exact ib tL tO),_,_,rfl,?_,sG.trans s2;rw[bB,aQ,aQ];show _++[V.int (t.2*(1*2^((bQ f:Int)).toNat)/(1*2^((pc t.1.toNat:Int)).toNat))]=_;rw[sO,sO,za0 hp];rfl
  ·rintro ys σ G ⟨v0,v1,rfl,rfl,sG⟩ D hD;rw[ax,cX,dG];exists D,_,rfl,aj.of ar,?_;nomatch _,rfl,hF.wsumF h5 tL,q _ (s1.trans (sG.trans (af.upd hD)))
def zc1(K:Frag):Sp:=λvs H Q _=>∃(a b:Addr) (l m:aq) (s:Int),vs=[.ref a,.ref b,.int s]/\aG H a l/\aG H b m/\l.length+m.length<=5000/\eQ (l++m)/\(∀t∈m,IntMulOk s t.2) /\
 ∀(c:Addr) (f:aq) (H':Hp),H c=none->aG H' c f->aZ f (l++m.map λt=>(t.1,s*t.2))->af H H'->Q (.ref c) H'
def MW:(["_law_where","_law_number","_law_sign"]:List Str).Nodup:=by decide+kernel
def mU(T:Txt w K mg):zG.Ok P w K mg base 2 (zc1 K):=by
  refine T.d_Z44.k ?_;rintro vs H Q E ⟨a,b,l,m,s,rfl,ir,gU,aK,h5,er,q⟩;refine wl fun hr hu nd=>⟨_,(ao (aB (aD T.d_Z37 (DC T) hr (aa (ay sr (pV 0) (du (g:=(eI K 2 (bT (aW 0) (bT (aW 1) e7)))) ["_law_where", "_law_number", "_law_sign"] 2 [2] rfl (cL zG) (cH (pV 1)) (λa b c d e=>(ft (n:=2) rfl (b9 (aI 0 MW) (b9 (aI 1 MW) fB)))) (λa b c d e=>gA) (λa b d e f=>(bx (aa (pV 0) (aa (ay fI.c (pV 2) (pV 1)) ag)))))) ag)))),?_⟩
  obtain⟨ps,ha,hp⟩:=id ir;exists gU.tl.seq,?_;refine Dy (λt=>(t.1,s*t.2)) gU.tl tL [some (.int s)] rfl (λt ht H2 R s2 k=>?_) λD ys H2 hD ck s1=>?_
  ·nomatch er t ht,bL,k
  ·obtain⟨qs,hb,hq⟩:=id ck;have n1:=hp.length;have n2:=hq.length;rw[ax]at n2;exists a,D,_,_,rfl,rfl,s1 _ _ ha,hb,(by rw[ax,ax];exact bE (bD tL)),λc hc=>?_;have bF:=aG.cat (a:=a) (b:=D) (c:=c) (hp.keep λb xs z=>s1 b _ z) hq (af.upd hc) ar;exists c,_,rfl,bF.tl,(by rw[bh,ax];lia),Mb h5 (λt ht=>?_),λx f H' hx kj hF hl s'=>q x f H' (s1.free ((af.upd hc).free hx)) kj hF (s1.trans ((af.upd hc).trans s'));rw[aQ,bA];rcases bA.mp ht with z|z
   ·exact .inl (bp.mpr ⟨t,z,rfl⟩)
   ·obtain⟨u,hu,rfl⟩:=bp.mp z;exact .inr (bp.mpr ⟨u,hu,rfl⟩)
def Vl(K:Frag):Sp:=λvs H Q _=>∃(t e:Addr) (st:eK) (q:Ask) (ls:List Nat),vs=[.ref t,.ref e]/\hZ H t st/\Ip H e q/\ls.length<=5/\(∀x∈ls,x<16)/\(∀nf∈st,dh ls nf.2)/\q.ok/\rf H Q (q.tells st)
def Ask.no1{st:eK}{q:Ask}(h:cz st q.n1=none):q.tells st=.name:=by
 cases q<;>(unfold Ask.tells;dsimp only [Ask.n1]at h ⊢;rw[h])
def Ask.no2{st:eK}{q:Ask}{b:List Nat}(e:q.n2=some b)(h:cz st b=none):q.tells st=.name:=by
 cases q with
 |ali a c=>cases e;unfold Ask.tells;dsimp only;cases cz st a<;>simp[h]
 |rst a c m=>cases e;unfold Ask.tells;dsimp only;cases cz st a<;>simp[h]
 |_=>cases e
def rf.up{H H1:Hp}{Q:VK}{r:An}(h:rf H Q r)(s:af H H1):rf H1 Q r:=by
 cases r with
 |txt x=>exact λH' s'=>h H' (s.trans s')
 |_=>exact λe H' h1 s'=>h e H' h1 (s.trans s')
def zaW(T:Txt w K mg):Fx.Ok P w K mg base 5 (Vl K):=by
  refine T.d_Z29.k ?_;rintro vs H Q E ⟨t,e,st,q0,ls,rfl,ht,he,h5,cI,a8,hok,q⟩;refine wl fun hr hu nd=>⟨_,(ak (qd (pV 1) (iu (n:=3) rfl (cJ (aI 2 nd) (cJ (aI 3 nd) (cJ (aI 4 nd) g9))))) (ak (kx (a9 (PW.pt (jy (tM (wX hu (xT (pV 3) ai) (pV 0))) (j2 (PW.pt (iQ (oG ph (pV 2) (bG (aa aA (aa aA ag))) rfl) (i8 (tM (wX hu (xT (pV 3) ai) (pV 0))))))))) (ao (aB (bG (aa aA ag)))) aN)) (ak (aE 5 nd (jq hu (pV 0) (xT (pV 3) ai))) (ak (aE 6 nd (aD T.d_Z31 (YI T) hr.m (aa (pV 5) ag))) (ak (aE 7 nd (gy xj vU vX wb (pV 6))) (ak (a9 (aR aV (pV 2) aA) (ao (aB (aD T.d_Z48 (Rj T) hr.m (aa (pV 5) ag)))) aN) (ak (a9 (aR aV (pV 2) aA) (ao (aB (eA iB rfl T.n_str iL (aa (aD T.d_Z59 (Jj T) hr.m (aa (pV 5) (aa (xT (pV 3) ai) ag))) ag)))) aN) (ak (a9 (aR aV (pV 2) aA) (ao (aB (aD T.d_Z43 (N2 T) hr.m (aa (aD T.d_Z44 (mU T) hr.m (aa (pV 5) (aa (jq hu (pV 0) (xT (pV 3) ai)) (aa (ay iW.j ai ai) ag)))) (aa ai ag))))) aN) (ak (a9 (aR aV (pV 2) aA) (ao (aB (aD T.d_Z43 (N2 T) hr.m (aa (aD T.d_Z44 (mU T) hr.m (aa (pV 5) (aa (jq hu (pV 0) (xT (pV 3) ai)) (aa (ay iW.j ai ai) ag)))) (aa (xT (pV 3) ai) ag))))) aN) (ak (a9 (aR aV (pV 2) aA) (ao (aB (xL (bG (aa (aD T.d_Z36 (Tj T) hr.m (aa (pV 6) ag)) (aa aA ag))) (eA zS rfl T.n_int ra (aa (jA aV (pV 6) ai) ag))))) aN) (ak (a9 (aR aV (pV 2) aA) (ao (aB (aD T.d_Z58 (zdQ T) hr (aa (pV 5) (aa (pV 7) ag))))) aN) (ak (a9 (aR jI.j (pV 7) ai) (ao (aB (bG (aa aA ag)))) aN) (ao (aB (aD T.d_Z34 (U6 T) hr.m (aa (pV 5) (aa (pV 7) ag))))))))))))))))),?_⟩
  obtain⟨kvs,hd,hk⟩:=ht;obtain⟨pp,gF,jJ⟩:=he;have hg:=λn=>dj.k (k:=Sum.inr (S n)) hd
  exists _,az.of gF,rfl,?_;exists λσ G=>σ=[some (.ref t),some (.ref e),some (.str q0.wd),some (.ref pp),some (.str (S (bR 32 (q0.wl::q0.ws)))),none,none,none]/\af H G/\(∃l,cz st q0.n1=some l)/\∀b,q0.n2=some b->∃o,cz st b=some o,?_,?_
  ·exists _,az.of jJ,bc (j:=0) rfl,t,_,rfl,hg q0.n1,_,rfl,?_;rcases ly hk q0.n1 with ⟨h1,h2⟩|⟨b1,l,h1,h2,h3⟩
   ·refine a7 (by rw[h1];rfl) (eh ?_);rw[Ask.no1 h2]at q;nomatch de,λe he=>q e _ ar (af.upd he)
   refine aM (by rw[h1];simp) ?_;exists bL,λl0 gE=>?_;have s0:af H (upd H l0 (.lst [.str "alike",.str "rest"])):=af.upd gE;exists l0,_,rfl,.inl (aj.of ar),rfl,rfl,_,rfl,?_;cases e2:q0.n2 with
   |none =>
    refine aM ?_ (gn ?_)
    ·show ¬iY (V.str q0.wd) [.str "alike",.str "rest"]=true;rw[Ask.in2,e2];decide
    exact⟨rfl,s0,⟨l,h2⟩,λb z=>by cases z⟩
   |some b =>
    refine a7 ?_ ?_
    ·show iY (V.str q0.wd) [.str "alike",.str "rest"]=true;rw[Ask.in2,e2];rfl
    obtain⟨r,hr⟩:=Ask.p2_of e2;rw[hr]at jJ;exists _,az.of (s0 _ _ jJ),bc (j:=1) rfl,t,_,rfl,dj.k (k:=Sum.inr (S b)) (s0 _ _ hd),_,rfl,?_;rcases ly hk b with ⟨k1,k2⟩|⟨b2,o,k1,k2,k3⟩
    ·refine a7 (by rw[k1];rfl) ?_;rw[Ask.no2 e2 k2]at q;nomatch de,λe he=>q e _ ar (s0.trans (af.upd he))
    ·refine aM (by rw[k1];simp) ?_;exact⟨rfl,s0,⟨l,h2⟩,λc z=>by simp_all⟩
  ·rintro σ G ⟨rfl,sG,⟨l,hl⟩,hb⟩;have q:=q.up sG;obtain⟨kvs,hd,hk⟩:=hZ.keep ⟨kvs,hd,hk⟩ sG;have jJ:=sG _ _ jJ;have mP:=dj.k (k:=Sum.inr (S q0.n1)) hd;rcases ly hk q0.n1 with ⟨h1,h2⟩|⟨b1,l',h1,h2,hT⟩
   ·rw[hl]at h2;cases h2
   cases hl.symm.trans h2;rw[h1]at mP;have hF:=d7 a8 hl;have aK:=hF.len h5;have h0:∀t∈l,0<=t.1:=λt ht=>(hF.2.1 t ht).1
   have two:∀b,q0.n2=some b->∃b2 o,cz st b=some o/\aG G b2 o/\dj G t (.str (S b)) (some (.ref b2)):=λb z=>by
    obtain⟨o,ho⟩:=hb b z;rcases ly hk b with ⟨k1,k2⟩|⟨b2,o',k1,k2,k3⟩
    ·rw[ho]at k2;cases k2
    have:=dj.k (k:=Sum.inr (S b)) hd
    rw[k1]at this;nomatch b2,o',k2,k3,this
   exists _,az.of jJ,bc (j:=0) rfl,_,mP,?_;exists b1,l,rfl,hT.tl,h0,?_;exists rfl,_,rfl,rfl,?_;unfold Ask.tells at q;cases q0 with
   |wor n g =>
    have ew:(Ask.wor n g).wd=ofString "worth" := rfl;dsimp only at q;rw[show cz st n=some l from hl]at q;refine jN ?_ (by rw[ew];decide);refine jY ?_ (by rw[ew];decide);exists _,az.of jJ,bc (j:=1) rfl,b1,l,(g:Int),rfl,hT.tl,tO,λH1 s1=>?_;nomatch _,rfl,hF.worth h5 _,q H1 s1
   |ali n m =>
    have ew:(Ask.ali n m).wd=ofString "alike" := rfl;obtain⟨b2,o,ho,eP,nY⟩:=two m rfl;dsimp only at q;rw[show cz st n=some l from hl]at q;dsimp only at q;rw[ho]at q;have hO:=d7 a8 ho;have sS:=hO.len h5;refine jN ?_ (by rw[ew];decide);refine jN ?_ (by rw[ew];decide);refine jY ?_ (by rw[ew];decide);exists _,az.of jJ,bc (j:=1) rfl,_,nY,b1,b2,l,o,-1,rfl,hT,eP,tL,⟨ls,h5,hF.2.1.app hO.2.1⟩,(λt _=>gG tD tD),λc f H1 hc oS lZ s1=>?_;have e:f=oa l o:=Ih (lG lZ.toIsForm λk=>by rw[lZ.val,cG,cG,nL,nF];lia);subst e;exists c,_,0,rfl,oS,Ce (hF.minus hO) cI,?_;exact q H1 s1
   |rst n m k =>
    have ew:(Ask.rst n m k).wd=ofString "rest" := rfl;obtain⟨b2,o,ho,eP,nY⟩:=two m rfl;dsimp only at q;rw[show cz st n=some l from hl]at q;dsimp only at q;rw[ho]at q;have hO:=d7 a8 ho;have sS:=hO.len h5;have HH:k≠0:=by have:=hok.2.2.1;lia
    refine jN ?_ (by rw[ew];decide);refine jN ?_ (by rw[ew];decide);refine jN ?_ (by rw[ew];decide);refine jY ?_ (by rw[ew];decide);exists _,az.of jJ,bc (j:=1) rfl,_,nY,b1,b2,l,o,-1,rfl,hT,eP,tO,⟨ls,h5,hF.2.1.app hO.2.1⟩,(λt _=>gG tD tD),λc f H1 hc oS lZ s1=>?_;have e:f=oa l o:=Ih (lG lZ.toIsForm λk=>by rw[lZ.val,cG,cG,nL,nF];omega);subst e;exists _,az.of (s1 _ _ jJ),bc (j:=2) rfl,c,_,k,rfl,oS,Ce (hF.minus hO) cI,?_;unfold oU;rw[av HH];exact q H1 s1
   |one w n =>
    rw[show (Ask.one w n).wd=w.wd from rfl];dsimp only at q;rw[show cz st n=some l from hl]at q;cases w with
    |shw =>
     refine jY ?_;nomatch b1,l,rfl,hT,hF.say cI,aX aK tD,λH1 s1=>q H1 s1
    |unk =>
     refine jN ?_;refine jN ?_;refine jN ?_;refine jN ?_;refine jY ?_;exists cT l 0,rfl,hF.any cI,λH1 s1=>⟨bL,λl1 dI=>?_⟩;by_cases z:cT l 0=0
     ·refine .inr ⟨_,rfl,.str "none",aj.of ar,?_,?_⟩
      ·rw[z];rfl
      ·unfold W1.an at q;dsimp only at q;rw[aC z]at q;exact q _ (s1.trans (af.upd dI))
     ·refine .inr ⟨_,rfl,.str (S (cR (cT l 0))),aj.of ar,?_,?_⟩
      ·rw[av (by simpa using z)];rfl
      ·unfold W1.an at q;dsimp only at q;rw[av z]at q;exact q _ (s1.trans (af.upd dI))
    |way =>
     refine jN ?_;refine jN ?_;refine jN ?_;refine jN ?_;refine jN ?_;refine jY ?_;nomatch b1,l,ls,rfl,hT,hF,h5,cI,q
    |lea =>
     refine jN ?_;refine jN ?_;refine jN ?_;refine jN ?_;refine jN ?_;refine jN ?_;exists _,rfl,?_;unfold W1.an at q;dsimp only at q;by_cases hm:10<bQ l
     ·rw[aC hm]at q;refine a7 (aU (by unfold bQ at hm;lia)) ?_;nomatch de,λe he=>q e _ ar (af.upd he)
     ·rw[av hm]at q;refine aM (λz=>hm (by have:=bP z;unfold bQ;lia)) ?_;nomatch b1,l,ls,rfl,hT,hF,h5,tL,q
def za7(K:Frag):Sp:=λvs H Q _=>∃(a:Addr) (l:aq) (k:Nat),vs=[.ref a,.int (k:Int)]/\aG H a l/\(∀t∈l,0<=t.1)/\l.length<=5000/\k<=100 /\
 ∀(p c d:Addr) (H':Hp),H' p=some (.tup [.ref c,.ref d])->aG H' c (eF k l)->aG H' d (gm k l)->af H H'->Q (.ref p) H'
def QG:(["_law_where","_law_number","_law_bit"]:List Str).Nodup:=by decide+kernel
def Jk:(["_law_where","_law_number","_law_bit"]:List Str).Nodup:=by decide+kernel
def QV(T:Txt w K mg):uX.Ok P w K mg base 1 (za7 K):=by
  refine T.d_Z42.k ?_;rintro vs H Q E ⟨a,l,k,rfl,hT,h0,aK,hk,q⟩;refine wl fun hr hu nd=>⟨_,(ak (aE 2 nd (ay n0 ai (pv 1))) (ak (uA (i:=3) (g:=(eI K 2 (bT (aW 0) (bT (aW 1) e7)))) ["_law_where", "_law_number", "_law_bit"] 2 [2] nd rfl (Or.inl rfl) rfl (cL uX) (Cc (pv 0)) (λa b c d e=>(ft (n:=2) rfl (b9 (aI 0 QG) (b9 (aI 1 QG) fB)))) (λa b c d e=>(gH (aR jI (ay su (pv 0) (pv 2)) ai))) (λa b c d e=>(bx (aa (ay iW (pv 0) (pv 2)) (aa (pv 1) ag))))) (ao (aB (bx (aa (pv 3) (aa (du (g:=(eI K 2 (bT (aW 0) (bT (aW 1) e7)))) ["_law_where", "_law_number", "_law_bit"] 2 [2] rfl (cL uX) (Cc (pv 0)) (λa b c d e=>(ft (n:=2) rfl (b9 (aI 0 Jk) (b9 (aI 1 Jk) fB)))) (λa b c d e=>(gH (aR ou (ay su (pv 0) (pv 2)) ai))) (λa b c d e=>(bx (aa (pv 0) (aa (pv 1) ag))))) ag))))))),?_⟩
  exists _,rfl,_,_,rfl,rfl,⟨iC _,tL,tD⟩,?_;dsimp only;rw[sO];exists _,rfl,a,rfl,hT.tl.seq,?_;refine tX (λt=>eO k t) (λt=>(t.1-2^k,t.2)) hT.tl tL [some (.int (2^k))] rfl (λt ht H2 R s2 r=>?_) (λt ht hp H2 R s2 r=>?_) λD ys H2 hD ck s1=>?_
  ·exists _,rfl,_,rfl,_,_,rfl,rfl,_,_,rfl,rfl,?_;dsimp only;rw[NP (h0 t ht)];have e:decide ((0:Int)<if eO k t=true then 2^k else 0)=eO k t:=by
    cases eO k t
    ·rfl
    ·rw[aC rfl,qh];exact aU (Int.natCast_pos.mpr (jk k))
   rw[e];nomatch _,rfl,r
  ·nomatch _,rfl,_,rfl,_,_,rfl,rfl,_,rfl,bL,r
  ·exists _,rfl,_,rfl,a,rfl,(hT.keep s1).tl.seq,?_;refine tX (λt => !eO k t) (λt=>t) (hT.keep s1).tl tO [some (.int (2^k))] rfl (λt ht H2 R s2 r=>?_) (λt ht hp H2 R s2 r=>?_) λD2 ys2 H3 rD bF s2=>?_
   ·exists _,rfl,_,rfl,_,_,rfl,rfl,rfl,_,rfl,?_;rw[GD (h0 t ht)];exact r
   ·nomatch _,rfl,_,rfl,bL,r
   ·rw[wk]at bF;exists by show 2<=sizeLine;decide,λp hp=>?_;exact q p D D2 _ ar ((ck.keep s2).keep (af.upd hp)) (bF.keep (af.upd hp)) (s1.trans (s2.trans (af.upd hp)))
def zeR(K:Frag):Sp:=λvs H Q _=>∃(a b:Addr) (l o:aq) (k:Nat),vs=[.ref a,.int (k:Int),.ref b]/\aG H a l/\aG H b o/\(∀t∈l,0<=t.1)/\(l.length<=64/\o.length<=64)/\eQ (l++o)/\k<=100/\(∀t∈l,∀u∈o,IntMulOk t.2 u.2)/\(∀f,aZ f (bK (eF k l) o)->∀t∈f,IntMulOk 1 t.2) /\
 ∀(c:Addr) (f:aq) (H':Hp),H c=none->aG H' c f->aZ f (qm k o l)->af H H'->Q (.ref c) H'
def zdf(T:Txt w K mg):Fm.Ok P w K mg base 3 (zeR K):=by
  refine T.d_Z45.k ?_;rintro vs H Q E ⟨a,b,l,o,k,rfl,hT,eP,h0,aK,h5,hk,er,h1m,q⟩;refine wl fun hr hu nd=>⟨_,(ak (qd (aD T.d_Z42 (QV T) hr.m (aa (pV 0) (aa (pV 1) ag))) (iu (n:=2) rfl (cJ (aI 3 nd) (cJ (aI 4 nd) g9)))) (ao (aB (aD T.d_Z44 (mU T) hr (aa (pV 4) (aa (aD T.d_Z56 (zp T) hr (aa (pV 3) (aa (pV 2) ag))) (aa ai ag))))))),?_⟩
  obtain⟨zs,z5,zz⟩:=h5;have zl:K5 zs l:=λt ht=>zz t (mz _ ht)
  have zo:K5 zs o:=λt ht=>zz t (f9 _ ht)
  have n1:=xJ k l;have n2:=yx k l;have n3:(eF k l).length*o.length<=64*64:=fM tL aK.2;exists a,l,k,rfl,hT,h0,tL,hk,λp c d H1 hp hc hd s1=>?_;exists _,az.of hp,rfl,?_;exists c,b,eF k l,o,rfl,hc,eP.keep s1,tL,⟨zs,z5,(zl.off k).prod zo⟩,(λt ht u hu=>?_),λe g H2 he bF d6 s2=>?_
  ·obtain⟨_,v,hv,e,_⟩:=ui h0 ht;rw[e];exact er v hv u hu
  have RC:=((zl.off k).prod zo).of d6;have Ib:=RC.len d6.toIsForm z5;exists d,e,gm k l,g,1,rfl,hd.keep s2,bF,tL,⟨zs,z5,(zl.out k).app RC⟩,h1m g d6,λx f H3 hx fU hF s3=>?_;refine q x f H3 (s1.free (s2.free hx)) fU (lG hF.toIsForm λj=>?_) (s1.trans (s2.trans s3));rw[hF.val,cG,nF,qt,d6.val];unfold qm;rw[cG]
def Qd(K:Frag)(d:Nat):Sp:=λvs H Q _=>∃(v:V) (s:Sm) (ls:List Nat),vs=[v]/\Is H v s.d/\s.ok (λk=>k∈ls)/\s.dp<d/\ls.length<=5/\(∀x∈ls,x<16)/\s.ln<=5 /\
 ∀(b:Addr) (f:aq) (H':Hp),aG H' b f->aZ f s.tl->af H H'->Q (.ref b) H'
def PZ{w:Nat}{n:Int}(hw:w≠0)(hn:n=if w=1 then -1 else -2){l o p g f:aq}(hp:aZ p (bK l o))(hg:aZ g (l++o.map λt=>(t.1,1*t.2)))(hf:aZ f (g++p.map λt=>(t.1,n*t.2))):aZ f (gR w l o):=lG hf.toIsForm λk=>by
 have e:∀(x:aq),aL (x.map λt=>(t.1,t.2*n)) k=aL x k*n:=λx=>by rw[tN,tN,BI]
 unfold gR;rw[av hw,<-hn,hf.val,cG,nF,hg.val,hp.val,cG,nF,cG,cG,e,qt,Fg n]
def zbE(T:Txt w K mg)(d:Nat):z0.Ok P w K mg base (3+d) ((Qd K) d):=by
  induction d with
  |zero=>exact Rw.ok T.d_Z52.F T.d_Z52.S λvs H Q E h=>by obtain⟨v,s',ls,rfl,hI,hok,hd,bb,cf,ie,q⟩:=h;exact absurd hd (uZ _)
  |succ d ih =>
  refine T.d_Z52.k (k:=3+d) ?_;rintro vs H Q E ⟨v,s',ls,rfl,hI,hok,hd,bb,cf,ie,q⟩;refine wl fun hr hu nd=>⟨_,(ak (bW (bX aV (xT (pV 0) ai) aA) (ao (aB (bG (aa (bx (aa (ay n0.c ai (xT (pV 0) ai)) (aa ai ag))) ag)))) aN) (ak (bW (bX aV (xT (pV 0) ai) aA) (ao (aB (j4 oY (bG (aa (bx (aa ai (aa ai ag))) ag)) lX (fJ (xT (pV 0) ai))))) aN) (ak (aE 1 nd (aD T.d_Z52 ih hr (aa (xT (pV 0) ai) ag))) (ak (bW (bX aV (xT (pV 0) ai) aA) (ao (aB (aD T.d_Z44 (mU T) (hr.mono tL) (aa (bG (aa (bx (aa ai (aa ai ag))) ag)) (aa (pV 1) (aa (ay iW.j ai ai) ag)))))) aN) (ak (aE 2 nd (aD T.d_Z52 ih hr (aa (xT (pV 0) ai) ag))) (ak (aE 3 nd (aD T.d_Z56 (zp T) (hr.mono tO) (aa (pV 1) (aa (pV 2) ag)))) (ak (bW (bX aV (xT (pV 0) ai) aA) (ao (aB (pV 3))) aN) (ak (bW (bX aV (xT (pV 0) ai) aA) (ao (aB (aD T.d_Z44 (mU T) (hr.mono tO) (aa (aD T.d_Z44 (mU T) (hr.mono tO) (aa (pV 1) (aa (pV 2) (aa ai ag)))) (aa (pV 3) (aa (ay iW.j ai ai) ag)))))) aN) (ao (aB (aD T.d_Z44 (mU T) (hr.mono tO) (aa (aD T.d_Z44 (mU T) (hr.mono tO) (aa (pV 1) (aa (pV 2) (aa ai ag)))) (aa (pV 3) (aa (ay iW.j ai ai) ag)))))))))))))),?_⟩
  have k5:∀{s:Sm}{f:aq},s.ok (λk=>k∈ls)->aZ f s.tl->K5 ls f/\f.length<=32:=λh hF=>⟨(rn h).of hF,((rn h).of hF).len hF.toIsForm bb⟩
  cases s' with
  |bit k =>
   obtain⟨p,rfl,hp⟩:=qu hI;have hk:=cf k hok;exists _,az.of hp,rfl,vy ?_;exists _,az.of hp,rfl,⟨iC _,tL,tD⟩,bL,λt1 aY=>⟨de,λe1 gF=>?_⟩;dsimp only at aY gF ⊢;rw[sO]at gF ⊢;have b1:af H (upd H t1 (.tup [.int (2^k),.int 1])):=af.upd aY;have b2:af (upd H t1 (.tup [.int (2^k),.int 1])) (upd (upd H t1 (.tup [.int (2^k),.int 1])) e1 (.lst [.ref t1])):=af.upd gF;exact q e1 _ _ ⟨[t1],ar,.cons (b2 _ _ ar) .nil⟩ (CW tD) (b1.trans b2)
  |fix c =>
   obtain⟨p,rfl,hp⟩:=qj hI;exists _,az.of hp,rfl,vn ?_;exists _,az.of hp,rfl,vy ?_;exists bL,λt1 aY=>⟨de,λe1 gF=>?_⟩;have b1:af H (upd H t1 (.tup [.int 0,.int 1])):=af.upd aY;have b2:af (upd H t1 (.tup [.int 0,.int 1])) (upd (upd H t1 (.tup [.int 0,.int 1])) e1 (.lst [.ref t1])):=af.upd gF;exists _,az.of ((b1.trans b2) _ _ hp),rfl,e1,_,rfl,aj.of ar,λd1 tJ=>?_;have b3:=(b1.trans b2).trans (af.upd (o:=.lst (gk [.ref t1] none (some c))) tJ);have hc:c=0\/c=1:=hok;rcases hc with rfl|rfl
   ·exact q d1 [] _ ⟨[],ar,.nil⟩ ⟨⟨.nil,λp hp=>by cases hp⟩,λk=>by simp[Sm.tl,aL],λp hp=>by cases hp⟩ b3
   ·exact q d1 [(0,1)] _ ⟨[t1],ar,.cons ((af.upd tJ) _ _ (b2 _ _ ar)) .nil⟩ (CW tD) b3
  |no s1 =>
   obtain⟨p,x,rfl,hp,hx⟩:=ow hI;have tJ:s1.dp<d:=by have:s1.dp+1<d+1:=hd;lia
   exists _,az.of hp,rfl,vn ?_;exists _,az.of hp,rfl,vn ?_;exists _,az.of hp,rfl,x,s1,ls,rfl,hx,hok,tJ,bb,cf,(by have h:s1.ln+1<=5:=ie;lia),λb f H1 ck cU pB=>?_;obtain⟨kf,jV⟩:=k5 (s:=s1) hok cU;have dZ:=pB _ _ hp;exists _,az.of dZ,rfl,vy ?_;exists bL,λt1 aY=>⟨de,λe1 gF=>?_⟩;have b1:af H1 (upd H1 t1 (.tup [.int 0,.int 1])):=af.upd aY;have b2:af (upd H1 t1 (.tup [.int 0,.int 1])) (upd (upd H1 t1 (.tup [.int 0,.int 1])) e1 (.lst [.ref t1])):=af.upd gF;have B:=b1.trans b2;exists e1,b,[(0,1)],f,-1,rfl,⟨[t1],ar,.cons (b2 _ _ ar) .nil⟩,ck.keep B,(by show 1+f.length<=5000;lia),⟨ls,bb,(zX 1).app kf⟩,(λt _=>gG tD tD),λc g H2 hc bF d6 s2=>?_;exact q c g H2 bF (LJ cU d6.toIsForm λk=>by rw[d6.val,cG,nF];lia) (pB.trans (B.trans s2))
  |two w s1 s2 =>
   obtain⟨p,x,y,rfl,hp,hx,hy⟩:=oh hI;obtain⟨lU,nJ,m9⟩:=hok;have bU:s1.dp<d/\s2.dp<d:=by
    have h1:max s1.dp s2.dp+1<d+1:=hd;lia
   have CB:s1.ln+s2.ln<=5:=ie;obtain⟨n1,n2,n3⟩:=uM (w:=w);exists _,az.of hp,rfl,vN (by simpa using n1) ?_;exists _,az.of hp,rfl,vN (by simpa using n2) ?_;exists _,az.of hp,rfl,x,s1,ls,rfl,hx,nJ,bU.1,bb,cf,tL,λb f H1 ck cU t1=>?_;have dZ:=t1 _ _ hp;exists _,az.of dZ,rfl,vN (by simpa using n3) ?_;exists _,az.of dZ,rfl,y,s2,ls,rfl,hy.keep t1,m9,bU.2,bb,cf,tL,λb2 o H2 bF d6 t2=>?_;have cg:=t2 _ _ dZ;obtain⟨kf,l1⟩:=k5 nJ cU;obtain⟨ko,l2⟩:=k5 m9 d6;have kD:=fM l1 l2;exists b,b2,f,o,rfl,ck.keep t2,bF,tL,⟨ls,bb,kf.prod ko⟩,(λt ht u hu=>lL (xQ nJ tL cU t ht) (xQ m9 tL d6 u hu)),λb3 pr H3 ES fU gg t3=>?_;have cP:=t3 _ _ cg;have Ju:=(ck.keep t2).keep t3;have Sx:=bF.keep t3;have k3:=(kf.prod ko).of gg;have l3:=k3.len gg.toIsForm bb;have fin:∀(c:Addr) (g:aq) (H4:Hp),aG H4 c g->aZ g (gR w f o)->af H3 H4->Q (.ref c) H4:=λc g H4 i9 il t4=>by
    exact q c g H4 i9 (Rl cU d6 il) (t1.trans (t2.trans (t3.trans t4)))
   obtain rfl|rfl|rfl:w=0\/w=1\/w=2:=by lia
   ·exists _,az.of cP,rfl,vy ?_;exact fin b3 pr H3 fU (by assumption) (af.refl _)
   ·exists _,az.of cP,rfl,vn ?_;exists _,az.of cP,rfl,vy ?_;exists b,b2,f,o,1,rfl,Ju,Sx,tL,⟨ls,bb,kf.app ko⟩,(λt _=>gG tD tD),λb4 g H4 wy i9 il t4=>?_;have kg:=(kf.app (ko.map _)).of il;have lg:=kg.len il.toIsForm bb;exists b4,b3,g,pr,-1,rfl,i9,fU.keep t4,tL,⟨ls,bb,kg.app k3⟩,(λt _=>gG tD tD),λb5 h H5 Ci xD GA t5=>?_;exact fin b5 h H5 xD (PZ tD tD gg il GA) (t4.trans t5)
   ·exists _,az.of cP,rfl,vn ?_;exists _,az.of cP,rfl,vn ?_;exists b,b2,f,o,1,rfl,Ju,Sx,tO,⟨ls,bb,kf.app ko⟩,(λt _=>gG tD tD),λb4 g H4 wy i9 il t4=>?_;have kg:=(kf.app (ko.map _)).of il;have lg:=kg.len il.toIsForm bb;exists b4,b3,g,pr,-2,rfl,i9,fU.keep t4,tO,⟨ls,bb,kg.app k3⟩,(λt _=>gG tD tD),λb5 h H5 Ci xD GA t5=>?_;exact fin b5 h H5 xD (PZ tD tD gg il GA) (t4.trans t5)
def Zo(T:Txt w K mg):z0.Ok P w K mg base 25 ((Qd K) 22):=zbE T 22
def zda(K:Frag):Sp:=λvs H Q _=>∃(a:Addr) (l:aq) (k:Nat) (b:Int),vs=[.ref a,.int (k:Int),.int b]/\aG H a l/\(∀t∈l,0<=t.1)/\l.length<=2000/\eQ l/\k<=100/\(b=0\/b=1)/\(∀t∈l,IntMulOk b t.2) /\
 ∀(c:Addr) (f:aq) (H':Hp),H c=none->aG H' c f->aZ f (iG k b l)->af H H'->Q (.ref c) H'
def VS(T:Txt w K mg):Ia.Ok P w K mg base 3 (zda K):=by
  refine T.d_Z32.k ?_;rintro vs H Q E ⟨a,l,k,b,rfl,hT,h0,aK,h5,hk,hb,er,q⟩;refine wl fun hr hu nd=>⟨_,(ak (qd (aD T.d_Z42 (QV T) hr.m (aa (pV 0) (aa (pV 1) ag))) (iu (n:=2) rfl (cJ (aI 3 nd) (cJ (aI 4 nd) g9)))) (ao (aB (aD T.d_Z44 (mU T) hr (aa (pV 4) (aa (pV 3) (aa (pV 2) ag))))))),?_⟩
  exists a,l,k,rfl,hT,h0,tL,hk,λp c d H1 hp hc hd s1=>?_;exists _,az.of hp,rfl,?_;have n1:=xJ k l;have n2:=yx k l;exists d,c,gm k l,eF k l,b,rfl,hd,hc,tL,(let ⟨ls,z5,z⟩:=h5; ⟨ls,z5,(z.out k).app (z.off k)⟩),(λt ht=>?_),λx f H2 hx bF hF s2=>?_
  ·obtain⟨_,v,hv,e,_⟩:=ui h0 ht;rw[e];exact er v hv
  refine q x f H2 (s1.free hx) bF (lG hF.toIsForm λj=>?_) (s1.trans s2);rw[hF.val,cG,nF];unfold iG;rw[cG];rcases hb with rfl|rfl
  ·rw[aC rfl];simp[aL]
  ·rw[av tD,qt]
def zeA(K:Frag):Sp:=λvs H Q _=>∃(w:Nat) (a b:Addr) (l m:aq),vs=[.str (gK w),.ref a,.ref b]/\w<3/\aG H a l/\aG H b m/\(l.length<=64/\m.length<=64)/\(∃ls,ls.length<=5/\K5 ls l/\K5 ls m)/\(w=2->∀t∈l,∀u∈m,IntMulOk t.2 u.2) /\
 ∀(c:Addr) (f:aq) (H':Hp),H c=none->aG H' c f->aZ f (HU w l m)->af H H'->Q (.ref c) H'
def Yt(T:Txt w K mg):ER.Ok P w K mg base 3 (zeA K):=by
  refine T.d_Z41.k ?_;rintro vs H Q E ⟨wo,a,b,l,m,rfl,hw,ir,gU,aK,h5,er,q⟩;refine wl fun hr hu nd=>⟨_,(ak (bW (bX aV (pV 0) aA) (ao (aB (aD T.d_Z56 (zp T) hr (aa (pV 1) (aa (pV 2) ag))))) aN) (ao (aB (aD T.d_Z44 (mU T) hr (aa (pV 1) (aa (pV 2) (aa (ay iW.j ai (ay fI.c ai (eA zS rfl T.n_int ra (aa (jA aV (pV 0) aA) ag)))) ag))))))),?_⟩
  obtain⟨ls,z5,zl,zm⟩:=h5;have kD:=fM aK.1 aK.2;obtain rfl|rfl|rfl:wo=0\/wo=1\/wo=2:=by omega
  ·refine vn ?_;refine .inr ⟨_,rfl,?_⟩;exists gG tD tD,a,b,l,m,1,rfl,ir,gU,tL,⟨ls,z5,zl.app zm⟩,(λt _=>gG tD tD),λc f H1 hc hT hF s1=>q c f H1 hc hT (lG hF.toIsForm λk=>?_) s1;show _=aL (l++m) k;rw[hF.val,cG,cG,nF,qt]
  ·refine vn ?_;refine .inr ⟨_,rfl,?_⟩;exists gG tD tD,a,b,l,m,-1,rfl,ir,gU,tO,⟨ls,z5,zl.app zm⟩,(λt _=>gG tD tD),λc f H1 hc hT hF s1=>q c f H1 hc hT (lG hF.toIsForm λk=>?_) s1;show _=aL (l++m.map λt=>(t.1,-t.2)) k;rw[hF.val,cG,cG,nF,nL];lia
  ·refine vy ?_;nomatch a,b,l,m,rfl,ir,gU,tL,⟨ls,z5,zl.prod zm⟩,er rfl,λc f H1 hc hT hF s1=>q c f H1 hc hT hF s1
def Zy(K:Frag):Sp:=λvs H Q _=>∃(d p:Addr) (st:eK) (c:bI) (ls:List Nat),vs=[.ref d,.ref p]/\hZ H d st/\mn H p c/\(∀nf∈st,dh ls nf.2)/\uc ls st c/\ls.length<=5/\(∀x∈ls,x<16) /\
 (∀e H',iE ls st c .name->H' e=some (.lst [.str "name"])->af H H'->Q (.ref e) H')/\(∀e H',iE ls st c .yesno->H' e=some (.lst [.str "yes no"])->af H H'->Q (.ref e) H')/\(∀e f H',iE ls st c (.form f)->aG H' e f->af H H'->Q (.ref e) H')
def Ua(T:Txt w K mg):IT.Ok P w K mg base 26 (Zy K):=by
  refine T.d_Z30.k ?_;rintro vs H Q E ⟨d,p,st,c,ls,rfl,hD,hp,a8,hc,bb,cf,q⟩;refine wl fun hr hu nd=>⟨_,(ak (qd (pV 1) (iu (n:=3) rfl (cJ (aI 2 nd) (cJ (aI 3 nd) (cJ (aI 4 nd) g9))))) (ak (bW (bX aV (pV 2) aA) (ao (aB (pV 3))) aN) (ak (bW (bX aV (pV 2) aA) (ao (aB (aD T.d_Z52 (Zo T) hr (aa (pV 3) ag)))) aN) (ak (a9 (tM (wX hu (xT (pV 3) ai) (pV 0))) (ao (aB (bG (aa aA ag)))) aN) (ak (bW (bX aV (pV 2) aA) (ao (aB (aD T.d_Z32 (VS T) hr.m (aa (jq hu (pV 0) (xT (pV 3) ai)) (aa (xT (pV 3) ai) (aa (xT (pV 3) ai) ag)))))) aN) (ak (a9 (tM (wX hu (xT (pV 3) ai) (pV 0))) (ao (aB (bG (aa aA ag)))) aN) (ak (bW (bX ke (pV 2) aA) (ao (aB (aD T.d_Z41 (Yt T) hr.m (aa (pV 2) (aa (jq hu (pV 0) (xT (pV 3) ai)) (aa (jq hu (pV 0) (xT (pV 3) ai)) ag)))))) aN) (ak (a9 (nK (j3 (aD T.d_Z60 (Oc T) hr.m (aa (jq hu (pV 0) (xT (pV 3) ai)) ag)))) (ao (aB (bG (aa aA ag)))) aN) (ao (aB (aD T.d_Z45 (zdf T) hr.m (aa (jq hu (pV 0) (xT (pV 3) ai)) (aa (xT (pV 3) ai) (aa (jq hu (pV 0) (xT (pV 3) ai)) ag)))))))))))))),?_⟩
  obtain⟨x,dZ,hx⟩:=id hp;exists _,az.of dZ,rfl,?_;have qn:iE ls st c .name->∀e,H e=none->Q (.ref e) (upd H e (.lst [.str "name"])):=λhm e he=>q.1 e _ hm ar (af.upd he)
  obtain⟨kvs,hd,hk⟩:=id hD;have hg:=λn=>dj.k (k:=Sum.inr (S n)) hd
  cases c with
  |form n t =>
   refine vY (show decide (V.str (ofString "form")=V.str (ofString "form"))=true from by decide) ?_;obtain⟨a,f,rfl,hT,ht⟩:=hx;exact q.2.2 a f H ⟨f,rfl,ht⟩ hT (af.refl _)
  |stat n s =>
   refine vN (show ¬decide (V.str (ofString "statement")=V.str (ofString "form"))=true from by decide) ?_;refine vY (show decide (V.str (ofString "statement")=V.str (ofString "statement"))=true from by decide) ?_;obtain⟨hn,ho,hl⟩:=hc;have zv:=tZ s;have nq:=si s;nomatch x,s,ls,rfl,hx,ho,tL,bb,cf,hl,λb f H1 hT hF s1=>q.2.2 b f H1 ⟨f,rfl,hF⟩ hT s1
  |fixd n a k b =>
   refine vN (show ¬decide (V.str (ofString "fixed")=V.str (ofString "form"))=true from by decide) ?_;refine vN (show ¬decide (V.str (ofString "fixed")=V.str (ofString "statement"))=true from by decide) ?_;obtain⟨r,rfl,jL⟩:=hx;obtain⟨_,_,gN,hb,_⟩:=hc;exists _,az.of jL,rfl,d,_,rfl,hg a,_,rfl,?_;have mP:=hg a;rcases ly hk a with ⟨h1,h2⟩|⟨b1,l,h1,h2,h3⟩
   ·refine a7 (by rw[h1];rfl) ?_;nomatch de,qn (.inl ⟨h2,rfl⟩)
   refine aM (by rw[h1];simp) ?_;rw[h1]at mP;have hF:=d7 a8 h2;have jV:=hF.len bb;refine vY (show decide (V.str (ofString "fixed")=V.str (ofString "fixed"))=true from by decide) ?_;exists _,az.of jL,rfl,_,mP,_,az.of jL,rfl,_,az.of jL,rfl,b1,l,k,b,rfl,h3,(λt ht=>(hF.2.1 t ht).1),tL,⟨ls,bb,hF.2.1⟩,tL,hb,(λt _=>gG tL tL),λe f H1 he ck cU s1=>?_;exact q.2.2 e f H1 (.inr ⟨l,f,h2,rfl,cU⟩) ck s1
  |put n a k b =>
   refine vN (show ¬decide (V.str (ofString "put")=V.str (ofString "form"))=true from by decide) ?_;refine vN (show ¬decide (V.str (ofString "put")=V.str (ofString "statement"))=true from by decide) ?_;obtain⟨r,rfl,jL⟩:=hx;obtain⟨_,_,_,gN,_⟩:=hc;exists _,az.of jL,rfl,d,_,rfl,hg a,_,rfl,?_;have mP:=hg a;have nY:=hg b;rcases ly hk a with ⟨h1,h2⟩|⟨b1,l,h1,h2,h3⟩
   ·refine a7 (by rw[h1];rfl) ?_;nomatch de,qn (.inl ⟨h2,rfl⟩)
   refine aM (by rw[h1];simp) ?_;rw[h1]at mP;refine vN (show ¬decide (V.str (ofString "put")=V.str (ofString "fixed"))=true from by decide) ?_;exists _,az.of jL,rfl,d,_,rfl,hg b,_,rfl,?_;rcases ly hk b with ⟨k1,k2⟩|⟨b2,o,k1,k2,k3⟩
   ·refine a7 (by rw[k1];rfl) ?_;nomatch de,qn (.inr (.inl ⟨l,h2,k2,rfl⟩))
   refine aM (by rw[k1];simp) ?_;rw[k1]at nY;have hF:=d7 a8 h2;have jV:=hF.len bb;have hO:=d7 a8 k2;have sS:=hO.len bb;refine vN (show ¬(!decide (V.str (ofString "put")=V.str (ofString "put")))=true from by decide) ?_;exists _,az.of jL,rfl,_,nY,b2,o,rfl,k3,tO,⟨ls,bb,hO.2.1⟩,(λt ht u hu=>lL (hO.2.2 t ht) (hO.2.2 u hu)),λH1 s1 hy=>?_,λH1 s1 hy=>?_
   ·exists true,rfl,gn ?_;have oR:=s1 _ _ jL;have ga:=dj.k (k:=Sum.inr (S a)) (s1 _ _ hd);have gb:=dj.k (k:=Sum.inr (S b)) (s1 _ _ hd);rw[h1]at ga;rw[k1]at gb;exists _,az.of oR,rfl,_,ga,_,az.of oR,rfl,_,az.of oR,rfl,_,gb,b1,b2,l,o,k,rfl,h3.keep s1,k3.keep s1,(λt ht=>(hF.2.1 t ht).1),⟨tL,tO⟩,⟨ls,bb,hF.2.1.app hO.2.1⟩,tL,(λt ht u hu=>lL (hF.2.2 t ht) (hO.2.2 u hu)),(λf _ t _=>gG tD tD),λe f H2 he bF d6 s2=>?_;exact q.2.2 e f H2 (.inr (.inr ⟨l,o,h2,k2,.inr ⟨hy,f,rfl,d6⟩⟩)) bF (s1.trans s2)
   ·exists false,rfl,eh ?_;nomatch de,λe he=>q.2.1 e _ (.inr (.inr ⟨l,o,h2,k2,.inl ⟨hy,rfl⟩⟩)) ar (s1.trans (af.upd he))
  |two wo n a b =>
   obtain⟨r,rfl,jL⟩:=hx;obtain⟨_,_,_,hw,_⟩:=hc;have dw:(bI.two wo n a b).dw=gK wo:=rfl;have n1:¬(decide (V.str (gK wo)=V.str "form")=true)/\¬(decide (V.str (gK wo)=V.str "statement")=true)/\¬(decide (V.str (gK wo)=V.str "fixed")=true):=by
    obtain rfl|rfl|rfl:wo=0\/wo=1\/wo=2:=by lia
    all_goals nomatch tD,tD,tD
   have n2:(!decide (V.str (gK wo)=V.str "put"))=true:=by
    obtain rfl|rfl|rfl:wo=0\/wo=1\/wo=2:=by omega
    all_goals decide
   refine vN n1.1 ?_;refine vN n1.2.1 ?_;exists _,az.of jL,rfl,d,_,rfl,hg a,_,rfl,?_;have mP:=hg a;have nY:=hg b;rcases ly hk a with ⟨h1,h2⟩|⟨b1,l,h1,h2,h3⟩
   ·refine a7 (by rw[h1];rfl) ?_;nomatch de,qn (.inl ⟨h2,rfl⟩)
   refine aM (by rw[h1];simp) ?_;rw[h1]at mP;refine vN n1.2.2 ?_;exists _,az.of jL,rfl,d,_,rfl,hg b,_,rfl,?_;rcases ly hk b with ⟨k1,k2⟩|⟨b2,o,k1,k2,k3⟩
   ·refine a7 (by rw[k1];rfl) ?_;nomatch de,qn (.inr (.inl ⟨l,h2,k2,rfl⟩))
   refine aM (by rw[k1];simp) ?_;rw[k1]at nY;have hF:=d7 a8 h2;have jV:=hF.len bb;have hO:=d7 a8 k2;have sS:=hO.len bb;refine vY n2 ?_;exists _,az.of jL,rfl,_,mP,_,az.of jL,rfl,_,nY,wo,b1,b2,l,o,rfl,hw,h3,k3,⟨tO,tO⟩,⟨ls,bb,hF.2.1,hO.2.1⟩,(λ_ t ht u hu=>lL (hF.2.2 t ht) (hO.2.2 u hu)),λe f H1 he ck cU s1=>?_;exact q.2.2 e f H1 (.inr (.inr ⟨l,o,f,h2,k2,rfl,cU⟩)) ck s1
end
open PySem L2 OF
section
variable{P:Program}{w:World}{K:Frag}{mg:Str->Option Value}{base:Heap}
def OV(f:aq)(x:Str):fH (dF f) (.lst [.str x])=false:=by
 cases f with
 |nil=>rfl
 |cons t r=>rfl
structure pU(C:Addr)(G:Hp)(nA lA cA p d t:Addr)(iw:List (List Nat))(ls:List Nat)(cs:List Int)(st:eK):Prop where
 nh:G nA=some (.lst (iw.map λx=>V.str (S x)))
 lh:G lA=some (.lst (bj ls))
 ch:G cA=some (.lst (cs.map V.int))
 dk:kE C G p d st
 th:hZ G t st
 ne:d≠t
def pU.keep(h:pU C G nA lA cA p d t iw ls cs st)(s:af G G'):pU C G' nA lA cA p d t iw ls cs st :=
 ⟨s _ _ h.nh,s _ _ h.lh,s _ _ h.ch,h.dk.keep s,h.th.keep s,h.ne⟩
def pU.put(h:pU C G nA lA cA p d t iw ls cs st)(hD:kE C G' p d dE)(k:bu d G G')(hT:aG G e f)(e':dE=nr st n f):∃kvs,G' t=some (.dK kvs)/\kvs.length=st.length/\pU C (upd G' t (.dK (d8 kvs (Sum.inr (S n)) (.ref e)))) nA lA cA p d t iw ls cs dE:=by
 obtain⟨wJ,hd,_⟩:=id h.dk.dc;obtain⟨kvs,ht,hk⟩:=h.th.keepD k hd h.ne.symm;have hl:∀{b:Addr}{xs:List V},G b=some (.lst xs)->upd G' t (.dK (d8 kvs (Sum.inr (S n)) (.ref e))) b=some (.lst xs):=fun {b xs} hb=>by
  have h1:b≠d:=λz=>by simp_all
  have h2:=k _ _ h1 hb;have h3:b≠t:=λz=>by simp_all
  rw[aS h3];exact h2
 obtain⟨dx,ho⟩:=hD.ob;have tQ:p≠t:=λz=>by simp_all
 exists kvs,ht,eV hk,hl h.nh,hl h.lh,hl h.ch,⟨⟨dx,by rw[aS tQ];exact ho⟩,hD.dc.keepD bu.upd ht h.ne⟩,?_,h.ne;rw[e'];exact hZ.put ht hk (aG.keepD hT k hd)
def Jy(js:List Nat):sT js=bj js:=by unfold sT bj;rw[fk];rfl
def zcA(js:List Nat):gk (bj js) none (some 1)=bj (js.take 1)/\gk (bj js) (some 1) none=bj (js.drop 1):=by
 have h1:∀d,HT.sIx (bj js).length d (some 1)=min 1 (bj js).length:=λd=>HT.sIx_nat _ _ 1
 have h2:(bj js).length=js.length:=ax _;unfold gk;rw[h1,h1,h2];show ((bj js).drop 0).take (min 1 js.length-0)=_/\((bj js).drop (min 1 js.length)).take (js.length-min 1 js.length)=_;cases js with
 |nil=>nomatch rfl,rfl
 |cons x r =>
  have e:min 1 (x::r).length=1:=mT tS;rw[e];exists rfl,?_;show (bj r).take ((x::r).length-1)=bj r;exact kY (by unfold bj;rw[ax];simp)
def OC{js:List Nat}{i:Nat}{y:V}(h:(bj js)[i]?=some y):∃j,js[i]?=some j/\y=.int (j:Int):=by
 unfold bj at h;rw[cQ]at h;cases e:js[i]? with
 |none=>rw[e]at h;cases h
 |some j=>rw[e]at h;nomatch j,rfl,(gd h).symm
def An.d:An->D
 |.txt s=>.str s|.name=>.lst [.str "name"]|.yesno=>.lst [.str "yes no"]|.many=>.lst [.str "many"]
def FQ{H:Hp}{Q:VK}{r:An}(h:∀x G,Is G x r.d->af H G->Q x G):rf H Q r:=by
 cases r with
 |txt s=>exact λG s=>h _ G (dr.mpr rfl) s
 |_=>exact λe G y s=>h _ G (kd y) s
def An.dp(r:An):k7 r.d<=60:=by cases r<;>first|exact bM _|decide
theorem Sj(c:Nat):∀ws:List (List Nat),(∀w∈ws,w.length<=18)->(bR c ws).length<=19*ws.length
 |[],_=>bM _
 |[w],h=>by have:=h w tS;show w.length<=19*1;lia
 |w::v::r,h=>by
  have ih:=Sj c (v::r) λx hx=>h x (by simp_all)
  have:=h w tS
  show (w++c::bR c (v::r)).length<=_;rw[bh];simp only[bH]at ih ⊢;lia
def ze3{q:Ask}(h:q.ok):(∀c∈bR 32 (q.wl::q.ws),c<128)/\(bR 32 (q.wl::q.ws)).length<=80:=by
 have dg:∀{n:Nat},n<10^18->(cb n).length<=18/\∀c∈cb n,c<128:=λh=>⟨lO (k:=17) h,λc hc=>by have:=sV hc;lia⟩
 have nm:∀{a:List Nat},bf a=true->a.length<=18/\∀c∈a,c<128:=λh=>⟨aX (eG h).1 tD,(eG h).2⟩
 have key:∀w∈q.wl::q.ws,w.length<=18/\∀c∈w,c<128:=λw hw=>by
  rcases bC.mp hw with rfl|hw
  ·cases q with
   |one w a =>
    show w.wl.length<=18/\∀c∈w.wl,c<128;cases w<;>decide
   |_=>dsimp only [Ask.wl];decide
  ·cases q with
   |one w a=>rw[bw.mp hw];exact nm h
   |wor a g =>
    rcases (show w=a\/w=cb g by simpa [Ask.ws] using hw)with rfl|rfl
    ·exact nm h.1
    ·exact dg h.2
   |ali a b =>
    rcases (show w=a\/w=b by simpa [Ask.ws] using hw)with rfl|rfl
    ·exact nm h.1
    ·exact nm h.2
   |rst a b m =>
    rcases (show w=a\/w=b\/w=cb m by simpa [Ask.ws] using hw)with rfl|rfl|rfl
    ·exact nm h.1
    ·exact nm h.2.1
    ·exact dg h.2.2.2
 exists Fl _ λw z=>(key w z).2,aX (Sj 32 _ λw z=>(key w z).1) ?_
 have:q.ws.length<=3:=by cases q<;>simp[Ask.ws]
 rw[bH];lia
noncomputable def Ask.isL:Ask->Bool
 |.one .lea _=>true|_=>false
def Ask.isL_eq(q:Ask):decide (V.str q.wd=V.str "least")=q.isL:=by
 cases q with
 |one w a=>cases w<;>kernel_rfl
 |_=>kernel_rfl
def JB:(ofString "show ")=S (PY++[32]):=by decide+kernel
def UZ:(["_law_letter"]:List Str).Nodup:=by decide+kernel
def zes:(["_law_letter"]:List Str).Nodup:=by decide+kernel
def zbZ(T:Txt w K mg):nG.Ok P w K mg base 103 (Nj K):=by
    refine T.d_law.k ?_;rintro vs H Q E ⟨a,ns,rfl,hS,aK,K1,kq⟩;refine wl fun hr hu nd=>⟨_,(ak (aE 1 nd (aD T.d_Z39 (Lo T) hr.m (aa (aD T.d_Z27 (zeC T) hr.m (aa (pV 0) (aa ai ag))) (aa ai ag)))) (ak (aE 2 nd (aD T.d_Z40 (zar T) hr.m (aa (pV 1) ag))) (ak (aE 3 nd (aD T.d_Z35 (Wf T) hr.m (aa (ay gC.c (pV 1) ai) (aa (ay d0.j ai (ay bS.c (ay gC.c (pV 1) ai) ai)) ag)))) (ak (kx (a9 (aR aV (ay bS.c (ay gC.c (pV 1) ai) ai) ai) (ao (aE 3 nd (ay sr (du (g:=(aW 0)) ["_law_letter"] 1 [] rfl (cL nG) (cH (j4 oY (pV 3) lX (fJ ai))) (λa b c d e=>(aI 0 UZ)) (λa b c d e=>gA) (λa b d e f=>(ay bS.c (pV 0) ai))) (du (g:=(aW 0)) ["_law_letter"] 1 [] rfl (cL nG) (cH (j4 oY (pV 3) (fJ ai) lX)) (λa b c d e=>(aI 0 zes)) (λa b c d e=>(gH (aR kc.j (pV 0) ai))) (λa b c d e=>(ay iW.j ai (pV 0))))))) aN)) (ak (aE 3 nd (bq (zed rfl) (by rfl) T.n_sorted xK (aa (eA (zaB rfl) rfl T.n_set Ur (aa (pV 3) ag)) ag)))
      (ak (aE 4 nd (zeg T.mk_Desk (zb7 T) hr.m rfl T.g_Desk T.d_Desk_init.b .nil SV)) (ak (aE 5 nd rY) (ak (aE 6 nd ai) (ak (aE 7 nd (j4 oY (pV 0) (fJ ai) (fJ ai)))
      (ak (dR c8 rfl (jD rfl T.n_range (aa (bq fO (by rfl) T.n_len dC (aa (pV 7) ag)) ag)) (aI 8 nd)
        (ak (aE 9 nd (aD T.d_Z54 (YG T) hr.m (aa (xL (pV 7) (pV 8)) (aa (ay d0.j (pV 8) ai) ag)))) (ao (a9 (PW.pt (iQ (aR jI.j (pV 8) ai) (i8 (aR aV (ay bS.c (xL (pV 9) ai) ai) ai)))) (ak (aE 10 nd (aD T.d_Z46 (zbp T) hr.m (aa (pV 2) (aa (pV 9) ag)))) (ak (aE 6 nd (ay d0.j (pV 6) (eA zS rfl T.n_int ra (aa (jA aV (xT (pV 10) ai) aA) ag)))) (ak (kx (a9 (PW.pt (iQ (aR aV (xT (pV 10) ai) aA) (i8 (aR jI.j (pV 6) ai)))) (ao (aE 10 nd (bx (aa aA (aa (xT (pV 10) ai) (aa (ay eM aA (xT (xT (pV 10) ai) ai)) ag)))))) aN)) (ak (aE 11 nd (aD T.d_Z29 (zaW T) hr.m (aa (pV 5) (aa (pV 10) ag)))) (ao (a9 (PW.pt (jy (aR (Bx (pz hr)) (aD T.d_Z47 (Dw T) hr.m (aa (pV 4) (aa (xT (pV 10) ai) ag))) (pV 11)) (j2 (aR (Bx (pz hr)) (aD T.d_Z47 (Dw T) hr.m (aa (pV 4) (aa (xT (pV 10) ai) ag))) (pV 11))))) (ao (aB p7)) aN)))))) (ak (qd (aD T.d_Z38 (zb9 T) hr (aa (pV 5) (aa (pV 2) (aa (pV 3) (aa (pV 9) ag))))) (iu (n:=2) rfl (cJ (aI 12 nd) (cJ (aI 10 nd) g9)))) (ak (aE 11 nd (aD T.d_Z30 (Ua T) hr.m (aa (pV 5) (aa (pV 10) ag)))) (ak (aE 13 nd (aD T.d_Z47 (Dw T) hr.m (aa (pV 4) (aa (xT (pV 10) ai) ag)))) (ao (a9 (PW.pt (jy (aR (BN (pz hr)) (pV 11) (bG (aa aA ag))) (j2 (aR (BN (pz hr)) (pV 11) (bG (aa aA ag)))))) (ao (a9 (aR (Bx (pz hr)) (pV 13) (pV 11)) (ao (aB p7)) aN)) (ao (a9 (aR (Bx (pz hr)) (pV 13) aA) (ao (aB p7)) (ao (rP hu (pV 5) (pV 12) (pV 11) rfl)))))))))))))
      (ao (aB p7)))))))))))),?_⟩
    refine ⟨a,ns,0,rfl,hS,_,1,rfl,tD,tD,λr r0 r1=>?_⟩;refine ⟨r,rfl,r0,λnA iw H1 hN nq qr s1=>?_⟩;obtain ⟨mo,em,hmo⟩:∃mo:Nat,1+r/16%4=(mo:Int)/\1<=mo/\mo<=4:=⟨(1+r/16%4).toNat,tL,tL,tL⟩;refine ⟨ib tD tD,ib tD tD,(by simp),r/64,mo,(by simp_all),tL,λlA l0 H2 hlA hL _ cf kD s2=>?_⟩;refine ⟨λσ G=>∃(lB:Addr) (js:List Nat),σ=[some (.ref a),some (.int r),some (.ref nA),some (.ref lB),none,none,none,none,none,none,none,none,none,none]/\G lB=some (.lst (bj js))/\0<js.length/\js.length<=4/\(∀j∈js,j<16)/\af H2 G,?_,?_⟩
    · refine ⟨ib tD tD,(by simp),_,rfl,dD (λz=>?_) (λz=>⟨lA,l0,rfl,hL,tL,tL,cf,af.refl _⟩)⟩;obtain ⟨c1,c2⟩:=zcA l0;refine ⟨lA,_,rfl,aj.of hL,λe1 gF=>?_⟩;rw [c1];generalize eU:upd H2 e1 _=G1;obtain ⟨t1,y1⟩:=nw eU gF;refine ⟨⟨_,aj.of y1⟩,?_⟩;refine gW (K:=K) (a:=e1) (xs:=bj (l0.take 1)) (λi ys σ G'=>∃v0:Option V,σ=[v0]/\ys=bj (((l0.take 1).take i).map (· % 10))/\G'=G1)
        ⟨none,rfl,rfl,rfl⟩ (by rintro i ys σ G' hi ⟨_,_,e1,e2⟩;exact ⟨by rw [e2];exact aj.of y1,by rw [e1];unfold bj;rw [ax,ax,fR];lia⟩) (by unfold bj;rw [ax,fR];exact aX (F3 _ _) tD) ?_ ?_
      · rintro i y ys σ G' hi ⟨v0,rfl,rfl,rfl⟩;obtain ⟨j,hj,rfl⟩:=OC hi;unfold aW;refine tt ?_;refine ⟨(by simp),_,rfl,?_,rfl⟩;rw [cZ (l:=l0.take 1),hj,aQ];unfold bj;rw [aQ];rfl
      rintro ys σ G' ⟨v0,rfl,rfl,rfl⟩ D1 rm;have eT:(l0.take 1).take (bj (l0.take 1)).length=l0.take 1:=kY (by unfold bj;rw [ax];exact aT _);rw [eT];generalize eU2:upd G' D1 _=G2;obtain ⟨t2,y2⟩:=nw eU2 rm;have T2:=t1.trans t2;refine ⟨lA,_,rfl,aj.of (T2 _ _ hL),λe3 he3=>?_⟩;rw [c2];generalize eU3:upd G2 e3 _=G3;obtain ⟨t3,y3⟩:=nw eU3 he3;refine ⟨⟨_,aj.of y3⟩,?_⟩;refine gW (K:=K) (a:=e3) (xs:=bj (l0.drop 1)) (λi ys σ G'=>∃v0:Option V,σ=[v0]/\ys=bj ((((l0.drop 1).take i).filter λj=>decide (j<10)).map (9 - ·))/\G'=G3)
        ⟨none,rfl,rfl,rfl⟩ (by rintro i ys σ G' hi ⟨_,_,e1,e2⟩;exact ⟨by rw [e2];exact aj.of y3,by rw [e1];unfold bj;rw [ax,ax];exact aX (lW _ _) (by rw [fR];lia)⟩) (by unfold bj;rw [ax,pL];exact aX (show _<=4 by lia) tD) ?_ ?_
      · rintro i y ys σ G' hi ⟨v0,rfl,rfl,rfl⟩;obtain ⟨j,hj,rfl⟩:=OC hi;unfold aW;refine ⟨_,rfl,dD (λz=>?_) (λz=>?_)⟩
        · have z':j<10:=by lia
          refine ⟨_,rfl,?_,rfl⟩;rw [cZ,hj,dX,aQ];unfold bj;rw [aQ];show _++[V.int (9-(j:Int))]=_++List.map _ (List.map _ (List.filter _ [j]));rw [l7,aC (aU z')];show _=_++[V.int ((9-j:Nat):Int)];rw [show (9:Int)-(j:Int)=((9-j:Nat):Int) by lia]
        · have z':¬j<10:=λy=>z (aU tL)
          refine ⟨_,rfl,?_,rfl⟩;rw [cZ,hj,dX];show _=bj (List.map _ (_++List.filter _ [j]));rw [l7,av (by simpa using z'),HF,iD]
      rintro ys σ G' ⟨v0,rfl,rfl,rfl⟩ D2 rD;have eT:(l0.drop 1).take (bj (l0.drop 1)).length=l0.drop 1:=kY (by unfold bj;rw [ax];exact aT _);rw [eT];generalize eU4:upd G' D2 _=G4;obtain ⟨t4,y4⟩:=nw eU4 rD;have hA:((l0.take 1).map (· % 10)).length=1:=by simp_all
      have hB:(((l0.drop 1).filter λj=>decide (j<10)).map (9 - ·)).length<=3:=by grind
      refine ⟨D1,D2,_,_,rfl,rfl,(t3.trans t4) _ _ y2,y4,(by rw [show ∀js:List Nat,(bj js).length=js.length from λjs=>ax _,show ∀js:List Nat,(bj js).length=js.length from λjs=>ax _];exact aX (show _<=4 by lia) tD),λp hp=>⟨p,(l0.take 1).map (· % 10)++((l0.drop 1).filter λj=>decide (j<10)).map (9 - ·),rfl,?_,by grind,by grind,λj hj=>?_,T2.trans (t3.trans (t4.trans (af.upd hp)))⟩⟩
      · rw [ar];unfold bj;rw [aQ]
      · rcases bA.mp hj with y|y
        · obtain ⟨k,_,rfl⟩:=bp.mp y;exact lQ (qG k (show 0<10 by decide)) tD
        · obtain ⟨k,_,rfl⟩:=bp.mp y;exact jm (HC 9 k) tD
    rintro σ G ⟨lB,js,rfl,hB,WD,hj4,R0,sG⟩;refine ⟨lB,js,rfl,(by rw [Jy];exact hB),hj4,R0,λb hb=>?_⟩;generalize eU:upd G b _=G1;obtain ⟨t1,y1⟩:=nw eU hb;refine ⟨b,js,rfl,y1,λlC ls hlC O8 mE=>?_⟩;generalize eU2:upd G1 lC _=H3;obtain ⟨t2,MF⟩:=nw eU2 hlC;rw [Jy]at MF;have t2:=t1.trans t2;have kH:ls.Nodup:=O8.imp λh=>dy h
    have cf:∀x∈ls,x<16:=λx hx=>R0 x ((mE x).mp hx)
    have xX:ls.length<=4:=by
      have:=pP (l:=ls.map λk:Nat=>(k:Int)) (B:=js.map λk:Nat=>(k:Int)) (uk.mpr (O8.imp λh e=>absurd (F1 e) (dy h))) λx hx=>by simp_all
      rw [ax,ax]at this;lia
    have gE:0<ls.length:=by
      obtain ⟨j,hj⟩:=List.exists_mem_of_length_pos WD;exact CF ((mE j).mpr hj)
    have S3:=s1.trans (s2.trans (sG.trans t2));have VP:=(s2.trans (sG.trans t2)) _ _ hN;refine λp dx hp hdx cx=>⟨p,dx,rfl,ar,λd H4 hd hD hk=>⟨rfl,?_⟩⟩
    have s4:af H3 H4:=λb o hb=>hk b o (by rw [aS (c7 hb hp),aS (c7 hb hdx)];exact hb) (c7 hb hp)
    refine λt ht=>?_
    have s5:af H4 (upd H4 t (.dK [])):=af.upd ht;have AQ:hZ (upd H4 t (.dK [])) t []:=⟨[],ar,.nil⟩;have hdt:d≠t:=by
      obtain ⟨wJ,u9,_⟩:=hD.dc;exact c7 u9 ht
    generalize upd H4 t (.dK [])=H5 at s5 AQ;have S5:=S3.trans (s4.trans s5);refine ⟨a,_,rfl,S5.seq hS,λcA hcA=>?_⟩;obtain ⟨cs,Yx,jc⟩:∃cs:List Int,gk (ns.map V.int) (some 1) (some 63)=cs.map V.int/\cs.length<=ns.length:=by
      unfold gk;rw [<-SA,<-MM];exact ⟨_,rfl,by rw [fR,pL];lia⟩
    rw [Yx];generalize eU:upd H5 cA _=H6;obtain ⟨s6,y6⟩:=nw eU hcA;have WB:pU gq H6 nA lC cA p d t iw ls cs []:=⟨(s4.trans (s5.trans s6)) _ _ VP,(s4.trans (s5.trans s6)) _ _ MF,y6,hD.keep (s5.trans s6),AQ.keep s6,hdt⟩;refine ⟨cA,_,rfl,.inl (aj.of y6),((cs.map V.int).length:Int),rfl,tL,by grind,?_⟩;refine qp (n:=(cs.map V.int).length) (λi σ G=>∃(st:eK) (le:Int) (v8 v9 v10 v11 GU Du:Option V),σ=[some (.ref a),some (.int r),some (.ref nA),some (.ref lC),some (.ref p),some (.ref t),some (.int le),some (.ref cA),v8,v9,v10,v11,GU,Du]/\pU gq G nA lC cA p d t iw ls cs st/\(∀nf∈st,dh ls nf.2)/\st.length<=i)
      ⟨[],0,none,none,none,none,none,none,rfl,WB,(λnf h=>by cases h),aT _⟩ ?_ (λσ G ⟨_,_,_,_,_,_,_,_,e,_⟩=>by subst e;exact kq _)
    rintro i σ G hi ⟨st,le,v8,v9,v10,v11,GU,Du,rfl,hI,a8,AJ⟩;rw [ax]at hi;obtain ⟨x,hx⟩:∃x,cs[i]?=some x:=⟨_,d4 hi⟩;have kr:dN (cs.map V.int) (0+(i:Int))=some (V.int x):=by rw [pF];exact bc (by rw [cQ,hx];rfl)
    refine ⟨V.int x,aj.of hI.ch,kr,x,(0+(i:Int))+1,rfl,tL,λX xs G1 hX HD BY t1=>?_⟩;have oo:=hI.keep t1;obtain ⟨wz,Af⟩:∃z,dN (xs.map V.int) ((11:Nat):Int)=some (V.int z):=⟨xs[11]'(by simp_all),bc (by simp)⟩;refine (λsQ=>⟨_,rfl,dD (λz1=>⟨_,aj.of HD,Af,(by simp),_,rfl,dD (λz2=>?_) (λ_=>sQ)⟩) (λ_=>aM c9 sQ)⟩) ?_
    rotate_left
    · refine ⟨nA,X,iw,xs,rfl,oo.nh,HD,nq,qr,BY.1,BY.2,λe q0 G2 hA hok t2=>?_⟩;obtain ⟨pp,rO,yg⟩:=hA;refine ⟨_,az.of rO,rfl,.inr ⟨_,rfl,?_⟩⟩;have bb:ls.length<=5:=by lia
      refine ⟨λσ G=>∃(e':Addr) (q':Ask) (IA:Int),σ=[some (.ref a),some (.int r),some (.ref nA),some (.ref lC),some (.ref p),some (.ref t),some (.int IA),some (.ref cA),some (.int (0+(i:Int))),some (.ref X),some (.ref e'),v11,GU,Du]/\Ip G e' q'/\q'.ok/\af G2 G,?_,?_⟩
      · refine ⟨_,az.of rO,rfl,_,rfl,?_⟩;have eL:=q0.isL_eq;cases q0 with
        |one w n =>
         cases w with
         |lea =>
          refine a7 eL ⟨_,rfl,dD (λ_=>?_) (λ_=>⟨e,_,_,rfl,⟨pp,rO,yg⟩,hok,af.refl _⟩)⟩;have hn:=eG hok;refine ⟨_,az.of rO,rfl,_,az.of rO,rfl,_,az.of yg,rfl,_,_,rfl,rfl,?_,c5,λe4 Ko=>⟨e4,.one .shw n,_,rfl,⟨pp,?_,(af.upd Ko) _ _ yg⟩,hok,af.upd Ko⟩⟩
          · rw [JB];show 5+n.length<=sizeLine;exact aX (show _<=100 by lia) tD
          · rw [ar,JB,dH,gr];rfl
         |_=>exact aM (by rw [eL];exact c9) (aM c9 ⟨e,_,_,rfl,⟨pp,rO,yg⟩,hok,af.refl _⟩)
        |_=>exact aM (by rw [eL];exact c9) (aM c9 ⟨e,_,_,rfl,⟨pp,rO,yg⟩,hok,af.refl _⟩)
      · rintro σ G3 ⟨e',q',IA,rfl,OX,p8,t3⟩;have j8:=(oo.keep t2).keep t3;obtain ⟨ha,hl⟩:=ze3 p8;refine ⟨t,e',st,q',ls,rfl,j8.th,OX,bb,cf,a8,p8,FQ λx G4 hx s4=>?_⟩;obtain ⟨pp',n6,_⟩:=OX;refine ⟨_,az.of (s4 _ _ n6),rfl,p,d,st,_,ls,rfl,(j8.keep s4).dk,ha,aX hl tD,bb,cf,a8,tL,.inr ⟨q',Ask.line p8,p8,FQ λy G5 hy s5=>?_⟩⟩;refine ⟨_,_,hy,hx.keep s5,An.dp _,_,rfl,?_⟩;rw [xS];refine aM tD ?_;refine ⟨_,az.of ((s4.trans s5) _ _ n6),rfl,p,d,st,_,ls,rfl,(j8.keep (s4.trans s5)).dk,ha,aX hl tD,bb,cf,a8,tO,.inr ⟨q',Ask.line p8,p8,FQ λy' G6 Bu s6=>?_⟩⟩;refine ⟨_,_,Bu,hx.keep (s5.trans s6),An.dp _,_,rfl,?_⟩;rw [xS];refine aM tD ?_;exact ⟨st,IA,_,_,_,_,_,_,rfl,j8.keep (s4.trans (s5.trans s6)),a8,tL⟩
    · refine ⟨t,nA,lC,X,st,iw,ls,xs,rfl,oo.th,oo.nh,oo.lh,HD,a8,⟨nq,qr⟩,⟨kH,gE,tO,cf⟩,⟨BY.1,λx hx=>(BY.2 x hx).1⟩,λp2 e c G2 cg Ks D4 yP t2=>?_⟩;have zY:=oo.keep t2;refine ⟨_,az.of cg,rfl,?_⟩;obtain ⟨fG,Gu,GK,Ex⟩:=D4.line cf;have bb:ls.length<=5:=by lia
      refine ⟨t,e,st,c,ls,rfl,zY.th,Ks,a8,D4,bb,cf,λe3 G3 hm y3 s3=>?_,λe3 G3 hm y3 s3=>?_,λe3 f3 G3 hm y3 s3=>?_⟩
      all_goals
        obtain ⟨xx,Dl,_⟩:=Ks.keep s3;have j8:=zY.keep s3
      · refine ⟨_,az.of Dl,rfl,p,d,st,c.line,ls,rfl,j8.dk,Ex,GK,bb,cf,a8,tL,.inl ⟨c,fG,Gu,(λ_ e4 G4 y4 s4=>?_),(λz=>by cases sf hm z),λf4 z=>by cases sf hm z⟩⟩;refine ⟨de,λl5 rZ=>?_⟩;have s5:af G4 (upd G4 l5 (.lst [.str "name"])):=af.upd rZ;refine ⟨.lst [.str "name"],.lst [.str "name"],kd ((s4.trans s5) _ _ y3),kd ar,tD,_,rfl,?_⟩;refine a7 tD (eh ?_);refine ⟨.lst [.str "name"],.lst [.str "name"],kd (s5 _ _ y4),kd ((s4.trans s5) _ _ y3),tD,_,rfl,?_⟩;exact aM tD ⟨st,le,_,_,_,_,_,_,rfl,j8.keep (s4.trans s5),a8,tL⟩
      · refine ⟨_,az.of Dl,rfl,p,d,st,c.line,ls,rfl,j8.dk,Ex,GK,bb,cf,a8,tO,.inl ⟨c,fG,Gu,(λz=>by cases sf hm z),(λ_ e4 G4 y4 s4=>?_),λf4 z=>by cases sf hm z⟩⟩;refine ⟨de,λl5 rZ=>?_⟩;have s5:af G4 (upd G4 l5 (.lst [.str "name"])):=af.upd rZ;refine ⟨.lst [.str "yes no"],.lst [.str "name"],kd ((s4.trans s5) _ _ y3),kd ar,tD,_,rfl,?_⟩;refine aM tD ?_;generalize upd G4 l5 (.lst [.str "name"])=G5 at s5;refine ⟨de,λl6 FG=>?_⟩;have s6:af G5 (upd G5 l6 (.lst [.str "yes no"])):=af.upd FG;have T6:=s4.trans (s5.trans s6);refine ⟨.lst [.str "yes no"],.lst [.str "yes no"],kd (T6 _ _ y3),kd ar,tD,_,rfl,?_⟩;refine a7 tD ?_;refine ⟨.lst [.str "yes no"],.lst [.str "yes no"],kd ((s5.trans s6) _ _ y4),kd (T6 _ _ y3),tD,_,rfl,?_⟩;exact aM tD ⟨st,le,_,_,_,_,_,_,rfl,j8.keep T6,a8,tO⟩
      · refine ⟨_,az.of Dl,rfl,p,d,st,c.line,ls,rfl,j8.dk,Ex,GK,bb,cf,a8,tO,.inl ⟨c,fG,Gu,(λz=>by cases sf hm z),(λz=>by cases sf hm z),λf4 Xd=>?_⟩⟩;cases sf hm Xd;have gg:=D4.makes cf bb a8 hm;refine ⟨⟨aX (gg.len bb) tD,λu hu=>lQ (gg.2.2 u hu) tE⟩,λwJ b4 H4 bU wy i9 s4=>?_⟩;have k4:bu d G3 (upd H4 d (.dK (d8 wJ (Sum.inr (S c.nm)) (.ref b4)))):=(bu.of s4).trans bu.upd;have QF:kE gq (upd H4 d (.dK (d8 wJ (Sum.inr (S c.nm)) (.ref b4)))) p d (nr st c.nm f3):=by
          obtain ⟨dx,ho⟩:=(j8.dk.keep s4).ob;obtain ⟨kv',h1,h2⟩:=j8.dk.dc.keep s4;cases (s4 _ _ bU).symm.trans h1;exact ⟨⟨dx,by rw [aS λz=>by simp_all];exact ho⟩,hZ.put h1 h2 i9⟩
        generalize upd H4 d (.dK (d8 wJ (Sum.inr (S c.nm)) (.ref b4)))=G4 at k4 QF;have y4:aG G4 e3 f3:=aG.keepD y3 k4 bU;refine ⟨de,λl5 rZ=>?_⟩;have s5:af G4 (upd G4 l5 (.lst [.str "name"])):=af.upd rZ;refine ⟨dF f3,.lst [.str "name"],(y4.keep s5).is,kd ar,aX (Cp f3) tD,_,rfl,?_⟩;refine aM (by rw [OV];decide) ?_;generalize upd G4 l5 (.lst [.str "name"])=G5 at s5;refine ⟨de,λl6 FG=>?_⟩;have s6:af G5 (upd G5 l6 (.lst [.str "yes no"])):=af.upd FG;have T6:=s5.trans s6;refine ⟨dF f3,.lst [.str "yes no"],(y4.keep T6).is,kd ar,aX (Cp f3) tD,_,rfl,?_⟩;refine aM (by rw [OV];decide) ?_;generalize upd G5 l6 (.lst [.str "yes no"])=G6 at s6 T6;refine ⟨.str "ok",.str "ok",dr.mpr rfl,dr.mpr rfl,tD,_,rfl,?_⟩;refine aM tD ?_;obtain ⟨kvs,Ze,ia,hI6⟩:=j8.put (n:=c.nm) (QF.keep T6) (k4.trans (bu.of T6)) y3 rfl;refine ⟨t,_,rfl,lH.k (k:=Sum.inr (S c.nm)) Ze (bD tL),nr st c.nm f3,le,_,_,_,_,_,_,rfl,hI6,UY a8 gg,?_⟩
        have:=WW st c.nm f3
        lia
end
set_option maxHeartbeats 0 in
set_option tactic.hygienic true in
def zek(X:(K w.params).In h)(G:h.Ns mainGlobals mg):Txt w (K w.params) mg:=by
 constructor
 case nf_Desk_forms=>show _=_;kernel_rfl
 case q_MADE_0=>exact jG ["name","name"] [793,794] rfl tD tK
 case q_MADE_1=>exact jG ["name","name"] [796,797] rfl tD tK
 case q_MADE_2=>exact jG ["name","name"] [799,800] rfl tD tK
 case q_MADE_3=>exact jG ["name","letter","bit"] [802,803,804] rfl tD tK
 case q_MADE_4=>exact jG ["name","letter","name"] [806,807,808] rfl tD tK
 case q_MADE=>exact ox.of (ts:=[792,795,798,801,805]) (n:=5) rfl rfl tE tK
 case q_ASKED_0=>exact jG ["name"] [767] rfl tD tK
 case q_ASKED_1=>exact jG ["name","number"] [769,770] rfl tD tK
 case q_ASKED_2=>exact jG ["name","name"] [772,773] rfl tD tK
 case q_ASKED_3=>exact jG ["name","name","divisor"] [775,776,777] rfl tD tK
 case q_ASKED_4=>exact jG ["name"] [779] rfl tD tK
 case q_ASKED_5=>exact jG ["name"] [781] rfl tD tK
 case q_ASKED_6=>exact jG ["name"] [783] rfl tD tK
 case q_ASKED=>exact ox.of (ts:=[766,768,771,774,778,780,782]) (n:=7) rfl rfl tE tK
 case q_SPACED=>exact jG ["not "," and "," or "," xor "] [595,596,597,598] rfl tD tK
 case q_JOINING=>exact jG ["and","or","xor"] [591,592,593] rfl tD tK
 all_goals first
  |exact Def.of X G (by first|exact Qh λ_=>rfl|exact Jd λ_ _=>rfl|exact Ky λ_ _ _=>rfl|exact R9 λ_ _ _ _=>rfl|exact us0 rfl) tK tK tK tK tK
  |exact pS.of (by first|exact Qh λ_=>rfl|exact Jd λ_ _=>rfl|exact Ky λ_ _ _=>rfl|exact R9 λ_ _ _ _=>rfl) tK tK tK tK tK tK
  |exact PySem.W.mg_none_of X G tK
  |exact N8 X G tK
  |nomatch tK,tK,tK,tK
  |kernel_rfl
def zdy{q:Program}{loose:List Str}{XP:(Str->Option Value)->Heap->Prop}{d:DefRec}(DE:d.params.defaults=[])(qr:d.name = "law") :
  PySem.W.WalkO q loose XP (PySem.W.InK K) PySem.Challenge.rw_onceform_k84_desk_asks.row.toRowW d [] (λf vs=>PySem.call f vs) :=
 L2.zbr (l:=PySem.Challenge.rw_onceform_k84_desk_asks) (n:=63) (k:=103) (x := "_law_script") (CX:=λ_=>pd) (sp:=λw=>Nj (K w.params)) rfl tD DE ⟨rfl,tD,tD⟩ (λw h Y=>Y) (λw mg fa h KX G Ar=>by
  have T:=zek KX G;rw[qr]at Ar;cases Ar.symm.trans T.d_law.m;nomatch nG.fd,λs v=>.of_eq rfl,λbase _ _=>zbZ T) (λ_ _ a ns hl hb _ hS=>⟨a,ns,rfl,hS,hl,hb,λ_=>rfl⟩) λ_ _ _ _ _ z=>z
end My
open PySem PySem.W PyProof.Rows
set_option maxRecDepth 100000 in
set_option maxHeartbeats 0 in
set_option tactic.hygienic true in
theorem PySem.Challenge.cw_onceform_k84_desk_asks_holds : PySem.Challenge.rw_onceform_k84_desk_asks.Holds := by
 w_on
 refine PySem.W.holds_law My.Gi λGi=>?_
 refine PySem.W.holds_open (q:=My.Q) (loose:=My.lo) (Xt:=My.Xq) (XP:=PySem.W.XL My.Q []) (Yf:=My.Hk.obs) (Ya:=My.Hk.val) (YP:=PySem.W.InK My.K) (N:=10968) (d:=⟨"law",L2.wI My.nG.s,L2.lP My.nG.s,L2.cK My.nG.s,My.Vy My.nG.s⟩) (kwd:=[]) My.left My.Hk.of My.Hk.keeps
  (λs e=>PySem.W.xl_of s (wM.mp e).1) jhZ tK tK tK (λs e=>PySem.W.recFacts_of (wM.mp e).2) tK Gi tE ⟨rfl,rfl,rfl,rfl,rfl,tE⟩ ?hw ?hc
 case hw=>w_witness2
 exact My.zdy rfl rfl
#print axioms PySem.Challenge.cw_onceform_k84_desk_asks_holds
