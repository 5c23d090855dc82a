import PyProof.Rows.All
import Wide.All
import OpenK.AllK
import Wide.FinOn
import Lean
import PyProof.EqAt
import PyProof.EqKinds
import PyProof.TupleCall
import PyProof.NeKinds
import PyProof.WalksEnum
import PyProof.EnumMake
import PyProof.AttrMissHeap
import KE.KDictOf
import PyProof.ListNew
import PyProof.ZipIter
import PyProof.Rows.ZipGen
import KE.KIntText
import PyProof.StrLawsTight
import KE.KRevIter
import KE.KDictList
import KE.KEqDict
import PyProof.DictCopy
import KE.KSortTup
import PySem.Challenge.RW_onceform_k82_lines_read
set_option genSizeOf false
set_option compiler.extract_closed false
set_option Elab.async false
set_option linter.all false
open PySem.W(Frag kitOne)
open PySem.Builtin.Int(intBits)
open PySem.NumText(digitsVal)
open PySem.Str(ofString)
local macro_rules|`(tactic|exists $e,*)=>`(tactic|refine⟨$e,*⟩)
local macro_rules|`(tactic|nomatch $e,*)=>`(tactic|exact⟨$e,*⟩)
set_option maxRecDepth 100000
set_option maxHeartbeats 4000000
set_option tactic.hygienic false
open List renaming length_map->ay,length_append->aS,map_append->aQ,length_cons->aW,mem_singleton->bh,mem_cons->ba,size_toArray->bJ,mem_append_right->cx,mem_cons_of_mem->cq,mem_of_getElem?->cM,map_cons->bw,getElem?_map->bY,getElem?_eq_some_iff->d6,getElem?_eq_getElem->dD,mem_append->bW,mem_map->bV,length_take->c7,take_add_one->dR,take_length->dH,filter_cons->dZ,length_filter_le->gI,filter_append->fS,append_nil->fc,length_drop->fL,mem_append_left->i8,find?_cons->fV,all_eq_true->gz,not_mem_nil->ia,append_assoc->iT,eq_nil_of_length_eq_zero->pN,flatMap_cons->jd,sum_append->gZ,take_of_length_le->mG,map_map->ft,sum_cons->gh,mem_filter->iJ,nodup_cons->jO,mem_of_mem_drop->oM,mem_cons_self->mD,drop_eq_getElem_cons->sP,map_congr_left->nS,reverse_append->nK,map_nil->iA,flatten_cons->mV,length_range->nj,mem_range->kO,any_cons->ju,dropLast_concat->pb,length_eq_one_iff->qX,getElem?_range->qc,length_replicate->rY,length_nil->mC,getElem_mem->nV,drop_zero->mZ,replicate_zero->qF,getElem?_set_self->u4,getD_eq_getElem?_getD->Ah,getElem?_append_right->xO,take_append_drop->tF,pairwise_cons->qY,concat_eq_append->t5,mem_filterMap->qZ,getElem?_append_left->yF,mem_of_mem_take->vA,filter_cons_of_neg->y9,lookup_cons->rW,prefix_append->vw,range_succ->sk,length_set->qH,eq_nil_or_concat->Al,cons_append->ug,drop_length->uR,filterMap_cons->yy,filterMap_cons_some->Cf,length_eq_zero_iff->CY,getElem?_replicate->Bt,all_cons->rP,filter_cons_of_pos->Dn,pairwise_iff_forall_sublist->Jn,drop_eq_nil_of_le->FN,drop_of_length_le->Di,reverse_cons->Ac,sum_nil->rL,any_eq_true->yb,getElem?_set_ne->CL,length_pos_iff->Bj,drop_succ_cons->Bz,forIn_cons->xm,length_reverse->EE,getElem?_drop->BF,drop_left->yQ,pairwise_map->C8,filterMap_cons_none->QA,append_cancel_left->Jy,pairwise_singleton->Og,mem_flatMap->Cs,getElem_cons_drop->Ih,append_eq_nil_iff->Ni,of_mem_zip->Eg,map_id'->yS,nil_append->Cp,mem_iff_getElem?->KD,getElem?_eq_none->N8,replicate_succ'->Mb,flatten_append->MY,getElem_of_mem->LY,takeWhile_cons->LG,zip_nil_right->Lq,zip_cons_cons->K8,filterMap_map->Ml,push_toArray->Lp,all_map->E3,zipIdx_cons->Kv,mem_reverse->Hg,zipIdx_nil->KR,append_inj->HW,length_zip->Ng,filter_nil->LW,forIn_nil->IJ,drop_drop->KS,nodup_nil->Ir,map_drop->Kq,map_take->Jz,set_set->Ny,all_nil->Qw
open PySem renaming wpAny_bind->aA,wpAny_pure->bg,boot_len->bS,wpAny_mono->bA,wpAny_truthy_bool->kG,mem_of_lookup->ng,wpAny_field->gb,wpAny_newObj_type->nP,wpAny_callSpecial?_slot->uD,wpAny_loadPart_at->pz,wpAny_call_entry->pB,wpAny_seqItems->nq,wpAny_passesOwn->ph,call_meets->ke,wpAny_setField_rec->uJ,wpAny_execs_nil->rT,wpAny_holding->pq,wpAny_pyIter_list->tq,codeAny_mono->qq,wpAny_Call_Name_kw->zQ,tupleKind_room_in1->x6,typeIs_str->oq,wpAny_isTrue_Compare1->CQ,wpAny_pyIter_zip->yB,wpAny_standAt->vh,wpAny_letOwnedTupleGo_zip->Mf,wpAny_comprehension_free->Pb,wpAny_getItem_list_slice->GZ,list_append->C1,wpAny_onRaise->xZ,wpAny_execs_cons->CP,wpAny_typeOf->xa,codeAny_builtin->C4,wpAny_setField->Ei,evalPart_none->Fw,wpAny_rule->zR
open Nat renaming le_refl->aJ,le_trans->bp,lt_of_lt_of_le->cy,pow_le_pow_right->dm,zero_le->cb,le_of_lt->dq,ne_of_lt->dB,lt_of_le_of_lt->je,testBit_eq_decide_div_mod_eq->vJ,not_lt_zero->j7,mul_le_mul->kd,testBit_lt_two_pow->sN,eq_of_testBit_eq->rf,lt_or_ge->kb,pow_succ->kN,ge_two_pow_of_testBit->zU,lt_irrefl->oN,testBit_two_pow->uZ,min_eq_right->qS,testBit_and->sh,two_pow_pos->qC,two_pow_add_eq_or_of_lt->B1,min_eq_left->se,testBit_or->sO,lt_pow_two_of_testBit->Bg,add_sub_cancel_left->A1,ne_of_gt->qW,mul_le_mul_right->AD,add_le_add_left->Cn,log2_lt->tW,pow_succ'->An,mul_assoc->wu,toDigits_of_lt_base->Pp,lt_succ_self->Fx,testBit_zero->EJ,testBit_succ->Fe,mul_add_div->EF,testBit_xor->DX,pow_lt_pow_right->JJ,add_le_add->E4,pow_add->yU,mul_add->xS,add_sub_cancel->Pk,le_succ_of_le->O9,mul_left_comm->Oc,lt_trans->FI,min_self->Bv,mul_zero->BL,add_zero->F9,mul_comm->C2,add_comm->Fg,succ_le_succ->Qj,min_le_right->IG,div_eq_of_lt->Ma,pow_pos->Dq,div_add_mod->GF,min_le_left->Ko,add_mul->FP,mod_lt->EN,zero_add->Pz,succ_mul->Kc,sub_zero->MD,mul_succ->Qu,succ_pos->NV,le_of_eq->GG,or_comm->PY,le_succ->Mu,mul_one->Hx,sub_le->HR
open PySem.Heap renaming get?_push_of_some->cv,lt_size->bo,get?_push_size->c8,size_push->nM,get?_none_of_le->tH,get?_update_self->FZ,get?_update_ne->A8,get?_update_other->IK
open PySem.F renaming plainAttrs_list->dI,plainAttrs_str->eV,type_list_append->jl,slot_list_append->jG,type_list_pop->pQ,slot_list_pop->p8,slot_str_join->sv,type_str_join->qR,slot_str_split->vC,type_str_split->uP,slot_tuple_iterator_next->yu,slot_dict_get->vE,plainAttrs_int->yH,slot_str_startswith->E6,type_str_startswith->EO,entry_dict_get->FQ,slot_str_find->Bp,type_str_find->Cm,typeOf_object_class->CS,args_list_append_2->ER,args_tuple_iterator_next_1->O8,entry_tuple_iterator_next->Qm,entry_list_append->Dz,slot_zip_next->wm,slot_list_append->En,args_str_split_2->Fh,type_list_insert->Ht,entry_str_split->AH,args_tuple_add_2->OL,slot_list_insert->Oz,type_list_index->Gw,args_dict_get_3->Oo,plainAttrs_dict->PQ,entry_tuple_add->JE,slot_list_index->Lv,slot_str_split->Bf,type_str_strip->O0,slot_tuple_add->NX,slot_str_strip->Kj,type_dict_get->IW,args_list_index_2->L9,entry_list_index->JM,args_zip_next_1->KG,slot_list_index->IX,entry_zip_next->G6
open Bool renaming false_ne_true->cQ,and_eq_true->eL,and_false->iG,and_true->gS,decide_or->oj,and_eq_true_iff->uL,eq_false_iff->sJ,true_and->oB,false_and->ql,false_eq_true->tK,eq_iff_iff->rN,or_false->qG,or_eq_true->wk,not_eq_true'->OX,false_or->L7,or_true->IU
open Option.some renaming inj->cD
open PySem.PassesOwn renaming never->dQ,leaving->Po
open PySem.Paired renaming length->dP,snoc->N1
open PyProof.Rows renaming boot_isinstance->mM,boot_str->lg,callWith_type1->sS,slot_int_bit_length->zW,type_int_bit_length->yT,boot_int->vX,slot_tuple_getitem->Pc,boot_sum->Aw,boot_sorted->GS,boot_abs->O4,boot_all->LZ,Subscript_->zJ,callWith_builtin1->RQ,mulOk_of_bits->jgf,digit_range->TC,split_pos->jgO,bitAnd_nn->Vc,boot_dict->jgQ,bitAnd_pp->U1,boot_any->jgT,boot_min->Z3
open Int renaming natCast_nonneg->iW,eq_ofNat_of_zero_le->mf,toNat_of_nonneg->mJ,toNat_natCast->oJ,emod_lt_of_pos->vO,emod_nonneg->sd,zero_add->ua,max_eq_right->EW,natAbs_mul->Fu,natAbs_natCast->Mw,one_mul->Ca,min_eq_left->MC,mul_add->A9,zero_mul->LC,ne_of_gt->GD,add_zero->P8,ofNat_lt->Pd,pow_succ->Ol,ofNat_le->OZ,le_refl->JS
open PySem.W renaming kia_one->iS,hideAll_none->pZ,hideAll_get->vL,of_hideAll->tG,funFrames_hide->C3,plainGet_of->F0,callWith_K->AE,cellsFrom_some->Qz,methodCall_KW->KI,kitx_list->OC,kitx_dict->Ic,mg_of->Iz
open List.cons renaming inj->kf
open Array renaming length_toList->vW,getElem?_toList->CU,getElem?_eq_getElem->MO,getElem?_eq_none->Kn
open PySem.Calls renaming callWith_builtin->xI,evalArgs_plain->zr,spliced_cons->xg,Name_function_global->IM,spliced_nil->EK
open PySem.NumText renaming digitsVal_snoc->zG
open Option renaming map_eq_some_iff->DW,isSome_map->xQ,getD_some->yM,isSome_iff_exists->PB,getD_none->NP,map_some->Ha
open PySem.SeqAt.EqAt renaming same->zd,of_refs->KQ,str_int->Kl,int_str->MA,none_bool->jhc,bool_none->XT,bool_bool->Sh,int_bool->Xe,bool_int->RK,str_bool->jhj,bool_str->ZH,none_int->jhm,none_str->Sx,str_none->VT,int_none->Zj,int_int->jht,str_str->Yu
open PySem.Code renaming quiet_builtin->AN
open Classical renaming byContradiction->HM,em->GN
open PySem.Heap.FunFrames renaming of_keeps->Le
open PySem.StrLaws renaming subAt_eq->DG,glued_eq_join->PJ
open PySem.Heap.SameBut renaming update->K3
open Sum.inr renaming inj->Ak
open PySem.W.Fast renaming te10156331382660048174->jfd,te11892475500146522536->jfe,te14364793385576792824->jfg,te9446332074065402090->ZK,te4187177175401517315->jfj,te6613529449190102663->XN
open PySem.Heap.IsSliceOf renaming new->GI
open PySem.SeqAt renaming list_indexAt->Qy
open PySem.P renaming truthy_str->Kx
open PySem.Obj renaming data_mapFields->JD
open List.Pairwise renaming map->PF
open PySem.Value renaming isInt_shape->Qt
open Nat.succ renaming inj->BW
open PySem.Heap.DictOf renaming new->Iq
open PySem.SeqAt.RcNeAt renaming lists_lengths->X1,tuples->ZX,lists->Rt
open PySem.EqMixed renaming ne_bool_str->jgh,eq_str_bool->jgl,eq_bool_str->Sv,ne_str_bool->jgr,ne_str_int->ZC,ne_int_str->Z1,eq_int_str->WI,eq_str_int->YG
open PySem.EqNone renaming eq_none_none->VU,ne_none_none->jgk,eq_bool_none->jgm,ne_bool_none->WE,eq_none_bool->Ud,ne_none_bool->jgt,ne_none_str->jgu,eq_str_none->Zd,ne_str_none->jgw,ne_int_none->Wd,ne_none_int->Sq,eq_none_int->Wr,eq_none_str->jgF,eq_int_none->Q7
open PySem.SeqAt.RcAt renaming lists_lengths->jgx,tuples->jhC,lists->Ve
open Prod.mk renaming injEq->Py
open PySem.W.KIN renaming call_text->jgX,signs_num->WB
open Prod renaming ext->Cv
open PySem.W.Dflts renaming none->QZ,noKw->V9
open PySem.W.Looks renaming here->jhz,ld->SK
open PySem.Walks renaming list->LX
open PySem.Within renaming cons->YQ
open PySem.Heap.IsList renaming push->jhE
open PySem.W.XL renaming keeps->XO
open PyProof.Rows.IsTup renaming new->PX
noncomputable section
abbrev aC:=@decide_eq_true
abbrev aL:=@decide_eq_false
abbrev br:=@of_decide_eq_true
abbrev aq:=@if_neg
abbrev ax:=@if_pos
abbrev mj:=@decide_eq_true_eq
abbrev oW:=@beq_eq_false_iff_ne
abbrev rR:=@decide_eq_decide
abbrev kP:=@beq_iff_eq
abbrev ib:=@or_false
abbrev gM:=@if_true
abbrev wW:=@of_decide_eq_false
abbrev FC:=@ne_true_of_eq_false
abbrev l7:=@if_false
namespace L2
open PySem
noncomputable def u5(s:Stmt)(j:Nat):Stmt:=match s with
 |.ClassDef _ _ _ body _ _ _ _ _ _ _=>body.getD j (.Pass ⟨0,0,0,0⟩)
 |_=>.Pass ⟨0,0,0,0⟩
noncomputable def uO(s:Stmt):Arguments:=match s with
 |.FunctionDef _ a _ _ _ _ _ _ _ _=>a
 |_=>{posonlyargs:=[],args:=[],vararg:=none,kwonlyargs:=[],kw_defaults:=[],kwarg:=none,defaults:=[]}
noncomputable def ni(s:Stmt):List Stmt:=match s with
 |.FunctionDef _ _ b _ _ _ _ _ _ _=>b
 |_=>[]
noncomputable def cL(s:Stmt):Scope:=match s with
 |.FunctionDef _ _ _ _ _ _ sc _ _ _=>sc
 |_=>{kind:=.function,names:=[],isGenerator:=false,isCoroutine:=false}
end L2
namespace My
open PySem L2
noncomputable def aR:List Stmt->Stmt
 |x::_=>x
 |[]=>.Pass ⟨0,0,0,0⟩
noncomputable def aE:List Stmt->List Stmt
 |_::r=>r
 |[]=>[]
noncomputable def Tj(s:Stmt):Pos:=match s with
 |.FunctionDef _ _ _ _ _ _ _ _ _ p=>p
 |_=>⟨0,0,0,0⟩
structure Rw where
 n:Str
 q:Str
 N:List Str
 k:Nat
 s:Stmt
 a:Addr
 m:Value
 t:Nat
 l:Nat
 x:Nat
namespace Rw
noncomputable abbrev ps(r:Rw):List Str:=r.N.take r.k
abbrev fd(r:Rw):FuncData:=PySem.W.fnOf r.n r.q (uO r.s) (ni r.s) (cL r.s) .none .none .none r.m none (.ref (r.a-1)) .none
noncomputable def GL:Str := "/claim/cut.py"
noncomputable def z(n:Nat):Value:=.int (Int.ofNat n) 0
noncomputable def few(r:Rw):Bool:=Nat.beq r.x 3
def rows(r:Rw):List (Addr×Obj) :=
 [(r.a-1,⟨.type "code",none,.fields #[.str r.n r.t,.str r.q (r.t+1),.str GL (r.t+2),z r.l,z r.k,z 0,z 0,z 3,.ref (bif r.few then r.a-4 else r.a-6),.bool true,z 181,.ref (bif r.few then r.a-3 else r.a-5),.none,
   bif r.few then .none else .ref (r.a-4),bif r.few then .none else .ref (r.a-3),.ref (r.a-2),z (r.t+r.x),z r.l,.str GL (r.t+r.x+1)],#[]⟩),
  (r.a,⟨.type "function",none,.func r.fd,#[]⟩)]
end Rw
noncomputable abbrev en(P:Params)(x:Str)(t:Nat)(v:Value):DictEntry:=⟨PyData.keyHash P x,.str x t,v⟩
end My
namespace OH
open PySem PySem.W PyProof.Rows
noncomputable def vo(tb:String->Option Builtin)(p:Program)(w:World)(n₀:Nat)(ann:Option Value):Nat->SharedT->Thread->Option SharedT
 |0,_,_=>none
 |n+1,s,t=>match through t with
  |true=>some s
  |false=>match stepOk n₀ ann t with
   |false=>none
   |true=>match stepT (denote tb) p w s t with
    |some x=>vo tb p w n₀ ann n x.1 x.2
    |none=>none
def ZZ:∀{s r:SharedT}{t:Thread},vo tb p w n₀ ann n s t=some r->topRun tb p w n₀ ann n s.abs t=some r.abs:=by
 induction n with
 |zero=>intro s r t h;cases h
 |succ n ih =>
  intro s r t h;unfold vo at h;unfold topRun;cases a:through t with
  |true=>rw[a]at h;cases h;rfl
  |false =>
   rw[a]at h;cases b:stepOk n₀ ann t with
   |false=>rw[b]at h;cases h
   |true =>
    rw[b]at h;cases c:stepT (denote tb) p w s t with
    |none=>rw[c]at h;cases h
    |some x=>rw[c]at h;rw[stepT_spec c];exact ih h
noncomputable def u3(p:Program)(w:World)(n₀:Nat)(ann:Option Value):Nat->SharedT->Thread->Option SharedT
 |0,_,_=>none
 |n+1,s,t=>match through t with
  |true=>some s
  |false=>match PySem.W.Fast.tw6613529449190102663 n₀ ann t with
   |false=>none
   |true=>match PySem.W.Fast.tw10156331382660048174 (PySem.W.Fast.tw11892475500146522536 PySem.W.Fast.tw14364793385576792824) p w s t with
    |some x=>u3 p w n₀ ann n x.1 x.2
    |none=>none
def Vf:∀{s:SharedT}{t:Thread},u3 p w n₀ ann n s t=vo treeTable p w n₀ ann n s t:=by
 induction n with
 |zero=>intro s t;rfl
 |succ n ih =>
  intro s t;unfold u3 vo;rw[<-XN,<-jfd,<-jfe,<-jfg];cases through t<;>cases stepOk n₀ ann t<;>try rfl
  cases stepT (denote treeTable) p w s t with
  |none=>rfl
  |some x=>exact ih
noncomputable def D9(P:Params):BT :=
 .node (boot_o_0 P)
  (.node (boot_o_1 P) (.node (boot_o_3 P) (.node (boot_o_7 P) .nil .nil) .nil) (.node (boot_o_5 P) (.node (boot_o_9 P) .nil .nil) .nil))
  (.node (boot_o_2 P) (.node (boot_o_4 P) (.node (boot_o_8 P) .nil .nil) .nil) (.node (boot_o_6 P) (.node (boot_o_10 P) .nil .nil) .nil))
def Z7(P:Params):boot_heap P=absHeap (D9 P) 11 (boot_heap P).life:=by kernel_rfl
def zbC(w:World):((boot_heap w.params).isNs mainGlobals,(boot_heap w.params).objs.size,(boot_heap w.params).nsMap mainGlobals "__annotations__")=(true,11,some (.ref 6)):=by kernel_rfl
abbrev F2(P:Params)(os:OsState):SharedT:=⟨D9 P,11,(boot_heap P).life,#[],boot_drawn,boot_toks,os⟩
def left
  (e:opening p=plainProg p.main.scope.names) (hN:Nat.ble 600 N=true) (f:∀s,fenceModules? p s=some s)
  (run:∀w:World,(λos=>(u3 p w 11 (some (.ref 6)) N (F2 w.params os) (topStub p)).map λs =>
    (staticsOk (importedModules p.main.body) (boot_heap w.params) s.abs.heap&&namesBound p s.abs.heap&&gensDone s.abs&&laidKept (boot_heap w.params) s.abs.heap,PySem.W.Fast.tw4187177175401517315 q loose (importedModules p.main.body) Xt true s.abs,Yf s.abs))=λ_=>some (true,openGood q loose,Ya w)):LeftO p q loose Xt Yf Ya N:=λw=>by
 obtain⟨⟨h,gs,d,k,os⟩,x,x'⟩:=DW.mp (boot_open e hN f w);obtain⟨rfl,rfl,rfl,rfl⟩:h=boot_heap w.params/\gs=Array.mk []/\d=boot_drawn/\k=boot_toks:=by simpa using x'
 obtain⟨z1,z2,z3⟩:_/\_/\_:=by simpa only [Py] using zbC w
 obtain⟨s,r,l⟩:=DW.mp (congrFun (run w) os);rw[<-jfj]at l;obtain⟨l1,l2,l3⟩:_/\_/\_:=by simpa only [Py] using l
 have t:=ZZ (Vf.symm.trans r);have b:(F2 w.params os).abs=⟨boot_heap w.params,Array.mk [],boot_drawn,boot_toks,os⟩:=by
  show (⟨absHeap (D9 w.params) 11 (boot_heap w.params).life,_,_,_,_⟩:Shared)=_;rw[<-Z7]
 rw[b]at t;have y:topFrom treeTable p w N ⟨boot_heap w.params,Array.mk [],boot_drawn,boot_toks,os⟩=some s.abs:=by
  unfold topFrom;dsimp only;rw[z1,z2,z3,t];show (match staticsOk (importedModules p.main.body) (boot_heap w.params) s.abs.heap&&namesBound p s.abs.heap&&gensDone s.abs&&laidKept (boot_heap w.params) s.abs.heap with|true=>_|false=>_)=_;rw[l1]
 unfold openEnds;rw[x];show (topFrom treeTable p w N _).map _=_;rw[y];exact congrArg some (Cv l2 l3)
end OH
namespace My
open PySem L2
noncomputable def Sr:List Stmt:=PySem.Challenge.pw_onceform_k82_lines_read.main.body
def HU:=aE Sr
def IP:=aE HU
def Iu:=aE IP
def bd4:=aE Iu
def JQ:=aE bd4
def KY:=aE JQ
def HZ:=aE KY
def Ie:=aE HZ
def JA:=aE Ie
def Oj:=aE JA
def Jm:=aE Oj
def Np:=aE Jm
def JL:=aE Np
def ZS:=aE JL
def Qh:=aE ZS
def IH:=aE Qh
def Ks:=aE IH
def Lx:=aE Ks
def Qx:=aE Lx
def Mx:=aE Qx
def Lz:=aE Mx
def Ob:=aE Lz
def QH:=aE Ob
def zbH:=aE QH
def zah:=aE zbH
def Ti:=aE zah
def V3:=aE Ti
def RP:=aE V3
def VL:=aE RP
def XB:=aE VL
def Zk:=aE XB
def Ww:=aE Zk
def J0:=aE Ww
def HK:=aE J0
def JV:=aE HK
def X6:=aE JV
def HY:=aE X6
def Mp:=aE HY
def YK:=aE Mp
def Kr:=aE YK
def Lk:=aE Kr
def MH:=aE Lk
def WJ:=aE MH
def zbj:=aE WJ
def XQ:=aE zbj
def Pw:=aE XQ
def Hf:=aE Pw
def Xo:=aE Hf
def zbh:=aE Xo
def Wu:=aE zbh
def zb4:=aE Wu
def J3:=aE zb4
def OE:=aE J3
def NZ:=aE OE
def KU:=aE NZ
def JU:=aE KU
def Nr:=aE JU
def G9:=aE Nr
def HS:=aE G9
def Iy:=aE HS
def II:=aE Iy
def Zt:=aE II
def VW:=aE Zt
def Lb:=aE VW
def Lo:=aE Lb
def Gq:=aE Lo
def Mg:=aE Gq
def IC:=aE Mg
def Hc:=aE IC
def ME:=aE Hc
def JK:=aE ME
def zbi:=aE JK
def Ws:=aE zbi
def zaj:=aE Ws
def Z6:=aE zaj
def IA:=aE Z6
def Hs:=aE IA
def Od:=aE Hs
def GH:=aE Od
def Qn:=aE GH
def K4:=aE Qn
def GK:=aE K4
def zbl:=aE GK
def Qd:=aE zbl
def za3:=aE Qd
def rp:=aE za3
def GJ:=aE rp
def Mo:=aE GJ
def Iv:=aE Mo
def Ow:=aE Iv
def JW:=aE Ow
def P5:=aE JW
def HJ:=aE P5
def RV:=aE HJ
def Jo:=aE RV
def Ij:=aE Jo
def NM:=aE Ij
def Pt:=aE NM
def Gj:=aE Pt
def Ls:=aE Gj
def Qr:=aE Ls
def Nv:=aE Qr
def NW:=aE Nv
def P4:=aE NW
def Jb:=aE P4
def Kz:=aE Jb
def Jh:=aE Kz
def LM:=aE Jh
def MB:=aE LM
def MT:=aE MB
def Iw:=aE MT
def La:=aE Iw
def Rv:=aE La
noncomputable abbrev M0:Value:=.str "onceform.bits" 187
noncomputable abbrev M1:Value:=.str "onceform.forms" 214
noncomputable abbrev M2:Value:=.str "onceform.changes" 294
noncomputable abbrev M3:Value:=.str "onceform.tables" 488
noncomputable abbrev M4:Value:=.str "onceform.least" 531
noncomputable abbrev M5:Value:=.str "onceform.words" 560
noncomputable abbrev M6:Value:=.str "onceform.statements" 587
noncomputable abbrev M7:Value:=.str "onceform.text" 694
noncomputable abbrev M8:Value:=.str "onceform.lines" 762
noncomputable abbrev M9:Value:=.str "onceform.trees" 867
noncomputable abbrev jv:Value:=.str "onceform.desk" 877
noncomputable abbrev fk:Value:=.str "law_onceform_k82_lines_read" 1001
abbrev xv:Rw:=⟨"is_name","is_name",["word"],1,aR K4,486,M8,855,338,3⟩
abbrev zZ:Rw:=⟨"is_number","is_number",["word"],1,aR GK,491,M8,861,340,3⟩
abbrev Fq:Rw:=⟨"is_of","is_of",["kind","word"],2,aR Qn,481,M8,847,330,5⟩
abbrev BE:Rw:=⟨"thing_read","thing_read",["kind","word"],2,aR GH,474,M8,839,322,5⟩
abbrev y0:Rw:=⟨"things_read","things_read",["kinds","words"],2,aR Od,467,M8,833,318,3⟩
abbrev Be:Rw:=⟨"kept_read","kept_read",["name","sign","text","words"],3,aR Hs,462,M8,823,313,7⟩
abbrev Eh:Rw:=⟨"line_read","line_read",["line","words"],1,aR IA,455,M8,815,308,5⟩
abbrev BO:Rw:=⟨"kept","Desk.kept",["self","name"],2,u5 (aR rp) 2,526,jv,910,362,5⟩
abbrev Af:Rw:=⟨"form_from","form_from",["numbers"],1,aR JQ,38,M1,216,16,3⟩
abbrev AZ:Rw:=⟨"times","times",["one","other","numbers","members","number","others","factor","both"],2,aR JA,66,M1,248,27,11⟩
abbrev E7:Rw:=⟨"made","made",["some","numbers","members","number"],1,aR KY,45,M1,222,18,7⟩
abbrev FG:Rw:=⟨"plus","plus",["one","other"],2,aR HZ,52,M1,232,23,5⟩
abbrev zV:Rw:=⟨"scaled","scaled",["form","number"],2,aR Oj,71,M1,262,34,3⟩
abbrev Cy:Rw:=⟨"less","less",["one","other"],2,aR Ie,59,M1,240,25,5⟩
abbrev BM:Rw:=⟨"combined","combined",["word","one","other"],3,aR Iv,568,jv,962,397,6⟩
abbrev Dr:Rw:=⟨"read_number","read_number",["figures","letters","number","figure"],2,aR ME,427,M7,741,285,7⟩
abbrev Dh:Rw:=⟨"doubled","doubled",["many","size","turn"],1,aR HU,21,M0,189,2,6⟩
abbrev CV:Rw:=⟨"read_set","read_set",["letters","members","last","letter","k"],1,aR JK,434,M7,751,294,8⟩
abbrev Fo:Rw:=⟨"read_tuple","read_tuple",["sign","word","letters","number"],2,aR Hc,420,M7,731,279,7⟩
abbrev Bi:Rw:=⟨"is_form","is_form",["some","last","members","number"],1,aR JL,90,M1,284,43,7⟩
abbrev yI:Rw:=⟨"form_read","form_read",["text","words","form"],1,aR IC,413,M7,725,264,3⟩
abbrev Ez:Rw:=⟨"token_at","token_at",["text","place","token"],2,aR Nr,356,M6,650,211,6⟩
abbrev Ed:Rw:=⟨"tokens_of","tokens_of",["text","tokens","place","token"],1,aR JU,349,M6,640,203,7⟩
abbrev CN:Rw:=⟨"with_joining","with_joining",["part","begun"],2,aR II,384,M6,686,244,5⟩
abbrev Bn:Rw:=⟨"with_nots","with_nots",["part","begun"],2,aR Iy,377,M6,678,240,5⟩
abbrev A6:Rw:=⟨"part_from","part_from",["token","begun","k"],2,aR G9,363,M6,659,216,6⟩
abbrev Fs:Rw:=⟨"part_after","part_after",["token","part","begun","word"],3,aR HS,370,M6,668,226,7⟩
abbrev AR:Rw:=⟨"read","read",["text","begun","part","token"],1,aR KU,342,M6,630,189,7⟩
abbrev Dp:Rw:=⟨"parts_of","parts_of",["statement","parts","waiting","part"],1,aR OE,328,M6,611,174,7⟩
abbrev Et:Rw:=⟨"unknowns","unknowns",["form","together","members","number"],1,aR Np,83,M1,274,38,7⟩
abbrev BX:Rw:=⟨"paired_tables","paired_tables",["one","other","many"],2,aR JV,254,M3,502,98,6⟩
abbrev C5:Rw:=⟨"joined","joined",["word","one","other","both","taken"],3,aR Hf,312,M5,576,150,8⟩
abbrev A2:Rw:=⟨"form_of_word","form_of_word",["word","parts","tables"],2,aR Pw,305,M5,570,143,3⟩
abbrev CM:Rw:=⟨"form_of_statement","form_of_statement",["statement","forms","part","word","last"],1,aR J3,321,M6,600,160,8⟩
abbrev FW:Rw:=⟨"bits_in","bits_in",["statement","bits","part"],1,aR NZ,335,M6,621,183,6⟩
abbrev Bs:Rw:=⟨"form_of_text","form_of_text",["text","statement"],1,aR GJ,554,jv,947,388,5⟩
abbrev yz:Rw:=⟨"without","without",["form","bit"],2,aR Qh,95,M2,296,51,3⟩
abbrev yJ:Rw:=⟨"freed","freed",["form","bit"],2,aR IH,100,M2,302,53,3⟩
abbrev FT:Rw:=⟨"fixed","fixed",["form","k","bit","own"],3,aR Ks,107,M2,308,55,7⟩
abbrev AY:Rw:=⟨"put_in","put_in",["form","k","other","own"],3,aR Qx,121,M2,325,62,7⟩
abbrev EI:Rw:=⟨"is_yes_no","is_yes_no",["form"],1,aR Lx,114,M2,318,60,4⟩
abbrev A3:Rw:=⟨"yes_no","yes_no",["form"],1,aR Mo,561,jv,955,393,4⟩
abbrev AG:Rw:=⟨"form_for","Desk.form_for",["self","word","things","form"],3,u5 (aR rp) 3,533,jv,918,367,7⟩
abbrev yY:Rw:=⟨"refuse_great","refuse_great",["form","bound"],1,aR Ow,573,jv,971,403,3⟩
abbrev yX:Rw:=⟨"gathered","gathered",["numbers","sign","turns","turn","without"],2,aR J0,242,M3,490,89,3⟩
abbrev yZ:Rw:=⟨"table_of","table_of",["form","many","numbers"],2,aR HK,247,M3,496,95,3⟩
abbrev xx:Rw:=⟨"floor","floor",["form"],1,aR Kr,276,M4,533,114,3⟩
abbrev DF:Rw:=⟨"paper_for","paper_for",["form","number","k"],2,aR MH,288,M4,545,122,6⟩
abbrev xY:Rw:=⟨"least","least",["form","many","table","number","size","inside"],2,aR Lk,281,M4,539,116,3⟩
abbrev Bh:Rw:=⟨"shown_sign","shown_sign",["number"],1,aR Lo,396,M7,704,256,4⟩
abbrev Gf:Rw:=⟨"bits_of","bits_of",["given","many","bits","k"],2,aR IP,28,M0,198,7,7⟩
abbrev zu:Rw:=⟨"listed","listed",["members"],1,aR Iu,33,M0,208,13,3⟩
abbrev xq:Rw:=⟨"shown_set","shown_set",["members"],1,aR Mg,408,M7,719,262,3⟩
abbrev DC:Rw:=⟨"shown_tuple","shown_tuple",["members","number"],2,aR Gq,403,M7,711,258,5⟩
abbrev xW:Rw:=⟨"form_shown","form_shown",["form","parts","ahead"],1,aR Lb,389,M7,698,250,3⟩
abbrev D6:Rw:=⟨"few_unknowns","few_unknowns",["form","many"],1,aR P5,587,jv,986,418,5⟩
abbrev DM:Rw:=⟨"holders","holders",["members","size"],2,aR Mp,271,M3,523,108,5⟩
abbrev xR:Rw:=⟨"whole_sum","whole_sum",["form","many","size"],2,aR HY,264,M3,517,105,3⟩
abbrev BS:Rw:=⟨"ways","ways",["form","many"],2,aR Qd,498,M9,869,345,5⟩
abbrev CB:Rw:=⟨"told_of","told_of",["word","form","found"],2,aR JW,580,jv,977,409,6⟩
abbrev Fv:Rw:=⟨"told_place","told_place",["given"],1,aR HJ,594,jv,994,423,4⟩
abbrev wG:Rw:=⟨"worth","worth",["form","given"],2,aR Jm,76,M1,268,36,3⟩
abbrev Bq:Rw:=⟨"first_set","first_set",["form"],1,aR Ob,140,M2,349,69,4⟩
abbrev Fi:Rw:=⟨"unlike","unlike",["one","other"],2,aR Mx,128,M2,335,65,5⟩
abbrev ya:Rw:=⟨"unlike_by","unlike_by",["one","other","m"],3,aR Lz,133,M2,343,67,3⟩
abbrev Ee:Rw:=⟨"answer","Desk.answer",["self","word","things","form"],3,u5 (aR rp) 4,540,jv,928,379,7⟩
abbrev DJ:Rw:=⟨"say","Desk.say",["self","line","name","word","things","form"],2,u5 (aR rp) 1,519,jv,898,353,9⟩
abbrev Ag:Rw:=⟨"_law_says","_law_says",["_law_desk","_law_line_here","_law_caught","_law_found","e","_law_sorts"],2,aR NM,613,fk,1024,443,3⟩
abbrev Ft:Rw:=⟨"_law_plain","_law_plain",["_law_desk","_law_line_here"],1,aR La,716,fk,1149,573,5⟩
abbrev Cc:Rw:=⟨"_law_name","_law_name",["_law_number_here"],1,aR Pt,620,fk,1030,458,4⟩
abbrev Fd:Rw:=⟨"_law_number","_law_number",["_law_number_here"],1,aR Gj,627,fk,1037,462,4⟩
abbrev E8:Rw:=⟨"_law_words","_law_words",["_law_xs","_law_way","_law_first","_law_second","_law_letter","_law_text"],1,aR Ls,634,fk,1044,464,9⟩
abbrev Eo:Rw:=⟨"_law_spoilt_line","_law_spoilt_line",["_law_line_here","_law_xs","_law_some","_law_sign","_law_at"],2,aR NW,655,fk,1073,497,8⟩
abbrev Br:Rw:=⟨"_law_odd_word","_law_odd_word",["_law_number_here","_law_some"],1,aR Qr,641,fk,1056,486,5⟩
abbrev DU:Rw:=⟨"_law_spoilt_words","_law_spoilt_words",["_law_words_here","_law_xs","_law_at"],2,aR Nv,648,fk,1064,490,6⟩
abbrev D8:Rw:=⟨"_law_line","_law_line",["_law_xs","_law_words_here"],1,aR P4,662,fk,1084,508,5⟩
abbrev AB:Rw:=⟨"_law_is_name","_law_is_name",["_law_word","_law_sign"],1,aR Jb,669,fk,1092,515,5⟩
abbrev Co:Rw:=⟨"_law_is_number","_law_is_number",["_law_word","_law_sign"],1,aR Kz,676,fk,1100,520,5⟩
abbrev Au:Rw:=⟨"_law_asked_fine","_law_asked_fine",["_law_word","_law_rest","_law_fine"],2,aR LM,690,fk,1116,533,6⟩
abbrev AI:Rw:=⟨"_law_made_fine","_law_made_fine",["_law_word","_law_rest"],2,aR Jh,683,fk,1108,525,5⟩
abbrev uT:Rw:=⟨"_law_due","_law_due",["_law_line_here","_law_words_here","_law_names"],1,aR MB,695,fk,1125,544,3⟩
abbrev xH:Rw:=⟨"__init__","Desk.__init__",["self"],1,u5 (aR rp) 0,512,jv,891,350,4⟩
abbrev C9:Rw:=⟨"_law_mixed","_law_mixed",["_law_cell","_law_k","_law_number_here"],2,aR Jo,601,fk,1003,426,6⟩
abbrev BP:Rw:=⟨"_law_stream","_law_stream",["_law_cell","_law_k","_law_found","_law_left","_law_j","_law_number_here"],2,aR Ij,608,fk,1012,430,9⟩
abbrev DH:Rw:=⟨"_law_text_due","_law_text_due",["_law_words_here","_law_text"],1,aR MT,702,fk,1131,561,5⟩
abbrev Cz:Rw:=⟨"_law_holds","_law_holds",["_law_desk","_law_line_here","_law_due_here","_law_found"],3,aR Iw,709,fk,1139,566,7⟩
abbrev oS:Rw:=⟨"law","law",["_law_script","_law_cells","_law_k","_law_line_here","_law_due_here","_law_desk"],1,aR Rv,723,fk,1157,581,9⟩
def rws:List Rw:=[xv,zZ,Fq,BE,y0,Be,Eh,BO,Af,AZ,E7,FG,zV,Cy,BM,Dr,Dh,CV,Fo,Bi,yI,Ez,Ed,CN,Bn,A6,Fs,AR,Dp,Et,BX,C5,A2,CM,FW,Bs,yz,yJ,FT,AY,EI,A3,AG,yY,yX,yZ,xx,DF,xY,Bh,Gf,zu,xq,DC,xW,D6,DM,xR,BS,CB,Fv,wG,Bq,Fi,ya,Ee,DJ,Ag,Ft,Cc,Fd,E8,Eo,Br,DU,D8,AB,Co,Au,AI,uT,xH,C9,BP,DH,Cz,oS]
def K (P:Params):Frag:=(3,⟨.type "dict",none,.dict #[en P "__name__" 165 (.str "law_onceform_k82_lines_read" 1001),en P "__doc__" 166 .none,en P "__package__" 167 .none,en P "__loader__" 168 (.builtin "__main__.__loader__#opaque"),en P "__spec__" 169 .none,en P "__annotations__" 170 (.ref 6),en P "__builtins__" 171 (.ref 4),en P "__file__" 173 (.str "/claim/cut.py" 172),en P "__cached__" 174 .none,en P "doubled" 197 (.ref 21),en P "bits_of" 207 (.ref 28),en P "listed" 213 (.ref 33),en P "form_from" 221 (.ref 38),en P "made" 231 (.ref 45),en P "plus" 239 (.ref 52),en P "less" 247 (.ref 59),en P "times" 261 (.ref 66),en P "scaled" 267 (.ref 71),en P "worth" 273 (.ref 76),en P "unknowns" 283 (.ref 83),en P "is_form" 293 (.ref 90),en P "without" 301 (.ref 95),en P "freed" 307 (.ref 100),en P "fixed" 317 (.ref 107),en P "is_yes_no" 324 (.ref 114),en P "put_in" 334 (.ref 121),en P "unlike" 342 (.ref 128),en P "unlike_by" 348 (.ref 133),en P "first_set" 355 (.ref 140),en P "FormError" 375 (.ref 150),en P "NoStatement" 391 (.ref 163),en P "NoPull" 407 (.ref 175),en P "NoForm" 423 (.ref 187),en P "NoLine" 439 (.ref 199),en P "NoName" 455 (.ref 211),en P "NoYesNo" 471 (.ref 223),en P "TooMany" 487 (.ref 235),en P "gathered" 495 (.ref 242),en P "table_of" 501 (.ref 247),en P "paired_tables" 510 (.ref 254),en P "form_of" 516 (.ref 259),en P "whole_sum" 522 (.ref 264),en P "holders" 530 (.ref 271),en P "floor" 538 (.ref 276),en P "least" 544 (.ref 281),en P "paper_for" 553 (.ref 288),en P "heaviest" 559 (.ref 293),en P "bit_of_word" 569 (.ref 300),en P "form_of_word" 575 (.ref 305),en P "joined" 586 (.ref 312),en P "LETTERS" 590 (.str "abcdefghijklmnop" 589),en P "JOINING" 594 (.ref 313),en P "SPACED" 599 (.ref 314),en P "form_of_statement" 610 (.ref 321),en P "parts_of" 620 (.ref 328),en P "bits_in" 629 (.ref 335),en P "read" 639 (.ref 342),en P "tokens_of" 649 (.ref 349),en P "token_at" 658 (.ref 356),en P "part_from" 667 (.ref 363),en P "part_after" 677 (.ref 370),en P "with_nots" 685 (.ref 377),en P "with_joining" 693 (.ref 384),en P "FIGURES" 697 (.str "0123456789" 696),en P "form_shown" 703 (.ref 389),en P "shown_sign" 710 (.ref 396),en P "shown_tuple" 718 (.ref 403),en P "shown_set" 724 (.ref 408),en P "form_read" 730 (.ref 413),en P "read_tuple" 740 (.ref 420),en P "read_number" 750 (.ref 427),en P "read_set" 761 (.ref 434),en P "SMALL_LETTERS" 765 (.str "abcdefghijklmnopqrstuvwxyz" 764),en P "ASKED" 791 (.ref 435),en P "MADE" 814 (.ref 443),en P "line_read" 822 (.ref 455),en P "kept_read" 832 (.ref 462),en P "things_read" 838 (.ref 467),en P "thing_read" 846 (.ref 474),en P "is_of" 854 (.ref 481),en P "is_name" 860 (.ref 486),en P "is_number" 866 (.ref 491),en P "ways" 876 (.ref 498),en P "Desk" 946 (.ref 543),en P "form_of_text" 954 (.ref 554),en P "yes_no" 961 (.ref 561),en P "combined" 970 (.ref 568),en P "refuse_great" 976 (.ref 573),en P "told_of" 985 (.ref 580),en P "few_unknowns" 993 (.ref 587),en P "told_place" 1000 (.ref 594),en P "_law_mixed" 1011 (.ref 601),en P "_law_stream" 1023 (.ref 608),en P "_law_says" 1029 (.ref 613),en P "_law_name" 1036 (.ref 620),en P "_law_number" 1043 (.ref 627),en P "_law_words" 1055 (.ref 634),en P "_law_odd_word" 1063 (.ref 641),en P "_law_spoilt_words" 1072 (.ref 648),en P "_law_spoilt_line" 1083 (.ref 655),en P "_law_line" 1091 (.ref 662),en P "_law_is_name" 1099 (.ref 669),en P "_law_is_number" 1107 (.ref 676),en P "_law_made_fine" 1115 (.ref 683),en P "_law_asked_fine" 1124 (.ref 690),en P "_law_due" 1130 (.ref 695),en P "_law_text_due" 1138 (.ref 702),en P "_law_holds" 1148 (.ref 709),en P "_law_plain" 1156 (.ref 716),en P "law" 1168 (.ref 723)] 110,#[]⟩) :: (rws.flatMap Rw.rows ++ [(149,⟨.type "dict",none,.dict #[en P "__module__" 365 (.str "onceform.errors" 356),en P "__firstlineno__" 369 (.int 72 368),en P "__static_attributes__" 370 (.ref 148),en P "__weakref__" 372 (.ref 151),en P "__doc__" 373 .none] 3,#[]⟩),(150,⟨.type "type",none,.cls ⟨"FormError",[.type "ValueError"],[.ref 150,.type "ValueError",.type "Exception",.type "BaseException",.type "object"],149,"FormError",true,[],[.ref 163,.ref 175,.ref 187,.ref 199,.ref 211,.ref 223,.ref 235],false,none,false⟩,#[some (.ref 141),none,some (.str "FormError" 358),some (.str "FormError" 366),some (.builtin "ValueError.__new__"),some (.bool true)]⟩),(162,⟨.type "dict",none,.dict #[en P "__module__" 383 (.str "onceform.errors" 356),en P "__firstlineno__" 387 (.int 74 386),en P "__static_attributes__" 388 (.ref 161),en P "__doc__" 389 .none] 2,#[]⟩),(163,⟨.type "type",none,.cls ⟨"NoStatement",[.ref 150],[.ref 163,.ref 150,.type "ValueError",.type "Exception",.type "BaseException",.type "object"],162,"NoStatement",true,[],[],false,none,false⟩,#[some (.ref 154),none,some (.str "NoStatement" 376),some (.str "NoStatement" 384),some (.builtin "ValueError.__new__"),some (.bool true)]⟩),(174,⟨.type "dict",none,.dict #[en P "__module__" 399 (.str "onceform.errors" 356),en P "__firstlineno__" 403 (.int 76 402),en P "__static_attributes__" 404 (.ref 173),en P "__doc__" 405 .none] 2,#[]⟩),(175,⟨.type "type",none,.cls ⟨"NoPull",[.ref 150],[.ref 175,.ref 150,.type "ValueError",.type "Exception",.type "BaseException",.type "object"],174,"NoPull",true,[],[],false,none,false⟩,#[some (.ref 166),none,some (.str "NoPull" 392),some (.str "NoPull" 400),some (.builtin "ValueError.__new__"),some (.bool true)]⟩),(186,⟨.type "dict",none,.dict #[en P "__module__" 415 (.str "onceform.errors" 356),en P "__firstlineno__" 419 (.int 78 418),en P "__static_attributes__" 420 (.ref 185),en P "__doc__" 421 .none] 2,#[]⟩),(187,⟨.type "type",none,.cls ⟨"NoForm",[.ref 150],[.ref 187,.ref 150,.type "ValueError",.type "Exception",.type "BaseException",.type "object"],186,"NoForm",true,[],[],false,none,false⟩,#[some (.ref 178),none,some (.str "NoForm" 408),some (.str "NoForm" 416),some (.builtin "ValueError.__new__"),some (.bool true)]⟩),(198,⟨.type "dict",none,.dict #[en P "__module__" 431 (.str "onceform.errors" 356),en P "__firstlineno__" 435 (.int 80 434),en P "__static_attributes__" 436 (.ref 197),en P "__doc__" 437 .none] 2,#[]⟩),(199,⟨.type "type",none,.cls ⟨"NoLine",[.ref 150],[.ref 199,.ref 150,.type "ValueError",.type "Exception",.type "BaseException",.type "object"],198,"NoLine",true,[],[],false,none,false⟩,#[some (.ref 190),none,some (.str "NoLine" 424),some (.str "NoLine" 432),some (.builtin "ValueError.__new__"),some (.bool true)]⟩),(210,⟨.type "dict",none,.dict #[en P "__module__" 447 (.str "onceform.errors" 356),en P "__firstlineno__" 451 (.int 82 450),en P "__static_attributes__" 452 (.ref 209),en P "__doc__" 453 .none] 2,#[]⟩),(211,⟨.type "type",none,.cls ⟨"NoName",[.ref 150],[.ref 211,.ref 150,.type "ValueError",.type "Exception",.type "BaseException",.type "object"],210,"NoName",true,[],[],false,none,false⟩,#[some (.ref 202),none,some (.str "NoName" 440),some (.str "NoName" 448),some (.builtin "ValueError.__new__"),some (.bool true)]⟩),(222,⟨.type "dict",none,.dict #[en P "__module__" 463 (.str "onceform.errors" 356),en P "__firstlineno__" 467 (.int 84 466),en P "__static_attributes__" 468 (.ref 221),en P "__doc__" 469 .none] 2,#[]⟩),(223,⟨.type "type",none,.cls ⟨"NoYesNo",[.ref 150],[.ref 223,.ref 150,.type "ValueError",.type "Exception",.type "BaseException",.type "object"],222,"NoYesNo",true,[],[],false,none,false⟩,#[some (.ref 214),none,some (.str "NoYesNo" 456),some (.str "NoYesNo" 464),some (.builtin "ValueError.__new__"),some (.bool true)]⟩),(234,⟨.type "dict",none,.dict #[en P "__module__" 479 (.str "onceform.errors" 356),en P "__firstlineno__" 483 (.int 86 482),en P "__static_attributes__" 484 (.ref 233),en P "__doc__" 485 .none] 2,#[]⟩),(235,⟨.type "type",none,.cls ⟨"TooMany",[.ref 150],[.ref 235,.ref 150,.type "ValueError",.type "Exception",.type "BaseException",.type "object"],234,"TooMany",true,[],[],false,none,false⟩,#[some (.ref 226),none,some (.str "TooMany" 472),some (.str "TooMany" 480),some (.builtin "ValueError.__new__"),some (.bool true)]⟩),(313,⟨.type "tuple",none,.seq #[.str "and" 591,.str "or" 592,.str "xor" 593] 0,#[]⟩),(314,⟨.type "tuple",none,.seq #[.str "not " 595,.str " and " 596,.str " or " 597,.str " xor " 598] 0,#[]⟩),(435,⟨.type "dict",none,.dict #[en P "show" 766 (.ref 436),en P "worth" 768 (.ref 437),en P "alike" 771 (.ref 438),en P "rest" 774 (.ref 439),en P "least" 778 (.ref 440),en P "ways" 780 (.ref 441),en P "unknowns" 782 (.ref 442)] 7,#[]⟩),(436,⟨.type "tuple",none,.seq #[.str "name" 767] 0,#[]⟩),(437,⟨.type "tuple",none,.seq #[.str "name" 769,.str "number" 770] 0,#[]⟩),(438,⟨.type "tuple",none,.seq #[.str "name" 772,.str "name" 773] 0,#[]⟩),(439,⟨.type "tuple",none,.seq #[.str "name" 775,.str "name" 776,.str "divisor" 777] 0,#[]⟩),(440,⟨.type "tuple",none,.seq #[.str "name" 779] 0,#[]⟩),(441,⟨.type "tuple",none,.seq #[.str "name" 781] 0,#[]⟩),(442,⟨.type "tuple",none,.seq #[.str "name" 783] 0,#[]⟩),(443,⟨.type "dict",none,.dict #[en P "plus" 792 (.ref 444),en P "less" 795 (.ref 445),en P "times" 798 (.ref 446),en P "fixed" 801 (.ref 447),en P "put" 805 (.ref 448)] 5,#[]⟩),(444,⟨.type "tuple",none,.seq #[.str "name" 793,.str "name" 794] 0,#[]⟩),(445,⟨.type "tuple",none,.seq #[.str "name" 796,.str "name" 797] 0,#[]⟩),(446,⟨.type "tuple",none,.seq #[.str "name" 799,.str "name" 800] 0,#[]⟩),(447,⟨.type "tuple",none,.seq #[.str "name" 802,.str "letter" 803,.str "bit" 804] 0,#[]⟩),(448,⟨.type "tuple",none,.seq #[.str "name" 806,.str "letter" 807,.str "name" 808] 0,#[]⟩),(542,⟨.type "dict",none,.dict #[en P "__module__" 886 (.str "onceform.desk" 877),en P "__firstlineno__" 890 (.int 348 889),en P "__init__" 897 (.ref 512),en P "say" 909 (.ref 519),en P "kept" 917 (.ref 526),en P "form_for" 927 (.ref 533),en P "answer" 937 (.ref 540),en P "__static_attributes__" 939 (.ref 541),en P "__dict__" 941 (.ref 544),en P "__weakref__" 943 (.ref 545),en P "__doc__" 944 .none] 4,#[]⟩),(543,⟨.type "type",none,.cls ⟨"Desk",[.type "object"],[.ref 543,.type "object"],542,"Desk",true,[],[],false,none,false⟩,#[none,none,some (.str "Desk" 879),some (.str "Desk" 887),some (.builtin "object.__new__"),some (.bool true)]⟩)])
def as:List Addr:=3::(rws.flatMap (λr=>[r.a-1,r.a])++[149,150,162,163,174,175,186,187,198,199,210,211,222,223,234,235,313,314,435,436,437,438,439,440,441,442,443,444,445,446,447,448,542,543])
noncomputable def lo:List Str := "doubled" :: "bits_of" :: "listed" :: "form_from" :: "made" :: "plus" :: "less" :: "times" :: "scaled" :: "worth" :: "unknowns" :: "is_form" :: "without" :: "freed" :: "fixed" :: "is_yes_no" :: "put_in" :: "unlike" :: "unlike_by" :: "first_set" :: "FormError" :: "NoStatement" :: "NoPull" :: "NoForm" :: "NoLine" :: "NoName" :: "NoYesNo" :: "TooMany" :: "gathered" :: "table_of" :: "paired_tables" :: "form_of" :: "whole_sum" :: "holders" :: "floor" :: "least" :: "paper_for" :: "heaviest" :: "bit_of_word" :: "form_of_word" :: "joined" :: "LETTERS" :: "JOINING" :: "SPACED" :: "form_of_statement" :: "parts_of" :: "bits_in" :: "read" :: "tokens_of" :: "token_at" :: "part_from" :: "part_after" :: "with_nots" :: "with_joining" :: "FIGURES" :: "form_shown" :: "shown_sign" :: "shown_tuple" :: "shown_set" :: "form_read" :: "read_tuple" :: "read_number" :: "read_set" :: "SMALL_LETTERS" :: "ASKED" :: "MADE" :: "line_read" :: "kept_read" :: "things_read" :: "thing_read" :: "is_of" :: "is_name" :: "is_number" :: "ways" :: "Desk" :: "form_of_text" :: "yes_no" :: "combined" :: "refuse_great" :: "told_of" :: "few_unknowns" :: "told_place" :: "_law_mixed" :: "_law_stream" :: "_law_says" :: "_law_name" :: "_law_number" :: "_law_words" :: "_law_odd_word" :: "_law_spoilt_words" :: "_law_spoilt_line" :: "_law_line" :: "_law_is_name" :: "_law_is_number" :: "_law_made_fine" :: "_law_asked_fine" :: "_law_due" :: "_law_text_due" :: "_law_holds" :: "_law_plain" :: []
noncomputable abbrev Pg:Program:=PySem.Challenge.rw_onceform_k82_lines_read.row.toRowW.prog
abbrev Q:Program:=PySem.W.view Pg [113]
def zbG(P:Params):as=(K P).map (·.1):=by kernel_rfl
abbrev Hk:PySem.W.Hook:=PySem.W.kHook K as zbG
abbrev Xq:Shared->Bool:=λs=>PySem.W.xlAt Q [] s&&PySem.W.recOk (PySem.W.RowW.records PySem.Challenge.rw_onceform_k82_lines_read.row.toRowW) s
open PySem.W PyProof.Rows in
abbrev Hl(w:World):Prop:=(λos=>(OH.u3 Pg w 11 (some (.ref 6)) 10038 (OH.F2 w.params os) (topStub Pg)).map λs =>
  (staticsOk (importedModules Pg.main.body) (boot_heap w.params) s.abs.heap&&namesBound Pg s.abs.heap&&gensDone s.abs&&laidKept (boot_heap w.params) s.abs.heap,PySem.W.Fast.tw4187177175401517315 Q lo (importedModules Pg.main.body) Xq true s.abs,Hk.obs s.abs))=λ_=>some (true,openGood Q lo,Hk.val w)
set_option maxHeartbeats 0 in
def zbz(w:World):Hl (w.withFollow "special-get-raises" false):=by kernel_rfl
set_option maxHeartbeats 0 in
def Y0(w:World):Hl (w.withFollow "special-get-raises" true):=by kernel_rfl
set_option maxHeartbeats 0 in
def left:PySem.W.LeftO Pg Q lo Xq Hk.obs Hk.val 10038:=OH.left (by kernel_rfl) (by decide) (λs=>by kernel_rfl) (PySem.W.byRow2 "special-get-raises" zbz Y0)
set_option maxHeartbeats 0 in
def FO:PySem.Challenge.rw_onceform_k82_lines_read.wellSaid=true:=(congrFun ZK _).trans (by kernel_rfl)
end My
namespace L2
open PySem PySem.Spec PyProof.Rows
abbrev bO:=Sum Int Str
noncomputable def rK:bO->Value->Bool
 |.inl k,v=>Value.isInt k v
 |.inr x,v=>Value.isStrOf x v
noncomputable def zcv(w:World):bO->Int
 |.inl k=>hashInt k
 |.inr x=>hashStr w x
theorem mr:∀{k:bO}{v:Value},rK k v=true->(∃i t,k=Sum.inl i/\v=Value.int i t)\/(∃x t,k=Sum.inr x/\v=Value.str x t)
 |.inl i,v,h=>by
  obtain⟨t,e⟩:=Qt (k:=i) (v:=v) h;exact .inl ⟨i,t,rfl,e⟩
 |.inr x,v,h=>by
  obtain⟨t,e⟩:=Value.isStrOf_shape (x:=x) (v:=v) h;exact .inr ⟨x,t,rfl,e⟩
def RB(i:Int)(t:Tok):rK (.inl i) (.int i t)=true:=by simp[rK,Value.isInt]
def zaw(x:Str)(t:Tok):rK (.inr x) (.str x t)=true:=by simp[rK,Value.isStrOf]
def ZP(a b:Int):decide ((Sum.inl a:bO)=Sum.inl b)=(a == b):=by
 by_cases e:a=b
 ·subst e;simp
 ·have h:¬(Sum.inl a:bO)=Sum.inl b:=λq=>e (Sum.inl.inj q)
  rw[aL h];exact (oW.mpr e).symm
def zbQ(a b:Str):decide ((Sum.inr a:bO)=Sum.inr b)=decide (a=b):=by
 by_cases e:a=b
 ·subst e;simp
 ·have h:¬(Sum.inr a:bO)=Sum.inr b:=λq=>e (Ak q)
  rw[aL h,aL e]
def VV(a:Int)(b:Str):decide ((Sum.inl a:bO)=Sum.inr b)=false:=aL (λq=>nomatch q)
def Xi(a:Str)(b:Int):decide ((Sum.inr a:bO)=Sum.inl b)=false:=aL (λq=>nomatch q)
def eJ(prog:Program)(w:World):PySem.KeyKind prog w bO where
 is:=rK
 hash:=zcv w
 inj:=λv a b ha hb=>by
  rcases mr ha with ⟨i,t,rfl,rfl⟩|⟨x,t,rfl,rfl⟩
  ·rcases mr hb with ⟨j,u,rfl,e⟩|⟨y,u,rfl,e⟩
   ·injection e with e1 _;rw[e1]
   ·exact nomatch e
  ·rcases mr hb with ⟨j,u,rfl,e⟩|⟨y,u,rfl,e⟩
   ·exact nomatch e
   ·injection e with e1 _;rw[e1]
 byValue:=λk v h=>by
  rcases mr h with ⟨i,t,rfl,rfl⟩|⟨x,t,rfl,rfl⟩<;>rfl
 pyHash:=λhv h=>by
  rcases mr hv with ⟨i,t,rfl,rfl⟩|⟨x,t,rfl,rfl⟩
  ·exact wpAny_pyHash_int h
  ·exact wpAny_pyHash_str h
 eqBool:=λhu hv h=>by
  rcases mr hu with ⟨i,t,rfl,rfl⟩|⟨x,t,rfl,rfl⟩
  ·rcases mr hv with ⟨j,u,rfl,rfl⟩|⟨y,u,rfl,rfl⟩
   ·rw[ZP]at h;exact wpAny_eqBool_int h
   ·rw[VV]at h;exact MA i t y u _ _ _ _ h
  ·rcases mr hv with ⟨j,u,rfl,rfl⟩|⟨y,u,rfl,rfl⟩
   ·rw[Xi]at h;exact Kl x t j u _ _ _ _ h
   ·rw[zbQ]at h;exact wpAny_eqBool_str h
 «strs» := λk x t v h=>by
  rcases mr h with ⟨i,u,rfl,e⟩|⟨y,u,rfl,e⟩
  ·exact nomatch e
  ·injection e with e1 _
   subst e1;cases v<;>rfl
def LN(prog:Program)(w:World)(i:Int)(t:Tok):(eJ prog w).is (.inl i) (.int i t)=true:=RB i t
def qB(prog:Program)(w:World)(x:Str)(t:Tok):(eJ prog w).is (.inr x) (.str x t)=true:=zaw x t
inductive V where
 |non|bl (b:Bool)|int (i:Int)|str (x:Str)|byt (b:Array UInt8)|flt (b:UInt64)|ref (a:Addr)|ty (n:String)
 deriving DecidableEq
def RelV:V->Value->Prop
 |.non,u=>u=Value.none
 |.bl b,u=>u=Value.bool b
 |.int i,u=>∃t,u=Value.int i t
 |.str x,u=>∃t,u=Value.str x t
 |.byt b,u=>∃t,u=Value.bytes b t
 |.flt b,u=>∃t,u=Value.float b t
 |.ref a,u=>u=Value.ref a
 |.ty n,u=>u=Value.type n
abbrev Vals:List V->List Value->Prop:=Paired RelV
def Vals.length(r:Vals xs us):xs.length=us.length:=dP r
theorem Vals.get:∀{xs:List V}{us:List Value}{i:Nat}{x:V},Vals xs us->xs[i]?=some x->∃u,us[i]?=some u/\RelV x u
 |_,_,_,_,.nil,e=>by simp at e
 |_,_,0,_,.cons r _,e=>by simp at e;subst e;nomatch _,rfl,r
 |_,_,i+1,x,.cons _ t,e=>by
  obtain⟨u,h1,h2⟩:=Vals.get (i:=i) (x:=x) t (by simpa using e);nomatch u,by simpa using h1,h2
theorem Vals.set(r:RelV x u):∀{xs:List V}{us:List Value} (i:Nat),Vals xs us->Vals (xs.set i x) (us.set i u)
 |_,_,_,.nil=>.nil
 |_,_,0,.cons _ t=>.cons r t
 |_,_,i+1,.cons q t=>.cons q (Vals.set r i t)
theorem Vals.append:∀{xs ys:List V}{us ws:List Value},Vals xs us->Vals ys ws->Vals (xs++ys) (us++ws)
 |_,_,_,_,.nil,s=>s
 |_,_,_,_,.cons r t,s=>.cons r (Vals.append t s)
theorem Vals.take:∀{xs:List V}{us:List Value} (n:Nat),Vals xs us->Vals (xs.take n) (us.take n)
 |_,_,0,_=>.nil
 |_,_,_+1,.nil=>.nil
 |_,_,n+1,.cons r t=>.cons r (Vals.take n t)
theorem Vals.drop:∀{xs:List V}{us:List Value} (n:Nat),Vals xs us->Vals (xs.drop n) (us.drop n)
 |_,_,0,r=>r
 |_,_,_+1,.nil=>.nil
 |_,_,n+1,.cons _ t=>Vals.drop n t
def fQ:Option V->Option Value->Prop
 |some v,some u=>RelV v u
 |none,none=>True
 |_,_=>False
def KV{κ:Type}:List (κ×V)->List (κ×Value)->Prop:=Paired λ(p:κ×V) (q:κ×Value)=>p.1=q.1/\RelV p.2 q.2
noncomputable def kV:bO->V
 |.inl i=>.int i
 |.inr x=>.str x
inductive HO where
 |lst (xs:List V)
 |tup (xs:List V)
 |dK (kvs:List (bO×V))|dT (kvs:List (List bO×V))
 |set (S:Int->Bool) (n:Nat)
 |ins (C dx:Addr) (fs:List (Str×V))
 |own (x:Addr)
 |xd (fs:List (Str×V))
 |met (f x:Addr)
 |rng (lo hi:Int)
 |frz (o:Obj) (u:HO)
 |tbl (ps:Array Value)
 |ext (φ:Heap->Prop)
abbrev Hp:=Addr->Option HO
noncomputable def upd(H:Hp)(a:Addr)(o:HO):Hp:=λb=>if b=a then some o else H b
def au:upd H a o a=some o:=by unfold upd;rw[ax rfl]
def aO(h:b≠a):upd H a o b=H b:=by unfold upd;rw[aq h]
def zX:upd (upd H a o) a u=upd H a u:=by
 funext b;unfold upd;split<;>rfl
def qM{H:Hp}{a b:Addr}{o u:HO}(h:H a=some o)(h':H b=some u)(d:o≠u):a≠b:=by
 intro e;subst e;rw[h]at h';exact d (cD h')
def cE{H:Hp}{a b:Addr}{o:HO}(h:H a=some o)(h':H b=none):a≠b:=by
 intro e;subst e;rw[h]at h';cases h'
section
variable(P:Program)(w:World)
def cn(H:Hp)(h:Heap)(a:Addr):HO->Prop
 |.lst xs=>xs.length<=sizeLine/\∃(af:List Value) (n:Nat),Vals xs af/\h.get? a=some {cls:=.type "list",data:=.seq af.toArray n}
 |.tup xs=>xs.length<=sizeLine/\∃af:List Value,Vals xs af/\IsTup h a af.toArray
 |.dK kvs=>kvs.length<=sizeLine/\(a == sysModules)=false/\∃vs,KV kvs vs/\h.DictOf (eJ P w) a vs
 |.dT kvs=>kvs.length<=sizeLine/\(a == sysModules)=false/\∃xs:List (List bO×Addr×Value),
   Paired (λ(p:List bO×V) (q:List bO×Addr×Value)=>p.1=q.1/\H q.2.1=some (.tup (p.1.map kV))/\RelV p.2 q.2.2) kvs xs /\
   ∃o es ep,h.get? a=some o/\o.ExactDict/\o.data=.dict es ep/\es.toList=xs.map (entryOfKey (tupleKind (eJ P w)))/\(xs.map (·.1)).Nodup
 |.set S n=>h.SetOf (intKind P w) a S n
 |.ins C dx fs=>H dx=some (.own a)/\fs.length<=1000/\dx≠a/\h.get? a=some (PySem.W.instObj C dx) /\
   ∃mA,h.Ns1 dx mA/\(∀f,fQ (fs.lookup f) (mA f))/\PySem.Within mA (fs.map (·.1))
 |.own _=>∃o,h.get? a=some o
 |.xd fs=>∃mA,h.Ns1 a mA/\∀f,fQ (fs.lookup f) (mA f)
 |.rng lo hi=>∃t u v,h.get? a=some {cls:=.type "range",data:=.fields #[.int lo t,.int hi u,.int 1 v]}
 |.frz o u=>h.get? a=some o/\cn H h a u
 |.tbl ps=>h.get? a=some {cls:=.none,data:=.fields ps}
 |.met f x=>h.get? a=some (PySem.W.methodObj (.ref f) (.ref x))
 |.ext φ=>φ h/\(∃o,h.get? a=some o)/\∀h1 h2:Heap,φ h1->(∀o,h1.get? a=some o->h2.get? a=some o)->φ h2
def cm(H:Hp)(h:Heap):Prop:=∀a o,H a=some o->cn P w H h a o
end
section
variable{P:Program}{w:World}{H H':Hp}{h h':Heap}{a:Addr}{o:HO}
def cn.lt(x:cn P w H h a o):a<h.objs.size:=by
 cases o with
 |lst xs=>obtain⟨_,_,_,_,e⟩:=x;exact bo e
 |tup xs=>obtain⟨_,_,_,p⟩:=x;exact p.lt
 |dK kvs=>obtain⟨_,_,_,_,o,_,_,e,_⟩:=x;exact bo e
 |dT kvs=>obtain⟨_,_,_,_,o,_,_,e,_⟩:=x;exact bo e
 |set S n=>obtain⟨o,_,_,_,e,_⟩:=x;exact bo e
 |ins C dx fs=>obtain⟨_,_,_,e,_⟩:=x;exact bo e
 |own y=>obtain⟨_,e⟩:=x;exact bo e
 |xd fs=>obtain⟨_,⟨_,_,_,e,_⟩,_⟩:=x;exact bo e
 |rng lo hi=>obtain⟨_,_,_,e⟩:=x;exact bo e
 |frz ob u=>obtain⟨e,_⟩:=x;exact bo e
 |tbl ps=>exact bo (show h.get? a=some _ from x)
 |met f y=>exact bo (show h.get? a=some _ from x)
 |ext φ=>obtain⟨_,⟨_,e⟩,_⟩:=x;exact bo e
theorem Paired.mapP:∀{l₁:List α}{l₂:List β},Paired F l₁ l₂->(∀a b,F a b->G a b)->Paired G l₁ l₂
 |_,_,.nil,_=>.nil
 |_,_,.cons r t,f=>.cons (f _ _ r) (Paired.mapP t f)
def cn.stay(x:cn P w H h a o)(k:∀b u,(b=a\/H b=some (.own a))->h.get? b=some u->h'.get? b=some u)
  (ho:∀b,H b=some (.own a)->H' b=some (.own a)) (ht:∀b xs,H b=some (.tup xs)->H' b=some (.tup xs)):cn P w H' h' a o:=by
 induction o with
 |lst xs=>obtain⟨z,af,n,r,e⟩:=x;nomatch z,af,n,r,k _ _ (.inl rfl) e
 |tup xs=>obtain⟨z,af,r,ob,e,c⟩:=x;nomatch z,af,r,ob,k _ _ (.inl rfl) e,c
 |dK kvs=>obtain⟨z,y,vs,r,ob,es,ep,e,c⟩:=x;nomatch z,y,vs,r,ob,es,ep,k _ _ (.inl rfl) e,c
 |dT kvs =>
  obtain⟨z,y,xs,r,ob,es,ep,e,c⟩:=x;nomatch z,y,xs,Paired.mapP r λp q z=>⟨z.1,ht _ _ z.2.1,z.2.2⟩,ob,es,ep,k _ _ (.inl rfl) e,c
 |set S n=>obtain⟨ob,es,ep,t,e,c⟩:=x;nomatch ob,es,ep,t,k _ _ (.inl rfl) e,c
 |ins C dx fs =>
  obtain⟨d,z,ne,e,mA,⟨od,es,ep,e2,c⟩,r⟩:=x;nomatch ho _ d,z,ne,k _ _ (.inl rfl) e,mA,⟨od,es,ep,k _ _ (.inr d) e2,c⟩,r
 |own y=>obtain⟨ob,e⟩:=x;nomatch ob,k _ _ (.inl rfl) e
 |xd fs=>obtain⟨mA,⟨od,es,ep,e,c⟩,r⟩:=x;nomatch mA,⟨od,es,ep,k _ _ (.inl rfl) e,c⟩,r
 |rng lo hi=>obtain⟨t,u,v,e⟩:=x;nomatch t,u,v,k _ _ (.inl rfl) e
 |frz ob u ih=>obtain⟨e,q⟩:=x;nomatch k _ _ (.inl rfl) e,ih q
 |tbl ps =>
  have e:h.get? a=some {cls:=.none,data:=.fields ps}:=x;show h'.get? a=some {cls:=.none,data:=.fields ps};exact k a _ (.inl rfl) e
 |met f y =>
  have e:h.get? a=some (PySem.W.methodObj (.ref f) (.ref y)):=x;show h'.get? a=some (PySem.W.methodObj (.ref f) (.ref y));exact k a _ (.inl rfl) e
 |ext φ=>obtain⟨p,⟨o,e⟩,st⟩:=x;nomatch st _ _ p λo q=>k _ _ (.inl rfl) q,⟨o,k _ _ (.inl rfl) e⟩,st
def cm.lt(x:cm P w H h)(e:H a=some o):a<h.objs.size:=(x a o e).lt
def cm.fresh(x:cm P w H h)(e:h.objs.size<=a):H a=none:=by
 cases q:H a with
 |none=>rfl
 |some u=>exact absurd (cy (x.lt q) e) (oN _)
def cm.kept(x:cm P w H h)(k:∀b u,h.get? b=some u->h'.get? b=some u):cm P w H h':=λa o e =>
 (x a o e).stay (λb u _ q=>k b u q) (λ_ q=>q) λ_ _ q=>q
def cm.laid(x:cm P w H h)(k:∀b u,h.get? b=some u->h'.get? b=some u)(hp:h.objs.size<=a)(new:cn P w (upd H a o) h' a o):cm P w (upd H a o) h':=λb u e=>by
 have hn:=x.fresh hp;by_cases hb:b=a
 ·subst hb;rw[au]at e;cases e;exact new
 ·rw[aO hb]at e;exact (x b u e).stay (λc v _ q=>k c v q) (λc q=>by rw[aO (cE q hn)];exact q) λc xs q=>by rw[aO (cE q hn)];exact q
end
def Rd(H:Hp)(a:Addr)(u:HO):Prop:=H a=some u\/∃o,H a=some (.frz o u)
def Rd.ok(r:Rd H a u)(x:cm P w H h):cn P w H h a u:=by
 rcases r with r|⟨o,r⟩
 ·exact x a u r
 ·obtain⟨_,q⟩:=x a _ r;exact q
def tU:Option HO->Prop
 |some (.lst _)=>True
 |some (.dK _)=>True
 |some (.dT _)=>True
 |some (.set _ _)=>True
 |some (.ins _ _ _)=>True
 |some (.ext _)=>True
 |_=>False
section
variable{P:Program}{w:World}{H:Hp}{h h':Heap}{x e:Addr}{o':HO}
def cm.write(ok:cm P w H h)(mu:tU (H x))(he:e=x\/H e=some (.own x))(k:∀b u,b≠e->h.get? b=some u->h'.get? b=some u)(sZ:∃u,h'.get? e=some u)
  (new:cn P w (upd H x o') h' x o'):cm P w (upd H x o') h':=λb u q=>by
 have Jq:∀c y,H c=some (.own y)->c≠x:=λc y r z=>by subst z;rw[r]at mu;exact mu
 have UE:∀c xs,H c=some (.tup xs)->c≠x:=λc xs r z=>by subst z;rw[r]at mu;exact mu
 by_cases hb:b=x
 ·subst hb;rw[au]at q;cases q;exact new
 ·rw[aO hb]at q;by_cases hbe:b=e
  ·have q':H b=some (.own x):=by
    rcases he with z|z
    ·exact absurd (hbe.trans z) hb
    ·rw[hbe];exact z
   rw[q]at q';cases q';obtain⟨v,hv⟩:=sZ;exact⟨v,by rw[hbe];exact hv⟩
  ·refine (ok b u q).stay (λc v hc r=>k c v ?_ r) (λc r=>by rw[aO (Jq c b r)];exact r) λc xs r=>by rw[aO (UE c xs r)];exact r
   rcases hc with rfl|hc
   ·exact hbe
   ·rintro rfl;rcases he with z|z
    ·exact Jq c b hc z
    ·rw[hc]at z;cases z;exact hb rfl
end
structure Un(fs ex:List Addr)(H H':Hp)(h h':Heap):Prop where
 keep:∀b o,h.get? b=some o->H b=none->b∉fs->b∉ex->h'.get? b=some o
 slot:∀b o,h.get? b=some o->H b=none->b∈fs->b∉ex->∃sl,h'.get? b=some {o with slots:=sl}
 free:∀b o,h.get? b=some o->H b=none->b∉ex->H' b=none
 there:∀b o,h.get? b=some o->b∉ex->∃o',h'.get? b=some o'
 tups:∀b xs,H b=some (.tup xs)->H' b=some (.tup xs)
 frzs:∀b o u,H b=some (.frz o u)->H' b=some (.frz o u)
 tbls:∀b ps,H b=some (.tbl ps)->∃more,H' b=some (.tbl (ps++more))
section
variable{fs WU ex ex':List Addr}{H H1 H2:Hp}{h h1 h2 h':Heap}{a x e:Addr}{o:HO}
def Un.any(u:Un fs ex H H1 h h1)(q:h.get? b=some ob)(n:H b=none)(hx:b∉ex):∃sl,h1.get? b=some {ob with slots:=sl}:=by
 by_cases hb:b∈fs
 ·exact u.slot b ob q n hb hx
 ·nomatch ob.slots,u.keep b ob q n hb hx
def Un.kept(k:∀b u,h.get? b=some u->h'.get? b=some u):Un fs ex H H h h' :=
 ⟨λb ob q _ _ _=>k b ob q,λb ob q _ _ _=>⟨ob.slots,k b ob q⟩,λ_ _ _ n _=>n,λb ob q _=>⟨ob,k b ob q⟩,λ_ _ q=>q,λ_ _ _ q=>q,λ_ ps q=>⟨#[],by rw[q];simp⟩⟩
def Un.refl:Un fs ex H H h h:=Un.kept λ_ _ q=>q
def Un.laid(k:∀b u,h.get? b=some u->h'.get? b=some u)(hp:h.objs.size<=a)(hn:H a=none):Un fs ex H (upd H a o) h h' where
 keep:=λb u q _ _ _=>k b u q
 slot:=λb u q _ _ _=>⟨u.slots,k b u q⟩
 free:=λb u q n _=>by rw[aO (dB (cy (bo q) hp))];exact n
 there:=λb u q _=>⟨u,k b u q⟩
 tups:=λb xs q=>by rw[aO (cE q hn)];exact q
 frzs:=λb u xs q=>by rw[aO (cE q hn)];exact q
 tbls:=λb ps q=>⟨#[],by rw[aO (cE q hn),q];simp⟩
def Un.write(mu:tU (H x))(he:e=x\/H e=some (.own x))(k:∀b u,b≠e->h.get? b=some u->h'.get? b=some u)(sZ:∃u,h'.get? e=some u):Un fs ex H (upd H x o) h h':=by
 have hx:∀b,H b=none->b≠x:=λb n z=>by subst z;rw[n]at mu;exact mu
 have hb:∀b,H b=none->b≠e:=λb n z=>by
  subst z;rcases he with r|r
  ·exact hx b n r
  ·rw[n]at r;cases r
 have hm:∀b u,H b=some u->¬tU (some u)->b≠x:=λb u q nm z=>by subst z;rw[q]at mu;exact nm mu
 refine⟨λb u q n _ _=>k b u (hb b n) q,λb u q n _ _=>⟨u.slots,k b u (hb b n) q⟩,λb u q n _=>by rw[aO (hx b n)];exact n,λb u q _=>?_,
  λb xs q=>by rw[aO (hm b _ q λz=>z)];exact q,λb u xs q=>by rw[aO (hm b _ q λz=>z)];exact q,λb ps q=>⟨#[],by rw[aO (hm b _ q λz=>z),q];simp⟩⟩
 by_cases hbe:b=e
 ·subst hbe;exact sZ
 ·nomatch u,k b u hbe q
end
noncomputable def oF(h:Heap)(H:Hp):List Addr:=(List.range h.objs.size).filter λa=>(H a).isSome
def mz(h:Heap)(H:Hp):Heap:=PySem.W.hideAll h (oF h H)
def VB(h:Heap)(H:Hp):(mz h H).objs.size=h.objs.size:=PySem.W.hideAll_size _ _
def zbY(e:h.get? b=some o)(n:H b=none):(mz h H).get? b=some o :=
 vL _ e λhm=>by
  have q:(H b).isSome=true:=(iJ.mp hm).2;rw[n]at q;simp at q
def zbp(e:(mz h H).get? b=some o):h.get? b=some o/\H b=none:=by
 have e':h.get? b=some o:=tG (oF h H) e;exists e',?_;cases q:H b with
 |none=>rfl
 |some x =>
  have hm:b∈oF h H:=iJ.mpr ⟨kO.mpr (bo e'),by simp[q]⟩;have z:(mz h H).get? b=none:=pZ (oF h H) hm;rw[z]at e;cases e
structure Mod(K:Frag)(mg:Str->Option Value)(base:Heap):Prop where
 kin:K.In base
 glob:base.Ns mainGlobals mg
 blt:∃mb,base.Ns builtinsNs mb/\∀x:Str,x ≠ "__name__" -> mb x=bootBuiltins x
 nolimit:base.NoLimit
structure Cx where
 prog:Program
 w:World
 K:Frag
 mg:Str->Option Value
 base:Heap
 A:Around
 N:List Str
 s₀:Shared
 H₀:Hp
 env:Env
 outer:List Env
 stack:List Env
 ex:List Addr
 fn:Str->Bool
 calm:Bool
 pn:List (Addr×Obj)
 xe:Value->Shared->Prop
noncomputable def bq(l:List Env):List Addr:=l.filterMap (·.frame)
abbrev Cx.fs(X:Cx):List Addr:=bq X.outer
def vZ(sc:Scope)(x:Str):Prop:=sc.names.lookup x=some .local\/sc.names.lookup x=some .cell\/sc.names.lookup x=some .free
def oR(sc:Scope)(x:Str):Prop:=sc.names.lookup x=some .local\/sc.names.lookup x=some .cell
def G4(env:Env)(h:Heap)(m:Str->Option Value)(x:Str)(u:Value):Prop :=
 (env.kindOf x=some .local/\m x=some u)\/((env.kindOf x=some .cell\/env.kindOf x=some .free)/\∃c,env.cells.lookup x=some c/\h.IsCell c (some u))
structure Cx.Ok(X:Cx):Prop where
 mod:Mod X.K X.mg X.base
 kind:X.env.scope.kind=.function
 glob:X.env.globals=mainGlobals
 blt:X.env.builtins=builtinsNs
 above:X.s₀.heap.objs.size<=X.env.locals
 inj:∀x y c,X.env.cells.lookup x=some c->X.env.cells.lookup y=some c->x=y
 has:∀x,(X.env.kindOf x=some .cell\/X.env.kindOf x=some .free)->∃c,X.env.cells.lookup x=some c
 cab:∀x c,X.fn x=true->X.env.cells.lookup x=some c->X.s₀.heap.objs.size<=c
 hd:X.calm=true->X.A.handled=none
 frames:X.A.frames=some X.stack
 stk:X.stack=X.outer\/(X.stack=X.env::X.outer/\X.env.frame=some X.env.locals)
 exf:∀b∈X.ex,b≠X.env.locals/\∀x c,X.env.cells.lookup x=some c->c≠b
 bs:∀b o,X.base.get? b=some o->X.s₀.heap.get? b=some o/\X.H₀ b=none
 bsz:X.base.objs.size<=X.s₀.heap.objs.size
 noex:∀b o,X.base.get? b=some o->b∉X.ex
 exfs:∀b∈X.ex,b∉X.fs
 funs:X.s₀.heap.FunFrames X.base X.outer
 frf:∀b∈X.fs,X.H₀ b=none
structure Inv(X:Cx)(aa:List (Addr×Obj))(σ:List (Option V))(H:Hp)(s:Shared):Prop where
 ok:X.Ok
 os:s.os=X.s₀.os
 bare:AllBare s.gens
 base:Un X.fs X.ex X.H₀ H X.s₀.heap s.heap
 loc:∃m,s.heap.Ns X.env.locals m/\∀(i:Nat) (x:Str) (v:V),X.N[i]?=some x->σ[i]?=some (some v)->vZ X.env.scope x->∃u,RelV v u/\G4 X.env s.heap m x u
 cell:∀x c,X.env.cells.lookup x=some c->∃v,s.heap.IsCell c v
 free:H X.env.locals=none
 freeC:∀x c,X.env.cells.lookup x=some c->H c=none
 pin:∀p∈X.pn++aa,s.heap.get? p.1=some p.2/\H p.1=none/\p.1≠X.env.locals/\p.1∉X.fs/\∀v,p.2.data≠.cell v
 hok:cm X.prog X.w H s.heap
 len:σ.length=X.N.length
section
variable{X:Cx}{aa:List (Addr×Obj)}{σ:List (Option V)}{H H':Hp}{s:Shared}{h':Heap}
def Cx.Ok.nofr(ok:X.Ok)(e:X.base.get? b=some o):b∉X.fs:=λhb=>by
 have:=(ok.funs.mem hb).1
 rw[e]at this;cases this
def Inv.bs(I:Inv X aa σ H s):∀b o,X.base.get? b=some o->s.heap.get? b=some o/\H b=none:=λb o e =>
 ⟨I.base.keep b o (I.ok.bs b o e).1 (I.ok.bs b o e).2 (I.ok.nofr e) (I.ok.noex b o e),I.base.free b o (I.ok.bs b o e).1 (I.ok.bs b o e).2 (I.ok.noex b o e)⟩
def Inv.bk(I:Inv X aa σ H s):∀b o,X.base.get? b=some o->s.heap.get? b=some o:=λb o e=>(I.bs b o e).1
def Inv.mod(I:Inv X aa σ H s):Mod X.K X.mg X.base:=I.ok.mod
def Inv.kIn(I:Inv X aa σ H s):X.K.In s.heap:=I.ok.mod.kin.keeps I.bk
def Inv.lt(I:Inv X aa σ H s):X.env.locals<s.heap.objs.size:=let ⟨_,hn,_⟩:=I.loc;hn.lt
def Inv.sz(I:Inv X aa σ H s):X.s₀.heap.objs.size<=s.heap.objs.size:=bp I.ok.above (dq I.lt)
def Inv.nofs(I:Inv X aa σ H s)(h:s.heap.objs.size<=a):a∉X.fs:=λhb=>by
 obtain⟨_,o,ho,_⟩:=I.ok.funs.mem hb;exact absurd (cy (bo ho) (bp I.sz h)) (oN _)
def Inv.cne(I:Inv X aa σ H s):∀x c,X.env.cells.lookup x=some c->c≠X.env.locals:=λx c e z=>by
 obtain⟨v,o,ho,hd⟩:=I.cell x c e;obtain⟨m,⟨o',es,ep,jh,rk,_⟩,_⟩:=I.loc;rw[z,jh]at ho;cases ho;rw[rk]at hd;cases hd
def Inv.funs(I:Inv X aa σ H s):s.heap.FunFrames X.base X.outer:=by
 have all:∀(l:List Env),(∀b∈bq l,b∈X.fs)->X.s₀.heap.FunFrames X.base l->s.heap.FunFrames X.base l:=by
  intro l;induction l with
  |nil=>intro _ _;trivial
  |cons env r ih =>
   intro hs hl;obtain⟨hk,⟨L,o,hf,hn,ho,hd⟩,hr⟩:=hl;have hL:L∈X.fs:=hs L (by unfold bq;rw[yy,hf];exact mD);obtain⟨sl,e⟩:=I.base.slot L o ho (I.ok.frf L hL) hL λz=>I.ok.exfs L z hL
   nomatch hk,⟨L,_,hf,hn,e,hd⟩,ih (λb hb=>hs b (by unfold bq;rw[yy,hf];exact cq _ hb)) hr
 exact all X.outer (λ_ hb=>hb) I.ok.funs
def Inv.stack(I:Inv X aa σ H s):s.heap.FunFrames X.base X.stack:=by
 rcases I.ok.stk with e|⟨e,hf⟩
 ·rw[e];exact I.funs
 ·rw[e];obtain⟨m,hn,_⟩:=I.loc;refine .cons (by rw[I.ok.kind];decide) hf hn ?_ I.funs;exact tH (bp I.ok.bsz I.ok.above)
def Inv.stkSub(I:Inv X aa σ H s):∀b∈bq X.stack,b∈X.env.locals::X.fs:=λb hb=>by
 rcases I.ok.stk with e|⟨e,hf⟩
 ·rw[e]at hb;exact cq _ hb
 ·rw[e]at hb;unfold bq at hb;rw[yy,hf]at hb;exact hb
def Inv.stkFree(I:Inv X aa σ H s):∀b∈bq X.stack,H b=none:=λb hb=>by
 rcases ba.mp (I.stkSub b hb)with e|hb
 ·rw[e];exact I.free
 ·obtain⟨_,o,ho,_⟩:=I.ok.funs.mem hb;exact I.base.free b o ho (I.ok.frf b hb) λz=>I.ok.exfs b z hb
def Inv.step{g':Array GenState}{t':Nat}{d':Drawn}{ch:List Addr}(I:Inv X aa σ H s)
  (jC:∀b∈ch,(b∈X.ex\/X.s₀.heap.objs.size<=b)/\b≠X.env.locals/\(∀x c,X.env.cells.lookup x=some c->c≠b)/\∀p∈X.pn++aa,p.1≠b)
  (keep:∀b o,b≠X.env.locals->b∉X.fs->b∉ch->s.heap.get? b=some o->H b=none->h'.get? b=some o)
  (slot:∀b o,b≠X.env.locals->b∈X.fs->b∉ch->s.heap.get? b=some o->H b=none->∃sl,h'.get? b=some {o with slots:=sl}) (free:∀b o,b∉ch->s.heap.get? b=some o->H b=none->H' b=none)
  (there:∀b o,b∉ch->s.heap.get? b=some o->∃o',h'.get? b=some o')
  (tups:∀b xs,H b=some (.tup xs)->H' b=some (.tup xs)) (frzs:∀b o u,H b=some (.frz o u)->H' b=some (.frz o u)) (tbls:∀b ps,H b=some (.tbl ps)->∃more,H' b=some (.tbl (ps++more)))
  (ns:∀m,s.heap.Ns X.env.locals m->h'.Ns X.env.locals m) (hok:cm X.prog X.w H' h') (hg:AllBare g') :
  Inv X aa σ H' {s with heap:=h',gens:=g',drawn:=d',toks:=t'}:=by
 have oa:∀b o,X.s₀.heap.get? b=some o->b≠X.env.locals:=λb o e=>dB (cy (bo e) I.ok.above)
 have yx:∀b o,X.s₀.heap.get? b=some o->b∉X.ex->b∉ch:=λb o e hx hb=>by
  rcases (jC b hb).1 with z|z
  ·exact hx z
  ·exact absurd (cy (bo e) z) (oN _)
 have cellK:∀x c,X.env.cells.lookup x=some c->∀v,s.heap.IsCell c v->h'.IsCell c v:=λx c e v ⟨o,ho,hd⟩=>by
  have uM:c∉ch:=λz=>(jC c z).2.2.1 x c e rfl
  by_cases hc:c∈X.fs
  ·obtain⟨sl,q⟩:=slot c o (I.cne x c e) hc uM ho (I.freeC x c e);nomatch _,q,hd
  ·nomatch o,keep c o (I.cne x c e) hc uM ho (I.freeC x c e),hd
 exists I.ok,I.os,hg,⟨λb o e n hb hx=>?_,λb o e n hb hx=>?_,λb o e n hx=>?_,λb o e hx=>?_,λb xs e=>tups b xs (I.base.tups b xs e),λb o xs e=>frzs b o xs (I.base.frzs b o xs e),λb ps e=>?_⟩,?_,λx c e=>?_,?_,λx c e=>?_,λp hp=>?_,hok,I.len
 ·exact keep b o (oa b o e) hb (yx b o e hx) (I.base.keep b o e n hb hx) (I.base.free b o e n hx)
 ·obtain⟨sl,e1⟩:=I.base.slot b o e n hb hx;obtain⟨o8,e2⟩:=slot b _ (oa b o e) hb (yx b o e hx) e1 (I.base.free b o e n hx);nomatch o8,e2
 ·obtain⟨o',e1⟩:=I.base.there b o e hx;exact free b o' (yx b o e hx) e1 (I.base.free b o e n hx)
 ·obtain⟨o',e1⟩:=I.base.there b o e hx;exact there b o' (yx b o e hx) e1
 ·obtain⟨m1,e1⟩:=I.base.tbls b ps e;obtain⟨m2,e2⟩:=tbls b _ e1;exact⟨m1++m2,by rw[e2,Array.append_assoc]⟩
 ·obtain⟨m,hn,hl⟩:=I.loc;exists m,ns m hn,λi x v e1 e2 e3=>?_;obtain⟨u,r,l⟩:=hl i x v e1 e2 e3;exists u,r,?_;rcases l with l|⟨k,c,e,z⟩
  ·exact .inl l
  ·exact .inr ⟨k,c,e,cellK x c e _ z⟩
 ·obtain⟨v,z⟩:=I.cell x c e;nomatch v,cellK x c e v z
 ·obtain⟨m,⟨o,_,_,ho,_⟩,_⟩:=I.loc;exact free _ o (λz=>(jC _ z).2.1 rfl) ho I.free
 ·obtain⟨v,o,ho,hd⟩:=I.cell x c e;exact free c o (λz=>(jC c z).2.2.1 x c e rfl) ho (I.freeC x c e)
 ·obtain⟨e,n,ne,nf,d⟩:=I.pin p hp;have uM:p.1∉ch:=λz=>(jC p.1 z).2.2.2 p hp rfl
  nomatch keep p.1 p.2 ne nf uM e n,free p.1 p.2 uM e n,ne,nf,d
def Inv.un{t':Nat}(I:Inv X aa σ H s)(u:Un X.fs [] H H' s.heap h')(hok:cm X.prog X.w H' h'):Inv X aa σ H' {s with heap:=h',toks:=t'}:=by
 obtain⟨m,⟨o,es,ep,ho,r⟩,_⟩:=id I.loc;obtain⟨sl,hL⟩:=u.any ho I.free (by simp);exact I.step (g':=s.gens) (d':=s.drawn) (ch:=[]) (λ_ z=>nomatch z) (λb o _ hb _ e n=>u.keep b o e n hb (by simp)) (λb o _ hb _ e n=>u.slot b o e n hb (by simp)) (λb o _ e n=>u.free b o e n (by simp)) (λb o _ e=>u.there b o e (by simp)) u.tups u.frzs u.tbls (λm' hm=>by
  obtain⟨o',Fm,Cr,jh,r'⟩:=hm;rw[ho]at jh;cases jh;nomatch _,Fm,Cr,hL,r') hok I.bare
def Inv.call{g':Array GenState}{t':Nat}{d':Drawn}{ch:List Addr}(I:Inv X aa σ H s)(u:Un (bq X.stack) ch H H' s.heap h')(hok:cm X.prog X.w H' h')(hg:AllBare g')
  (jC:∀b∈ch,(b∈X.ex\/X.s₀.heap.objs.size<=b)/\b≠X.env.locals/\(∀x c,X.env.cells.lookup x=some c->c≠b)/\∀p∈X.pn++aa,p.1≠b) :
  Inv X aa σ H' {s with heap:=h',gens:=g',drawn:=d',toks:=t'}:=by
 obtain⟨m,⟨o,es,ep,ho,r⟩,_⟩:=id I.loc;obtain⟨sl,hL⟩:=u.any ho I.free λz=>(jC _ z).2.1 rfl
 exact I.step (ch:=ch) jC (λb o hL hb hc e n=>u.keep b o e n (λz=>(ba.mp (I.stkSub b z)).elim hL hb) hc) (λb o _ _ hc e n=>u.any e n hc) (λb o hc e n=>u.free b o e n hc) (λb o hc e=>u.there b o e hc) u.tups u.frzs u.tbls (λm' hm=>by
  obtain⟨o',Fm,Cr,jh,r'⟩:=hm;rw[ho]at jh;cases jh;nomatch _,Fm,Cr,hL,r') hok hg
def Inv.turned{t':Nat}{it:Addr}(I:Inv X aa σ H s)(k:∀b o,b≠it->s.heap.get? b=some o->h'.get? b=some o)(hn:H it=none)(hL:it≠X.env.locals)
  (h1:it∈X.ex\/X.s₀.heap.objs.size<=it) (h2:∀x c,X.env.cells.lookup x=some c->c≠it) (h3:∀p∈X.pn++aa,p.1≠it):Inv X aa σ H {s with heap:=h',toks:=t'}:=by
 have MM:∀b u,H b=some u->b≠it:=λb u e z=>by rw[z,hn]at e;cases e
 refine I.step (g':=s.gens) (d':=s.drawn) (ch:=[it]) (λb hb=>?_) (λb o _ _ hc e _=>k b o (λz=>hc (by simp[z])) e) (λb o _ _ hc e _=>⟨o.slots,k b o (λz=>hc (by simp[z])) e⟩) (λ_ _ _ _ n=>n)
  (λb o hc e=>⟨o,k b o (λz=>hc (by simp[z])) e⟩) (λ_ _ e=>e) (λ_ _ _ e=>e) (λb ps e=>⟨#[],by rw[e];simp⟩) (λm hm=>?_) (λb u e=>?_) I.bare
 ·have e:b=it:=by simpa using hb
  subst e;nomatch h1,hL,h2,h3
 ·obtain⟨o,es,ep,ho,r⟩:=hm;nomatch o,es,ep,k _ o (Ne.symm hL) ho,r
 ·refine (I.hok b u e).stay (λc v hc q=>k c v ?_ q) (λ_ q=>q) λ_ _ q=>q
  rcases hc with z|z
  ·rw[z];exact MM b u e
  ·exact MM c _ z
def Inv.tok(I:Inv X aa σ H s)(t:Nat):Inv X aa σ H {s with toks:=t}:=I.un (h':=s.heap) (t':=t) Un.refl I.hok
def Inv.kept(I:Inv X aa σ H s)(k:∀b u,s.heap.get? b=some u->h'.get? b=some u):Inv X aa σ H {s with heap:=h',toks:=t'}:=I.un (Un.kept k) (I.hok.kept k)
def Inv.laid(I:Inv X aa σ H s)(k:∀b u,s.heap.get? b=some u->h'.get? b=some u)(hp:s.heap.objs.size<=a)(new:cn X.prog X.w (upd H a o) h' a o) :
  Inv X aa σ (upd H a o) {s with heap:=h',toks:=t'}:=I.un (Un.laid k hp (I.hok.fresh hp)) (I.hok.laid k hp new)
def Inv.write(I:Inv X aa σ H s)(mu:tU (H x))(he:e=x\/H e=some (.own x))(k:∀b u,b≠e->s.heap.get? b=some u->h'.get? b=some u)(sZ:∃u,h'.get? e=some u)
  (new:cn X.prog X.w (upd H x o) h' x o):Inv X aa σ (upd H x o) {s with heap:=h',toks:=t'}:=I.un (Un.write mu he k sZ) (I.hok.write mu he k sZ new)
def Inv.pins_of(I:Inv X aa σ H s)(h:∀p∈Jc,s.heap.get? p.1=some p.2/\H p.1=none/\p.1≠X.env.locals/\p.1∉X.fs/\∀v,p.2.data≠.cell v):Inv X Jc σ H s :=
 ⟨I.ok,I.os,I.bare,I.base,I.loc,I.cell,I.free,I.freeC,λp hp=>(bW.mp hp).elim (λz=>I.pin p (i8 _ z)) (h p),I.hok,I.len⟩
def De{N:List Str}(hN:N.Nodup){i j:Nat}{x:Str}(a:N[i]?=some x)(b:N[j]?=some x):i=j:=by
 obtain⟨h1,e1⟩:=d6.mp a;obtain⟨h2,e2⟩:=d6.mp b;exact (List.getElem_inj hN).mp (e1.trans e2.symm)
def TY{M:Model}{A:Around}{E:Value->Shared->Prop}{i:Nat}{x:Str}{v:V}{u:Value}{Q:Unit->Shared->Prop}(I:Inv X aa σ H s)(hN:X.N.Nodup)(hi:X.N[i]?=some x)(hx:oR X.env.scope x)(r:RelV v u)
  (h:∀s',Inv X aa (σ.set i (some v)) H s'->(∃a,Heap.SameBut a s.heap s'.heap/\(a=X.env.locals\/X.env.cells.lookup x=some a))->Q () s') (hf:X.fn x=true\/X.env.scope.names.lookup x=some .local:=by first|exact .inl rfl|exact .inr rfl|assumption):wpAny M A (storeName X.env x u) Q E s:=by
 obtain⟨m,hn,hl⟩:=id I.loc;have S9:(X.env.scope.kind == .class || (X.env.scope.kind == .module&&X.env.locals != X.env.globals))=false:=by rw[I.ok.kind];rfl
 have hiσ:i<σ.length:=by rw[I.len];exact (d6.mp hi).1
 have cne:=I.cne;have tracked:∀{a:Addr}{h':Heap},(∃o,s.heap.get? a=some o/\H a=none)->Heap.SameBut a s.heap h'->cm X.prog X.w H h':=fun {a h'} ha hs b ob e=>by
  obtain⟨_,_,kU⟩:=ha;refine (I.hok b ob e).stay (λc w' hc q=>(hs.2 c ?_).trans q) (λ_ q=>q) λ_ _ q=>q
  rintro rfl;rcases hc with rfl|hc
  ·rw[kU]at e;cases e
  ·rw[kU]at hc;cases hc
 rcases hx with hk|hk
 ·refine wpAny_storeName_local hk hn (λh' og hs=>?_) S9;obtain⟨oL,_,_,uu,_⟩:=id hn;refine h _ ⟨I.ok,I.os,I.bare,⟨λb o e n hb hx=>?_,λb o e n hb hx=>?_,I.base.free,λb o e hx=>?_,I.base.tups,I.base.frzs,I.base.tbls⟩,⟨_,og,λj y v' e1 e2 e3=>?_⟩,λy c e=>?_,I.free,I.freeC,λp hp=>?_,tracked ⟨oL,uu,I.free⟩ hs,by simpa using I.len⟩ ⟨_,hs,.inl rfl⟩
  ·exact (hs.2 b (dB (cy (bo e) I.ok.above))).trans (I.base.keep b o e n hb hx)
  ·obtain⟨sl,e1⟩:=I.base.slot b o e n hb hx;nomatch sl,(hs.2 b (dB (cy (bo e) I.ok.above))).trans e1
  ·obtain⟨o',e1⟩:=I.base.there b o e hx;nomatch o',(hs.2 b (dB (cy (bo e) I.ok.above))).trans e1
  ·by_cases hj:j=i
   ·subst hj;rw[hi]at e1;cases e1;rw[u4 hiσ]at e2;cases e2;nomatch u,r,.inl ⟨hk,by simp⟩
   ·rw[CL (Ne.symm hj)]at e2;obtain⟨u',r',q⟩:=hl j y v' e1 e2 e3;exists u',r',?_;rcases q with ⟨k,e⟩|⟨k,c,e,z⟩
    ·refine .inl ⟨k,?_⟩
     have:y≠x:=λe=>hj (De hN e1 (e ▸ hi))
     simp[this,e]
    ·exact .inr ⟨k,c,e,z.sameBut hs (cne y c e)⟩
  ·obtain⟨w',z⟩:=I.cell y c e;nomatch w',z.sameBut hs (cne y c e)
  ·obtain⟨e,n,ne,nf,d⟩:=I.pin p hp;nomatch (hs.2 p.1 ne).trans e,n,ne,nf,d
 ·have DB:X.fn x=true:=by
   rcases hf with z|z
   ·exact z
   ·rw[z]at hk;cases hk
  obtain⟨c,hc⟩:=I.ok.has x (.inl hk);obtain⟨w',z⟩:=I.cell x c hc;refine wpAny_storeName_cell I.ok.kind hk hc z (λh' nW hs=>?_);obtain⟨oc,ow,hocd⟩:=id z;refine h {s with heap:=h'} ⟨I.ok,I.os,I.bare,⟨λb o e n hb hx=>?_,λb o e n hb hx=>?_,I.base.free,λb o e hx=>?_,I.base.tups,I.base.frzs,I.base.tbls⟩,⟨m,hn.sameBut hs (Ne.symm (cne x c hc)),λj y v' e1 e2 e3=>?_⟩,λy c' e=>?_,I.free,I.freeC,λp hp=>?_,tracked ⟨oc,ow,I.freeC x c hc⟩ hs,by simpa using I.len⟩ ⟨c,hs,.inr hc⟩
  ·exact (hs.2 b (dB (cy (bo e) (I.ok.cab x c DB hc)))).trans (I.base.keep b o e n hb hx)
  ·obtain⟨sl,e1⟩:=I.base.slot b o e n hb hx;nomatch sl,(hs.2 b (dB (cy (bo e) (I.ok.cab x c DB hc)))).trans e1
  ·obtain⟨o',e1⟩:=I.base.there b o e hx;nomatch o',(hs.2 b (dB (cy (bo e) (I.ok.cab x c DB hc)))).trans e1
  ·by_cases hj:j=i
   ·subst hj;rw[hi]at e1;cases e1;rw[u4 hiσ]at e2;cases e2;nomatch u,r,.inr ⟨.inl hk,c,hc,nW⟩
   ·rw[CL (Ne.symm hj)]at e2;obtain⟨u',r',q⟩:=hl j y v' e1 e2 e3;exists u',r',?_;rcases q with q|⟨k,c',e,z'⟩
    ·exact .inl q
    ·refine .inr ⟨k,c',e,z'.sameBut hs ?_⟩;rintro rfl;exact hj (De hN e1 (I.ok.inj _ _ _ e hc ▸ hi))
  ·by_cases iR:c'=c
   ·subst iR;nomatch _,nW
   ·obtain⟨w2,z2⟩:=I.cell y c' e;nomatch w2,z2.sameBut hs iR
  ·obtain⟨e,n,ne,nf,d⟩:=I.pin p hp;exists (hs.2 p.1 ?_).trans e,n,ne,nf,d;intro q;rw[q,ow]at e;have q':oc=p.2:=cD e;exact d w' (by rw[<-q'];exact hocd)
def um(I:Inv X aa σ H s)(hN:X.N.Nodup)(hi:X.N[i]?=some x)(hx:oR X.env.scope x)(r:RelV v u)
  (h:∀s',Inv X aa (σ.set i (some v)) H s'->Q () s') (hf:X.fn x=true\/X.env.scope.names.lookup x=some .local:=by first|exact .inl rfl|exact .inr rfl|assumption):wpAny M A (storeName X.env x u) Q E s :=
 TY I hN hi hx r (λs' I' _=>h s' I') hf
def Inv.call'(I:Inv X aa σ H s)(ho:s'.os=s.os)(u:Un (bq X.stack) ch H H' s.heap s'.heap)(hok:cm X.prog X.w H' s'.heap)(hg:AllBare s'.gens)
  (jC:∀b∈ch,(b∈X.ex\/X.s₀.heap.objs.size<=b)/\b≠X.env.locals/\(∀x c,X.env.cells.lookup x=some c->c≠b)/\∀p∈X.pn++aa,p.1≠b):Inv X aa σ H' s':=by
 obtain⟨h',g',d',t',o'⟩:=s';have e:o'=s.os:=ho;subst e;exact I.call (g':=g') (t':=t') (d':=d') u hok hg jC
end
abbrev XK:=Value->Option Addr->Hp->Prop
abbrev St:=List (Option V)
abbrev VK:=V->Hp->Prop
abbrev TE:=St->Hp->VK->Prop
abbrev TT:=St->Hp->(Bool->Hp->Prop)->Prop
abbrev TA:=St->Hp->(List V->Hp->Prop)->Prop
structure kr where
 nx:St->Hp->Prop
 rt:VK
 bk:St->Hp->Prop:=λ_ _=>False
 ct:St->Hp->Prop:=λ_ _=>False
abbrev TS:=kr->St->Hp->Prop
def EP(X:Cx)(aa:List (Addr×Obj))(σ:St)(Q:VK)(u:Value)(s':Shared):Prop:=∃v H',Inv X aa σ H' s'/\RelV v u/\Q v H'
def TP(X:Cx)(aa:List (Addr×Obj))(σ:St)(Q:Bool->Hp->Prop)(b:Bool)(s':Shared):Prop:=∃H',Inv X aa σ H' s'/\Q b H'
def AP(X:Cx)(aa:List (Addr×Obj))(σ:St)(Q:List V->Hp->Prop)(us:List Value)(s':Shared):Prop:=∃vs H',Inv X aa σ H' s'/\Vals vs us/\Q vs H'
set_option tactic.hygienic true in
def SP(X:Cx)(aa:List (Addr×Obj))(D:kr)(f:Flow)(s':Shared):Prop :=
 match f with
 |.next=>∃σ' H',Inv X aa σ' H' s'/\D.nx σ' H'
 |.brk=>∃σ' H',Inv X aa σ' H' s'/\D.bk σ' H'
 |.cont=>∃σ' H',Inv X aa σ' H' s'/\D.ct σ' H'
 |.ret u=>∃v σ' H',Inv X aa σ' H' s'/\RelV v u/\D.rt v H'
def PE(X:Cx)(e:Expr)(t:TE):Prop :=
 ∀(aa:List (Addr×Obj)) (s:Shared) (σ:St) (H:Hp) (Q:VK),Inv X aa σ H s->t σ H Q->wpAny (model X.prog X.w) X.A (eval e X.env) (EP X aa σ Q) X.xe s
def PT(X:Cx)(e:Expr)(t:TT):Prop :=
 ∀(aa:List (Addr×Obj)) (s:Shared) (σ:St) (H:Hp) (Q:Bool->Hp->Prop),Inv X aa σ H s->t σ H Q->wpAny (model X.prog X.w) X.A (isTrue e X.env (eval e X.env)) (TP X aa σ Q) X.xe s
def PW(X:Cx)(e:Expr)(t:TT):Prop :=
 ∀(whole:Sem Value) (aa:List (Addr×Obj)) (s:Shared) (σ:St) (H:Hp) (Q:Bool->Hp->Prop),Inv X aa σ H s->t σ H Q->wpAny (model X.prog X.w) X.A (isTrue e X.env whole) (TP X aa σ Q) X.xe s
def PW.pt(h:PW X e t):PT X e t:=h _
def PA(X:Cx)(es:List Expr)(t:TA):Prop :=
 ∀(pos:Pos) (aa:List (Addr×Obj)) (s:Shared) (σ:St) (H:Hp) (Q:List V->Hp->Prop),Inv X aa σ H s->t σ H Q->wpAny (model X.prog X.w) X.A (spliced (backTo pos (starEach es X.env))) (AP X aa σ Q) X.xe s
def PS(X:Cx)(st:Stmt)(t:TS):Prop :=
 ∀(aa:List (Addr×Obj)) (s:Shared) (σ:St) (H:Hp) (D:kr),Inv X aa σ H s->t D σ H->wpAny (model X.prog X.w) X.A (exec st X.env) (SP X aa D) X.xe s
def eC(X:Cx)(st:List Stmt)(t:TS):Prop :=
 ∀(aa:List (Addr×Obj)) (s:Shared) (σ:St) (H:Hp) (D:kr),Inv X aa σ H s->t D σ H->wpAny (model X.prog X.w) X.A (execs st X.env) (SP X aa D) X.xe s
def aI(h:wpAny M A t Q E s)(hQ:∀a s,Q a s->Q' a s):wpAny M A t Q' E s:=bA h hQ λ_ _ x=>x
section
variable{X:Cx}
def jA(i:Nat):TE:=λσ H Q=>∃v,σ[i]?=some (some v)/\Q v H
def tC(v:V):TE:=λ_ H Q=>Q v H
def Qv(hN:X.N[i]?=some x)(hv:vZ X.env.scope x)(hd:(x == ("__debug__" : Str))=false:=by decide)(iN:(x == ("__classdict__" : Str))=false:=by decide):PE X (.Name x pos) (jA i):=by
 intro aa s σ H Q I h;obtain⟨v,e,h⟩:=h;obtain⟨m,hn,hl⟩:=I.loc;obtain⟨u,r,l⟩:=hl i x v hN e hv;have fin:EP X aa σ Q u s:=⟨v,H,I,r,h⟩;rcases l with ⟨hk,hm⟩|⟨hk,c,hc,gw⟩
 ·exact wpAny_Name (wpAny_loadName_local I.ok.kind hk hn hm fin) hd
 ·rcases hk with hk|hk
  ·exact wpAny_Name (wpAny_loadName_cell I.ok.kind hk hc gw fin) hd
  ·exact wpAny_Name (wpAny_loadName_free I.ok.kind hk hc gw fin iN) hd
def aj{i j pos}:PE X (.Constant (.int i) j pos) (tC (.int i)):=λ_ _ _ H _ I h=>wpAny_Constant_int ⟨.int i,H,I.tok _,⟨_,rfl⟩,h⟩
def jr{b j pos}:PE X (.Constant (.bool b) j pos) (tC (.bl b)):=λ_ _ _ H _ I h=>Constant_bool ⟨.bl b,H,I,rfl,h⟩
def gX{j pos}:PE X (.Constant .none j pos) (tC .non):=λ_ _ _ H _ I h=>Constant_none ⟨.non,H,I,rfl,h⟩
def ak{x j pos}:PE X (.Constant (.str x) j pos) (tC (.str x)):=λ_ _ _ H _ I h=>Calls.Constant_str ⟨.str x,H,I.tok _,⟨_,rfl⟩,h⟩
def Gl(X:Cx)(x:Str):Prop:=X.env.kindOf x=some .globalImplicit
def ve(I:Inv X aa σ H s)(hg:Gl X x)(hm:X.mg x=some u)(h:Q u s)
  (hd:(x == ("__debug__" : Str))=false:=by decide):wpAny (model X.prog X.w) X.A (eval (.Name x pos) X.env) Q E s :=
 IM I.ok.kind hg (Calls.loadGlobal_global (by rw[I.ok.glob];exact I.mod.glob.keeps I.bk) hm h) hd
def nX(I:Inv X aa σ H s)(hg:Gl X x)(hm:X.mg x=none)(hv:bootBuiltins x=some u)(h:Q u s)
  (hn:x ≠ "__name__" := by decide) (hd:(x == ("__debug__" : Str))=false:=by decide):wpAny (model X.prog X.w) X.A (eval (.Name x pos) X.env) Q E s:=by
 obtain⟨mb,h1,h2⟩:=I.mod.blt;exact IM I.ok.kind hg (Calls.loadGlobal_builtin (by rw[I.ok.glob];exact I.mod.glob.keeps I.bk) hm (by rw[I.ok.blt];exact h1.keeps I.bk) ((h2 x hn).trans hv) h) hd
def dX(hg:Gl X x)(hm:X.mg x=some u)(r:RelV v u)(hd:(x == ("__debug__" : Str))=false:=by decide):PE X (.Name x pos) (tC v) :=
 λ_ _ _ H _ I h=>ve I hg hm ⟨v,H,I,r,h⟩ hd
def LK(hg:Gl X x)(hm:X.mg x=none)(hv:bootBuiltins x=some u)(r:RelV v u)(hn:x ≠ "__name__" := by decide)(hd:(x == ("__debug__" : Str))=false:=by decide):PE X (.Name x pos) (tC v) :=
 λ_ _ _ H _ I h=>nX I hg hm hv ⟨v,H,I,r,h⟩ hn hd
variable{a b:Expr}{ta tb:TE}{pos:Pos}
def PC(X:Cx)(op:CmpOp)(a b:Expr)(t:TE):Prop :=
 ∀(aa:List (Addr×Obj)) (s:Shared) (σ:St) (H:Hp) (Q:VK),Inv X aa σ H s->t σ H Q ->
  wpAny (model X.prog X.w) X.A (eval a X.env) (λv s₁=>wpAny (model X.prog X.w) X.A (eval b X.env) (λu s₂=>wpAny (model X.prog X.w) X.A (compareOp op v u) (EP X aa σ Q) X.xe s₂) X.xe s₁) X.xe s
def tB(t:TE):TT:=λσ H Q=>t σ H λx H1=>∃c,x=.bl c/\Q c H1
def K0(h:PC X op a b t)(h1:behindInMarks op b=false:=by first|exact nobehind _ (by decide) (by decide)|rfl):PT X (.Compare a [op] [b] pos) (tB t):=by
 intro aa s σ H Q I hw;refine CQ (aI (h aa s σ H _ I hw) λv s1 h1=>aI h1 λu s2 h2=>aI h2 λc s3 ⟨x,H1,I1,r1,q1⟩=>?_) h1;obtain⟨d,rfl,q⟩:=q1;cases r1;exact kG ⟨H1,I1,q⟩
def fJ(h:PE X e t)(he:∀whole,isTrue e X.env whole=(do let v <-whole;standAt e.pos;holding [v] (truthy v)):=by intro _;rfl):PT X e (tB t):=by
 intro aa s σ H Q I hw;refine isTrue_plain (aI (h aa s σ H _ I hw) λv s1 ⟨x,H1,I1,r1,q1⟩=>?_) (he _);obtain⟨d,rfl,q⟩:=q1;cases r1;exact kG ⟨H1,I1,q⟩
variable{tA wz:TT}{rest:List Expr}
def Yw(t u:TT):TT:=λσ H Q=>t σ H λc H1=>if c=true then u σ H1 Q else Q false H1
def Yb(t u:TT):TT:=λσ H Q=>t σ H λc H1=>if c=true then Q true H1 else u σ H1 Q
def Sw(t:TT):TT:=λσ H Q=>t σ H λc H1=>Q (!c) H1
def iM(ha:PT X a tA):PW X (.BoolOp .And [a] pos) tA:=by
 intro wh aa s σ H Q I h;refine isTrue_and (aI (ha aa s σ H Q I h) λc s1 e=>?_);cases c with
 |true=>exact isTrue_and_nil e
 |false=>exact e
def jg(ha:PT X a tA):PW X (.BoolOp .Or [a] pos) tA:=by
 intro wh aa s σ H Q I h;refine isTrue_or (aI (ha aa s σ H Q I h) λc s1 e=>?_);cases c with
 |false=>exact isTrue_or_nil e
 |true=>exact e
def iD(ha:PT X a tA)(hb:PW X (.BoolOp .And (b::rest) pos) wz):PW X (.BoolOp .And (a::b::rest) pos) (Yw tA wz):=by
 intro wh aa s σ H Q I h;refine isTrue_and (aI (ha aa s σ H _ I h) λc s1 ⟨H1,I1,q1⟩=>?_);cases c with
 |true=>exact hb wh aa s1 σ H1 Q I1 q1
 |false=>nomatch H1,I1,q1
def gv(ha:PT X a tA)(hb:PW X (.BoolOp .Or (b::rest) pos) wz):PW X (.BoolOp .Or (a::b::rest) pos) (Yb tA wz):=by
 intro wh aa s σ H Q I h;refine isTrue_or (aI (ha aa s σ H _ I h) λc s1 ⟨H1,I1,q1⟩=>?_);cases c with
 |true=>nomatch H1,I1,q1
 |false=>exact hb wh aa s1 σ H1 Q I1 q1
def iO(ha:PT X a tA):PT X (.UnaryOp .Not a pos) (Sw tA):=by
 intro aa s σ H Q I h;exact isTrue_not (ha aa s σ H (λc H1=>Q (!c) H1) I h)
def W9(ta tb:TE):TE:=λσ H Q=>ta σ H λx H1=>∃c,x=.bl c/\if c=true then tb σ H1 Q else Q (.bl false) H1
def WX(ta tb:TE):TE:=λσ H Q=>ta σ H λx H1=>∃c,x=.bl c/\if c=true then Q (.bl true) H1 else tb σ H1 Q
def Q5(ta:TE):TE:=λσ H Q=>ta σ H λx H1=>∃c,x=.bl c/\Q (.bl (!c)) H1
def fR{op}(h:PE X a t):PE X (.BoolOp op [a] pos) t:=λaa s σ H Q I hw=>BoolOp_one (h aa s σ H Q I hw)
def fX(ha:PE X a ta)(hb:PE X (.BoolOp .And (b::rest) pos) tb):PE X (.BoolOp .And (a::b::rest) pos) (W9 ta tb):=by
 intro aa s σ H Q I h;refine BoolOp_and (aI (ha aa s σ H _ I h) λv s1 ⟨x,H1,I1,r1,q1⟩=>?_);obtain⟨c,rfl,q1⟩:=q1;cases r1;refine kG ?_;cases c with
 |true=>exact hb aa s1 σ H1 Q I1 q1
 |false=>nomatch .bl false,H1,I1,rfl,q1
def yr(ha:PE X a ta)(hb:PE X (.BoolOp .Or (b::rest) pos) tb):PE X (.BoolOp .Or (a::b::rest) pos) (WX ta tb):=by
 intro aa s σ H Q I h;refine BoolOp_or (aI (ha aa s σ H _ I h) λv s1 ⟨x,H1,I1,r1,q1⟩=>?_);obtain⟨c,rfl,q1⟩:=q1;cases r1;refine kG ?_;cases c with
 |false=>exact hb aa s1 σ H1 Q I1 q1
 |true=>nomatch .bl true,H1,I1,rfl,q1
def za0(ha:PE X a ta):PE X (.UnaryOp .Not a pos) (Q5 ta):=by
 intro aa s σ H Q I h;refine UnaryOp_ (aI (ha aa s σ H _ I h) λv s1 ⟨x,H1,I1,r1,q1⟩=>?_);obtain⟨c,rfl,q1⟩:=q1;cases r1;exact not_of (kG ⟨.bl (!c),H1,I1,rfl,q1⟩)
def WY(t:TT)(ta tb:TE):TE:=λσ H Q=>t σ H λc H1=>if c=true then ta σ H1 Q else tb σ H1 Q
def rG(hc:PT X c tA)(ha:PE X a ta)(hb:PE X b tb):PE X (.IfExp c a b pos) (WY tA ta tb):=by
 intro aa s σ H Q I h;refine wpAny_IfExp (aI (hc aa s σ H _ I h) λd s1 ⟨H1,I1,q1⟩=>?_);cases d with
 |true=>exact ha aa s1 σ H1 Q I1 q1
 |false=>exact hb aa s1 σ H1 Q I1 q1
end
def ai(K:Frag)(H:Hp)(a:Addr)(xs:List V):Prop :=
 Rd H a (.lst xs) \/
  ∃(o:Obj) (af:Array Value) (n:Nat),K.lookup a=some o/\o.cls=.type "list" /\ o.dict=none/\o.data=.seq af n/\af.size<=sizeLine/\Vals xs af.toList
def aG(K:Frag)(H:Hp)(a:Addr)(xs:List V):Prop :=
 Rd H a (.tup xs) \/
  ∃(o:Obj) (af:Array Value) (n:Nat),K.lookup a=some o/\o.cls=.type "tuple" /\ o.data=.seq af n/\af.size<=sizeLine/\Vals xs af.toList
noncomputable def zak:Value->Option V
 |.none=>some .non
 |.bool b=>some (.bl b)
 |.int i _=>some (.int i)
 |.str x _=>some (.str x)
 |.bytes b _=>some (.byt b)
 |.float b _=>some (.flt b)
 |.ref a=>some (.ref a)
 |.type n=>some (.ty n)
 |_=>none
def RelV.abs(r:RelV x u):zak u=some x:=by
 cases x with
 |non=>cases r;rfl
 |bl _=>cases r;rfl
 |int _=>obtain⟨t,rfl⟩:=r;rfl
 |str _=>obtain⟨t,rfl⟩:=r;rfl
 |byt _=>obtain⟨t,rfl⟩:=r;rfl
 |flt _=>obtain⟨t,rfl⟩:=r;rfl
 |ref _=>cases r;rfl
 |ty _=>cases r;rfl
def RelV.inj(r:RelV x u)(q:RelV y u):x=y:=cD (r.abs.symm.trans q.abs)
def Vals.inj(h:Vals xs us)(h':Vals ys us):xs=ys:=by
 induction h generalizing ys with
 |nil=>cases h';rfl
 |cons r t ih=>cases h' with|cons r' t'=>rw[r.inj r',ih t']
section
variable{X:Cx}{aa:List (Addr×Obj)}{σ:St}{H:Hp}{s:Shared}{a:Addr}{xs ys:List V}
def ai.of{K:Frag}(h:H a=some (.lst xs)):ai K H a xs:=.inl (.inl h)
def aG.of{K:Frag}(h:H a=some (.tup xs)):aG K H a xs:=.inl (.inl h)
def Inv.list(I:Inv X aa σ H s)(h:ai X.K H a xs):∃af:List Value,Vals xs af/\PlainL s.heap a af.toArray/\xs.length<=sizeLine:=by
 rcases h with h|⟨o,af,n,hk,hc,hd,hs,hz,r⟩
 ·obtain⟨z,af,n,r,e⟩:=h.ok I.hok;nomatch af,r,⟨_,n,e,rfl,rfl,rfl⟩,z
 ·exists af.toList,r,⟨o,n,I.kIn a o hk,hc,hd,by simpa using hs⟩,?_;have e:=r.length;simp only[vW]at e;lia
def Inv.tuple(I:Inv X aa σ H s)(h:aG X.K H a xs):∃af:List Value,Vals xs af/\IsTup s.heap a af.toArray/\xs.length<=sizeLine:=by
 rcases h with h|⟨o,af,n,hk,hc,hs,hz,r⟩
 ·obtain⟨z,af,r,p⟩:=h.ok I.hok;nomatch af,r,p,z
 ·exists af.toList,r,⟨o,I.kIn a o hk,hc,n,by simpa using hs⟩,?_;have e:=r.length;simp only[vW]at e;omega
def Inv.list_inj(I:Inv X aa σ H s)(h:ai X.K H a xs)(h':ai X.K H a ys):xs=ys:=by
 obtain⟨af,r,⟨o,n,e,_,_,d⟩,_⟩:=I.list h;obtain⟨its',r',⟨o',n',e',_,_,d'⟩,_⟩:=I.list h';rw[e]at e';cases e';rw[d]at d';injection d' with d1 _
 have:af=its':=by simpa using congrArg Array.toList d1
 subst this;exact r.inj r'
def Inv.tuple_inj(I:Inv X aa σ H s)(h:aG X.K H a xs)(h':aG X.K H a ys):xs=ys:=by
 obtain⟨af,r,⟨o,e,_,n,d⟩,_⟩:=I.tuple h;obtain⟨its',r',⟨o',e',_,n',d'⟩,_⟩:=I.tuple h';rw[e]at e';cases e';rw[d]at d';injection d' with d1 _
 have:af=its':=by simpa using congrArg Array.toList d1
 subst this;exact r.inj r'
end
noncomputable abbrev Cx.wish(X:Cx)(E:Value->Shared->Prop):Cx:={X with xe:=E}
abbrev Cx.nox(X:Cx):Cx:=X.wish λ_ _=>False
def Cx.Ok.wish{X:Cx}(ok:X.Ok)(E:Value->Shared->Prop):(X.wish E).Ok :=
 ⟨ok.mod,ok.kind,ok.glob,ok.blt,ok.above,ok.inj,ok.has,ok.cab,ok.hd,ok.frames,ok.stk,ok.exf,ok.bs,ok.bsz,ok.noex,ok.exfs,ok.funs,ok.frf⟩
def Cx.Ok.unwish{X:Cx}{E:Value->Shared->Prop}(ok:(X.wish E).Ok):X.Ok :=
 ⟨ok.mod,ok.kind,ok.glob,ok.blt,ok.above,ok.inj,ok.has,ok.cab,ok.hd,ok.frames,ok.stk,ok.exf,ok.bs,ok.bsz,ok.noex,ok.exfs,ok.funs,ok.frf⟩
section
variable{X:Cx}{aa:List (Addr×Obj)}{σ:St}{H:Hp}{s:Shared}{E:Value->Shared->Prop}
def Inv.wish(I:Inv X aa σ H s)(E:Value->Shared->Prop):Inv (X.wish E) aa σ H s:=⟨I.ok.wish E,I.os,I.bare,I.base,I.loc,I.cell,I.free,I.freeC,I.pin,I.hok,I.len⟩
def Inv.unwish(I:Inv (X.wish E) aa σ H s):Inv X aa σ H s:=⟨I.ok.unwish,I.os,I.bare,I.base,I.loc,I.cell,I.free,I.freeC,I.pin,I.hok,I.len⟩
set_option tactic.hygienic true in
def SP.unwish(h:SP (X.wish E) aa D f s'):SP X aa D f s':=by
 cases f with
 |next=>obtain⟨σ',H',I,q⟩:=h;nomatch σ',H',I.unwish,q
 |brk=>obtain⟨σ',H',I,q⟩:=h;nomatch σ',H',I.unwish,q
 |cont=>obtain⟨σ',H',I,q⟩:=h;nomatch σ',H',I.unwish,q
 |ret u=>obtain⟨v,σ',H',I,r,q⟩:=h;nomatch v,σ',H',I.unwish,r,q
def PT.nox(h:PT X.nox e t):PT X e t:=λaa s σ H Q I hw =>
 bA (h aa s σ H Q (I.wish _) hw) (λ_ _ ⟨H',I',q⟩=>⟨H',I'.unwish,q⟩) λ_ _ z=>False.elim z
def eC.nox{st:List Stmt}{t:TS}(h:eC X.nox st t):eC X st t:=λaa s σ H D I hw =>
 bA (h aa s σ H D (I.wish _) hw) (λ_ _ q=>q.unwish) λ_ _ z=>False.elim z
end
section
variable{X:Cx}{st:Stmt}{rest:List Stmt}{t u:TS}{e:Expr}{te:TE}{pos:Pos}
def zcC:TS:=λD σ H=>D.nx σ H
def Gd(t u:TS):TS:=λD σ H=>t {D with nx:=u D} σ H
def aM:eC X [] zcC:=λ_ _ σ H _ I h=>rT ⟨σ,H,I,h⟩
set_option tactic.hygienic true in
def ar(h1:PS X st t)(h2:eC X rest u):eC X (st::rest) (Gd t u):=by
 intro aa s σ H D I h;refine CP (aI (h1 aa s σ H {D with nx:=u D} I h) λf s1 q=>?_);cases f with
 |next =>
  obtain⟨σ',H',I',q⟩:=q;exact h2 aa s1 σ' H' D I' q
 |ret v=>exact q
 |brk=>exact q
 |cont=>exact q
set_option tactic.hygienic true in
def ao(h1:PS X st t):eC X [st] t:=by
 intro aa s σ H D I h;refine CP (aI (h1 aa s σ H D I h) λf s1 q=>?_);cases f with
 |next=>exact rT q
 |ret v=>exact q
 |brk=>exact q
 |cont=>exact q
def Inv.quiet(I:Inv X aa σ H s):interactive X.env=false:=by simp[interactive,I.ok.kind]
def YO(te:TE):TS:=λD σ H=>te σ H λ_ H1=>D.nx σ H1
def fZ(he:PE X e te)(hs:swapsWith e none pos.line X.env=pure false:=by rfl):PS X (.Expr e pos) (YO te):=by
 intro aa s σ H D I h;exact wpAny_Expr_any (aI (he aa s σ H _ I h) λv s1 ⟨x,H1,I1,r1,q1⟩=>⟨σ,H1,I1,q1⟩) I.quiet hs
def zy(te:TE):TS:=λD σ H=>te σ H D.rt
def az(he:PE X e te):PS X (.Return (some e) pos) (zy te):=by
 intro aa s σ H D I h;exact wpAny_Return_some (aI (he aa s σ H _ I h) λv s1 ⟨x,H1,I1,r1,q1⟩=>⟨x,σ,H1,I1,r1,q1⟩)
def zaB(c:TT)(t u:TS):TS:=λD σ H=>c σ H λb H1=>if b=true then t D σ H1 else u D σ H1
def bt(hc:PT X c tc)(ha:eC X a t)(hb:eC X b u):PS X (.If c a b pos) (zaB tc t u):=by
 intro aa s σ H D I h;refine wpAny_If (aI (hc aa s σ H _ I h) λd s1 ⟨H1,I1,q1⟩=>?_);cases d with
 |true=>exact ha aa s1 σ H1 D I1 q1
 |false=>exact hb aa s1 σ H1 D I1 q1
end
abbrev TG:=V->St->Hp->(St->Hp->Prop)->Prop
abbrev mW:=List V->St->Hp->(St->Hp->Prop)->Prop
def PG(X:Cx)(target:Expr)(t:TG):Prop :=
 ∀(aa:List (Addr×Obj)) (s:Shared) (σ:St) (H:Hp) (v:V) (u:Value) (Q:St->Hp->Prop),Inv X aa σ H s->RelV v u->t v σ H Q ->
  wpAny (model X.prog X.w) X.A (assign target X.env u) (λ_ s'=>∃σ' H',Inv X aa σ' H' s'/\Q σ' H') X.xe s
def kK(X:Cx)(ts:List Expr)(t:mW):Prop :=
 ∀(aa:List (Addr×Obj)) (s:Shared) (σ:St) (H:Hp) (vs:List V) (us:List Value) (Q:St->Hp->Prop),Inv X aa σ H s->Vals vs us->t vs σ H Q ->
  wpAny (model X.prog X.w) X.A (assignInOrder ((assignEach ts X.env).map (·.2)) us) (λ_ s'=>∃σ' H',Inv X aa σ' H' s'/\Q σ' H') X.xe s
abbrev Ke:=V->V->V->Hp->(Hp->Prop)->Prop
def N6(X:Cx)(t:Ke):Prop :=
 ∀(aa:List (Addr×Obj)) (s:Shared) (σ:St) (H:Hp) (o i v:V) (ov iv u:Value) (Q:Hp->Prop),Inv X aa σ H s->RelV o ov->RelV i iv->RelV v u->t o i v H Q ->
  wpAny (model X.prog X.w) X.A (setItem ov iv u) (λ_ s'=>∃H',Inv X aa σ H' s'/\Q H') X.xe s
section
variable{X:Cx}{pos:Pos}
def a9(i:Nat):TG:=λv σ H Q=>Q (σ.set i (some v)) H
def BQ(hN:X.N.Nodup)(hi:X.N[i]?=some x)(hx:oR X.env.scope x)(hf:X.fn x=true\/X.env.scope.names.lookup x=some .local:=by first|exact .inl rfl|exact .inr rfl|assumption):PG X (.Name x pos) (a9 i):=by
 intro aa s σ H v u Q I r h;exact wpAny_assign_Name (um I hN hi hx r (λs' I'=>⟨_,H,I',h⟩) hf)
def fW:mW:=λvs σ H Q=>vs=[]/\Q σ H
def cB(t:TG)(u:mW):mW:=λvs σ H Q=>∃v r,vs=v::r/\t v σ H λσ' H'=>u r σ' H' Q
def gR:kK X [] fW:=by
 intro aa s σ H vs us Q I r h;obtain⟨e,h⟩:=h;subst e;cases r;exact assignInOrder_nil ⟨σ,H,I,h⟩
def cS(h1:PG X e t)(h2:kK X es u)
  (hs:(assignEach (e::es) X.env).map (·.2)=assign e X.env::(assignEach es X.env).map (·.2):=by rfl):kK X (e::es) (cB t u):=by
 intro aa s σ H vs us Q I r h;obtain⟨v,vr,e1,h⟩:=h;subst e1;cases r with
 |cons r rr =>
  rw[hs];refine assignInOrder_cons (aI (h1 aa s σ H _ _ _ I r h) λ_ s1 ⟨σ1,H1,I1,q1⟩=>?_);exact h2 aa s1 σ1 H1 _ _ Q I1 rr q1
def gm(K:Frag)(n:Nat)(t:mW):TG:=λv σ H Q=>∃a xs,v=.ref a/\aG K H a xs/\xs.length=n/\t xs σ H Q
def hZ(hc:X.calm=true)(h:kK X es t)
  (hn:(assignEach es X.env).length=n:=by rfl) (cW:(assignEach es X.env).findIdx? (·.1)=none:=by rfl):PG X (.Tuple es k pos) (gm X.K n t):=by
 intro aa s σ H v u Q I r hw;obtain⟨a,xs,e1,hq,hl,hw⟩:=hw;subst e1;cases r;obtain⟨af,rv,ht,hz⟩:=I.tuple hq;refine assign_Tuple_tuple (I.ok.hd hc) ht (by simp[hn,<-hl,rv.length]) cW λh' hx=>?_
 have I1:Inv X aa σ H {s with heap:=h'}:=I.kept (t':=s.toks) λb o e=>hx b o (dB (bo e)) e
 exact h aa _ σ H xs _ Q I1 (by simpa using rv) hw
def So(to ti:TE)(t:Ke):TG:=λv σ H Q=>to σ H λo H1=>ti σ H1 λi H2=>t o i v H2 λH3=>Q σ H3
def ZN(ho:PE X o to)(hi:PE X i ti)(hs:N6 X t)
  (ha:∀ v,assign (.Subscript o i pos) X.env v=(do
   let ov <-holding [v] (eval o X.env)
   let iv <-holding [v,ov] (eval i X.env)
   standAt pos
   holding [v,ov,iv] (setItem ov iv v)
   release [v,ov,iv] []):=by intro _;rfl):PG X (.Subscript o i pos) (So to ti t):=by
 intro aa s σ H v u Q I r h;rw[ha];refine aA (pq (aI (ho aa s σ H _ I h) λov s1 ⟨x,H1,I1,r1,q1⟩=>?_));refine aA (pq (aI (hi aa s1 σ H1 _ I1 q1) λiv s2 ⟨y,H2,I2,r2,q2⟩=>?_));refine aA (vh (aA (pq (aI (hs aa s2 σ H2 x y v ov iv u _ I2 r1 r2 r q2) λ_ s3 ⟨H3,I3,q3⟩=>?_))));exact wpAny_release ⟨σ,H3,I3,q3⟩
def ny(te:TE)(g:TG):TS:=λD σ H=>te σ H λx H1=>g x σ H1 D.nx
def NH(he:PE X e te)(hg:PG X tg g)(hs:swapsWithSole [tg] e pos.line X.env=pure false:=by rfl)(hw:swappedStores [tg] e X.env=pure none:=by rfl)
  (h1:(assignEach [tg] X.env).map (·.2)=[assign tg X.env]:=by rfl):PS X (.Assign [tg] e pos) (ny te g):=by
 intro aa s σ H D I h;refine wpAny_Assign_stores (aI (he aa s σ H _ I h) λv s1 ⟨x,H1,I1,r1,q1⟩=>?_) hs hw;rw[h1];exact aI (hg aa s1 σ H1 x v _ I1 r1 q1) λ_ s2 q=>q
def Nt(hN:X.N.Nodup)(hi:X.N[i]?=some x)(hx:oR X.env.scope x)(he:PE X e te)(hs:swapsWith e (some (.Name x pos')) pos.line X.env=pure false:=by rfl)(hf:X.fn x=true\/X.env.scope.names.lookup x=some .local:=by first|exact .inl rfl|exact .inr rfl|assumption) :
  PS X (.Assign [.Name x pos'] e pos) (ny te (a9 i)):=by
 intro aa s σ H D I h;refine wpAny_Assign_Name (aI (he aa s σ H _ I h) λv s1 ⟨y,H1,I1,r1,q1⟩=>?_) hs;exact um I1 hN hi hx r1 (λs2 I2=>⟨_,H1,I2,q1⟩) hf
end
section
variable{X:Cx}{pos:Pos}
def Na(c:TT)(tb:TS):TS:=λD σ H=>∃W:Nat->St->Hp->Prop,(∃m,W m σ H)/\∀m σ H,W m σ H ->
 c σ H λb H1=>if b=true then ∃N:St->Hp->Prop,(∀σ' H',N σ' H'->∃m',m'<m/\W m' σ' H')/\tb {D with nx:=N,ct:=N,bk:=D.nx} σ H1 else D.nx σ H1
set_option tactic.hygienic true in
def yG(hp:PassesOwn (model X.prog X.w) X.A X.env X.xe)(hc:PT X c tc)(hb:eC X body tb):PS X (.While c body [] pos) (Na tc tb):=by
 intro aa s σ H D I h;obtain⟨W,⟨m0,w0⟩,turn⟩:=h;refine wpAny_While (codeAny_whileLoop (λn s'=>∃σ' H',Inv X aa σ' H' s'/\W n σ' H') ?_ m0 ⟨σ,H,I,w0⟩);rintro n s1 ⟨σ1,H1,I1,w1⟩;refine ph hp (aI (hc aa s1 σ1 H1 _ I1 (turn n σ1 H1 w1)) λb s2 ⟨H2,I2,q2⟩=>?_);cases b with
 |true =>
  obtain⟨N,hN,q2⟩:=q2;rw[ax rfl];refine ph hp (aI (hb aa s2 σ1 H2 _ I2 q2) λf s3 q3=>?_);cases f with
  |next =>
   obtain⟨σ3,H3,I3,n3⟩:=q3;obtain⟨m',hm,w3⟩:=hN σ3 H3 n3;nomatch m',hm,σ3,H3,I3,w3
  |cont =>
   obtain⟨σ3,H3,I3,n3⟩:=q3;obtain⟨m',hm,w3⟩:=hN σ3 H3 n3;nomatch m',hm,σ3,H3,I3,w3
  |brk=>exact q3
  |ret v=>exact q3
 |false =>
  rw[aq cQ];exact rT ⟨σ1,H2,I2,q2⟩
end
structure It where
 go:Nat->Hp->Prop
 yld:Nat->Hp->V->Hp->Prop
 stop:Nat->Hp->Prop
def eo(X:Cx)(aa:List (Addr×Obj))(H:Hp)(b:Addr):Prop :=
 H b=none/\b≠X.env.locals/\b∉X.fs/\(b∈X.ex\/X.s₀.heap.objs.size<=b)/\(∀x c,X.env.cells.lookup x=some c->c≠b)/\∀p∈X.pn++aa,p.1≠b
def Inv.fpOk(I:Inv X aa σ H s)(hb:s.heap.objs.size<=b)(hn:H' b=none):eo X aa H' b:=by
 exists hn,qW (cy I.lt hb),I.nofs hb,.inr (bp I.sz hb),λx c e z=>?_,λp hp z=>?_
 ·obtain⟨v,q⟩:=I.cell x c e;exact absurd (cy q.lt (by rw[z];exact hb)) (oN _)
 ·exact absurd (cy (bo (I.pin p hp).1) (by rw[z];exact hb)) (oN _)
structure kA(P:Program)(w:World)(K:Frag)(tg:Expr)(J:It)(fp:List Addr)(it:Addr)(tn:Nat->Heap->Prop):Prop where
 mem:it∈fp
 obj:∀i h,tn i h->∀b∈fp,∃o,h.get? b=some o/\∀v,o.data≠.cell v
 keep:∀i h h',tn i h->(∀b∈fp,∀o,h.get? b=some o->h'.get? b=some o)->tn i h'
 item:∀(X:Cx),X.prog=P->X.w=w->X.K=K->X.calm=true->∀(i:Nat) (aa:List (Addr×Obj)) (s:Shared) (σ:St) (H:Hp) (E:Value->Shared->Prop),Inv X aa σ H s->(∀b∈fp,eo X aa H b)->tn i s.heap->J.go i H ->
  wpAny (model P w) X.A (pyNext (.ref it)) (fun r s1=>∃ u,r=some u /\ wpAny (model P w) X.A (letOwnedTupleGo tg (.ref it) u) (λ_ s2=>∃x H',Inv X aa σ H' s2/\RelV x u/\J.yld i H x H'/\tn (i+1) s2.heap/\∀b∈fp,H' b=none) E s1) E s
 done:∀(X:Cx),X.prog=P->X.w=w->X.K=K->X.calm=true->∀(i:Nat) (aa:List (Addr×Obj)) (s:Shared) (σ:St) (H:Hp) (E:Value->Shared->Prop),Inv X aa σ H s->(∀b∈fp,eo X aa H b)->tn i s.heap->J.stop i H ->
  wpAny (model P w) X.A (pyNext (.ref it)) (λr s1=>r=none/\Inv X aa σ H s1) E s
 self:∀(A:Around) (i:Nat) (s:Shared) (Q:Value->Shared->Prop) (E:Value->Shared->Prop),tn i s.heap->Q (.ref it) s->wpAny (model P w) A (pyIter (.ref it)) Q E s
abbrev TI:=St->Hp->(It->Hp->Prop)->Prop
def Mv(X:Cx)(aa:List (Addr×Obj))(σ:St)(tg:Expr)(R:It->Hp->Prop)(sE:Value)(s2:Shared):Prop :=
 ∃(it:Addr) (fp:List Addr) (tn:Nat->Heap->Prop) (J:It) (H':Hp),sE=.ref it/\Inv X aa σ H' s2/\kA X.prog X.w X.K tg J fp it tn/\tn 0 s2.heap/\(∀b∈fp,eo X aa H' b)/\R J H'
def PI(X:Cx)(tg iter:Expr)(wi:TI):Prop :=
 ∀(aa:List (Addr×Obj)) (s:Shared) (σ:St) (H:Hp) (R:It->Hp->Prop),Inv X aa σ H s->wi σ H R ->
  wpAny (model X.prog X.w) X.A (eval iter X.env) (λv s1=>wpAny (model X.prog X.w) X.A (pyIter v) (Mv X aa σ tg R) X.xe s1) X.xe s
def uj(ho:s.heap.get? it=some o)(hc:o.cls=.type n)(hd:o.data=.fields vs)
    (hn:["enumerate","zip","dict_itemiterator","dict_reverseitemiterator","odict_iterator","itertools.zip_longest","itertools.pairwise"].contains n=false) (hQ:Q () s):wpAny M A (letOwnedTupleGo tg (.ref it) u) Q E s:=by
  unfold letOwnedTupleGo;cases tg<;>first
    |exact bg hQ
    | (cases u <;> first
        |exact bg hQ
        | (refine aA (wpAny_load ho ?_)
           rw [hc,hd]
           show wpAny M A (if (["enumerate","zip","dict_itemiterator","dict_reverseitemiterator","odict_iterator","itertools.zip_longest","itertools.pairwise"].contains n&&vs[0]? == some (rawInt _))=true then _ else _) Q E s
           rw [aq (by intro h;rw [hn,ql]at h;cases h)]
           exact bg hQ))
def gV(K:Frag)(a:Addr):It :=
 ⟨λi H=>∃xs x,ai K H a xs/\xs[i]?=some x,λi H x H'=>H'=H/\∀xs,ai K H a xs->xs[i]?=some x,λi H=>∃xs,ai K H a xs/\xs.length<=i⟩
def wa(K:Frag)(a:Addr):It :=
 ⟨λi H=>∃xs x,aG K H a xs/\xs[i]?=some x,λi H x H'=>H'=H/\∀xs,aG K H a xs->xs[i]?=some x,λi H=>∃xs,aG K H a xs/\xs.length<=i⟩
def mv(lo:Int)(n:Nat):It:=⟨λi _=>i<n,λi H x H'=>H'=H/\x=.int (lo+i),λi _=>n<=i⟩
def Ye{P:Program}{w:World}{K:Frag}{tg:Expr}(a it:Addr):kA P w K tg (gV K a) [it] it (λi h=>h.IsListIter it a i) where
 mem:=by simp
 obj:=λi h st b hb=>by
  have e:b=it:=by simpa using hb
  subst e;obtain⟨o,e,c,d⟩:=st;exact⟨o,e,λv z=>by rw[d]at z;cases z⟩
 keep:=λi h h' st k=>st.at λo e=>k it (by simp) o e
 item:=by
  intro X hP hw hK hc i aa s σ H E I hf st hg;subst hP hw hK;obtain⟨xs,x,hq,hx⟩:=hg;obtain⟨af,rv,p,hz⟩:=I.list hq;obtain⟨u,hu,ru⟩:=rv.get hx;obtain⟨f0,f1,f2,f3,f4,f5⟩:=hf it (by simp);refine wpAny_pyNext_list_item st p.isList (x:=u) (by simpa using hu) λh' bU sb=>?_
  have I1:Inv X aa σ H {s with heap:=h'}:=I.turned (t':=s.toks) (λb o hb e=>(sb.2 b hb).trans e) f0 f1 f3 f4 f5;obtain⟨o,e,c,d⟩:=id bU;nomatch u,rfl,uj (s:={s with heap:=h'}) e c d (by decide) ⟨x,H,I1,ru,⟨rfl,λys hy=>by rw[I.list_inj hy hq];exact hx⟩,bU,λb hb=>(hf b hb).1⟩
 done:=by
  intro X hP hw hK hc i aa s σ H E I hf st hg;subst hP hw hK;obtain⟨xs,hq,hx⟩:=hg;obtain⟨af,rv,p,hz⟩:=I.list hq;obtain⟨f0,f1,f2,f3,f4,f5⟩:=hf it (by simp);have hl:=rv.length;exact wpAny_pyNext_list_end (I.ok.hd hc) st p.isList (by simp;lia) λh' eb=>⟨rfl,I.turned (t':=s.toks) (λb o hb e=>eb b o hb e) f0 f1 f3 f4 f5⟩
 self:=λ_ _ _ _ _ st h=>wpAny_pyIter_listiter st h
def RH{P:Program}{w:World}{K:Frag}{tg:Expr}(a it:Addr):kA P w K tg (wa K a) [it] it (λi h=>h.IsTupleIter it a i) where
 mem:=by simp
 obj:=λi h st b hb=>by
  have e:b=it:=by simpa using hb
  subst e;obtain⟨o,e,c,d⟩:=st;exact⟨o,e,λv z=>by rw[d]at z;cases z⟩
 keep:=λi h h' st k=>st.at λo e=>k it (by simp) o e
 item:=by
  intro X hP hw hK hc i aa s σ H E I hf st hg;subst hP hw hK;obtain⟨xs,x,hq,hx⟩:=hg;obtain⟨af,rv,p,hz⟩:=I.tuple hq;obtain⟨u,hu,ru⟩:=rv.get hx;obtain⟨f0,f1,f2,f3,f4,f5⟩:=hf it (by simp);refine wpAny_pyNext_tuple_item st (show s.heap.IsTuple a af.toArray from p) (x:=u) (by simpa using hu) λh' bU sb=>?_
  have I1:Inv X aa σ H {s with heap:=h'}:=I.turned (t':=s.toks) (λb o hb e=>(sb.2 b hb).trans e) f0 f1 f3 f4 f5;obtain⟨o,e,c,d⟩:=id bU;nomatch u,rfl,uj (s:={s with heap:=h'}) e c d (by decide) ⟨x,H,I1,ru,⟨rfl,λys hy=>by rw[I.tuple_inj hy hq];exact hx⟩,bU,λb hb=>(hf b hb).1⟩
 done:=by
  intro X hP hw hK hc i aa s σ H E I hf st hg;subst hP hw hK;obtain⟨xs,hq,hx⟩:=hg;obtain⟨af,rv,p,hz⟩:=I.tuple hq;obtain⟨f0,f1,f2,f3,f4,f5⟩:=hf it (by simp);have hl:=rv.length;exact wpAny_pyNext_tuple_end (I.ok.hd hc) st (show s.heap.IsTuple a af.toArray from p) (by simp;omega) λh' eb=>⟨rfl,I.turned (t':=s.toks) (λb o hb e=>eb b o hb e) f0 f1 f3 f4 f5⟩
 self:=λ_ _ _ _ _ st h=>wpAny_pyIter_tupleiter st h
def zbP{P:Program}{w:World}{K:Frag}{tg:Expr}(it:Addr)(lo:Int)(n:Nat):kA P w K tg (mv lo n) [it] it (λi h=>IsRangeIter h it (lo+(i:Nat)*1) ((n:Int)-(i:Nat)) 1) where
 mem:=by simp
 obj:=λi h st b hb=>by
  have e:b=it:=by simpa using hb
  subst e;exact⟨_,st,λv z=>by
   have z':Data.fields _=Data.cell v:=z;cases z'⟩
 keep:=λi h h' st k=>k it (by simp) _ st
 item:=by
  intro X hP hw hK hc i aa s σ H E I hf st hg;subst hP hw hK;obtain⟨f0,f1,f2,f3,f4,f5⟩:=hf it (by simp);have W:=Walks.range (prog:=X.prog) (w:=X.w) (I.ok.hd hc) it lo 1 n;refine W.item i s _ _ hg st λv h' tk hv bU kk=>?_
  obtain⟨t,rfl⟩:=hv;have I1:Inv X aa σ H {s with heap:=h',toks:=tk}:=I.turned (λb o hb e=>kk b o (by simpa using hb) e) f0 f1 f3 f4 f5;exists _,rfl,uj (s:={s with heap:=h',toks:=tk}) (n := "range_iterator") bU rfl rfl (by decide) ⟨.int (lo+i),H,I1,⟨t,?_⟩,⟨rfl,rfl⟩,bU,λb hb=>(hf b hb).1⟩;rw[Int.mul_one]
 done:=by
  intro X hP hw hK hc i aa s σ H E I hf st hg;subst hP hw hK;obtain⟨f0,f1,f2,f3,f4,f5⟩:=hf it (by simp);exact wpAny_pyNext_range_end (I.ok.hd hc) st (by have:n<=i:=hg;lia) λh' eb=>⟨rfl,I.turned (t':=s.toks) (λb o hb e=>eb b o hb e) f0 f1 f3 f4 f5⟩
 self:=λ_ _ _ _ _ st h=>wpAny_pyIter_rangeiter st h
section
variable{X:Cx}{tg:Expr}
def zbq(K:Frag)(tl:TE):TI:=λσ H R=>tl σ H λx H1=>∃a,x=.ref a/\(∃xs,ai K H1 a xs)/\R (gV K a) H1
def Yg(K:Frag)(tl:TE):TI:=λσ H R=>tl σ H λx H1=>∃a,x=.ref a/\(∃xs,aG K H1 a xs)/\R (wa K a) H1
def Hv{l:Expr}{tl:TE}(hl:PE X l tl):PI X tg l (zbq X.K tl):=by
 intro aa s σ H R I h;refine aI (hl aa s σ H _ I h) λv s1 ⟨x,H1,I1,r1,q1⟩=>?_
 obtain⟨a,e,⟨xs,hq⟩,q⟩:=q1;subst e;cases r1;obtain⟨af,rv,p,hz⟩:=I1.list hq;refine tq p.isList ?_;exists s1.heap.objs.size,[s1.heap.objs.size],_,_,H1,rfl,I1.kept (t':=s1.toks) λb o e=>cv _ e,Ye a _,⟨_,c8 _ rfl,rfl,rfl⟩,λb hb=>?_,q;have e:b=s1.heap.objs.size:=by simpa using hb
 subst e;exact I1.fpOk (aJ _) (I1.hok.fresh (aJ _))
def Z9{l:Expr}{tl:TE}(hl:PE X l tl):PI X tg l (Yg X.K tl):=by
 intro aa s σ H R I h;refine aI (hl aa s σ H _ I h) λv s1 ⟨x,H1,I1,r1,q1⟩=>?_
 obtain⟨a,e,⟨xs,hq⟩,q⟩:=q1;subst e;cases r1;obtain⟨af,rv,p,hz⟩:=I1.tuple hq;refine wpAny_pyIter_tuple (show s1.heap.IsTuple a af.toArray from p) ?_;exists s1.heap.objs.size,[s1.heap.objs.size],_,_,H1,rfl,I1.kept (t':=s1.toks) λb o e=>cv _ e,RH a _,⟨_,c8 _ rfl,rfl,rfl⟩,λb hb=>?_,q;have e:b=s1.heap.objs.size:=by simpa using hb
 subst e;exact I1.fpOk (aJ _) (I1.hok.fresh (aJ _))
def Zs{aa:List (Addr×Obj)}{σ:St}{H:Hp}{s:Shared}{R:It->Hp->Prop}{E:Value->Shared->Prop}{lo hi:Int}{t u v:Tok}{tk:Nat}(I:Inv X aa σ H s)(h1 : -(2^62)<=lo)(h2:lo<2^62)(h3 : -(2^62)<=hi)(h4:hi<2^62)
  (q:R (mv lo (hi-lo).toNat) H):wpAny (model X.prog X.w) X.A (pyIter (.ref s.heap.objs.size)) (Mv X aa σ tg R) E {s with heap:=s.heap.push {cls:=.type "range",data:=.fields #[.int lo t,.int hi u,.int 1 v]},toks:=tk}:=by
 refine wpAny_pyIter_range (IsRange.new ..) (small_one h1 h2 h3 h4) ?_;have I1:Inv X aa σ H {s with heap:=s.heap.push {cls:=.type "range",data:=.fields #[.int lo t,.int hi u,.int 1 v]},toks:=tk}:=I.kept λb o e=>cv _ e
 refine⟨(s.heap.push {cls:=.type "range",data:=.fields #[.int lo t,.int hi u,.int 1 v]}).objs.size,[(s.heap.push {cls:=.type "range",data:=.fields #[.int lo t,.int hi u,.int 1 v]}).objs.size],_,_,H,rfl,I1.kept (t':=tk) λb o e=>cv _ e,zbP _ lo (hi-lo).toNat,?_,λb hb=>?_,q⟩
 ·have e1:lo+((0:Nat):Int)*1=lo:=by simp
  have e2:(((hi-lo).toNat:Nat):Int)-((0:Nat):Int)=Builtin.Range.rangeSize lo hi 1:=by rw[rangeSize_one];split<;>lia
  show IsRangeIter _ _ (lo+((0:Nat):Int)*1) ((((hi-lo).toNat:Nat):Int)-((0:Nat):Int)) 1;rw[e1,e2];exact c8 _ rfl
 ·have e:b=(s.heap.push {cls:=.type "range",data:=.fields #[.int lo t,.int hi u,.int 1 v]}).objs.size:=by simpa using hb
  subst e;exact I1.fpOk (aJ _) (I1.hok.fresh (aJ _))
def VZ(ta:TA):TI:=λσ H R=>ta σ H λvs H1=>∃j:Int,vs=[.int j] /\ -(2^62)<=j/\j<2^62/\R (mv 0 j.toNat) H1
def pd{a:Expr}{ta:TA}{p pos:Pos}(hg:Gl X "range")(hm:X.mg "range" = none)(ha:PA X [a] ta)(hs:starEach [a] X.env=[(false,eval a X.env)]:=by rfl):PI X tg (.Call (.Name "range" p) [a] [] pos) (VZ ta):=by
 intro aa s σ H R I h;refine Call_ (nX I hg hm boot_range (sS (aI (ha pos aa s σ H _ I h) λus s1 ⟨vs,H1,I1,r1,q1⟩=>?_) hs rfl));obtain⟨j,e,q1,q2,q⟩:=q1;subst e;cases r1 with
 |cons r rr =>
  cases rr;obtain⟨t,rfl⟩:=r;exact call_range_1 (Zs I1 (by lia) (by lia) q1 q2 (by simpa using q))
def Hh(wi:TI)(g:TG)(tb:TS):TS:=λD σ H=>wi σ H λJ H1=>∃W:Nat->Nat->St->Hp->Prop,(∃m,W 0 m σ H1)/\∀i m σ H,W i m σ H ->
 (J.stop i H/\D.nx σ H)\/(J.go i H/\∃N:St->Hp->Prop,(∀σ' H',N σ' H'->∃m',m'<m/\W (i+1) m' σ' H')/\∀x H',J.yld i H x H'->g x σ H' λσ2 H2=>tb {D with nx:=N,ct:=N,bk:=D.nx} σ2 H2)
noncomputable def kY(fp:List Addr)(h:Heap):List (Addr×Obj):=fp.filterMap λb=>(h.get? b).map λo=>(b,o)
def nO(hb:b∈fp)(e:h.get? b=some o):(b,o)∈kY fp h:=qZ.mpr ⟨b,hb,by rw[e];rfl⟩
def EM(hp:p∈kY fp h):p.1∈fp/\h.get? p.1=some p.2:=by
 obtain⟨b,hb,e⟩:=qZ.mp hp;cases q:h.get? b with
 |none=>rw[q]at e;cases e
 |some o =>
  rw[q]at e;have e':(b,o)=p:=cD e;subst e';nomatch hb,q
def Inv.pinned(I:Inv X aa σ H s)(hf:∀b∈fp,eo X aa H b)(ho:∀b∈fp,∃o,s.heap.get? b=some o/\∀v,o.data≠.cell v):Inv X (aa++kY fp s.heap) σ H s :=
 I.pins_of λp hp=>(bW.mp hp).elim (λz=>I.pin p (cx _ z)) λz=>by
  obtain⟨hb,e⟩:=EM z;obtain⟨f0,f1,f2,_⟩:=hf p.1 hb;obtain⟨o,e',d⟩:=ho p.1 hb;rw[e]at e';cases e';nomatch e,f0,f1,f2,d
def Inv.unpinned(I:Inv X (aa++pl) σ H s):Inv X aa σ H s:=I.pins_of λp hp=>I.pin p (cx _ (i8 _ hp))
set_option tactic.hygienic true in
def eN(hp:PassesOwn (model X.prog X.w) X.A X.env X.xe)(hc:X.calm=true)(hi:PI X tg iter wi)(hg:PG X tg g)(hb:eC X body tb)
  (hs:∀x,foldedSetIterable iter X.env x=pure x:=by intro _;rfl):PS X (.For tg iter body [] pos) (Hh wi g tb):=by
 intro aa s σ H D I h;refine wpAny_For (aI (hi aa s σ H _ I h) λv s1 h1=>aI h1 λsE s2 h2=>?_) hs;obtain⟨it,fp,tn,J,H2,e,I2,T,cU,f2,W,⟨m0,w0⟩,turn⟩:=h2;subst e;have stat:∀{H':Hp},(∀b∈fp,H' b=none)->∀b∈fp,eo X aa H' b:=λhn b hb=>⟨hn b hb,(f2 b hb).2⟩
 refine codeAny_forLoop_any (λn s'=>∃i σ' H',Inv X aa σ' H' s'/\tn i s'.heap/\(∀b∈fp,H' b=none)/\W i n σ' H') ?_ m0 ⟨0,σ,H2,I2,cU,λb hb=>(f2 b hb).1,w0⟩;rintro n s3 ⟨i,σ3,H3,I3,oo,nG,w3⟩;rcases turn i n σ3 H3 w3 with ⟨stop,qn⟩|⟨go,N,hN,step⟩
 ·refine ph hp (aI (T.done X rfl rfl rfl hc i aa s3 σ3 H3 X.xe I3 (stat nG) oo stop) λr s4 ⟨hr,I4⟩=>?_);subst hr;exact rT ⟨σ3,H3,I4,qn⟩
 ·refine ph hp (aI (T.item X rfl rfl rfl hc i aa s3 σ3 H3 X.xe I3 (stat nG) oo go) λr s4 ⟨u,hr,h4⟩=>?_);subst hr;refine ph hp (aI h4 λ_ s5 ⟨x,H5,I5,r5,y5,kh,tw⟩=>?_);have vQ:=I5.pinned (stat tw) (T.obj _ _ kh);refine ph hp (aI (hg _ s5 σ3 H5 x u _ vQ r5 (step x H5 y5)) λ_ s6 ⟨σ6,H6,I6,q6⟩=>?_);refine ph hp (aI (hb _ s6 σ6 H6 _ I6 q6) λf s7 q7=>?_);have again:∀{σ7:St}{H7:Hp},Inv X (aa++kY fp s5.heap) σ7 H7 s7->N σ7 H7->∃m,m<n/\∃i σ' H',Inv X aa σ' H' s7/\tn i s7.heap/\(∀b∈fp,H' b=none)/\W i m σ' H':=fun {σ7 H7} I7 n7=>by
   obtain⟨m',hm,w7⟩:=hN σ7 H7 n7;exists m',hm,i+1,σ7,H7,I7.unpinned,T.keep _ _ _ kh λb hb o e=>(I7.pin (b,o) (cx _ (cx _ (nO hb e)))).1,λb hb=>?_,w7;obtain⟨o,e,d⟩:=T.obj _ _ kh b hb;exact (I7.pin (b,o) (cx _ (cx _ (nO hb e)))).2.1
  cases f with
  |next=>obtain⟨σ7,H7,I7,n7⟩:=q7;exact again I7 n7
  |cont=>obtain⟨σ7,H7,I7,n7⟩:=q7;exact again I7 n7
  |brk=>obtain⟨σ7,H7,I7,q7⟩:=q7;nomatch σ7,H7,I7.unpinned,q7
  |ret v=>obtain⟨x7,σ7,H7,I7,r7,q7⟩:=q7;nomatch x7,σ7,H7,I7.unpinned,r7,q7
end
def mB{K:Frag}{a:Addr}{xs:List V}{g:TG}{tb:TS}{D:kr}{σ:St}{H:Hp}(Pv:Nat->St->Hp->Prop)(h0:Pv 0 σ H)(hl:∀i σ H,i<=xs.length->Pv i σ H->ai K H a xs)
  (hs:∀i x σ H,xs[i]?=some x->Pv i σ H->g x σ H λσ2 H2=>tb {D with nx:=Pv (i+1),ct:=Pv (i+1),bk:=D.nx} σ2 H2) (hd:∀σ H,Pv xs.length σ H->D.nx σ H) :
  ∃W:Nat->Nat->St->Hp->Prop,(∃m,W 0 m σ H)/\∀i m σ H,W i m σ H ->
   ((gV K a).stop i H/\D.nx σ H)\/((gV K a).go i H/\∃N:St->Hp->Prop,(∀σ' H',N σ' H'->∃m',m'<m/\W (i+1) m' σ' H')/\∀x H',(gV K a).yld i H x H'->g x σ H' λσ2 H2=>tb {D with nx:=N,ct:=N,bk:=D.nx} σ2 H2):=by
 exists λi m σ H=>m=xs.length-i/\i<=xs.length/\Pv i σ H,⟨xs.length,by simp,cb _,h0⟩,?_;rintro i m σ H ⟨rfl,hi,p⟩;have q:=hl i σ H hi p;by_cases bE:i<xs.length
 ·refine .inr ⟨⟨xs,xs[i],q,by simp[bE]⟩,Pv (i+1),λσ' H' p'=>⟨xs.length-(i+1),by omega,rfl,bE,p'⟩,λx H' y=>?_⟩;obtain⟨e,y⟩:=y;subst e;exact hs i x σ _ (y xs q) p
 ·have e:i=xs.length:=by lia
  subst e;exact .inl ⟨⟨xs,q,aJ _⟩,hd σ H p⟩
def W0{K:Frag}{a:Addr}{xs:List V}{g:TG}{tb:TS}{D:kr}{σ:St}{H:Hp}(Pv:Nat->St->Hp->Prop)(h0:Pv 0 σ H)(hl:∀i σ H,i<=xs.length->Pv i σ H->aG K H a xs)
  (hs:∀i x σ H,xs[i]?=some x->Pv i σ H->g x σ H λσ2 H2=>tb {D with nx:=Pv (i+1),ct:=Pv (i+1),bk:=D.nx} σ2 H2) (hd:∀σ H,Pv xs.length σ H->D.nx σ H) :
  ∃W:Nat->Nat->St->Hp->Prop,(∃m,W 0 m σ H)/\∀i m σ H,W i m σ H ->
   ((wa K a).stop i H/\D.nx σ H)\/((wa K a).go i H/\∃N:St->Hp->Prop,(∀σ' H',N σ' H'->∃m',m'<m/\W (i+1) m' σ' H')/\∀x H',(wa K a).yld i H x H'->g x σ H' λσ2 H2=>tb {D with nx:=N,ct:=N,bk:=D.nx} σ2 H2):=by
 exists λi m σ H=>m=xs.length-i/\i<=xs.length/\Pv i σ H,⟨xs.length,by simp,cb _,h0⟩,?_;rintro i m σ H ⟨rfl,hi,p⟩;have q:=hl i σ H hi p;by_cases bE:i<xs.length
 ·refine .inr ⟨⟨xs,xs[i],q,by simp[bE]⟩,Pv (i+1),λσ' H' p'=>⟨xs.length-(i+1),by omega,rfl,bE,p'⟩,λx H' y=>?_⟩;obtain⟨e,y⟩:=y;subst e;exact hs i x σ _ (y xs q) p
 ·have e:i=xs.length:=by omega
  subst e;exact .inl ⟨⟨xs,q,aJ _⟩,hd σ H p⟩
def qL{lo:Int}{n:Nat}{g:TG}{tb:TS}{D:kr}{σ:St}{H:Hp}(Pv:Nat->St->Hp->Prop)(h0:Pv 0 σ H)
  (hs:∀i σ H,i<n->Pv i σ H->g (.int (lo+i)) σ H λσ2 H2=>tb {D with nx:=Pv (i+1),ct:=Pv (i+1),bk:=D.nx} σ2 H2) (hd:∀σ H,Pv n σ H->D.nx σ H) :
  ∃W:Nat->Nat->St->Hp->Prop,(∃m,W 0 m σ H)/\∀i m σ H,W i m σ H ->
   ((mv lo n).stop i H/\D.nx σ H)\/((mv lo n).go i H/\∃N:St->Hp->Prop,(∀σ' H',N σ' H'->∃m',m'<m/\W (i+1) m' σ' H')/\∀x H',(mv lo n).yld i H x H'->g x σ H' λσ2 H2=>tb {D with nx:=N,ct:=N,bk:=D.nx} σ2 H2):=by
 exists λi m σ H=>m=n-i/\i<=n/\Pv i σ H,⟨n,by simp,cb _,h0⟩,?_;rintro i m σ H ⟨rfl,hi,p⟩;by_cases bE:i<n
 ·refine .inr ⟨bE,Pv (i+1),λσ' H' p'=>⟨n-(i+1),by lia,rfl,bE,p'⟩,λx H' y=>?_⟩;obtain⟨e,y⟩:=y;subst e y;exact hs i σ _ bE p
 ·have e:i=n:=by lia
  subst e;exact .inl ⟨aJ _,hd σ H p⟩
def X0(Pv:St->Hp->Prop)(μ:St->Hp->Nat)(h0:Pv σ H)
  (hs:∀σ H,Pv σ H->c σ H λb H1=>if b=true then tb {D with nx:=λσ' H'=>Pv σ' H'/\μ σ' H'<μ σ H,ct:=λσ' H'=>Pv σ' H'/\μ σ' H'<μ σ H,bk:=D.nx} σ H1 else D.nx σ H1)
  (mono:∀σ H Q Q',(∀b H1,Q b H1->Q' b H1)->c σ H Q->c σ H Q'):Na c tb D σ H:=by
 exists λm σ H=>m=μ σ H/\Pv σ H,⟨_,rfl,h0⟩,?_;rintro m σ H ⟨rfl,p⟩;refine mono σ H _ _ (λb H1 q=>?_) (hs σ H p);cases b with
 |true=>nomatch _,λσ' H' ⟨p',l⟩=>⟨_,l,rfl,p'⟩,q
 |false=>exact q
abbrev R2:=V->V->Hp->VK->Prop
def bH(X:Cx)(f:Value->Value->Sem Value)(r:R2):Prop :=
 ∀(aa:List (Addr×Obj)) (s:Shared) (σ:St) (H:Hp) (x y:V) (v u:Value) (Q:VK),Inv X aa σ H s->RelV x v->RelV y u->r x y H Q ->
  wpAny (model X.prog X.w) X.A (f v u) (EP X aa σ Q) X.xe s
def CG(X:Cx)(f:Value->Sem Value)(r:V->Hp->VK->Prop):Prop :=
 ∀(aa:List (Addr×Obj)) (s:Shared) (σ:St) (H:Hp) (x:V) (v:Value) (Q:VK),Inv X aa σ H s->RelV x v->r x H Q ->
  wpAny (model X.prog X.w) X.A (f v) (EP X aa σ Q) X.xe s
def gH(X:Cx)(f:Value)(r:List V->Hp->VK->Prop):Prop :=
 ∀(aa:List (Addr×Obj)) (s:Shared) (σ:St) (H:Hp) (xs:List V) (us:List Value) (Q:VK),Inv X aa σ H s->Vals xs us->r xs H Q ->
  wpAny (model X.prog X.w) X.A (call f us) (EP X aa σ Q) X.xe s
def XX(X:Cx)(r:V->Hp->(Bool->Hp->Prop)->Prop):Prop :=
 ∀(aa:List (Addr×Obj)) (s:Shared) (σ:St) (H:Hp) (x:V) (v:Value) (Q:Bool->Hp->Prop),Inv X aa σ H s->RelV x v->r x H Q ->
  wpAny (model X.prog X.w) X.A (truthy v) (TP X aa σ Q) X.xe s
def i0(r:R2)(ta tb:TE):TE:=λσ H Q=>ta σ H λx H1=>tb σ H1 λy H2=>r x y H2 Q
def V7(r:V->Hp->VK->Prop)(ta:TE):TE:=λσ H Q=>ta σ H λx H1=>r x H1 Q
def rI(C:Int->Int->Prop)(g:Int->Int->V):R2:=λx y H Q=>∃i j,x=.int i/\y=.int j/\C i j/\Q (g i j) H
def jB(g:Int->Int->V):R2:=λx y H Q=>∃i j,x=.int i/\y=.int j/\Q (g i j) H
def rU(g:Int->V):V->Hp->VK->Prop:=λx H Q=>∃i,x=.int i/\Q (g i) H
section
variable{X:Cx}{a b c:Expr}{ta tb tc:TE}{pos:Pos}
def BD(ha:PE X a ta)(hb:PE X b tb){aa:List (Addr×Obj)}{s:Shared}{σ:St}{H:Hp}{R:V->V->Hp->Prop}(I:Inv X aa σ H s)
  (h:ta σ H λx H1=>tb σ H1 λy H2=>R x y H2) {Q:Value->Shared->Prop}{f:Value->Value->Sem Value}
  (hf:∀v u s2 x y H2,Inv X aa σ H2 s2->RelV x v->RelV y u->R x y H2->wpAny (model X.prog X.w) X.A (f v u) Q X.xe s2) :
  wpAny (model X.prog X.w) X.A (eval a X.env) (λv s₁=>wpAny (model X.prog X.w) X.A (eval b X.env) (λu s₂=>wpAny (model X.prog X.w) X.A (f v u) Q X.xe s₂) X.xe s₁) X.xe s:=by
 refine aI (ha aa s σ H _ I h) λv s1 ⟨x,H1,I1,r1,q1⟩=>?_
 refine aI (hb aa s1 σ H1 _ I1 q1) λu s2 ⟨y,H2,I2,r2,q2⟩=>?_
 exact hf v u s2 x y H2 I2 r1 r2 q2
def aD{op:Operator}{r:R2}(ho:bH X (binaryOp op) r)(ha:PE X a ta)(hb:PE X b tb):PE X (.BinOp a op b pos) (i0 r ta tb):=by
 intro aa s σ H Q I h;exact wpAny_BinOp (BD ha hb I h λv u s2 x y H2 I2 rx ry q=>ho aa s2 σ H2 x y v u Q I2 rx ry q)
def kX(ho:CG X (unaryOp op) r)(ha:PE X a ta):PE X (.UnaryOp op a pos) (V7 r ta):=by
 intro aa s σ H Q I h;exact UnaryOp_ (aI (ha aa s σ H _ I h) λv s1 ⟨x,H1,I1,r1,q1⟩=>ho aa s1 σ H1 x v Q I1 r1 q1)
def tX{f:Value->Value->Sem Value}{C:Int->Int->Prop}{g:Int->Int->Int}
  (rule:∀(i j:Int) (t u:Tok) (s:Shared) (Q:Value->Shared->Prop) (E:Value->Shared->Prop),C i j->Q (.int (g i j) s.toks) {s with toks:=s.toks+1}->wpAny (model X.prog X.w) X.A (f (.int i t) (.int j u)) Q E s) :
  bH X f (rI C λi j=>.int (g i j)):=by
 intro aa s σ H x y v u Q I rx ry h;obtain⟨i,j,rfl,rfl,hc,q⟩:=h;obtain⟨t,rfl⟩:=rx;obtain⟨t',rfl⟩:=ry;exact rule i j t t' s _ _ hc ⟨.int (g i j),H,I.tok _,⟨_,rfl⟩,q⟩
def Ai{f:Value->Value->Sem Value}{g:Int->Int->Int}
  (rule:∀(i j:Int) (t u:Tok) (s:Shared) (Q:Value->Shared->Prop) (E:Value->Shared->Prop),Q (.int (g i j) s.toks) {s with toks:=s.toks+1}->wpAny (model X.prog X.w) X.A (f (.int i t) (.int j u)) Q E s) :
  bH X f (jB λi j=>.int (g i j)):=by
 intro aa s σ H x y v u Q I rx ry h;obtain⟨i,j,rfl,rfl,q⟩:=h;obtain⟨t,rfl⟩:=rx;obtain⟨t',rfl⟩:=ry;exact rule i j t t' s _ _ ⟨.int (g i j),H,I.tok _,⟨_,rfl⟩,q⟩
def yw{f:Value->Value->Sem Value}{g:Int->Int->Bool}
  (rule:∀(i j:Int) (t u:Tok) (s:Shared) (Q:Value->Shared->Prop) (E:Value->Shared->Prop),Q (.bool (g i j)) s->wpAny (model X.prog X.w) X.A (f (.int i t) (.int j u)) Q E s) :
  bH X f (jB λi j=>.bl (g i j)):=by
 intro aa s σ H x y v u Q I rx ry h;obtain⟨i,j,rfl,rfl,q⟩:=h;obtain⟨t,rfl⟩:=rx;obtain⟨t',rfl⟩:=ry;exact rule i j t t' s _ _ ⟨.bl (g i j),H,I,rfl,q⟩
def Uo(i j:Int):Prop:=0<=j/\j<=1000000/\i.natAbs<2^64
def xb(i j:Int):Prop:=(-(2^64)<i/\i<2^64)\/(-(2^64)<j/\j<2^64)
def xb.ok(h:xb i j):IntMulOk i j:=by
 rcases h with ⟨h1,h2⟩|⟨h1,h2⟩
 ·exact .of_left (intBits_le_64 h1 h2)
 ·exact .of_right (intBits_le_64 h1 h2)
def fg:bH X (binaryOp .Add) (jB λi j=>.int (i+j)):=Ai λ_ _ _ _ _ _ _ q=>add_int q
def tS:bH X (binaryOp .Sub) (jB λi j=>.int (i-j)):=Ai λ_ _ _ _ _ _ _ q=>sub_int q
def cI:bH X (binaryOp .Mod) (rI (λ_ j=>0<j) λi j=>.int (i%j)):=tX λi j _ _ _ _ _ hc q=>by
 have h1:(0:Int)<j:=hc;exact mod_int' (by lia) (by rw[Int.fmod_eq_emod_of_nonneg i (by lia)];exact q)
def uh:bH X (binaryOp .Pow) (rI Uo λi j=>.int (i^j.toNat)):=tX λ_ _ _ _ _ _ _ hc q=>pow_int_small hc.1 hc.2.1 hc.2.2 q
def xV:bH X (binaryOp .BitAnd) (jB λi j=>.int (Builtin.bitAnd i j)):=Ai λ_ _ _ _ _ _ _ q=>and_int q
def D4:bH X (binaryOp .BitOr) (jB λi j=>.int (Builtin.bitOr i j)):=Ai λ_ _ _ _ _ _ _ q=>or_int q
def unI{f:Value->Sem Value}{g:Int->Int}
  (rule:∀(i:Int) (t:Tok) (s:Shared) (Q:Value->Shared->Prop) (E:Value->Shared->Prop),Q (.int (g i) s.toks) {s with toks:=s.toks+1}->wpAny (model X.prog X.w) X.A (f (.int i t)) Q E s) :
  CG X f (rU λi=>.int (g i)):=by
 intro aa s σ H x v Q I rx h;obtain⟨i,rfl,q⟩:=h;obtain⟨t,rfl⟩:=rx;exact rule i t s _ _ ⟨.int (g i),H,I.tok _,⟨_,rfl⟩,q⟩
def kR:CG X (unaryOp .USub) (rU λi=>.int (-i)):=unI λ_ _ _ _ _ q=>neg_int q
end
noncomputable def uI:V->V->Bool
 |.non,.non=>true|.non,.int _=>true|.int _,.non=>true|.non,.bl _=>true|.bl _,.non=>true|.non,.str _=>true|.str _,.non=>true
 |.int _,.int _=>true|.bl _,.bl _=>true|.str _,.str _=>true|.byt _,.byt _=>true
 |.int _,.str _=>true|.str _,.int _=>true|.bl _,.str _=>true|.str _,.bl _=>true
 |_,_=>false
def ZT:R2:=λx y H Q=>uI x y=true/\Q (.bl (decide (x=y))) H
def U9:R2:=λx y H Q=>uI x y=true/\Q (.bl (!decide (x=y))) H
def Kf:decide (V.int i=V.int j)=(i == j):=by
 rw[rN];simp
def MK:decide (V.bl i=V.bl j)=(i == j):=by
 rw[rN];simp
def Of:decide (V.str i=V.str j)=(i == j):=by
 rw[rN];simp
def J1:decide (V.byt i=V.byt j)=(i.toList == j.toList):=by
 rw[rN];cases i;cases j;simp
section
variable{X:Cx}{a b c:Expr}{ta tb tc:TE}{pos:Pos}
def cK(I:Inv X aa σ H s)(q:Q (.bl k) H)(e:k=k'):EP X aa σ Q (.bool k') s:=by
 subst e;nomatch .bl k,H,I,rfl,q
def oO:bH X (compareOp .Eq) ZT:=by
 intro aa s σ H x y v u Q I rx ry h;obtain⟨hs,q⟩:=h;cases x with
 |non =>
  cases rx;cases y with
  |non=>cases ry;exact VU (cK I q (by simp))
  |bl j=>cases ry;exact Ud (cK I q (by simp))
  |int j=>obtain⟨t',rfl⟩:=ry;exact Wr (cK I q (by simp))
  |str j=>obtain⟨t',rfl⟩:=ry;exact jgF (cK I q (by simp))
  |_=>exact absurd (show false=true from hs) cQ
 |bl i =>
  cases rx;cases y with
  |non=>cases ry;exact jgm (cK I q (by simp))
  |bl j=>cases ry;exact eq_bool (cK I q MK)
  |str j=>obtain⟨t',rfl⟩:=ry;exact Sv (cK I q (by simp))
  |_=>exact absurd (show false=true from hs) cQ
 |int i =>
  obtain⟨t,rfl⟩:=rx;cases y with
  |non=>cases ry;exact Q7 (cK I q (by simp))
  |int j=>obtain⟨t',rfl⟩:=ry;exact eq_int (cK I q Kf)
  |str j=>obtain⟨t',rfl⟩:=ry;exact WI (cK I q (by simp))
  |_=>exact absurd (show false=true from hs) cQ
 |str i =>
  obtain⟨t,rfl⟩:=rx;cases y with
  |non=>cases ry;exact Zd (cK I q (by simp))
  |bl j=>cases ry;exact jgl (cK I q (by simp))
  |int j=>obtain⟨t',rfl⟩:=ry;exact YG (cK I q (by simp))
  |str j=>obtain⟨t',rfl⟩:=ry;exact eq_str (cK I q Of)
  |_=>exact absurd (show false=true from hs) cQ
 |byt i =>
  obtain⟨t,rfl⟩:=rx;cases y with
  |byt j=>obtain⟨t',rfl⟩:=ry;exact PySem.W.eq_bytes (cK I q J1)
  |_=>exact absurd (show false=true from hs) cQ
 |_=>cases y<;>exact absurd (show false=true from hs) cQ
def wN:bH X (compareOp .NotEq) U9:=by
 intro aa s σ H x y v u Q I rx ry h;obtain⟨hs,q⟩:=h;cases x with
 |non =>
  cases rx;cases y with
  |non=>cases ry;exact jgk (cK I q (by simp))
  |bl j=>cases ry;exact jgt (cK I q (by simp))
  |int j=>obtain⟨t',rfl⟩:=ry;exact Sq (cK I q (by simp))
  |str j=>obtain⟨t',rfl⟩:=ry;exact jgu (cK I q (by simp))
  |_=>exact absurd (show false=true from hs) cQ
 |bl i =>
  cases rx;cases y with
  |non=>cases ry;exact WE (cK I q (by simp))
  |bl j=>cases ry;exact ne_bool (cK I q (congrArg not MK))
  |str j=>obtain⟨t',rfl⟩:=ry;exact jgh (cK I q (by simp))
  |_=>exact absurd (show false=true from hs) cQ
 |int i =>
  obtain⟨t,rfl⟩:=rx;cases y with
  |non=>cases ry;exact Wd (cK I q (by simp))
  |int j=>obtain⟨t',rfl⟩:=ry;exact ne_int (cK I q (congrArg not Kf))
  |str j=>obtain⟨t',rfl⟩:=ry;exact Z1 (cK I q (by simp))
  |_=>exact absurd (show false=true from hs) cQ
 |str i =>
  obtain⟨t,rfl⟩:=rx;cases y with
  |non=>cases ry;exact jgw (cK I q (by simp))
  |bl j=>cases ry;exact jgr (cK I q (by simp))
  |int j=>obtain⟨t',rfl⟩:=ry;exact ZC (cK I q (by simp))
  |str j=>obtain⟨t',rfl⟩:=ry;exact ne_str (cK I q (congrArg not Of))
  |_=>exact absurd (show false=true from hs) cQ
 |byt i =>
  obtain⟨t,rfl⟩:=rx;cases y with
  |byt j=>obtain⟨t',rfl⟩:=ry;exact PySem.W.ne_bytes (cK I q (congrArg not J1))
  |_=>exact absurd (show false=true from hs) cQ
 |_=>cases y<;>exact absurd (show false=true from hs) cQ
def jq:bH X (compareOp .Lt) (jB λi j=>.bl (decide (i<j))):=yw λ_ _ _ _ _ _ _ q=>lt_int q
def pS:bH X (compareOp .LtE) (jB λi j=>.bl (decide (i<=j))):=yw λ_ _ _ _ _ _ _ q=>le_int q
def qp:bH X (compareOp .Gt) (jB λi j=>.bl (decide (j<i))):=yw λ_ _ _ _ _ _ _ q=>gt_int q
def E1:bH X (compareOp .GtE) (jB λi j=>.bl (decide (j<=i))):=yw λ_ _ _ _ _ _ _ q=>ge_int q
def CC:bH X (compareOp .In) (λx y H Q=>∃i j,x=.str i/\y=.str j/\Q (.bl (!(Builtin.Str.occurrences j i 0 j.length 1).isEmpty)) H):=by
 intro aa s σ H x y v u Q I rx ry h;obtain⟨i,j,rfl,rfl,q⟩:=h;obtain⟨t,rfl⟩:=rx;obtain⟨t',rfl⟩:=ry;exact in_str (cK I q rfl)
def pT:bH X (compareOp .Is) (λx y H Q=>y=.non/\Q (.bl (decide (x=.non))) H):=by
 intro aa s σ H x y v u Q I rx ry h;obtain⟨rfl,q⟩:=h;cases ry;refine is_none_gen (cK I q ?_);cases x<;>first
  |(cases rx;rfl)
  |(obtain⟨t,rfl⟩:=rx;rfl)
def Fz(b:Expr)(h:op≠.In:=by decide)(h2:op≠.NotIn:=by decide):behindInMarks op b=false:=by
 have e1:(op == CmpOp.In)=false:=by cases op<;>first|rfl|exact absurd rfl h
 have e2:(op == CmpOp.NotIn)=false:=by cases op<;>first|rfl|exact absurd rfl h2
 cases b with
 |Set elts k pos=>show (k == 0&&(op == CmpOp.In || op == CmpOp.NotIn)&&_)=false;rw[e1,e2,qG,iG,ql]
 |_=>rfl
def wO(ho:bH X (compareOp op) r)(ha:PE X a ta)(hb:PE X b tb)(hm:behindInMarks op b=false):PE X (.Compare a [op] [b] pos) (i0 r ta tb):=by
 intro aa s σ H Q I h;exact wpAny_Compare1 (BD ha hb I h λv u s2 x y H2 I2 rx ry q=>ho aa s2 σ H2 x y v u Q I2 rx ry q) hm
def O6(t:TE):TT:=λσ H Q=>t σ H λx H'=>∃k,x=.bl k/\Q k H'
def jZ(ho:bH X (compareOp op) r)(ha:PE X a ta)(hb:PE X b tb)(hm:behindInMarks op b=false):PT X (.Compare a [op] [b] pos) (O6 (i0 r ta tb)):=by
 intro aa s σ H Q I h;refine CQ (aI (ha aa s σ H _ I h) λv s1 ⟨x,H1,I1,r1,q1⟩=>aI (hb aa s1 σ H1 _ I1 q1) λu s2 ⟨y,H2,I2,r2,q2⟩ =>
  aI (ho aa s2 σ H2 x y v u _ I2 r1 r2 q2) λc s3 ⟨z,H3,I3,r3,k,e,q3⟩=>?_) hm
 subst e;cases r3;exact kG ⟨H3,I3,q3⟩
def UQ(r r':R2)(ta tb tc:TE):TE:=λσ H Q=>ta σ H λx H1=>tb σ H1 λy H2=>r x y H2 λz H3=>∃k,z=.bl k /\
 (if k=true then tc σ H3 λw' H4=>r' y w' H4 Q else Q (.bl false) H3)
def HN(ho:bH X (compareOp op) r)(jh:bH X (compareOp op') r')(ha:PE X a ta)(hb:PE X b tb)(hc:PE X c tc)
  (hm:lastMarks [op,op'] [b,c]=false:=by with_unfolding_all rfl):PE X (.Compare a [op,op'] [b,c] pos) (UQ r r' ta tb tc):=by
 intro aa s σ H Q I h;refine Compare_chain (aI (ha aa s σ H _ I h) λv s1 ⟨x,H1,I1,r1,q1⟩=>chain_link (aI (hb aa s1 σ H1 _ I1 q1) λu s2 ⟨y,H2,I2,r2,q2⟩ =>
  aI (ho aa s2 σ H2 x y v u _ I2 r1 r2 q2) λd s3 ⟨z,H3,I3,r3,k,e,q3⟩=>?_)) hm
 subst e;cases r3;refine kG ?_;cases k with
 |false=>exact ite_ff ⟨.bl false,H3,I3,rfl,q3⟩
 |true=>exact ite_tt (chain_last (aI (hc aa s3 σ H3 _ I3 q3) λw' s4 ⟨z',H4,I4,r4,q4⟩=>jh aa s4 σ H4 y z' u w' Q I4 r2 r4 q4))
def MF(K:Frag)(x:V)(H:Hp)(k:Bool):Prop :=
 match x with
 |.non=>k=false
 |.bl b=>k=b
 |.int i=>k=(i != 0)
 |.str y=>y.length<=sizeLine/\k=((y.length:Int) != 0)
 |.byt y=>y.size<=sizeLine/\k=((y.size:Int) != 0)
 |.ref p=>(∃xs,ai K H p xs/\k = !xs.isEmpty)\/(∃xs,aG K H p xs/\k = !xs.isEmpty)\/∃kvs,H p=some (.dK kvs)/\k = !kvs.isEmpty
 |_=>False
def zcx(r:KV kvs vs):(!vs.isEmpty) = !kvs.isEmpty:=by
 cases r<;>rfl
def Js(r:Vals xs af):(!af.toArray.isEmpty) = !xs.isEmpty:=by
 cases r<;>simp
def nH:(sizeLine:Nat)<2^63:=by rw[sizeLine_eq];decide
def R3:XX X (λx H Q=>∃k,MF X.K x H k/\Q k H):=by
 intro aa s σ H x v Q I rx h;obtain⟨k,e,q⟩:=h;have hl:=nH;have hs:sizeLine=16777216:=sizeLine_eq;cases x with
 |non =>
  cases rx;have e':k=false:=e;subst e';exact truthy_none ⟨H,I,q⟩
 |bl b =>
  cases rx;have e':k=b:=e;subst e';exact kG ⟨H,I,q⟩
 |int i =>
  obtain⟨t,rfl⟩:=rx;have e':k=(i != 0):=e;subst e';exact PySem.P.truthy_int ⟨H,I,q⟩
 |str y =>
  obtain⟨t,rfl⟩:=rx;obtain⟨hy,e'⟩:y.length<=sizeLine/\k=((y.length:Int) != 0):=e;subst e';exact Kx (by lia) ⟨H,I.tok _,q⟩
 |byt y =>
  obtain⟨t,rfl⟩:=rx;obtain⟨hy,e'⟩:y.size<=sizeLine/\k=((y.size:Int) != 0):=e;subst e';exact PySem.W.truthy_bytes (by lia) ⟨H,I.tok _,q⟩
 |ref p =>
  cases rx;have e':(∃xs,ai X.K H p xs/\k = !xs.isEmpty)\/(∃xs,aG X.K H p xs/\k = !xs.isEmpty)\/∃kvs,H p=some (.dK kvs)/\k = !kvs.isEmpty:=e;rcases e' with ⟨xs,hx,e'⟩|⟨xs,hx,e'⟩|⟨kvs,hx,e'⟩
  ·subst e';obtain⟨af,r,pl,hz⟩:=I.list hx;have aT:=r.length;exact wpAny_truthy_list pl.isList (by simp only[bJ];lia) ⟨H,I.tok _,by rw[Js r];exact q⟩
  ·subst e';obtain⟨af,r,pl,hz⟩:=I.tuple hx;have aT:=r.length;exact truthy_tuple pl (by simp only[bJ];omega) ⟨H,I.tok _,by rw[Js r];exact q⟩
  ·subst e';obtain⟨hz,hS,vs,r,m⟩:kvs.length<=sizeLine/\(p == sysModules)=false/\∃vs,KV kvs vs/\s.heap.DictOf (eJ X.prog X.w) p vs:=I.hok p _ hx;have aT:kvs.length=vs.length:=dP r;exact wpAny_truthy_dict hS m (by lia) ⟨H,I.tok _,by rw[zcx r];exact q⟩
 |_=>exact (show False from e).elim
def oG(ha:PE X a ta)(he:∀whole,isTrue a X.env whole=(do let v <-whole;standAt a.pos;holding [v] (truthy v))) :
  PT X a (λσ H Q=>ta σ H λx H'=>∃k,MF X.K x H' k/\Q k H'):=by
 intro aa s σ H Q I h;exact isTrue_plain (aI (ha aa s σ H _ I h) λv s1 ⟨x,H1,I1,r1,q1⟩=>R3 aa s1 σ H1 x v Q I1 r1 q1) (he _)
def kT:bH X (binaryOp .Add) (λx y H Q=>∃i j,x=.str i/\y=.str j/\i.length+j.length<=sizeLine/\Q (.str (i++j)) H):=by
 intro aa s σ H x y v u Q I rx ry h;obtain⟨i,j,rfl,rfl,hz,q⟩:=h;obtain⟨t,rfl⟩:=rx;obtain⟨t',rfl⟩:=ry;exact add_str (λt' tk=>⟨.str (i++j),H,I.tok _,⟨_,rfl⟩,q⟩) hz
def ix(r:Vals [x] us):∃u,us=[u]/\RelV x u:=by
 cases r with
 |cons r1 r2=>cases r2;nomatch _,rfl,r1
def qO(r:Vals [x,y] us):∃u w',us=[u,w']/\RelV x u/\RelV y w':=by
 cases r with
 |cons r1 r2 =>
  cases r2 with
  |cons r3 r4=>cases r4;nomatch _,_,rfl,r1,r3
def Gs:gH X (.builtin "abs") (λxs H Q=>∃i,xs=[.int i]/\Q (.int (if i<0 then -i else i)) H):=by
 intro aa s σ H xs us Q I r h;obtain⟨i,rfl,q⟩:=h;obtain⟨u,rfl,t,rfl⟩:=ix r;exact call_abs_int λu tk=>⟨.int (if i<0 then -i else i),H,I.tok _,⟨_,rfl⟩,q⟩
def P6:gH X (.type "int") (λxs H Q=>(∃i,xs=[.int i]/\Q (.int i) H)\/∃k,xs=[.bl k]/\Q (.int (if k then 1 else 0)) H):=by
 intro aa s σ H xs us Q I r h;rcases h with ⟨i,rfl,q⟩|⟨k,rfl,q⟩
 ·obtain⟨u,rfl,t,rfl⟩:=ix r;exact call_int_int ⟨.int i,H,I,⟨_,rfl⟩,q⟩
 ·obtain⟨u,rfl,r1⟩:=ix r;cases r1;exact call_int_bool ⟨.int (if k then 1 else 0),H,I.tok _,⟨_,rfl⟩,q⟩
def md:gH X (.type "str") (λxs H Q=>∃i,xs=[.int i]/\i.natAbs.log2<1920/\Q (.str (toString i)) H):=by
 intro aa s σ H xs us Q I r h;obtain⟨i,rfl,hz,q⟩:=h;obtain⟨u,rfl,t,rfl⟩:=ix r;exact PySem.P.str_of_int hz ⟨.str _,H,I.tok _,⟨_,rfl⟩,q⟩
end
structure qy(h:Heap)(x dx C:Addr)(mA:Str->Option Value):Prop where
 obj:h.get? x=some (PySem.W.instObj C dx)
 ns:h.Ns1 dx mA
 ne:dx≠x
set_option tactic.hygienic true in
def WQ{h:Heap}{dx:Addr}{mA:Str->Option Value}(n:h.Ns1 dx mA):∃od,h.get? dx=some od/\∀name,PySem.W.lookIn name od=some (mA name):=by
 obtain⟨o,es,ep,ho,hd,hk,_,hm⟩:=n;exists o,ho,λname=>?_;have e:=hm name;unfold nsFind findBy at e;rw[<-Array.find?_toList]at e;unfold PySem.W.lookIn;rw[hd];dsimp only;split
 ·rename_i y q;rw[q]at e;exact congrArg some e
 ·rename_i q;rw[q]at e;have a:es.toList.any (·.refKey)=false:=by
   rw[List.any_eq_false];intro y hy;obtain⟨z,t,Vz⟩:=hk y (Array.mem_toList_iff.mp hy);simp[DictEntry.refKey,Vz]
  have a':¬es.toList.any (·.refKey)=true:=by rw[a];exact cQ
  rw[aq a'];exact congrArg some e
def qy.look(I:qy h x dx C mA):∃od,PySem.W.InstAt h x (PySem.W.instObj C dx) C (some od)/\∀name,PySem.W.lookIn name od=some (mA name) :=
 let ⟨od,ho,hl⟩:=WQ I.ns
 ⟨od,⟨I.obj,rfl,rfl,ho⟩,hl⟩
section
variable{prog:Program}{w:World}{A:Around}{E:Value->Shared->Prop}{s:Shared}{K:Frag}{x dx C f:Addr}{mA:Str->Option Value}{name:Str}{v:Value}
def WK(X:K.In s.heap)(I:qy s.heap x dx C mA)(hg:PySem.W.plainGet K C name=true)(hh:PySem.W.hasDictIn K C=true)
  (ha:PySem.W.findIn K (.ref C) name=some none) (hv:mA name=some v) (YL:PySem.W.handedIn v=true) (h:Q v {s with toks:=s.toks+1}) :
  wpAny (model prog w) A (getAttr (.ref x) name expr) Q E s:=by
 obtain⟨od,J,hl⟩:=I.look;exact PySem.W.get_value X J (F0 hg).1 (PySem.W.findObj_own hh ha rfl (by rw[hl,hv])) YL h
def za5(X:K.In s.heap)(I:qy s.heap x dx C mA)(hg:PySem.W.plainGet K C name=true)
  (hf:PySem.W.findIn K (.ref C) name=some (some (.ref f))) (ht:PySem.W.isFn K (.ref f)=true) (hv:mA name=none) (h:Q (.ref f,[.ref x]) s) :
  wpAny (model prog w) A (getMethod (.ref x) name pl) Q E s:=by
 obtain⟨od,J,hl⟩:=I.look;exact PySem.W.method_fn X J (F0 hg).1 (F0 hg).2 hf (kP.mp ht) (by show (PySem.W.lookIn name od).map (·.isSome)=some false;rw[hl,hv];rfl) h
def Sf(X:K.In s.heap)(I:qy s.heap x dx C mA)
  (hs:PySem.W.findIn K (.ref C) "__setattr__" = some (some (.builtin "object.__setattr__"))) (hp:PySem.W.plainOver K C=true) (ht:PySem.W.takerIn K C name=some none) (hh:PySem.W.hasDictIn K C=true)
  (hw:PySem.Within mA ns) (hsz:ns.length<=sizeLine)
  (h:∀h',qy h' x dx C (λy=>if y=name then some v else mA y)->Heap.SameBut dx s.heap h'->Q () {s with heap:=h',toks:=s.toks+2}) :
  wpAny (model prog w) A (setAttr (.ref x) name v) Q E s:=by
 obtain⟨od,J,hl⟩:=I.look;refine PySem.W.set_plain X J hs (PySem.W.osa_open (s:={s with toks:=s.toks+1}) (r:=none) X J hp ht λb=>?_);obtain⟨cd,hc,rk⟩:=PySem.W.any_some hh;have hx:s.heap.get? x=some ⟨.ref C,some dx,.plain,#[]⟩:=I.obj;refine aA (bg (aA (aA (wpAny_loadPart hx (aA (jhz (s:={s with toks:=s.toks+1}) (PySem.W.looks_clsIn X hc) ?_))))));rw[rk];refine bg (a:=some dx) (aA (bg (aA ?_)));refine wpAny_nsSet1 (s:={s with toks:=s.toks+1}) I.ns λh' o6 mH=>?_
 obtain⟨oD,esD,epD,Wm,Zi,SE⟩:=o6.count (YQ name v hw);refine aA (wpAny_lookBehind Wm (by rw[Zi];exact pastItsLine_dict (bp SE (by rw[aW];lia))) ?_);exact bg (h _ ⟨(mH.2 _ (Ne.symm I.ne)).trans I.obj,o6,I.ne⟩ mH)
def Tu(X:K.In s.heap)(hm:PySem.W.makesIn K C=true)
  (hi:PySem.W.findIn K (.ref C) "__init__" = some (some (.ref f))) (hf:PySem.W.typeIn K (.ref f)=some (.type "function"))
  (h:codeAny (model prog w) (A.under (.builtin "type.__call__" ⟨.ref C :: vs,kw⟩)) (.call (.ref f) ⟨.ref (s.heap.objs.size+1) :: vs,kw⟩) (PySem.W.InitBack (s.heap.objs.size+1) R) {s with heap:=(s.heap.push PySem.W.emptyDict).push (PySem.W.instObj C s.heap.objs.size)}) :
  codeAny (model prog w) A (.call (.ref C) ⟨vs,kw⟩) R s:=by
 obtain⟨hh,g,d,t,os⟩:=s;exact PySem.W.make_core (PySem.W.makes_of X hm) (PySem.W.looks_findIn X hi) (λself=>PySem.W.bind_fn X self hf) (.inl rfl) h
end
noncomputable def gN(f:Str)(v:V):List (Str×V)->List (Str×V)
 |[]=>[(f,v)]
 |(g,x)::r=>if g=f then (g,v)::r else (g,x)::gN f v r
theorem MI(f g:Str)(v:V):∀fs:List (Str×V),(gN f v fs).lookup g=if g=f then some v else fs.lookup g
 |[]=>by
  show List.lookup g [(f,v)]=_;by_cases h:g=f
  ·have hb:(g == f)=true:=kP.mpr h;simp only[List.lookup,hb,ax h]
  ·have hb:(g == f)=false:=oW.mpr h;simp only[List.lookup,hb,aq h]
 |(k,x)::r=>by
  have ih:=MI f g v r;rw[show gN f v ((k,x)::r)=(if k=f then (k,v)::r else (k,x)::gN f v r) from rfl];by_cases hk:k=f
  ·rw[ax hk];by_cases h:g=k
   ·have hb:(g == k)=true:=kP.mpr h;simp only[List.lookup,hb,ax (h.trans hk)]
   ·have hb:(g == k)=false:=oW.mpr h;simp only[List.lookup,hb,aq (λe:g=f=>h (e.trans hk.symm))]
  ·rw[aq hk];by_cases h:g=k
   ·have hb:(g == k)=true:=kP.mpr h;simp only[List.lookup,hb,aq (λe:g=f=>hk (h.symm.trans e))]
   ·have hb:(g == k)=false:=oW.mpr h;simp only[List.lookup,hb];exact ih
theorem BG(f:Str)(v:V):∀fs:List (Str×V),f∈(gN f v fs).map (·.1)/\∀g,g∈fs.map (·.1)->g∈(gN f v fs).map (·.1)
 |[]=>⟨by simp[gN],λg h=>by simp at h⟩
 |(k,x)::r=>by
  obtain⟨i1,i2⟩:=BG f v r;rw[show gN f v ((k,x)::r)=(if k=f then (k,v)::r else (k,x)::gN f v r) from rfl];by_cases hk:k=f
  ·rw[ax hk];subst hk;exact⟨by simp,λg h=>by simpa using h⟩
  ·rw[aq hk];exists ?_,λg h=>?_
   ·rw[bw];exact cq _ i1
   ·rw[bw]at h ⊢;rcases ba.mp h with e|e
    ·exact ba.mpr (.inl e)
    ·exact cq _ (i2 g e)
theorem HF(f:Str)(v:V):∀fs:List (Str×V),(gN f v fs).length<=fs.length+1
 |[]=>by simp[gN]
 |(k,x)::r=>by
  have ih:=HF f v r;rw[show gN f v ((k,x)::r)=(if k=f then (k,v)::r else (k,x)::gN f v r) from rfl];by_cases hk:k=f
  ·rw[ax hk,aW,aW];lia
  ·rw[aq hk,aW,aW];lia
def fQ.some_of(r:fQ (some v) o):∃u,o=some u/\RelV v u:=by
 cases o with
 |none=>exact (show False from r).elim
 |some u=>nomatch u,rfl,r
def fQ.none_of(r:fQ none o):o=none:=by
 cases o with
 |none=>rfl
 |some u=>exact (show False from r).elim
def TQ(r:RelV v u):PySem.W.handedIn u=true:=by
 cases v with
 |non=>cases (show u=Value.none from r);rfl
 |bl b=>cases (show u=Value.bool b from r);rfl
 |int i=>obtain⟨t,e⟩:=(show ∃t,u=Value.int i t from r);cases e;rfl
 |str x=>obtain⟨t,e⟩:=(show ∃t,u=Value.str x t from r);cases e;rfl
 |byt b=>obtain⟨t,e⟩:=(show ∃t,u=Value.bytes b t from r);cases e;rfl
 |flt b=>obtain⟨t,e⟩:=(show ∃t,u=Value.float b t from r);cases e;rfl
 |ref a=>cases (show u=Value.ref a from r);rfl
 |ty n=>cases (show u=Value.type n from r);rfl
section
variable{P:Program}{w:World}{H H':Hp}{h h':Heap}{a C dx:Addr}{fs WU:List (Str×V)}
def Am(hok:cm P w H h)(e:H a=some (.ins C dx fs)):∃mA,qy h a dx C mA/\(∀f,fQ (fs.lookup f) (mA f))/\PySem.Within mA (fs.map (·.1))/\fs.length<=1000/\H dx=some (.own a):=by
 obtain⟨d,z,ne,ob,mA,n,r,q⟩:=(show cn P w H h a (.ins C dx fs) from hok a _ e);nomatch mA,⟨ob,n,ne⟩,r,q,z,d
end
structure jV(K:Frag)(C:Addr):Prop where
 pg:PySem.W.plainGet K C Str.empty=true
 hd:PySem.W.hasDictIn K C=true
 po:PySem.W.plainOver K C=true
 sa:PySem.W.findIn K (.ref C) "__setattr__" = some (some (.builtin "object.__setattr__"))
def jV.get{K:Frag}{C:Addr}(c:jV K C)(f:Str):PySem.W.plainGet K C f=true:=c.pg
def o9(K:Frag)(C:Addr)(f:Str):Prop:=PySem.W.findIn K (.ref C) f=some none
def o9.taker{K:Frag}{C:Addr}{f:Str}(n:o9 K C f):PySem.W.takerIn K C f=some none:=by
 unfold PySem.W.takerIn;rw[show PySem.W.findIn K (.ref C) f=some none from n];rfl
structure tJ(K:Frag)(C:Addr)(m:Str)(f:Addr):Prop where
 at_:PySem.W.findIn K (.ref C) m=some (some (.ref f))
 fn:PySem.W.isFn K (.ref f)=true
 kp:PySem.W.keepIn K (.ref f)=true
section
variable{X:Cx}{aa:List (Addr×Obj)}{σ:St}{H:Hp}{s:Shared}{a C dx:Addr}{fs:List (Str×V)}{f:Str}{v:V}{A:Around}{E:Value->Shared->Prop}
def Ue(I:Inv X aa σ H s)(e:H a=some (.ins C dx fs))(c:jV X.K C)(n:o9 X.K C f)(l:fs.lookup f=some v)
  (h:∀u s',Inv X aa σ H s'->RelV v u->Q u s'):wpAny (model X.prog X.w) A (getAttr (.ref a) f b) Q E s:=by
 obtain⟨mA,O,r,_,_,_⟩:=Am I.hok e;obtain⟨u,hu,ru⟩:=fQ.some_of (v:=v) (o:=mA f) (by rw[<-l];exact r f);exact WK I.kIn O (c.get f) c.hd n hu (TQ ru) (h u _ (I.tok _) ru)
def NK(I:Inv X aa σ H s)(e:H a=some (.ins C dx fs))(c:jV X.K C)(k:tJ X.K C m g)(l:fs.lookup m=none)
  (h:Q (.ref g,[.ref a]) s):wpAny (model X.prog X.w) A (getMethod (.ref a) m pl) Q E s:=by
 obtain⟨mA,O,r,_,_,_⟩:=Am I.hok e;have hn:mA m=none:=fQ.none_of (by rw[<-l];exact r m);exact za5 I.kIn O (c.get m) k.at_ k.fn hn h
def Rp(I:Inv X aa σ H s)(e:H a=some (.ins C dx fs))(c:jV X.K C)(n:o9 X.K C f)(hl:fs.length<1000)(ry:RelV y u)
  (h:∀s',Inv X aa σ (upd H a (.ins C dx (gN f y fs))) s'->Q () s'):wpAny (model X.prog X.w) A (setAttr (.ref a) f u) Q E s:=by
 obtain⟨mA,O,r,wi,_,ho⟩:=Am I.hok e;have hz:(fs.map (·.1)).length<=sizeLine:=by rw[ay,sizeLine_eq];lia
 refine Sf I.kIn O c.sa c.po n.taker c.hd wi hz λh' O' sb=>h _ ?_
 have hd:∃o,h'.get? dx=some o:=let ⟨o,_,_,e',_⟩:=O'.ns; ⟨o,e'⟩
 refine I.write (x:=a) (e:=dx) (by rw[e];exact True.intro) (.inr ho) (λb q hb z=>(sb.2 b hb).trans z) hd ?_;exists by rw[aO O.ne];exact ho,?_,O.ne,O'.obj,_,O'.ns,λg=>?_,λg hg=>?_
 ·have:=HF f y fs;lia
 ·show fQ ((gN f y fs).lookup g) (if g=f then some u else mA g);rw[MI];by_cases q:g=f
  ·rw[ax q,ax q];exact ry
  ·rw[aq q,aq q];exact r g
 ·by_cases q:g=f
  ·rw[q];exact (BG f y fs).1
  ·refine (BG f y fs).2 g (wi g λz=>hg ?_);show (if g=f then some u else mA g)=none;rw[aq q];exact z
def Inv.made(I:Inv X aa σ H s):Inv X aa σ (upd (upd H s.heap.objs.size (.own (s.heap.objs.size+1))) (s.heap.objs.size+1) (.ins C s.heap.objs.size []))
  {s with heap:=(s.heap.push PySem.W.emptyDict).push (PySem.W.instObj C s.heap.objs.size)}:=by
 have e1:(s.heap.push PySem.W.emptyDict).get? s.heap.objs.size=some PySem.W.emptyDict:=c8 s.heap rfl;have e2:((s.heap.push PySem.W.emptyDict).push (PySem.W.instObj C s.heap.objs.size)).get? (s.heap.objs.size+1)=some (PySem.W.instObj C s.heap.objs.size):=by
  have:=c8 (s.heap.push PySem.W.emptyDict) (o:=PySem.W.instObj C s.heap.objs.size) rfl
  rwa [nM]at this
 have e3:(s.heap.push PySem.W.emptyDict).Ns s.heap.objs.size (λ_=>none):=⟨PySem.W.emptyDict,#[],_,e1,rfl,(λe he=>absurd he (by simp)),λ_=>rfl⟩;have I1:=I.laid (a:=s.heap.objs.size) (o:=.own (s.heap.objs.size+1)) (h':=s.heap.push PySem.W.emptyDict) (t':=s.toks) (λb u q=>cv _ q) (aJ _) ⟨_,e1⟩;refine I1.laid (a:=s.heap.objs.size+1) (o:=.ins C s.heap.objs.size []) (t':=s.toks) (λb u q=>cv _ q) (GG (nM _ _)) ?_;have ne:s.heap.objs.size≠s.heap.objs.size+1:=dB (Fx _);exists by rw[aO ne,au],cb _,ne,e2,λ_=>none,(Heap.Ns1.of_empty e3).at λo q=>cv _ q,λ_=>True.intro,λy hy=>absurd rfl hy
def Yl(hb:attributeBase e f env (eval e env)=eval e env)
  (h:wpAny (model prog w) A (eval e env) (λo s₁=>wpAny (model prog w) A (getAttr o f true) Q E s₁) E s):wpAny (model prog w) A (eval (.Attribute e f pos) env) Q E s :=
 Attribute_any_ h (by rw[arm_eval_Attribute,hb])
end
def X2(K:Frag)(ta:TE)(f:Str):TE:=λσ H Q=>ta σ H λx H1=>∃a C dx fs v,x=.ref a/\H1 a=some (.ins C dx fs)/\jV K C/\o9 K C f/\fs.lookup f=some v/\Q v H1
def zcN(K:Frag)(ta tv:TE)(f:Str):TS:=λD σ H=>tv σ H λy H1=>ta σ H1 λx H2=>∃a C dx fs,x=.ref a/\H2 a=some (.ins C dx fs)/\jV K C/\o9 K C f/\fs.length<1000 /\
 D.nx σ (upd H2 a (.ins C dx (gN f y fs)))
section
variable{X:Cx}{o e value:Expr}{f:Str}{pos pos' tpos:Pos}{ta tv:TE}
def CW(he:PE X e ta)(hb:attributeBase e f X.env (eval e X.env)=eval e X.env):PE X (.Attribute e f pos) (X2 X.K ta f):=by
 intro aa s σ H Q I h;refine Yl hb (aI (he aa s σ H _ I h) λu s1 ⟨x,H1,I1,rx,a,C,dx,fs,v,ex,ea,c,n,l,q⟩=>?_);subst ex;obtain rfl:u=Value.ref a:=rx;exact Ue I1 ea c n l λu' s2 I2 ru=>⟨v,H1,I2,ru,q⟩
def ZJ(ha:PE X o ta)(hv:PE X value tv)(hs:swapsWith value (some (.Attribute o f pos')) pos.line X.env=pure false):PS X (.Assign [.Attribute o f pos'] value pos) (zcN X.K ta tv f):=by
 intro aa s σ H D I h;refine plainObj_wpAny_Assign_Attribute (aI (hv aa s σ H _ I h) λu s1 ⟨y,H1,I1,ry,q⟩=>aI (ha aa s1 σ H1 _ I1 q) λov s2 ⟨x,H2,I2,rx,a,C,dx,fs,ex,ea,c,n,l,q2⟩=>?_) hs;subst ex;obtain rfl:ov=Value.ref a:=rx;exact Rp I2 ea c n l ry λs3 I3=>⟨σ,_,I3,q2⟩
end
section
variable{X:Cx}{aa:List (Addr×Obj)}{σ:St}{H:Hp}{s:Shared}{A:Around}{E:Value->Shared->Prop}{Q:Value->Shared->Prop}{c:Value}{b:Bool}
inductive iy (K:Frag) (H:Hp):V->Value->Prop where
 |non:iy K H .non (.type "NoneType")
 |bl (x:Bool):iy K H (.bl x) (.type "bool")
 |int (i:Int):iy K H (.int i) (.type "int")
 |str (x:Str):iy K H (.str x) (.type "str")
 |flt (x:UInt64):iy K H (.flt x) (.type "float")
 |lst {a:Addr}{xs:List V} (e:H a=some (.lst xs)):iy K H (.ref a) (.type "list")
 |frz {a:Addr}{o:Obj}{xs:List V} (e:H a=some (.frz o (.lst xs))):iy K H (.ref a) (.type "list")
 |tup {a:Addr}{xs:List V} (e:H a=some (.tup xs)):iy K H (.ref a) (.type "tuple")
 |dK {a:Addr}{kvs:List (bO×V)} (e:H a=some (.dK kvs)):iy K H (.ref a) (.type "dict")
 |dT {a:Addr}{kvs:List (List bO×V)} (e:H a=some (.dT kvs)):iy K H (.ref a) (.type "dict")
 |ins {a C dx:Addr}{fs:List (Str×V)} (e:H a=some (.ins C dx fs)) (cl:jV K C) (ha:PySem.W.findIn K (.ref C) "__class__" = some (some (.builtin "object.__class__")))
   (hn:PySem.W.specialIn K (.builtin "object.__class__") "__get__" = some (some (.builtin "getset_descriptor.__get__"))) (bz:PySem.W.takesIn K (.builtin "object.__class__")=some true)
   (hm:PySem.W.mroIn K C (.type "object")=some true):iy K H (.ref a) (.ref C)
def Xv(I:Inv X aa σ H s)(rx:RelV x u)(ty:iy X.K H x t)(e:kitOne X.K t c=some b)(h:∀tk,Q (.bool b) {s with toks:=tk}) :
  wpAny (model X.prog X.w) A (call (.builtin "isinstance") [u,c]) Q E s:=by
 cases ty with
 |non=>cases (show u=Value.none from rx);exact iS PySem.W.kitx_none I.kIn True.intro e (λz=>nomatch z) h
 |bl y=>cases (show u=Value.bool y from rx);exact iS PySem.W.kitx_bool I.kIn True.intro e (λz=>nomatch z) h
 |int i=>obtain⟨t,q⟩:=(show ∃t,u=Value.int i t from rx);cases q;exact iS PySem.W.kitx_int I.kIn True.intro e (λz=>nomatch z) h
 |str y=>obtain⟨t,q⟩:=(show ∃t,u=Value.str y t from rx);cases q;exact iS PySem.W.kitx_str I.kIn True.intro e (λz=>nomatch z) h
 |flt y=>obtain⟨t,q⟩:=(show ∃t,u=Value.float y t from rx);cases q;exact iS PySem.W.kitx_float I.kIn True.intro e (λz=>nomatch z) h
 |@lst a xs ea =>
  cases (show u=Value.ref a from rx);obtain⟨_,_,n,_,h1⟩:=(show cn X.prog X.w H s.heap a (.lst xs) from I.hok a _ ea);exact iS OC I.kIn ⟨_,h1,rfl⟩ e (λz=>nomatch z) h
 |@frz a ob xs ea =>
  cases (show u=Value.ref a from rx);obtain⟨_,_,_,n,_,h1⟩:=(show cn X.prog X.w H s.heap a (.frz ob (.lst xs)) from I.hok a _ ea);exact iS OC I.kIn ⟨_,h1,rfl⟩ e (λz=>nomatch z) h
 |@tup a xs ea =>
  cases (show u=Value.ref a from rx);obtain⟨_,_,_,p⟩:=(show cn X.prog X.w H s.heap a (.tup xs) from I.hok a _ ea);obtain⟨o,h1,h2,_⟩:=p;exact iS PySem.W.kitx_tuple I.kIn ⟨o,h1,h2⟩ e (λz=>nomatch z) h
 |@dK a kvs ea =>
  cases (show u=Value.ref a from rx);obtain⟨_,_,vs,_,p⟩:=(show cn X.prog X.w H s.heap a (.dK kvs) from I.hok a _ ea);obtain⟨o,es,ep,h1,h2,_⟩:=p;exact iS Ic I.kIn ⟨o,h1,h2.1⟩ e (λz=>nomatch z) h
 |@dT a kvs ea =>
  cases (show u=Value.ref a from rx);obtain⟨_,_,xs,_,o,es,ep,h1,h2,_⟩:=(show cn X.prog X.w H s.heap a (.dT kvs) from I.hok a _ ea);exact iS Ic I.kIn ⟨o,h1,h2.1⟩ e (λz=>nomatch z) h
 |@ins a C dx fs ea cl ha hn bz hm =>
  cases (show u=Value.ref a from rx);obtain⟨mA,O,_⟩:=Am I.hok ea;obtain⟨od,J,_⟩:=O.look;exact iS (PySem.W.kitx_own (cl.get _) cl.hd ha hn bz hm) I.kIn J e (λz=>nomatch z) h
end
structure cz(k:Nat)(A:Around):Prop where
 hd:A.handled=none
 dp:A.depth+3*k+5<recursionLimit
 un:A.units+16*k+200<cLine
def cz.mono(r:cz k A)(h:j<=k):cz j A:=⟨r.hd,by have:=r.dp;lia,by have:=r.un;lia⟩
def cz.deeper(r:cz (k+1) A)(env:Env):cz k (A.deeper env) :=
 ⟨r.hd,by have:=r.dp;show A.depth+1+3*k+5<_;lia,by have:=r.un;show A.units+3+16*k+200<_;lia⟩
def zaS{A:Around}{C:Addr}{us:List Value}{kw:List (Str×Value)}:(A.under (.builtin "type.__call__" ⟨.ref C::us,kw⟩)).depth=A.depth+1:=by
 first|rfl|simp[Around.under,Code.weight,Code.isCreation,Code.isGuard,Code.isCaller,Code.frames,Code.isFrame,guardIds]
def zbR{A:Around}{C:Addr}{us:List Value}{kw:List (Str×Value)}:(A.under (.builtin "type.__call__" ⟨.ref C::us,kw⟩)).units=A.units+1:=by
 first|rfl|simp[Around.under,Code.cUnits,Code.frames,Code.isFrame]
def cz.make(r:cz (k+1) A)(C:Addr)(us:List Value)(kw:List (Str×Value)):cz k (A.under (.builtin "type.__call__" ⟨.ref C::us,kw⟩)) :=
 ⟨r.hd,by have:=r.dp;rw[zaS];lia,by have:=r.un;rw[zbR];lia⟩
def cz.depth(r:cz k A):A.depth<recursionLimit:=by have:=r.dp;lia
def cz.units(r:cz k A):A.units+64<cLine:=by have:=r.un;lia
def pU:TA:=λ_ H Q=>Q [] H
def nA(ta:TE)(tr:TA):TA:=λσ H Q=>ta σ H λx H1=>tr σ H1 λxs H2=>Q (x::xs) H2
section
variable{X:Cx}{e:Expr}{es:List Expr}{te:TE}{t:TA}{pos:Pos}
def ah:PA X [] pU:=λ_ _ _ _ H Q I h=>EK ⟨[],H,I,.nil,h⟩
def ae(ha:PE X e te)(hr:PA X es t)(hs:starEach (e::es) X.env=(false,eval e X.env)::starEach es X.env:=by rfl):PA X (e::es) (nA te t):=by
 intro pos aa s σ H Q I h;rw[hs];show wpAny _ _ (spliced ((false,eval e X.env)::backTo pos (starEach es X.env))) _ _ s;refine xg (aI (ha aa s σ H _ I h) λu s1 ⟨x,H1,I1,r1,q1⟩=>?_);exact aI (hr pos aa s1 σ H1 _ I1 q1) λus s2 ⟨xs,H2,I2,r2,q2⟩=>⟨x::xs,H2,I2,.cons r1 r2,q2⟩
def Ji(t:TA):TE:=λσ H Q=>t σ H λxs H1=>xs.length<=sizeLine/\∀p,H1 p=none->Q (.ref p) (upd H1 p (.tup xs))
def Hi(t:TA):TE:=λσ H Q=>t σ H λxs H1=>xs.length<=sizeLine/\∀p,H1 p=none->Q (.ref p) (upd H1 p (.lst xs))
def eK{x1}(h:PA X es t):PE X (.Tuple es x1 pos) (Ji t):=by
 intro aa s σ H Q I hq;refine wpAny_Tuple_spliced (aI (h pos aa s σ H _ I hq) λus s1 ⟨xs,H1,I1,r,z,q⟩=>⟨by rw[<-r.length];exact z,?_⟩);have hf:H1 s1.heap.objs.size=none:=I1.hok.fresh (aJ _);exists .ref s1.heap.objs.size,upd H1 s1.heap.objs.size (.tup xs),I1.laid (t':=s1.toks) (λb u e=>cv _ e) (aJ _) ?_,rfl,q _ hf;nomatch z,us,r,⟨_,c8 _ rfl,rfl,_,rfl⟩
def bc(h:PA X es t):PE X (.List es pos) (Hi t):=by
 intro aa s σ H Q I hq;refine wpAny_List_spliced (aI (h pos aa s σ H _ I hq) λus s1 ⟨xs,H1,I1,r,z,q⟩=>⟨by rw[<-r.length];exact z,?_⟩);have hf:H1 s1.heap.objs.size=none:=I1.hok.fresh (aJ _);exists .ref s1.heap.objs.size,upd H1 s1.heap.objs.size (.lst xs),I1.laid (t':=s1.toks) (λb u e=>cv _ e) (aJ _) ?_,rfl,q _ hf;nomatch z,us,0,r,c8 _ rfl
end
abbrev Sp:=List V->Hp->VK->XK->Prop
abbrev j0:=List Env->Hp->Shared->XK->Value->Shared->Prop
structure p6(P:Program)(w:World)(K:Frag)(mg:Str->Option Value)(base:Heap)(A:Around)(outer:List Env)(s:Shared)(H:Hp):Prop where
 frames:A.frames=some outer
 mod:Mod K mg base
 bs:∀b o,base.get? b=some o->s.heap.get? b=some o/\H b=none
 bsz:base.objs.size<=s.heap.objs.size
 funs:s.heap.FunFrames base outer
 frf:∀b∈bq outer,H b=none
 hok:cm P w H s.heap
 bare:AllBare s.gens
def CE(outer:List Env)(P:Program)(w:World)(H:Hp)(s:Shared)(Q:VK)(u:Value)(s':Shared):Prop :=
 ∃v H',s'.os=s.os/\AllBare s'.gens/\Un (bq outer) [] H H' s.heap s'.heap/\cm P w H' s'.heap/\RelV v u/\Q v H'
def CR(CX:j0)(outer:List Env)(P:Program)(w:World)(H:Hp)(s:Shared)(Q:VK)(E:XK)(r:Result)(s':Shared):Prop :=
 match r with
 |.ok (.ret u)=>CE outer P w H s Q u s'
 |.ok _=>False
 |.error e=>CX outer H s E e s'
structure gW(P:Program)(w:World)(K:Frag)(mg:Str->Option Value)(base:Heap)(CX:j0)(k:Nat)(f:Addr)(fd:FuncData)(ps:List Str)(sp:Sp):Prop where
 len:∀vs H Q E,sp vs H Q E->vs.length=ps.length
 run:∀(A:Around) (outer:List Env) (s:Shared) (H:Hp) (args:Args) (us:List Value) (vs:List V) (Q:VK) (E:XK),cz k A->p6 P w K mg base A outer s H->BindsTo s fd args (ps.zip us)->Vals vs us->sp vs H Q E ->
  codeAny (model P w) A (.call (.ref f) args) (CR CX outer P w H s Q E) s
def p6.make{P:Program}{w:World}{K:Frag}{mg:Str->Option Value}{base:Heap}{A:Around}{outer:List Env}{s:Shared}{H:Hp}(e:p6 P w K mg base A outer s H)(C:Addr)(us:List Value)(kw:List (Str×Value)) :
  p6 P w K mg base (A.under (.builtin "type.__call__" ⟨.ref C::us,kw⟩)) outer s H:=⟨by first|exact e.frames|(simpa [Around.under,Code.envs,Code.isFrame,pushEnvs] using e.frames),e.mod,e.bs,e.bsz,e.funs,e.frf,e.hok,e.bare⟩
section
variable{X:Cx}{aa:List (Addr×Obj)}{σ:St}{H:Hp}{s s':Shared}
def Inv.env0(I:Inv X aa σ H s):p6 X.prog X.w X.K X.mg X.base X.A X.stack s H :=
 ⟨I.ok.frames,I.ok.mod,I.bs,bp I.ok.bsz I.sz,I.stack,I.stkFree,I.hok,I.bare⟩
def Inv.after(I:Inv X aa σ H s)(h:CE X.stack X.prog X.w H s Q u s'):EP X aa σ Q u s':=by
 obtain⟨v,H',os,bare,un,hok,r,q⟩:=h;obtain⟨hh,g,d,t,YE⟩:=s';obtain rfl:YE=s.os:=os;nomatch v,H',I.call (h':=hh) (g':=g) (d':=d) (t':=t) (ch:=[]) un hok bare (λb z=>absurd z (by simp)),r,q
end
def Jx(sp:Sp)(fu:List V)(E:XK)(t:TA):TE:=λσ H Q=>t σ H λvs H1=>sp (vs++fu) H1 Q E
def UA(C:Addr)(m:Str)(sp:Sp)(fu:List V)(E:XK)(ta:TE)(t:TA):TE:=λσ H Q=>ta σ H λx H1=>∃a dx fs,x=.ref a/\H1 a=some (.ins C dx fs)/\fs.lookup m=none /\
 t σ H1 λvs H2=>sp (x::(vs++fu)) H2 Q E
def RL(C:Addr)(sp:Sp)(fu:List V)(E:XK)(t:TA):TE:=λσ H Q=>t σ H λvs H1=>∀x dx,H1 x=none->H1 dx=none->dx≠x ->
 sp (.ref x::(vs++fu)) (upd (upd H1 dx (.own x)) x (.ins C dx [])) (λv H2=>v=.non/\Q (.ref x) H2) E
def Binds(K:Frag)(fd:FuncData)(ps:List Str)(ds:List Value):Prop :=
 ∀(s:Shared) (us:List Value),K.In s.heap->(us++ds).length=ps.length->BindsTo s fd ⟨us,[]⟩ (ps.zip (us++ds))
def Binds.all{K:Frag}{fd:FuncData}{ps:List Str}(h:∀us:List Value,us.length=ps.length->bindArgs fd ⟨us,[]⟩=pure (ps.zip us)):Binds K fd ps []:=λs us _ hl=>by
 rw[fc]at hl ⊢;exact .of_eq (h us hl)
def oK(CX:j0)(X:Cx)(E:XK):Prop:=∀(aa:List (Addr×Obj)) (σ:St) (H:Hp) (s:Shared) (e:Value) (s':Shared),Inv X aa σ H s->CX X.stack H s E e s'->X.xe e s'
section
variable{X:Cx}{CX:j0}{k:Nat}{f C:Addr}{fd:FuncData}{ps:List Str}{sp:Sp}{fu:List V}{ds:List Value}{E:XK}{x m:Str}{p pos c9:Pos}{e o:Expr}{es:List Expr}{ta:TE}{t:TA}
set_option tactic.hygienic true in
def Ki(F:gW X.prog X.w X.K X.mg X.base CX k f fd ps sp)(hr:cz k X.A)(hb:Binds X.K fd ps ds)(hd:Vals fu ds)(hx:oK CX X E)
  (I:Inv X aa σ H s) (r:Vals vs us) (h:sp (vs++fu) H Q E):wpAny (model X.prog X.w) X.A (call (.ref f) us) (EP X aa σ Q) X.xe s:=by
 have r2:Vals (vs++fu) (us++ds):=r.append hd;have hl:(us++ds).length=ps.length:=by rw[<-r2.length];exact F.len _ _ _ _ h
 refine wpAny_call (qq (F.run X.A X.stack s H ⟨us,[]⟩ (us++ds) (vs++fu) Q E hr I.env0 (hb s us I.kIn hl) r2 h) λr s' hq=>?_);cases r with
 |error e=>exact hx aa σ H s e s' I hq
 |ok fl =>
  cases fl with
  |ret u=>exact I.after hq
  |next=>exact False.elim hq
  |brk=>exact False.elim hq
  |cont=>exact False.elim hq
def fh(F:gW X.prog X.w X.K X.mg X.base CX k f fd ps sp)(hr:cz k X.A)(hg:Gl X x)(hm:X.mg x=some (.ref f))(hk:PySem.W.keepIn X.K (.ref f)=true)(hb:Binds X.K fd ps ds)(hd:Vals fu ds)(hx:oK CX X E)
  (ha:PA X (e::es) t) (mQ:(x == ("__debug__" : Str))=false:=by decide) (he:starEach (e::es) X.env=(false,eval e X.env)::starEach es X.env:=by rfl) (dE:(backTo pos (starEach es X.env)).any (·.1)=false:=by rfl) :
  PE X (.Call (.Name x p) (e::es) [] pos) (Jx sp fu E t):=by
 intro aa s σ H Q I h;refine zQ (ve I hg hm ?_ mQ);refine AE (h₀:=X.base) I.ok.mod.kin hk (aI (ha pos aa s σ H _ I h) λus s1 ⟨vs,H1,I1,r,q⟩=>⟨I1.kIn,?_⟩) he dE;exact Ki F hr hb hd hx I1 r q
def oP(he:PE X o ta)(c:jV X.K C)(hm:tJ X.K C m f)(F:gW X.prog X.w X.K X.mg X.base CX k f fd ps sp)(hr:cz k X.A)(hb:Binds X.K fd ps ds)(hd:Vals fu ds)(hx:oK CX X E)(ha:PA X (e::es) t)
  (cW:starEach (e::es) X.env=(false,eval e X.env)::starEach es X.env:=by rfl) (dE:(backTo pos (starEach es X.env)).any (·.1)=false:=by rfl)
  (ht:eval (.Call (.Attribute o m c9) (e :: es) [] pos) X.env=(do
   let ov <-eval o X.env
   standAt c9.atName
   let (f,first) <-holding [ov] (getMethod ov m pl)
   callWith pos f first (backTo pos (starEach (e::es) X.env)) (backToKw pos (keywordEach [] X.env))):=by rfl) :
  PE X (.Call (.Attribute o m c9) (e::es) [] pos) (UA C m sp fu E ta t):=by
 intro aa s σ H Q I h;refine KI (pl:=pl) (aI (he aa s σ H _ I h) λu s1 ⟨x,H1,I1,rx,a,dx,fs,ex,ea,l,q⟩=>?_) ht;subst ex;obtain rfl:u=Value.ref a:=rx;refine NK I1 ea c hm l ?_;refine AE (first:=[.ref a]) (h₀:=X.base) I.ok.mod.kin hm.kp (aI (ha pos aa s1 σ H1 _ I1 q) λus s2 ⟨vs,H2,I2,r,q2⟩=>⟨I2.kIn,?_⟩) cW dE;exact Ki (us:=.ref a::us) (vs:=.ref a::vs) F hr hb hd hx I2 (.cons rfl r) q2
structure Mk(K:Frag)(C f:Addr):Prop where
 makes:PySem.W.makesIn K C=true
 init:PySem.W.findIn K (.ref C) "__init__" = some (some (.ref f))
 fn:PySem.W.isFn K (.ref f)=true
 kp:PySem.W.keepIn K (.ref C)=true
set_option tactic.hygienic true in
def zbU(M:Mk X.K C f)(F:gW X.prog X.w X.K X.mg X.base CX k f fd ps sp)(hr:cz (k+1) X.A)(hb:Binds X.K fd ps ds)(hd:Vals fu ds)
  (hx:oK CX X E) (I:Inv X aa σ H s) (r:Vals vs us)
  (h:∀x dx,H x=none->H dx=none->dx≠x->sp (.ref x::(vs++fu)) (upd (upd H dx (.own x)) x (.ins C dx [])) (λv H2=>v=.non/\Q (.ref x) H2) E) :
  wpAny (model X.prog X.w) X.A (call (.ref C) us) (EP X aa σ Q) X.xe s:=by
 have hq:=h (s.heap.objs.size+1) s.heap.objs.size (I.hok.fresh (Mu _)) (I.hok.fresh (aJ _)) (dB (Fx _));have I2:=Inv.made (C:=C) I;have r2:Vals (V.ref (s.heap.objs.size+1)::(vs++fu)) (Value.ref (s.heap.objs.size+1)::(us++ds)):=.cons rfl (r.append hd);have hl:(Value.ref (s.heap.objs.size+1)::us++ds).length=ps.length:=by
  have e:=r2.length;rw[F.len _ _ _ _ hq]at e;exact e.symm
 refine wpAny_call (Tu (f:=f) I.kIn M.makes M.init (kP.mp M.fn) (qq (F.run _ X.stack _ _ ⟨Value.ref (s.heap.objs.size+1) :: us,[]⟩ (Value.ref (s.heap.objs.size+1) :: (us++ds)) _ _ E (hr.make C us []) (I2.env0.make C us []) (hb _ (Value.ref (s.heap.objs.size+1)::us) I2.kIn hl) r2 hq) λr s' gq=>?_))
 cases r with
 |error e=>exact hx aa σ _ _ e s' I2 gq
 |ok fl =>
  cases fl with
  |ret u =>
   obtain⟨v,H',I3,rv,ev,q3⟩:=I2.after gq;subst ev;nomatch rv,⟨V.ref (s.heap.objs.size+1),H',I3,rfl,q3⟩
  |next=>exact False.elim gq
  |brk=>exact False.elim gq
  |cont=>exact False.elim gq
def HV(M:Mk X.K C f)(F:gW X.prog X.w X.K X.mg X.base CX k f fd ps sp)(hr:cz (k+1) X.A)(hg:Gl X x)(hm:X.mg x=some (.ref C))(hb:Binds X.K fd ps ds)(hd:Vals fu ds)(hx:oK CX X E)
  (mQ:(x == ("__debug__" : Str))=false:=by decide):PE X (.Call (.Name x p) [] [] pos) (RL C sp fu E pU):=by
 intro aa s σ H Q I h;refine zQ (ve I hg hm ?_ mQ);exact PySem.W.callWith_K0 I.kIn M.kp (zbU (us:=[]) M F hr hb hd hx I .nil h)
end
structure mR(N P:List Str)(sc:Scope):Prop where
 kind:sc.kind=.function
 co:sc.isCoroutine=false
 gen:sc.isGenerator=false
 nd:N.Nodup
 pre:N.take P.length=P
 par:∀x∈P,sc.names.lookup x=some .local\/sc.names.lookup x=some .cell
 nofree:∀y∈sc.names,y.2≠.free
theorem J4{kindOf:Str->Option NameKind}{x:Str}:∀{binds:List (Str×Value)}{m:Str->Option Value},(∀v,(x,v)∉binds)->bindL kindOf binds m x=m x
 |[],_,_=>rfl
 |(n,v)::r,m,h=>by
  unfold bindL;rw[J4 λw hw=>h w (cq _ hw)];split
  ·have:x≠n:=by rintro rfl;exact h v mD
   simp[this]
  ·rfl
theorem Gi{kindOf:Str->Option NameKind}{x:Str}:∀{binds:List (Str×Value)}{m:Str->Option Value},(∀v,(x,v)∉binds)->bindC kindOf binds m x=m x
 |[],_,_=>rfl
 |(n,v)::r,m,h=>by
  unfold bindC;rw[Gi λw hw=>h w (cq _ hw)];split
  ·rfl
  ·have:x≠n:=by rintro rfl;exact h v mD
   simp[this]
theorem Qk{kindOf:Str->Option NameKind}{x:Str}{v:Value}:∀{P:List Str}{vs:List Value}{i:Nat}{m:Str->Option Value},P.Nodup->P[i]?=some x->vs[i]?=some v->kindOf x=some .local ->
  bindL kindOf (P.zip vs) m x=some v
 |[],_,_,_,_,h,_,_=>by simp at h
 |_::_,[],_,_,_,_,h,_=>by simp at h
 |p::P,w::vs,0,m,nd,h1,h2,hk=>by
  simp at h1 h2;subst h1;subst h2;show bindL kindOf ((p,w)::P.zip vs) m p=_;unfold bindL;rw[J4 λv hv=>(jO.mp nd).1 (Eg hv).1,ax hk];simp
 |p::P,w::vs,i+1,m,nd,h1,h2,hk=>by
  show bindL kindOf ((p,w)::P.zip vs) m x=_;unfold bindL;exact Qk (i:=i) (jO.mp nd).2 (by simpa using h1) (by simpa using h2) hk
theorem MN{kindOf:Str->Option NameKind}{x:Str}{v:Value}:∀{P:List Str}{vs:List Value}{i:Nat}{m:Str->Option Value},P.Nodup->P[i]?=some x->vs[i]?=some v->kindOf x≠some .local ->
  bindC kindOf (P.zip vs) m x=some v
 |[],_,_,_,_,h,_,_=>by simp at h
 |_::_,[],_,_,_,_,h,_=>by simp at h
 |p::P,w::vs,0,m,nd,h1,h2,hk=>by
  simp at h1 h2;subst h1;subst h2;show bindC kindOf ((p,w)::P.zip vs) m p=_;unfold bindC;rw[Gi λv hv=>(jO.mp nd).1 (Eg hv).1,aq hk];simp
 |p::P,w::vs,i+1,m,nd,h1,h2,hk=>by
  show bindC kindOf ((p,w)::P.zip vs) m x=_;unfold bindC;exact MN (i:=i) (jO.mp nd).2 (by simpa using h1) (by simpa using h2) hk
noncomputable def start(N:List Str)(vs:List V):St:=vs.map some++List.replicate (N.length-vs.length) none
def kM(CX:j0)(P:Program)(w:World)(K:Frag)(mg:Str->Option Value)(base:Heap)(N:List Str)(qual:Str)(scope:Scope)(f:Addr)(cd:Value)(A:Around)(outer:List Env)(s:Shared)(H:Hp)(E:XK):Cx where
 prog:=P
 w:=w
 K:=K
 mg:=mg
 base:=base
 A:=A.deeper (envOfC qual scope s.heap.objs.size f cd)
 N:=N
 s₀:=s
 H₀:=H
 env:=envOfC qual scope s.heap.objs.size f cd
 outer:=outer
 stack:=envOfC qual scope s.heap.objs.size f cd::outer
 ex:=[]
 calm:=true
 fn:=λ_=>true
 pn:=[]
 xe:=λe s'=>wpAny (model P w) (A.deeper (envOfC qual scope s.heap.objs.size f cd)) (leaving (envOfC qual scope s.heap.objs.size f cd) e) (λ_ dN=>CX outer H s E e dN) (λe' dN=>CX outer H s E e' dN) s'
def Gm{sc:Scope}{n:Nat}{x:Str}(h:sc.names.lookup x=some .cell):∃c,(cellsFrom n sc.names []).lookup x=some c:=by
 have q:=Qz sc.names n [] (.inl h);exact PB.mp q
def SY{CX:j0}{P:Program}{w:World}{K:Frag}{mg:Str->Option Value}{base:Heap}{N ps:List Str}{qual:Str}{scope:Scope}{f:Addr}{cd:Value}{A:Around}{outer:List Env}{s s1:Shared}{H:Hp}{E:XK}{us:List Value}{vs:List V}
  (S:mR N ps scope) (hd:A.handled=none) (e0:p6 P w K mg base A outer s H) (hl:vs.length=ps.length) (r:Vals vs us)
  (x:InCallC s s.heap.objs.size (bindL (envOfC qual scope s.heap.objs.size f cd).kindOf (ps.zip us) λ_=>none) (cellsFrom (s.heap.objs.size+1) scope.names []) (bindC (envOfC qual scope s.heap.objs.size f cd).kindOf (ps.zip us) λ_=>none) s1) :
  Inv (kM CX P w K mg base N qual scope f cd A outer s H E) [] (start N vs) H s1:=by
 have dE:ps.length<=N.length:=by have:=congrArg List.length S.pre;rw[c7]at this;lia
 obtain⟨h1,tk,rfl,hk⟩:=x.done;have va:∀b:Addr,b∉(kM CX P w K mg base N qual scope f cd A outer s H E).ex:=λb z=>absurd (show b∈([]:List Addr) from z) (by simp)
 refine⟨⟨e0.mod,S.kind,rfl,rfl,aJ _,λy z c h1 h2=>?_,λy hy=>?_,λy c _ h=>?_,λ_=>hd,Around.frames_deeper e0.frames,.inr ⟨rfl,rfl⟩,λb z=>absurd z (va b),e0.bs,e0.bsz,λb _ _=>va b,λb z=>absurd z (va b),e0.funs,e0.frf⟩,rfl,e0.bare,Un.kept hk,⟨_,x.toInCall.ns,λi y v h1 h2 h3=>?_⟩,λy c h=>⟨_,x.cell y c h⟩,e0.hok.fresh (aJ _),λy c h=>?_,λp hp=>absurd (show p∈([]:List (Addr×Obj)) from hp) (by simp),e0.hok.kept hk,?_⟩
 ·exact name_of_addr x.apart (ng h1) (ng h2)
 ·have hy:scope.names.lookup y=some .cell\/scope.names.lookup y=some .free:=hy;rcases hy with hy|hy
  ·exact Gm hy
  ·exact absurd rfl (S.nofree _ (ng hy))
 ·exact dq (x.above y c (ng h))
 ·have hi:i<vs.length:=by
   unfold start at h2;by_cases hi:i<vs.length
   ·exact hi
   ·rw[xO (by simpa using hi)]at h2;rw[Bt]at h2;split at h2<;>cases h2
  have ha:vs[i]?=some v:=by
   unfold start at h2;rw[yF (by simpa using hi),bY]at h2;cases e:vs[i]? with
   |none=>rw[e]at h2;cases h2
   |some a=>rw[e]at h2;cases h2;rfl
  obtain⟨u,hu,rv⟩:=r.get ha;have hp:ps[i]?=some y:=by
   rw[<-S.pre,List.getElem?_take_of_lt (by lia)];exact h1
  have Pr:ps.Nodup:=by rw[<-S.pre];exact S.nd.sublist (List.take_sublist _ _)
  exists u,rv,?_;rcases S.par y (cM hp)with k|k
  ·exact .inl ⟨k,Qk Pr hp hu k⟩
  ·obtain⟨c,e⟩:=Gm (n:=s.heap.objs.size+1) k;refine .inr ⟨.inl k,c,e,?_⟩;have q:=x.cell y c e;rw[MN Pr hp hu (by show scope.names.lookup y≠_;rw[k];decide)]at q;exact q
 ·exact e0.hok.fresh (dq (x.above y c (ng h)))
 ·unfold start;show _=N.length;rw[aS,ay,rY];lia
set_option tactic.hygienic true in
def Nx{CX:j0}{P:Program}{w:World}{K:Frag}{mg:Str->Option Value}{base:Heap}{k:Nat}{f:Addr}{name qual:Str}{params:Arguments}{body:List Stmt}{scope:Scope}{dV kV doc pm bX ct oc:Value}{an od:Option Addr}
  {lV:Array (Option Value)}{N ps:List Str}{sp:Sp} (lk:K.lookup f=some ⟨oc,od,.func (PySem.W.fnOf name qual params body scope dV kV doc pm an bX ct),lV⟩) (iN:PySem.W.codeIn K bX qual=true) (S:mR N ps scope)
  (len:∀vs H Q E,sp vs H Q E->vs.length=ps.length)
  (BV:∀ (A:Around) (outer:List Env) (s:Shared) (H:Hp) (vs:List V) (Q:VK) (E:XK),cz k (A.deeper (envOfC qual scope s.heap.objs.size f bX))->sp vs H Q E -> ∃t,eC (kM CX P w K mg base N qual scope f bX A outer s H E) body t/\t {nx:=λ_ H'=>Q .non H',rt:=Q} (start N vs) H) :
  gW P w K mg base CX (k+1) f (PySem.W.fnOf name qual params body scope dV kV doc pm an bX ct) ps sp:=by
 exists len,λA outer s H args us vs Q E hr e0 hb r eR=>?_;have hl:=len _ _ _ _ eR;have KX:K.In s.heap:=e0.mod.kin.keeps λb o e=>(e0.bs b o e).1
 have lim:s.heap.NoLimit:=e0.mod.nolimit.keeps λb o e=>(e0.bs b o e).1
 have uH:∀y∈ps.zip us,scope.names.lookup y.1=some .local\/(scope.names.lookup y.1=some .cell/\((cellsFrom (s.heap.objs.size+1) scope.names []).lookup y.1).isSome=true):=λ⟨n,v⟩ hy=>by
  rcases S.par n (Eg hy).1 with q|q
  ·exact .inl q
  ·exact .inr ⟨q,Qz _ _ _ (.inl q)⟩
 refine codeAny_call_function hr.depth (KX _ _ lk) rfl S.co S.gen rfl (PySem.W.codeRec_of KX iN) (hb _ _ _ _ ?_);refine wpAny_newFunctionEnv_cells S.kind uH λenv he s1 x=>?_
 subst he;exists lim.keeps x.toInCall.keep,codeAny_func ?_;obtain⟨t,ht,hq⟩:=BV A outer s H vs Q E (hr.deeper _) eR;have I:Inv (kM CX P w K mg base N qual scope f bX A outer s H E) [] (start N vs) H s1:=SY S hr.hd e0 hl r x;refine bA (ht [] s1 (start N vs) H _ I hq) (λfl s' hs=>?_) λe s' hs=>hs
 have fin:∀{σ':St}{H':Hp}{v:V}{u:Value},Inv (kM CX P w K mg base N qual scope f bX A outer s H E) [] σ' H' s'->RelV v u->Q v H'->CE outer P w H s Q u s' :=
  fun {σ' H' v u} J rv q=>⟨v,H',J.os,J.bare,J.base,J.hok,rv,q⟩
 cases fl with
 |ret u =>
  obtain⟨v,σ',H',J,rv,q⟩:=hs;exact fin J rv q
 |next =>
  obtain⟨σ',H',J,q⟩:=hs;exact fin (v:=V.non) (u:=Value.none) J rfl q
 |brk =>
  obtain⟨_,_,_,q⟩:=hs;exact False.elim q
 |cont =>
  obtain⟨_,_,_,q⟩:=hs;exact False.elim q
section
variable{X:Cx}{x:Str}{p pos:Pos}{e:Expr}{es:List Expr}{t:TA}{id T:String}{r:List V->Hp->VK->Prop}
def wY(r:List V->Hp->VK->Prop)(t:TA):TE:=λσ H Q=>t σ H λvs H1=>r vs H1 Q
def bj(hc:gH X (.builtin id) r)(hg:Gl X x)(hm:X.mg x=none)(hv:bootBuiltins x=some (.builtin id))(ha:PA X (e::es) t)(hn:x ≠ "__name__" := by decide)(mQ:(x == ("__debug__" : Str))=false:=by decide)
  (he:starEach (e::es) X.env=(false,eval e X.env)::starEach es X.env:=by rfl) (dE:(backTo pos (starEach es X.env)).any (·.1)=false:=by rfl):PE X (.Call (.Name x p) (e::es) [] pos) (wY r t):=by
 intro aa s σ H Q I h;refine zQ (nX I hg hm hv ?_ hn mQ);exact RQ (aI (ha pos aa s σ H _ I h) λus s1 ⟨vs,H1,I1,r1,q1⟩=>hc aa s1 σ H1 vs us Q I1 r1 q1) he dE
def gY(hc:gH X (.type T) r)(hg:Gl X x)(hm:X.mg x=none)(hv:bootBuiltins x=some (.type T))(ha:PA X (e::es) t)(hn:x ≠ "__name__" := by decide)(mQ:(x == ("__debug__" : Str))=false:=by decide)
  (he:starEach (e::es) X.env=(false,eval e X.env)::starEach es X.env:=by rfl) (dE:(backTo pos (starEach es X.env)).any (·.1)=false:=by rfl):PE X (.Call (.Name x p) (e::es) [] pos) (wY r t):=by
 intro aa s σ H Q I h;refine zQ (nX I hg hm hv ?_ hn mQ);exact sS (aI (ha pos aa s σ H _ I h) λus s1 ⟨vs,H1,I1,r1,q1⟩=>hc aa s1 σ H1 vs us Q I1 r1 q1) he dE
end
end L2
namespace HT
open PySem PyProof.Rows
section
variable{prog:Program}{w:World}{A:Around}{E:Value->Shared->Prop}{s:Shared}
def cat_tup(ht:IsTup s.heap t vs.toArray)(hb:IsTup s.heap b ws.toArray)(hv:vs≠[])
  (h1:ws=[]->Q (.ref t) s) (h2:ws≠[]->Q (.ref s.heap.objs.size) {s with heap:=s.heap.push {cls:=.type "tuple",data:=.seq (vs++ws).toArray}})
  (hsz:vs.length+ws.length<=sizeLine):wpAny (model prog w) A (binaryOp .Add (.ref t) (.ref b)) Q E s:=by
 obtain⟨⟨cls,dd,data,sl⟩,ho,hc,n,hd⟩:=id ht;obtain⟨⟨cls2,om,data2,dw⟩,gc,zS,n2,hd2⟩:=id hb;simp only at hc hd zS hd2;subst hc hd zS hd2;have e:vs.toArray++ws.toArray=(vs++ws).toArray:=by simp
 by_cases hw:ws=[]
 ·exact concat_meets ⟨_,ho,rfl⟩ ⟨_,gc,rfl⟩ noFill_tuple_add seq_tuple_add NX JE (OL _ _)
   (tuple_addW1 t b vs.toArray ws.toArray n n2 dd om sl dw (by simpa using hv) (by simp[hw])) ⟨ho,gc,h1 hw⟩
 ·refine concat_meets ⟨_,ho,rfl⟩ ⟨_,gc,rfl⟩ noFill_tuple_add seq_tuple_add NX JE (OL _ _)
   (tuple_addW2 t b vs.toArray ws.toArray n n2 dd om sl dw (by simpa using hv) (by simpa using hw) (by rw[bJ,bJ];exact hsz)) ⟨ho,gc,?_⟩
  rw[e];exact h2 hw
noncomputable def sIx(n d:Nat):Option Int->Nat
 |none=>d
 |some v=>if v<0 then (v+(n:Int)).toNat else min v.toNat n
def sIx_none(n d:Nat):sIx n d none=d:=rfl
def sIx_nat(n d k:Nat):sIx n d (some (k:Int))=min k n:=by
 show (if (k:Int)<0 then ((k:Int)+(n:Int)).toNat else min (k:Int).toNat n)=min k n;rw[aq (by lia),oJ]
def X5(n d:Nat)(hd:d<=n)(o:Option Int):sIx n d o<=n:=by
 cases o with
 |none=>exact hd
 |some v =>
  show (if v<0 then (v+(n:Int)).toNat else min v.toNat n)<=n;by_cases hv:v<0
  ·rw[ax hv];lia
  ·rw[aq hv];exact IG _ _
def G0(v:Int)(n d:Nat):(if v<0 then max (v+(n:Int)) 0 else min v (n:Int))=((sIx n d (some v):Nat):Int):=by
 show (if v<0 then max (v+(n:Int)) 0 else min v (n:Int))=(((if v<0 then (v+(n:Int)).toNat else min v.toNat n):Nat):Int);by_cases hv:v<0
 ·simp only[ax hv];lia
 ·simp only[aq hv];lia
def YV(lo hi:Option Int)(n:Nat):Builtin.Slice.sliceAdjust lo hi 1 (n:Int)=(((sIx n 0 lo:Nat):Int),((sIx n n hi:Nat):Int)):=by
 have h1:¬((1:Int)<0):=by lia
 unfold Builtin.Slice.sliceAdjust;simp only[h1,l7];refine Cv ?_ ?_
 ·cases lo with
  |none=>rfl
  |some v=>exact G0 v n 0
 ·cases hi with
  |none=>rfl
  |some v=>exact G0 v n n
def VJ(i j:Nat):Builtin.Slice.slicePlaces (i:Int) (j:Int) 1=j-i:=by
 unfold Builtin.Slice.slicePlaces;have h1:(1:Int)>0:=by lia
 simp only[h1,gM,Int.ediv_one];split<;>lia
def PR(p:IsPart v o)(h:Q o s):wpAny (model prog w) A (Builtin.Slice.slicePartIndex v) Q E s:=by
 cases p with
 |none=>exact slicePart_none h
 |int i t=>exact slicePart_int h
def zaN{sl:Addr}{vl vu:Value}{lo hi:Option Int}{n:Nat}{Q:Int×Int×Nat->Shared->Prop}(hs:s.heap.IsSliceOf sl vl vu .none)(pl:IsPart vl lo)(pu:IsPart vu hi)
  (h:Q (((sIx n 0 lo:Nat):Int),1,sIx n n hi-sIx n 0 lo) s):wpAny (model prog w) A (Builtin.Slice.sliceApplied (.ref sl) (pure (n:Int))) Q E s:=by
 obtain⟨os,uo,iP,lZ⟩:=id hs;unfold Builtin.Slice.sliceApplied Builtin.Slice.sliceFields;refine aA (aA (gb uo lZ (x:=vl) rfl (aA (gb uo lZ (x:=vu) rfl (aA (gb uo lZ (x:=.none) rfl (bg ?_)))))));refine aA (slicePart_none ?_);show wpAny _ _ (if ((1:Int) == 0)=true then _ else _) _ _ s;rw[aq (by decide)];refine aA (PR pl (aA (PR pu (aA (bg ?_)))));show wpAny _ _ (match Builtin.Slice.sliceAdjust lo hi 1 (n:Int)with|(lo,hi)=>pure (lo,(1:Int),Builtin.Slice.slicePlaces lo hi 1)) _ _ s;rw[YV lo hi n];show wpAny _ _ (pure (((sIx n 0 lo:Nat):Int),(1:Int),Builtin.Slice.slicePlaces ((sIx n 0 lo:Nat):Int) ((sIx n n hi:Nat):Int) 1)) _ _ s;rw[VJ];exact bg h
def zcL(xs:Array Value)(i k:Nat):((List.range k).filterMap λ(m:Nat)=>xs[((i:Int)+(m:Int)*1).toNat]?).toArray=((xs.toList.drop i).take k).toArray:=by
 have e:(λ(m:Nat)=>xs[((i:Int)+(m:Int)*1).toNat]?)=λm=>xs[i+m]?:=by
  funext m
  have:((i:Int)+(m:Int)*1).toNat=i+m:=by lia
  rw[this]
 rw[e]
 have:=pick_run xs i k
 rw[Ml]at this;have e2:((λx=>xs[x]?) ∘ λx=>i+x)=λm=>xs[i+m]?:=rfl
 rw[e2]at this;rw[this]
def getItem_tuple_cut{t sl:Addr}{items:Array Value}{vl vu:Value}{lo hi:Option Int}{Q:Value->Shared->Prop}(ht:IsTup s.heap t items)(hs:s.heap.IsSliceOf sl vl vu .none)(pl:IsPart vl lo)(pu:IsPart vu hi)
  (hw:¬(sIx items.size 0 lo=0/\sIx items.size items.size hi=items.size))
  (h:Q (.ref s.heap.objs.size) {s with heap:=s.heap.push {cls:=.type "tuple",data:=.seq ((items.toList.drop (sIx items.size 0 lo)).take (sIx items.size items.size hi-sIx items.size 0 lo)).toArray}})
  (hsz:items.size<=sizeLine):wpAny (model prog w) A (getItem (.ref t) (.ref sl)) Q E s:=by
 have xp:sizeOk (.seq ((items.toList.drop (sIx items.size 0 lo)).take (sIx items.size items.size hi-sIx items.size 0 lo)).toArray):=by
  show ((items.toList.drop (sIx items.size 0 lo)).take (sIx items.size items.size hi-sIx items.size 0 lo)).toArray.size<=sizeLine;rw[bJ,c7,fL,vW];omega
 have hj:sIx items.size items.size hi<=items.size:=X5 _ _ (aJ _) hi;obtain⟨os,uo,iP,lZ⟩:=id hs;have XH:s.TypeIs (.ref sl) "slice" := ⟨os,uo,iP⟩;unfold getItem
 try with_reducible refine pq ?_
 first|refine aA (bg ?_)|skip
 refine aA (wpAny_sequenceKey ht.typeIs (by decide) ?_);refine aA (uD (name:=ofString "__getitem__") ht.typeIs Pc (pB Pc ht.typeIs entry_tuple_getitem ?_ (args_tuple_getitem _ _)))
 show wpAny _ _ (Builtin.Tuple.tupleItemsOf (.ref t) >>= _) _ _ s;refine aA (tupleItemsOf_ ht ?_);refine aA (xa XH ?_);rw[ax (by decide)];refine aA (zaN hs pl pu ?_);have Cj:¬((((sIx items.size 0 lo:Nat):Int) == 0&&(1:Int) == 1&&(sIx items.size items.size hi-sIx items.size 0 lo) == items.size)=true):=by
  intro q;rw[eL,eL]at q;have q1:((sIx items.size 0 lo:Nat):Int)=0:=eq_of_beq q.1.1;have q2:sIx items.size items.size hi-sIx items.size 0 lo=items.size:=eq_of_beq q.2;exact hw ⟨by lia,by lia⟩
 show wpAny _ _ (if (((sIx items.size 0 lo:Nat):Int) == 0&&(1:Int) == 1&&(sIx items.size items.size hi-sIx items.size 0 lo) == items.size)=true then _ else _) _ _ s;rw[aq Cj,zcL]
 first
  |exact aA (m:=Builtin.Tuple.tupleExact _) (nP (bg ⟨_,rfl,bg h⟩) xp)
  |exact aA (m:=Builtin.Tuple.tupleExact _) (nP (aA (bg (bg ⟨_,rfl,bg h⟩))) xp)
  |exact aA (aA (m:=Builtin.Tuple.tupleExact _) (nP (bg (bg ⟨_,rfl,bg h⟩)) xp))
  |exact aA (aA (m:=Builtin.Tuple.tupleExact _) (nP (bg ⟨_,rfl,bg h⟩) xp))
end
end HT
namespace L2
open PySem PySem.Spec PyProof.Rows
abbrev TO:=St->Hp->(Option Int->Hp->Prop)->Prop
def PO(X:Cx)(e:Option Expr)(t:TO):Prop :=
 ∀(aa:List (Addr×Obj)) (s:Shared) (σ:St) (H:Hp) (Q:Option Int->Hp->Prop),Inv X aa σ H s->t σ H Q ->
  wpAny (model X.prog X.w) X.A (evalPart e X.env) (λu s'=>∃o H',Inv X aa σ H' s'/\IsPart u o/\Q o H') X.xe s
def Uy:TO:=λ_ H Q=>Q none H
def T1(t:TE):TO:=λσ H Q=>t σ H λx H1=>∃i,x=.int i/\Q (some i) H1
def wy:∀{us:List Value},Vals (ns.map V.int) us->IntsAre us ns:=by
 induction ns with
 |nil=>intro us r;rw[iA]at r;cases r;exact .nil
 |cons n ns ih =>
  intro us r;rw[bw]at r;cases r with
  |cons r1 r2 =>
   obtain⟨t,e⟩:=r1;subst e;exact .cons n t (ih r2)
section
variable{X:Cx}{e:Expr}{te:TE}{lo hi:Option Expr}{tl th:TO}{pos p2:Pos}
def di:PO X none Uy:=by
 intro aa s σ H Q I h;rw[Fw];exact bg ⟨none,H,I,.none,h⟩
def PK(h:PE X e te):PO X (some e) (T1 te):=by
 intro aa s σ H Q I hw;rw[evalPart_some];refine aI (h aa s σ H _ I hw) λu s1 ⟨x,H1,I1,r1,q1⟩=>?_
 obtain⟨i,rfl,q⟩:=q1;obtain⟨t,rfl⟩:=r1;nomatch some i,H1,I1,.int i t,q
def Ad(X:Cx)(r:V->Option Int->Option Int->Hp->VK->Prop):Prop :=
 ∀(aa:List (Addr×Obj)) (s:Shared) (σ:St) (H:Hp) (x:V) (v vl vu:Value) (lo hi:Option Int) (sl:Addr) (Q:VK),Inv X aa σ H s->RelV x v->s.heap.IsSliceOf sl vl vu .none->IsPart vl lo->IsPart vu hi->r x lo hi H Q ->
  ∃T id,typeLookup (.type T) "__getitem__" = pure (some (.builtin id))/\s.TypeIs v T/\wpAny (model X.prog X.w) X.A (getItem v (.ref sl)) (EP X aa σ Q) X.xe s
def Ut(r:V->Option Int->Option Int->Hp->VK->Prop)(te:TE)(tl th:TO):TE:=λσ H Q=>te σ H λx H1=>tl σ H1 λl H2=>th σ H2 λu H3=>r x l u H3 Q
def dj(hr:Ad X r)(he:PE X e te)(hl:PO X lo tl)(hu:PO X hi th):PE X (.Subscript e (.Slice lo hi none p2) pos) (Ut r te tl th):=by
 intro aa s σ H Q I h;refine zJ (aI (he aa s σ H _ I h) λv s1 ⟨x,H1,I1,r1,q1⟩=>?_);refine wpAny_Slice (aI (hl aa s1 σ H1 _ I1 q1) λvl s2 ⟨l,H2,I2,pl,q2⟩=>aI (hu aa s2 σ H2 _ I2 q2) λvu s3 ⟨u,H3,I3,pu,q3⟩=>?_);rw[Fw];refine bg ?_;have I4:Inv X aa σ H3 {s3 with heap:=s3.heap.push {cls:=.type "slice",data:=.fields #[vl,vu,.none]}}:=I3.kept (t':=s3.toks) λb ob q=>cv _ q
 obtain⟨T,id,hT,ht,hg⟩:=hr aa {s3 with heap:=s3.heap.push {cls:=.type "slice",data:=.fields #[vl,vu,.none]}} σ H3 x v vl vu l u s3.heap.objs.size Q I4 r1 (GI ..) pl pu q3;show wpAny (model X.prog X.w) X.A (subscriptTail e (.Slice lo hi none p2) v (.ref s3.heap.objs.size)) (EP X aa σ Q) X.xe {s3 with heap:=s3.heap.push {cls:=.type "slice",data:=.fields #[vl,vu,.none]}};exact tail_any (ops:=[.ref s3.heap.objs.size,v]) ht hT hg (by with_unfolding_all rfl)
def ff(xs:List V)(lo hi:Option Int):List V:=(xs.drop (HT.sIx xs.length 0 lo)).take (HT.sIx xs.length xs.length hi-HT.sIx xs.length 0 lo)
def KJ(xs:List V)(lo hi:Option Int):(ff xs lo hi).length<=xs.length:=by
 unfold ff;rw[c7,fL];exact bp (IG _ _) (HR _ _)
def zaH(K:Frag):V->Option Int->Option Int->Hp->VK->Prop:=λx lo hi H Q=>∃a xs,x=.ref a/\aG K H a xs /\
 ¬(HT.sIx xs.length 0 lo=0/\HT.sIx xs.length xs.length hi=xs.length)/\∀p,H p=none->Q (.ref p) (upd H p (.tup (ff xs lo hi)))
def zbe:Ad X (zaH X.K):=by
 intro aa s σ H x v vl vu lo hi sl Q I rx hs pl pu h;obtain⟨a,xs,rfl,hx,hw,q⟩:=h;cases rx;obtain⟨af,r,ht,hz⟩:=I.tuple hx;have aT:af.toArray.size=xs.length:=by rw[bJ];exact r.length.symm
 exists "tuple",_,PyProof.Rows.slot_tuple_getitem.lookup,ht.typeIs,?_;refine HT.getItem_tuple_cut ht hs pl pu (by rw[aT];exact hw) ?_ (by rw[aT];exact hz);rw[aT];exists .ref s.heap.objs.size,_,I.laid (t':=s.toks) (o:=.tup (ff xs lo hi)) (λb ob q=>cv _ q) (aJ _) ?_,rfl,q _ (I.hok.fresh (aJ _));nomatch bp (KJ xs lo hi) hz,_,(r.drop (HT.sIx xs.length 0 lo)).take (HT.sIx xs.length xs.length hi-HT.sIx xs.length 0 lo),PX _ _
def zbn(K:Frag):R2:=λx y H Q=>∃a b xs ys,x=.ref a/\y=.ref b/\aG K H a xs/\aG K H b ys/\xs≠[]/\xs.length+ys.length<=sizeLine /\
 (ys=[]->Q (.ref a) H)/\(ys≠[]->∀p,H p=none->Q (.ref p) (upd H p (.tup (xs++ys))))
def Vals.nil_iff(r:Vals xs us):us=[]↔xs=[]:=by
 cases r with
 |nil=>simp
 |cons _ _=>simp
def KA:bH X (binaryOp .Add) (zbn X.K):=by
 intro aa s σ H x y v u Q I rx ry h;obtain⟨a,b,xs,ys,rfl,rfl,ha,hb,hx,hz,q1,q2⟩:=h;cases rx;cases ry;obtain⟨af,r1,p1,_⟩:=I.tuple ha;obtain⟨de,r2,p2,_⟩:=I.tuple hb;refine HT.cat_tup p1 p2 (λz=>hx (r1.nil_iff.mp z)) (λz=>⟨.ref a,H,I,rfl,q1 (r2.nil_iff.mp z)⟩) (λz=>?_) (by rw[<-r1.length,<-r2.length];exact hz);exists .ref s.heap.objs.size,_,I.laid (t':=s.toks) (o:=.tup (xs++ys)) (λb ob q=>cv _ q) (aJ _) ?_,rfl,q2 (λw=>z (r2.nil_iff.mpr w)) _ (I.hok.fresh (aJ _));nomatch by rw[aS];exact hz,_,r1.append r2,PX _ _
end
noncomputable def kc(n:Nat)(i:Int):Option Nat:=if 0<=i then (if i<n then some i.toNat else none)else if -(n:Int)<=i then some (i+n).toNat else none
def ef{α:Type}(xs:List α)(i:Int):Option α:=(kc xs.length i).bind λj=>xs[j]?
def L0(h:kc n i=some j):seqIndex? i n=some j/\j<n /\ -(n:Int)<=i/\i<n:=by
 unfold kc at h;by_cases h0:0<=i
 ·rw[ax h0]at h;by_cases h1:i<n
  ·rw[ax h1]at h;have e:i.toNat=j:=cD h;nomatch by rw[seqIndex_of h0 h1,e],by lia,by lia,h1
  ·rw[aq h1]at h;cases h
 ·rw[aq h0]at h;by_cases h1 : -(n:Int)<=i
  ·rw[ax h1]at h;have e:(i+n).toNat=j:=cD h;exact⟨by rw[seqIndex_neg (by lia) h1,e],by lia,h1,by lia⟩
  ·rw[aq h1]at h;cases h
def Bx(h:ef xs i=some v):∃j,seqIndex? i xs.length=some j/\xs[j]?=some v/\j<xs.length /\ -(xs.length:Int)<=i/\i<xs.length:=by
 unfold ef at h;cases e:kc xs.length i with
 |none=>rw[e]at h;cases h
 |some j =>
  rw[e]at h;obtain⟨h1,h2,h3,h4⟩:=L0 e;nomatch j,h1,h,h2,h3,h4
def aZ{α:Type}{xs:List α}{j:Nat}{v:α}(h:xs[j]?=some v):ef xs (j:Int)=some v:=by
 have hj:j<xs.length:=(d6.mp h).1;have e:kc xs.length (j:Int)=some j:=by
  unfold kc;rw[ax (by lia),ax (by lia)];simp
 unfold ef;rw[e];exact h
def uw(b:Expr):Prop:=∀o i,subscripted b false o i=operate [o,i] (getItem o i)
def lx(X:Cx)(r:R2):Prop :=
 ∀(value slice:Expr) (aa:List (Addr×Obj)) (s:Shared) (σ:St) (H:Hp) (x y:V) (v u:Value) (Q:VK),Inv X aa σ H s->RelV x v->RelV y u->r x y H Q ->
  subscripted slice false v u=operate [v,u] (getItem v u)->wpAny (model X.prog X.w) X.A (subscriptTail value slice v u) (EP X aa σ Q) X.xe s
def Jd(X:Cx)(id:String)(r:V->List V->Hp->VK->Prop):Prop :=
 ∀(aa:List (Addr×Obj)) (s:Shared) (σ:St) (H:Hp) (x:V) (xs:List V) (v:Value) (us:List Value) (Q:VK),Inv X aa σ H s->RelV x v->Vals xs us->r x xs H Q ->
  wpAny (model X.prog X.w) X.A (call (.builtin id) (v::us)) (EP X aa σ Q) X.xe s
section
variable{X:Cx}{a b:Expr}{ta tb:TE}{pos:Pos}
def yE(hr:lx X r)(ha:PE X a ta)(hb:PE X b tb)(hs:uw b):PE X (.Subscript a b pos) (i0 r ta tb):=by
 intro aa s σ H Q I h;exact zJ (BD ha hb I h λv u s2 x y H2 I2 rx ry q=>hr a b aa s2 σ H2 x y v u Q I2 rx ry q (hs _ _))
def Ia(K:Frag):R2:=λx y H Q=>∃p xs i v,x=.ref p/\y=.int i/\ai K H p xs/\ef xs i=some v/\Q v H
def QX(K:Frag):R2:=λx y H Q=>∃p xs i v,x=.ref p/\y=.int i/\aG K H p xs/\ef xs i=some v/\Q v H
def zca:R2:=λx y H Q=>∃z i c,x=.str z/\y=.int i/\z.length<=sizeLine/\ef z.cps.toList i=some c/\Q (.str ⟨#[c]⟩) H
def Je:lx X (Ia X.K):=by
 intro value slice aa s σ H x y v u Q I rx ry h hs;obtain⟨p,xs,i,z,rfl,rfl,hq,he,q⟩:=h;cases rx;obtain⟨t,rfl⟩:=ry;obtain⟨af,r,pl,hz⟩:=I.list hq;obtain⟨j,h1,h2,h3,h4,h5⟩:=Bx he;obtain⟨w,ew,fw⟩:=r.get h2;have hl:=r.length;have hn:=nH;have fin:EP X aa σ Q w s:=⟨z,H,I,fw,q⟩;by_cases h0:0<=i
 ·have hj:i.toNat=j:=by
   rw[seqIndex_of h0 h5]at h1;exact cD h1
  exact item_listR pl.isList h0 (by lia) (by rw[hj];simpa using ew) fin hs
 ·have hj:(i+(af.toArray.size:Int)).toNat=j:=by
   rw[seqIndex_neg (by lia) h4]at h1;rw[bJ,<-hl];exact cD h1
  exact subscriptTail_builtinR (x:=w) pl.isList.typeIs slot_list_getitem.lookup
   (wpAny_getItem_list_neg (Q:=λr s'=>r=w/\EP X aa σ Q r s') pl.isList (by omega) (by rw[bJ]<;>lia) (by lia) (by rw[hj];simpa using ew) ⟨rfl,fin⟩) hs
def QG:lx X (QX X.K):=by
 intro value slice aa s σ H x y v u Q I rx ry h hs;obtain⟨p,xs,i,z,rfl,rfl,hq,he,q⟩:=h;cases rx;obtain⟨t,rfl⟩:=ry;obtain⟨af,r,pl,hz⟩:=I.tuple hq;obtain⟨j,h1,h2,h3,h4,h5⟩:=Bx he;obtain⟨w,ew,fw⟩:=r.get h2;have hl:=r.length;have hn:=nH;have fin:EP X aa σ Q w s:=⟨z,H,I,fw,q⟩;exact subscriptTail_builtinR (x:=w) pl.typeIs slot_tuple_getitem.lookup
  (getItem_tuple (j:=j) (Q:=λr s'=>r=w/\EP X aa σ Q r s') pl (by lia) (by lia) (by rw[bJ,<-hl];exact h1) (by simpa using ew) ⟨rfl,fin⟩) hs
def p9:lx X zca:=by
 intro value slice aa s σ H x y v u Q I rx ry h hs;obtain⟨z,i,c,rfl,rfl,hz,he,q⟩:=h;obtain⟨t,rfl⟩:=rx;obtain⟨t',rfl⟩:=ry;obtain⟨j,h1,h2,h3,h4,h5⟩:=Bx he;have hl:z.cps.toList.length=z.length:=by simp[Str.length]
 rw[hl]at h1 h4 h5;have hn:=nH;exact tail_any (oq s z t) slot_str_getitem.lookup (getItem_str (c:=c) (by
  have e1:decide (i < -(2^63:Int))=false:=aL (by lia);have e2:decide (i ≥ 2^63)=false:=aL (by lia);rw[e1,e2,qG]) (by rw[h1];simpa using h2) ⟨.str ⟨#[c]⟩,H,I.tok _,⟨_,rfl⟩,q⟩) hs
def XF(af:List Value)(n j:Nat)(u:Value):Obj.mapSeq (·.setIfInBounds j u) {cls:=.type "list",data:=.seq af.toArray n}={cls:=.type "list",data:=.seq (af.set j u).toArray n}:=by
 simp[Obj.mapSeq]
def Inv.lst{aa:List (Addr×Obj)}{σ:St}{H:Hp}{s:Shared}{p:Addr}{xs:List V}(I:Inv X aa σ H s)(h:H p=some (.lst xs)) :
  ∃(af:List Value) (n:Nat),Vals xs af/\s.heap.get? p=some {cls:=.type "list",data:=.seq af.toArray n}/\xs.length<=sizeLine:=by
 obtain⟨z,af,n,r,e⟩:=I.hok p _ h;nomatch af,n,r,e,z
def Inv.lstUpd{aa:List (Addr×Obj)}{σ:St}{H:Hp}{s:Shared}{p:Addr}{xs ys:List V}{af its':List Value}{n n':Nat}{f:Obj->Obj}(I:Inv X aa σ H s)(h:H p=some (.lst xs))
  (ho:s.heap.get? p=some {cls:=.type "list",data:=.seq af.toArray n}) (hf:f {cls:=.type "list",data:=.seq af.toArray n}={cls:=.type "list",data:=.seq its'.toArray n'}) (r:Vals ys its') (hz:ys.length<=sizeLine) (t:Nat) :
  Inv X aa σ (upd H p (.lst ys)) {s with heap:=s.heap.update p f,toks:=t}:=by
 have e:(s.heap.update p f).get? p=some {cls:=.type "list",data:=.seq its'.toArray n'}:=by
  rw[FZ f ho (by rw[hf]<;>rfl),hf]
 refine I.write (x:=p) (e:=p) (by rw[h];trivial) (.inl rfl) (λb u hb q=>(IK _ _ (Ne.symm hb)).trans q) ⟨_,e⟩ ?_;nomatch hz,its',n',r,e
def zaa:V->V->V->Hp->(Hp->Prop)->Prop:=λo i v H Q=>∃p xs k j,o=.ref p/\i=.int k/\H p=some (.lst xs)/\kc xs.length k=some j/\Q (upd H p (.lst (xs.set j v)))
def U5:N6 X zaa:=by
 intro aa s σ H o i v ov iv u Q I ro ri rv h;obtain⟨p,xs,k,j,rfl,rfl,hp,hj,q⟩:=h;cases ro;obtain⟨t,rfl⟩:=ri;obtain⟨af,n,r,ho,hz⟩:=I.lst hp;obtain⟨h1,h2,h3,h4⟩:=L0 hj;have hl:=r.length;have hn:=nH;have I':Inv X aa σ (upd H p (.lst (xs.set j v))) {s with heap:=s.heap.update p (Obj.mapSeq (·.setIfInBounds j u))} :=
  I.lstUpd hp ho (XF af n j u) (r.set rv j) (by rw[qH];exact hz) s.toks
 by_cases h0:0<=k
 ·have hk:k.toNat=j:=by
   rw[seqIndex_of h0 h4]at h1;exact cD h1
  exact PySem.W.ki_setAt ho h0 (by lia) (by rw[bJ,<-hl];exact h4) (by rw[hk];nomatch _,I',q)
 ·have hk:(k+(af.toArray.size:Int)).toNat=j:=by
   rw[seqIndex_neg (by lia) h3]at h1;rw[bJ,<-hl];exact cD h1
  exact PySem.W.ki_setBack ho (by omega) (by rw[bJ,<-hl];exact h3) (by lia) (by rw[hk];nomatch _,I',q)
def Hw(h:i<0):max 0 (min (i+(n:Int)) n)=(((i+n).toNat:Nat):Int):=by
 rw[MC (by lia),Int.ofNat_toNat,Int.max_comm]
def He{i:Int}{n:Nat}(h:¬i<0):max 0 (min i (n:Int))=((min i.toNat n:Nat):Int):=by
 obtain⟨k,rfl⟩:=mf (Int.not_lt.mp h);rw[oJ];rcases Nat.le_total k n with h|h
 ·rw[se h,MC (OZ.mpr h),EW (iW _)]
 ·rw[qS h,Int.min_eq_right (OZ.mpr h),EW (iW _)]
def zaL(lo hi:Option Int)(n:Nat):(sliceBounds lo hi none n).1=((HT.sIx n 0 lo:Nat):Int)/\(sliceBounds lo hi none n).2.1=((HT.sIx n n hi:Nat):Int)/\(sliceBounds lo hi none n).2.2=1:=by
 exists ?_,?_,rfl
 ·cases lo with
  |none=>simp[sliceBounds,HT.sIx]
  |some i =>
   simp only[sliceBounds,HT.sIx,NP,show (1:Int)>0 by decide,gM];by_cases h:i<0
   ·simp only[h,gM];exact Hw h
   ·simp only[h,l7];exact He h
 ·cases hi with
  |none=>simp[sliceBounds,HT.sIx]
  |some i =>
   simp only[sliceBounds,HT.sIx,NP,show (1:Int)>0 by decide,gM];by_cases h:i<0
   ·simp only[h,gM];exact Hw h
   ·simp only[h,l7];exact He h
def zbJ(af:List Value)(lo hi:Option Int):slicePick af.toArray lo hi none=((af.drop (HT.sIx af.length 0 lo)).take (HT.sIx af.length af.length hi-HT.sIx af.length 0 lo)).toArray:=by
 obtain⟨h1,h2,h3⟩:=zaL lo hi af.toArray.size;unfold slicePick;rw[h1,h2,h3];simp only[sliceRange_one,pick_run,bJ]<;>rfl
def QW(K:Frag):V->Option Int->Option Int->Hp->VK->Prop:=λx lo hi H Q=>∃a xs,x=.ref a/\ai K H a xs/\∀p,H p=none->Q (.ref p) (upd H p (.lst (ff xs lo hi)))
def ik:Ad X (QW X.K):=by
 intro aa s σ H x v vl vu lo hi sl Q I rx hs pl pu h;obtain⟨a,xs,rfl,hx,q⟩:=h;cases rx;obtain⟨af,r,ht,hz⟩:=I.list hx;have aT:=r.length;exists "list",_,slot_list_getitem.lookup,ht.isList.typeIs,?_;refine GZ ht.isList hs pl pu .none (by simp) ?_ (by rw[bJ]<;>lia);rw[zbJ,<-aT];exists .ref s.heap.objs.size,_,I.laid (t':=s.toks) (o:=.lst (ff xs lo hi)) (λb ob q=>cv _ q) (aJ _) ?_,rfl,q _ (I.hok.fresh (aJ _));nomatch bp (KJ xs lo hi) hz,_,0,(r.drop (HT.sIx xs.length 0 lo)).take (HT.sIx xs.length xs.length hi-HT.sIx xs.length 0 lo),c8 _ rfl
noncomputable def lA:V->Bool
 |.non=>true
 |.bl _=>true
 |.int _=>true
 |.str _=>true
 |_=>false
noncomputable def jm:V->V->Bool
 |.non,.non=>true
 |.bl a,.bl b=>a == b
 |.bl a,.int b=>(if a then 1 else 0) == b
 |.int a,.bl b=>a == (if b then 1 else 0)
 |.int a,.int b=>a == b
 |.str a,.str b=>a == b
 |_,_=>false
def Z2(ry:RelV y u)(rx:RelV x v)(fy:lA y=true)(fx:lA x=true):SeqAt.EqAt A s u v (jm y x):=by
 cases y with
 |non =>
  cases ry;cases x with
  |non=>cases rx;exact zd _
  |bl b=>cases rx;exact jhc b
  |int b=>obtain⟨t,rfl⟩:=rx;exact jhm b t
  |str b=>obtain⟨t,rfl⟩:=rx;exact Sx b t
  |_=>exact absurd (show false=true from fx) cQ
 |bl a =>
  cases ry;cases x with
  |non=>cases rx;exact XT a
  |bl b=>cases rx;exact Sh a b
  |int b=>obtain⟨t,rfl⟩:=rx;exact RK a b t
  |str b=>obtain⟨t,rfl⟩:=rx;exact ZH a b t
  |_=>exact absurd (show false=true from fx) cQ
 |int a =>
  obtain⟨t',rfl⟩:=ry;cases x with
  |non=>cases rx;exact Zj a t'
  |bl b=>cases rx;exact Xe a t' b
  |int b=>obtain⟨t,rfl⟩:=rx;exact jht a t' b t
  |str b=>obtain⟨t,rfl⟩:=rx;exact MA a t' b t
  |_=>exact absurd (show false=true from fx) cQ
 |str a =>
  obtain⟨t',rfl⟩:=ry;cases x with
  |non=>cases rx;exact VT a t'
  |bl b=>cases rx;exact jhj a t' b
  |int b=>obtain⟨t,rfl⟩:=rx;exact Kl a t' b t
  |str b=>obtain⟨t,rfl⟩:=rx;exact Yu a t' b t
  |_=>exact absurd (show false=true from fx) cQ
 |_=>exact absurd (show false=true from fy) cQ
def i9(x:V)(u:Value):Bool:=match u with
 |.none=>jm .non x
 |.bool b=>jm (.bl b) x
 |.int i _=>jm (.int i) x
 |.str z _=>jm (.str z) x
 |_=>false
def BA(r:RelV y u)(f:lA y=true):i9 x u=jm y x:=by
 cases y with
 |non=>cases r;rfl
 |bl b=>cases r;rfl
 |int i=>obtain⟨t,rfl⟩:=r;rfl
 |str z=>obtain⟨t,rfl⟩:=r;rfl
 |_=>exact absurd (show false=true from f) cQ
theorem DE:∀{xs:List V}{us:List Value},Vals xs us->xs.all lA=true->us.any (i9 x)=xs.any λy=>jm y x
 |_,_,.nil,_=>rfl
 |y::xs,u::us,.cons r t,f=>by
  rw[rP,eL]at f;rw[ju,ju,BA r f.1,DE t f.2]
theorem yf(rx:RelV x v)(fx:lA x=true):∀{xs:List V}{us:List Value},Vals xs us->xs.all lA=true->∀u∈us,SeqAt.EqAt A s u v (i9 x u)
 |_,_,.nil,_=>λu hu=>by cases hu
 |y::xs,u::us,.cons r t,f=>λu' hu=>by
  rw[rP,eL]at f;rcases ba.mp hu with rfl|hu
  ·rw[BA r f.1];exact Z2 r rx f.1 fx
  ·exact yf rx fx t f.2 u' hu
def iz(x:V)(xs:List V):Bool:=xs.any λy=>jm y x
def T2(K:Frag)(neg:Bool):R2:=λx y H Q=>∃p xs,y=.ref p/\(ai K H p xs\/aG K H p xs)/\lA x=true/\xs.all lA=true/\Q (.bl (if neg then !iz x xs else iz x xs)) H
def pF:bH X (compareOp .In) (T2 X.K false):=by
 intro aa s σ H x y v u Q I rx ry h;obtain⟨p,xs,rfl,hq,fx,fs,q⟩:=h;cases ry;rcases hq with hq|hq
 ·obtain⟨af,r,pl,hz⟩:=I.list hq;refine SeqAt.in_listAt (i9 x) pl.isList (λw hw=>yf rx fx r fs w (by simpa using hw)) ⟨.bl _,H,I,rfl,?_⟩;rw[show af.toArray.any (i9 x)=af.any (i9 x) by simp,DE r fs];exact q
 ·obtain⟨af,r,pl,hz⟩:=I.tuple hq;refine SeqAt.in_tupleAt (i9 x) pl (λw hw=>yf rx fx r fs w (by simpa using hw)) ⟨.bl _,H,I,rfl,?_⟩;rw[show af.toArray.any (i9 x)=af.any (i9 x) by simp,DE r fs];exact q
def Es:bH X (compareOp .NotIn) (λx y H Q=>∃i j,x=.str i/\y=.str j/\Q (.bl (!(!(Builtin.Str.occurrences j i 0 j.length 1).isEmpty))) H):=by
 intro aa s σ H x y v u Q I rx ry h;obtain⟨i,j,rfl,rfl,q⟩:=h;obtain⟨t,rfl⟩:=rx;obtain⟨t',rfl⟩:=ry;exact notIn_str ⟨.bl _,H,I,rfl,q⟩
def dJ:gH X (.builtin "len") (λxs H Q=>∃p ys,xs=[.ref p]/\(ai X.K H p ys\/aG X.K H p ys)/\Q (.int ys.length) H):=by
 intro aa s σ H xs us Q I r h;obtain⟨p,ys,rfl,hq,q⟩:=h;obtain⟨u,rfl,rx⟩:=ix r;cases rx;have hn:=nH;rcases hq with hq|hq
 ·obtain⟨af,r',pl,hz⟩:=I.list hq;have aT:=r'.length;exact Calls.call_len_list pl.isList (by simp only[bJ]<;>lia) ⟨.int ys.length,H,I.tok _,⟨s.toks+1,by rw[bJ,aT]⟩,q⟩
 ·obtain⟨af,r',pl,hz⟩:=I.tuple hq;have aT:=r'.length;exact len_tuple pl (by simp only[bJ]<;>omega) ⟨.int ys.length,H,I.tok _,⟨s.toks+1,by rw[bJ,aT]⟩,q⟩
def gp:gH X (.builtin "len") (λxs H Q=>∃z,xs=[.str z]/\z.length<=sizeLine/\Q (.int z.length) H):=by
 intro aa s σ H xs us Q I r h;obtain⟨z,rfl,hz,q⟩:=h;obtain⟨u,rfl,t,rfl⟩:=ix r;have hn:=nH;exact len_str (by lia) ⟨.int z.length,H,I.tok _,⟨_,rfl⟩,q⟩
def EA(K:Frag)(T:String)(x:V)(H:Hp):Prop:=match x with
 |.str _=>T = "str"
 |.int _=>T = "int"
 |.ref p=>(T = "list" /\ ∃xs,ai K H p xs)\/(T = "tuple" /\ ∃o,K.lookup p=some o/\o.cls=.type "tuple" /\ o.dict=none) \/
   (T = "dict" /\ ((∃kvs,H p=some (.dK kvs))\/∃kvs,H p=some (.dT kvs)))\/(T = "set" /\ ∃S n,H p=some (.set S n))
 |_=>False
def OO(I:Inv X aa σ H s)(r:RelV x v)(ty:EA X.K T x H) :
  s.TypeIs v T/\∀a,v=.ref a->∃ob,s.heap.get? a=some ob/\ob.dict=none:=by
 cases x with
 |str z =>
  obtain⟨t,rfl⟩:=r;cases (show T = "str" from ty);nomatch oq s z t,λ_ e=>nomatch e
 |int i =>
  obtain⟨t,rfl⟩:=r;cases (show T = "int" from ty);nomatch typeIs_int s i t,λ_ e=>nomatch e
 |ref p =>
  cases r;rcases ty with ⟨rfl,xs,hq⟩|⟨rfl,o,hk,hc,hd⟩|⟨rfl,hk⟩|⟨rfl,S,n,hk⟩
  ·obtain⟨af,_,pl,_⟩:=I.list hq;exists pl.isList.typeIs,λa e=>?_;cases e;obtain⟨o,n,e,c,hd,_⟩:=pl;nomatch o,e,hd
  ·exists ⟨o,I.kIn p o hk,hc⟩,λa e=>?_;cases e;nomatch o,I.kIn _ o hk,hd
  ·have z:∃o,s.heap.get? p=some o/\o.ExactDict:=by
    rcases hk with ⟨kvs,hk⟩|⟨kvs,hk⟩
    ·obtain⟨_,_,_,_,o,_,_,e,ex,_⟩:=I.hok p _ hk;nomatch o,e,ex
    ·obtain⟨_,_,_,_,o,_,_,e,ex,_⟩:=I.hok p _ hk;nomatch o,e,ex
   obtain⟨o,e,ex⟩:=z;exists ⟨o,e,ex.1⟩,λa e2=>?_;cases e2;nomatch o,e,ex.2.1
  ·obtain⟨o,_,_,_,e,ex,_⟩:=I.hok p _ hk;exists ⟨o,e,ex.1⟩,λa e2=>?_;cases e2;nomatch o,e,ex.2.1
 |_=>exact False.elim ty
def VG(K:Frag)(T:String)(r:V->List V->Hp->VK->Prop)(to:TE):TE:=λσ H Q=>to σ H λx H1=>EA K T x H1/\r x [] H1 Q
def VA(K:Frag)(T:String)(r:V->List V->Hp->VK->Prop)(to:TE)(t:TA):TE:=λσ H Q=>to σ H λx H1=>EA K T x H1/\t σ H1 λxs H2=>r x xs H2 Q
variable{o e:Expr}{es:List Expr}{to:TE}{t:TA}{name:Str}{c9 bN:Pos}{T id:String}{r:V->List V->Hp->VK->Prop}
def iY(pa:PlainAttrs T)(slot:Slot T name id)(F7:typeOf (.builtin id)=pure (.type "method_descriptor"))(hm:Jd X id r)(ho:PE X o to)
  (Ci:attributeBase o name X.env (eval o X.env)=eval o X.env:=by rfl) (Fn:(c9.endLine == bN.line)=true:=by rfl):PE X (.Call (.Attribute o name c9) [] [] bN) (VG X.K T r to):=by
 intro aa s σ H Q I h;refine wpAny_Call_method0_late Ci Fn (aI (ho aa s σ H _ I h) λv s1 ⟨x,H1,I1,r1,ty,q1⟩=>?_);obtain⟨h1,h2⟩:=OO I1 r1 ty;nomatch T,id,pa,slot,F7,h1,h2,xI rfl (PySem.evalArgs_none (hm aa s1 σ H1 x [] v [] Q I1 r1 .nil q1))
def ck(pa:PlainAttrs T)(slot:Slot T name id)(F7:typeOf (.builtin id)=pure (.type "method_descriptor"))(hm:Jd X id r)(ho:PE X o to)(ha:PA X (e::es) t)
  (Ci:attributeBase o name X.env (eval o X.env)=eval o X.env:=by rfl)
  (lU:((backTo bN (starEach (e :: es) X.env)).all (fun x => !x.1) && (backToKw bN (keywordEach [] X.env)).all (fun x=>x.1.isSome) && decide ((e::es).length+([]:List Keyword).length+(if ([]:List Keyword).isEmpty then 0 else 1)<30))=true:=by rfl)
  (Fn:(c9.endLine == bN.line)=true:=by rfl) (hs:starEach (e::es) X.env=(false,eval e X.env)::starEach es X.env:=by rfl) (hplain:(backTo bN (starEach es X.env)).any (·.1)=false:=by rfl) :
  PE X (.Call (.Attribute o name c9) (e::es) [] bN) (VA X.K T r to t):=by
 intro aa s σ H Q I h;refine wpAny_Call_method_late Ci lU Fn rfl (aI (ho aa s σ H _ I h) λv s1 ⟨x,H1,I1,r1,ty,q1⟩=>?_);obtain⟨h1,h2⟩:=OO I1 r1 ty;exists T,id,pa,slot,F7,h1,h2,?_;have hA:=ha bN aa s1 σ H1 _ I1 q1;rw[hs]at hA ⊢;refine xI (by show (false || (backTo bN (starEach es X.env)).any (·.1))=false;rw[hplain]<;>rfl) (zr ?_);exact aI hA λus s2 ⟨vs,H2,I2,r2,q2⟩=>hm aa s2 σ H2 x vs v us Q I2 r1 r2 q2
end
def fI(X:Cx)(id:String)(r:V->List V->Hp->VK->Prop):Prop :=
 ∀(aa:List (Addr×Obj)) (s:Shared) (σ:St) (H:Hp) (x:V) (xs:List V) (v:Value) (us:List Value) (Q:VK),Inv X aa σ H s->RelV x v->Vals xs us->r x xs H Q ->
  wpAny (model X.prog X.w) X.A (call (.builtin id) (v::us)) (EP X aa σ Q) X.xe s
def Vals.one(h:Vals [x] us):∃u,us=[u]/\RelV x u:=by
 cases h with|cons r t=>cases t;nomatch _,rfl,r
def Vals.two(h:Vals [x,y] us):∃u v,us=[u,v]/\RelV x u/\RelV y v:=by
 cases h with|cons r t=>cases t with|cons q t=>cases t;nomatch _,_,rfl,r,q
theorem Vals.zero:∀{us:List Value},Vals [] us->us=[]
 |_,.nil=>rfl
def Vals.dropLast(h:Vals xs us):Vals xs.dropLast us.dropLast:=by
 induction h with
 |nil=>exact .nil
 |cons r t ih =>
  cases t with
  |nil=>exact .nil
  |cons q t'=>exact .cons r ih
def Yi(l:List α):l.eraseIdx (l.length-1)=l.dropLast:=by
 induction l with
 |nil=>rfl
 |cons a r ih =>
  cases r with
  |nil=>rfl
  |cons b r =>
   have e:(a::b::r).length-1=((b::r).length-1)+1:=by
    have h1:(a::b::r).length=r.length+2:=rfl;have h2:(b::r).length=r.length+1:=rfl;assumption
   rw[e,List.eraseIdx_cons_succ,ih]
   all_goals rfl
section
variable{X:Cx}{aa:List (Addr×Obj)}{σ:St}{H:Hp}{s:Shared}{l b:Addr}{xs ys zs:List V}
def Inv.lset{af its':List Value}{n:Nat}{f:Array Value->Array Value}{t':Nat}(I:Inv X aa σ H s)(hH:H l=some (.lst xs))
  (e:s.heap.get? l=some {cls:=.type "list",data:=.seq af.toArray n}) (hf:f af.toArray=its'.toArray) (hv:Vals ys its') (hz:ys.length<=sizeLine) :
  Inv X aa σ (upd H l (.lst ys)) {s with heap:=s.heap.update l (Obj.mapSeq f),toks:=t'}:=by
 have q:=PySem.IsL.update e f;rw[hf]at q;refine I.write (x:=l) (e:=l) (by rw[hH];exact trivial) (.inl rfl) (λb' u hb hu=>(IK s.heap (Obj.mapSeq f) (Ne.symm hb)).trans hu) ⟨_,q⟩ ?_;nomatch hz,its',_,hv,q
def Inv.lnew(I:Inv X aa σ H s)(hv:Vals ys af)(hz:ys.length<=sizeLine) :
  Inv X aa σ (upd H s.heap.objs.size (.lst ys)) {s with heap:=s.heap.push {cls:=.type "list",data:=.seq af.toArray},toks:=t'} :=
 I.laid (λ_ _ q=>cv _ q) (aJ _) ⟨hz,af,0,hv,c8 _ rfl⟩
def Inv.fresh(I:Inv X aa σ H s):H s.heap.objs.size=none:=I.hok.fresh (aJ _)
def Inv.lstM(I:Inv X aa σ H s)(hH:H l=some (.lst xs)):xs.length<=sizeLine/\∃(af:List Value) (n:Nat),Vals xs af/\xs.length=af.length/\s.heap.get? l=some {cls:=.type "list",data:=.seq af.toArray n}:=by
 obtain⟨z,af,n,r,e⟩:=I.hok l _ hH;nomatch z,af,n,r,r.length,e
def Rr(h:n<=sizeLine):Builtin.List.listTooLong n=false:=by
 unfold Builtin.List.listTooLong;exact aL (by lia)
end
section
variable{X:Cx}
def Zu:V->List V->Hp->VK->Prop:=λx vs H Q=>∃l xs y,x=.ref l/\vs=[y]/\H l=some (.lst xs)/\xs.length<sizeLine/\Q .non (upd H l (.lst (xs++[y])))
def RX:fI X "list.append" Zu:=by
 intro aa s σ H x vs v us Q I rx rv h;obtain⟨l,xs,y,rfl,rfl,hH,hz,q⟩:=h;cases rx;obtain⟨u,rfl,ru⟩:=rv.one;obtain⟨z,af,n,r,hl,e⟩:=I.lstM hH;refine ke En ⟨_,e,rfl⟩ Dz (ER _ _) (C1 l af.toArray n u (by rw[bJ];lia)) ⟨e,?_⟩;exists .non,_,I.lset (its':=af++[u]) hH e (by simp) (r.append (.cons ru .nil)) ?_,rfl,q;rw[aS,List.length_singleton];assumption
def YW:V->List V->Hp->VK->Prop:=λx vs H Q=>∃l xs y,x=.ref l/\vs=[]/\H l=some (.lst xs)/\xs[xs.length-1]?=some y/\Q y (upd H l (.lst xs.dropLast))
def qg:fI X "list.pop" YW:=by
 intro aa s σ H x vs v us Q I rx rv h;obtain⟨l,xs,y,rfl,rfl,hH,hy,q⟩:=h;cases rx;have RO:=rv.zero;subst RO;obtain⟨z,af,n,r,hl,e⟩:=I.lstM hH;obtain⟨u,hu,ru⟩:=r.get hy;have SD:af.toArray[af.toArray.size-1]?=some u:=by
  show af.toArray[af.length-1]?=some u;rw[<-CU,<-hl];exact hu
 refine ke F.slot_list_pop ⟨_,e,rfl⟩ F.entry_list_pop (F.args_list_pop_1 _) (MeetsSeq.list_pop_last l af.toArray n u SD (by rw[bJ];lia)) ⟨e,?_⟩;exists y,_,I.lset (its':=af.dropLast) hH e ?_ r.dropLast ?_,ru,q
 ·show af.toArray.eraseIdxIfInBounds (af.toArray.size-1)=af.dropLast.toArray;rw[bJ,List.eraseIdxIfInBounds_toArray,Yi]
 ·rw[List.length_dropLast];lia
def zbE:R2:=λx y H Q=>∃l b xs zs,x=.ref l/\y=.ref b/\H l=some (.lst xs)/\H b=some (.lst zs)/\xs.length+zs.length<=sizeLine/\∀p,H p=none->Q (.ref p) (upd H p (.lst (xs++zs)))
def lB:bH X (binaryOp .Add) zbE:=by
 intro aa s σ H x y v u Q I rx ry h;obtain⟨l,b,xs,zs,rfl,rfl,hH,hB,hz,q⟩:=h;cases rx;cases ry;obtain⟨z,af,n,r,hl,e⟩:=I.lstM hH;obtain⟨z2,de,n2,r2,da,e2⟩:=I.lstM hB;refine PySem.P.add_list e e2 ?_ (by rw[bJ,bJ];lia);have ea:af.toArray++de.toArray=(af++de).toArray:=by simp
 rw[ea];nomatch .ref _,_,I.lnew (t':=s.toks) (r.append r2) (by rw[aS];assumption),rfl,q _ I.fresh
end
section
variable{κ:Type}[DecidableEq κ]
noncomputable def gO(kvs:List (κ×V))(k:κ):Option V:=(kvs.find? λkv=>decide (kv.1=k)).map (·.2)
noncomputable def fH(kvs:List (κ×V))(k:κ)(v:V):List (κ×V) :=
 if (kvs.any λkv=>decide (kv.1=k))=true then kvs.map (λkv=>if kv.1=k then (kv.1,v)else kv)else kvs++[(k,v)]
def vq{p:κ×V}{r:List (κ×V)}{k:κ}(e:p.1=k):gO (p::r) k=some p.2:=by simp[gO,fV,e]
def uF{p:κ×V}{r:List (κ×V)}{k:κ}(e:¬p.1=k):gO (p::r) k=gO r k:=by simp[gO,fV,e]
theorem FF(k:κ):∀kvs:List (κ×V),(kvs.any λkv=>decide (kv.1=k))=(gO kvs k).isSome
 |[]=>rfl
 |p::r=>by
  rw[ju];by_cases e:p.1=k
  ·simp only[vq e,aC e,Bool.true_or,Option.isSome_some]
  ·rw[uF e,aL e,L7];exact FF k r
def JG(kvs:List (κ×V))(k:κ)(v:V):(fH kvs k v).length<=kvs.length+1:=by
 unfold fH;split
 ·rw[ay];lia
 ·rw[aS,aW,mC];lia
def fQ.isSome_eq(r:fQ o u):o.isSome=u.isSome:=by
 cases o with
 |none=>cases u with
  |none=>rfl
  |some _=>exact (show False from r).elim
 |some _=>cases u with
  |none=>exact (show False from r).elim
  |some _=>rfl
def fQ.getD(r:fQ o u)(rd:RelV d d'):RelV (o.getD d) (u.getD d'):=by
 cases o with
 |none=>cases u with
  |none=>exact rd
  |some _=>exact (show False from r).elim
 |some _=>cases u with
  |none=>exact (show False from r).elim
  |some _=>exact r
def KV.val{kvs:List (κ×V)}{vs:List (κ×Value)}(r:KV kvs vs)(k:κ):fQ (gO kvs k) (valueAt vs k):=by
 unfold KV at r;induction r with
 |nil=>exact True.intro
 |@cons p q ps qs h t ih =>
  obtain⟨h1,h2⟩:=h;by_cases e:p.1=k
  ·have e':q.1=k:=h1.symm.trans e;have b:valueAt (q::qs) k=some q.2:=by simp[valueAt,fV,e']
   rw[vq e,b];exact h2
  ·have e':¬q.1=k:=λz=>e (h1.trans z)
   have b:valueAt (q::qs) k=valueAt qs k:=by simp[valueAt,fV,e']
   rw[uF e,b];exact ih
def KV.any(r:KV kvs vs)(k:κ):(kvs.any λkv=>decide (kv.1=k))=vs.any λkv=>decide (kv.1=k):=by
 unfold KV at r;induction r with
 |nil=>rfl
 |cons h t ih=>rw[ju,ju,ih,h.1]
def KV.repl(r:KV kvs vs)(k:κ)(ry:RelV y u) :
  KV (kvs.map λkv=>if kv.1=k then (kv.1,y)else kv) (vs.map λkv=>if kv.1=k then (kv.1,u)else kv):=by
 unfold KV at r ⊢;induction r with
 |nil=>exact .nil
 |@cons p q ps qs h t ih =>
  rw[bw,bw];refine .cons ?_ ih;obtain⟨h1,h2⟩:=h;by_cases e:p.1=k
  ·rw[ax e,ax (h1.symm.trans e)];nomatch h1,ry
  ·rw[aq e,aq (λz=>e (h1.trans z))];nomatch h1,h2
def KV.put(r:KV kvs vs)(k:κ)(ry:RelV y u):KV (fH kvs k y) (stored vs k u):=by
 unfold fH stored;rw[r.any k];by_cases e:(vs.any λkv=>decide (kv.1=k))=true
 ·rw[ax e,ax e];exact r.repl k ry
 ·rw[aq e,aq e];exact N1 r ⟨rfl,ry⟩
def KV.keys{kvs:List (κ×V)}{vs:List (κ×Value)}(r:KV kvs vs):kvs.map (·.1)=vs.map (·.1):=by
 unfold KV at r;induction r with
 |nil=>rfl
 |cons h t ih=>rw[bw,bw,ih,h.1]
def KV.length(r:KV kvs vs):kvs.length=vs.length:=dP r
end
def uE(r:RelV (kV k) u):(eJ P w).is k u=true:=by
 cases k with
 |inl i=>obtain⟨t,e⟩:=(show ∃t,u=Value.int i t from r);subst e;exact LN P w i t
 |inr x=>obtain⟨t,e⟩:=(show ∃t,u=Value.str x t from r);subst e;exact qB P w x t
theorem IV:∀{ks:List bO}{us:List Value},Vals (ks.map kV) us->ItemsAre (eJ P w) ks us
 |[],_,r=>by rw[iA]at r;cases r;exact .nil
 |k::ks,_,r=>by
  rw[bw]at r;cases r with
  |cons h t=>exact .cons (uE h) (IV t)
abbrev KT(H:Hp):List (List bO×V)->List (List bO×Addr×Value)->Prop:=Paired λp q=>p.1=q.1/\H q.2.1=some (.tup (p.1.map kV))/\RelV p.2 q.2.2
def KT.val(r:KT H kvs xs)(k:List bO):fQ (gO kvs k) ((atKey xs k).map (·.2)):=by
 induction r with
 |nil=>exact True.intro
 |@cons p q ps qs h t ih =>
  obtain⟨h1,_,h2⟩:=h;by_cases e:p.1=k
  ·have e':q.1=k:=h1.symm.trans e;have b:atKey (q::qs) k=some q.2:=by simp[atKey,fV,e']
   rw[vq e,b];exact h2
  ·have e':¬q.1=k:=λz=>e (h1.trans z)
   have b:atKey (q::qs) k=atKey qs k:=by simp[atKey,fV,e']
   rw[uF e,b];exact ih
def KT.repl(r:KT H kvs xs)(k:List bO)(ry:RelV y u) :
  KT H (kvs.map λkv=>if kv.1=k then (kv.1,y)else kv) (xs.map (putAt k u)):=by
 induction r with
 |nil=>exact .nil
 |@cons p q ps qs h t ih =>
  rw[bw,bw];refine .cons ?_ ih;obtain⟨h1,h2,h3⟩:=h;unfold putAt;by_cases e:p.1=k
  ·rw[ax e,ax (h1.symm.trans e)];nomatch h1,h2,ry
  ·rw[aq e,aq (λz=>e (h1.trans z))];nomatch h1,h2,h3
def KT.put(r:KT H kvs xs)(k:List bO)(hb:H b=some (.tup (k.map kV)))(ry:RelV y u) :
  KT H (fH kvs k y) (storedH xs k b u):=by
 have e:(kvs.any λkv=>decide (kv.1=k))=(atKey xs k).isSome:=by
  rw[FF,(r.val k).isSome_eq,xQ]
 unfold fH storedH;rw[e];by_cases q:(atKey xs k).isSome=true
 ·rw[ax q,ax q];exact r.repl k ry
 ·rw[aq q,aq q];exact N1 r ⟨rfl,hb,ry⟩
def KT.keeps(r:KT H kvs xs)(ht:∀b ys,H b=some (.tup ys)->H' b=some (.tup ys)):KT H' kvs xs :=
 Paired.mapP r λ_ _ z=>⟨z.1,ht _ _ z.2.1,z.2.2⟩
section
variable{P:Program}{w:World}{H:Hp}{h:Heap}{a:Addr}
def O3(ok:cm P w H h)(e:Rd H a u):cn P w H h a u:=e.ok ok
def rm(ok:cm P w H h)(e:Rd H a (.dK kvs)):kvs.length<=sizeLine/\(a == sysModules)=false/\∃vs,KV kvs vs/\h.DictOf (eJ P w) a vs :=
 show cn P w H h a (.dK kvs) from O3 ok e
def zM(ok:cm P w H h)(e:H a=some (.dK kvs)):kvs.length<=sizeLine/\(a == sysModules)=false/\∃vs,KV kvs vs/\h.DictOf (eJ P w) a vs:=rm ok (.inl e)
def vp(ok:cm P w H h)(e:H a=some (.tup (ks.map kV))):(tupleKind (eJ P w)).is h ks a:=by
 obtain⟨_,af,r,o,h1,h2,n,h3⟩:=(show cn P w H h a (.tup (ks.map kV)) from ok a _ e);exact⟨o,af.toArray,n,h1,h2,h3,by simpa using IV r⟩
def rS(ok:cm P w H h)(e:Rd H a (.dT kvs)):kvs.length<=sizeLine/\(a == sysModules)=false /\
  ∃xs,KT H kvs xs/\h.DictOfH (tupleKind (eJ P w)) a xs:=by
 obtain⟨z,y,xs,r,o,es,ep,h1,h2,h3,h4,h5⟩:=(show cn P w H h a (.dT kvs) from O3 ok e);exists z,y,xs,r,o,es,ep,h1,h2,h3,h4,λx hx=>?_,h5;have all:∀{l:List (List bO×V)}{m:List (List bO×Addr×Value)},KT H l m->∀x∈m,(tupleKind (eJ P w)).is h x.1 x.2.1:=by
  intro l m q;induction q with
  |nil=>intro x hx;exact nomatch hx
  |@cons p q ps qs hq t ih =>
   intro x hx;rcases ba.mp hx with e|hx
   ·subst e;exact vp ok (by rw[<-hq.1];exact hq.2.1)
   ·exact ih x hx
 exact all r x hx
def Wh(ok:cm P w H h)(e:H a=some (.dT kvs)):kvs.length<=sizeLine/\(a == sysModules)=false /\
  ∃xs,KT H kvs xs/\h.DictOfH (tupleKind (eJ P w)) a xs:=rS ok (.inl e)
end
def gG(H:Hp)(a:Addr)(y:V)(r:Option V):Prop :=
 (∃kvs k,Rd H a (.dK kvs)/\y=kV k/\r=gO kvs k)\/∃kvs k b,Rd H a (.dT kvs)/\y=.ref b/\H b=some (.tup (k.map kV))/\r=gO kvs k
def ox(H:Hp)(a:Addr)(y v:V)(H':Hp):Prop :=
 (∃kvs k,H a=some (.dK kvs)/\y=kV k/\kvs.length<sizeLine/\H'=upd H a (.dK (fH kvs k v))) \/
 ∃kvs k b,H a=some (.dT kvs)/\y=.ref b/\H b=some (.tup (k.map kV))/\kvs.length<sizeLine/\H'=upd H a (.dT (fH kvs k v))
theorem gG.k{H:Hp}{a:Addr}{kvs:List (bO×V)}{k:bO}(e:H a=some (.dK kvs)):gG H a (kV k) (gO kvs k):=.inl ⟨kvs,k,.inl e,rfl,rfl⟩
theorem ox.k{H:Hp}{a:Addr}{kvs:List (bO×V)}{k:bO}{v:V}(e:H a=some (.dK kvs))(hl:kvs.length<sizeLine):ox H a (kV k) v (upd H a (.dK (fH kvs k v))):=.inl ⟨kvs,k,e,rfl,hl,rfl⟩
section
variable{X:Cx}{aa:List (Addr×Obj)}{σ:St}{H:Hp}{s:Shared}{a:Addr}{y v:V}{u r:Value}{o:Option V}{A:Around}{E:Value->Shared->Prop}
def Inv.big(I:Inv X aa σ H s):sysModules<s.heap.objs.size:=by
 have h:mainGlobals<s.heap.objs.size:=(I.mod.glob.keeps I.bk).lt;exact FI (by decide) h
def zab(hu:A.units+1<cLine)(I:Inv X aa σ H s)(g:gG H a y (some v))(ry:RelV y u)(h:∀w' s',Inv X aa σ H s'->RelV v w'->Q w' s') :
  wpAny (model X.prog X.w) A (getItem (.ref a) u) Q E s:=by
 rcases g with ⟨kvs,k,e,ey,l⟩|⟨kvs,k,b,e,ey,eb,l⟩
 ·subst ey;obtain⟨z,hd,vs,rel,dd⟩:=rm I.hok e;obtain⟨w',hw,fw⟩:=fQ.some_of (v:=v) (o:=valueAt vs k) (by rw[l];exact rel.val k);exact wpAny_getItem_of (uE ry) dd.mapOf hw (h w' _ (I.tok _) fw)
 ·subst ey;cases (show u=Value.ref b from ry);obtain⟨z,hd,xs,rel,dd⟩:=rS I.hok e;obtain⟨w',hw,fw⟩:=fQ.some_of (v:=v) (o:=(atKey xs k).map (·.2)) (by rw[l];exact rel.val k);obtain⟨p,hp,gA⟩:=DW.mp hw;refine wpAny_getItem_heap (x6 hu) (vp I.hok eb) dd hp ?_;rw[gA];exact h w' _ (I.tok _) fw
def zaD(hu:A.units+1<cLine)(I:Inv X aa σ H s)(g:gG H a y o)(ry:RelV y u)(h:∀s',Inv X aa σ H s'->Q (.bool (!o.isSome)) s') :
  wpAny (model X.prog X.w) A (compareOp .NotIn u (.ref a)) Q E s:=by
 rcases g with ⟨kvs,k,e,ey,l⟩|⟨kvs,k,b,e,ey,eb,l⟩
 ·subst ey;obtain⟨z,hd,vs,rel,dd⟩:=rm I.hok e;refine wpAny_notIn_of (uE ry) hd dd.mapOf ?_;rw[<- (rel.val k).isSome_eq,<-l];exact h _ (I.tok _)
 ·subst ey;cases (show u=Value.ref b from ry);obtain⟨z,hd,xs,rel,dd⟩:=rS I.hok e;refine wpAny_notIn_heap (x6 hu) (vp I.hok eb) hd dd ?_;have q:=(rel.val k).isSome_eq;rw[xQ]at q;rw[<-q,<-l];exact h _ (I.tok _)
def E5(I:Inv X aa σ H s)(mu:tU (H a))(hs:Heap.SameBut a s.heap h')(he:∃q,h'.get? a=some q)(new:cn X.prog X.w (upd H a ob) h' a ob) :
  Inv X aa σ (upd H a ob) {s with heap:=h',toks:=t'} :=
 I.write (x:=a) (e:=a) mu (.inl rfl) (λb q hb z=>(hs.2 b hb).trans z) he new
def Ip(z:kvs.length<=sizeLine)(hd:(a == sysModules)=false)(rel:KV kvs vs)(dd:h'.DictOf (eJ P w) a vs) :
  cn P w H' h' a (.dK kvs):=⟨z,hd,vs,rel,dd⟩
def Wo(hu:A.units+1<cLine)(I:Inv X aa σ H s)(g:ox H a y v H')(ry:RelV y u)(rv:RelV v r)(h:∀s',Inv X aa σ H' s'->Q () s') :
  wpAny (model X.prog X.w) A (setItem (.ref a) u r) Q E s:=by
 rcases g with ⟨kvs,k,e,ey,l,eH⟩|⟨kvs,k,b,e,ey,eb,l,eH⟩
 ·subst ey eH;obtain⟨z,hd,vs,rel,dd⟩:=zM I.hok e;have hz:vs.length<=sizeLine:=by rw[<-rel.length];exact z
  have hl:(fH kvs k v).length<=sizeLine:=by have:=JG kvs k v;lia
  refine wpAny_setItem_pairs (hsz:=hz) (uE ry) dd λh' uv hs=>h _ ?_
  have he:∃q,h'.get? a=some q:=let ⟨q,_,_,hq,_⟩:=uv; ⟨q,hq⟩
  exact E5 I (by rw[e];exact True.intro) hs he (Ip hl hd (rel.put k rv) uv)
 ·subst ey eH;cases (show u=Value.ref b from ry);obtain⟨z,hd,xs,rel,dd⟩:=Wh I.hok e;have hz:xs.length<=sizeLine:=by rw[<-dP rel];exact z
  have hl:(fH kvs k v).length<=sizeLine:=by have:=JG kvs k v;lia
  refine wpAny_setItem_heap (hsz:=hz) (x6 hu) (vp I.hok eb) dd λh' uv hs=>h _ ?_
  obtain⟨q,es,ep,hq,h2,h3,h4,_,h5⟩:=uv;refine E5 I (by rw[e];exact True.intro) hs ⟨q,hq⟩ ⟨hl,hd,_,(rel.put k eb rv).keeps λc ys ec=>?_,q,es,ep,hq,h2,h3,h4,h5⟩;rw[aO (qM ec e (λz=>nomatch z))];exact ec
end
def yV(i:Expr):Prop:=∀ov iv,subscripted i false ov iv=operate [ov,iv] (getItem ov iv)
def ND{prog:Program}{w:World}{A:Around}{E:Value->Shared->Prop}{s:Shared}{env:Env}{value slice:Expr}{pos:Pos}{T id:String}{Q:Value->Shared->Prop}
  (hl:typeLookup (.type T) "__getitem__" = pure (some (.builtin id))) (hs:yV slice)
  (h:wpAny (model prog w) A (eval value env) (λo s₁=>wpAny (model prog w) A (eval slice env) (λi s₂=>s₂.TypeIs o T/\wpAny (model prog w) A (getItem o i) Q E s₂) E s₁) E s) :
  wpAny (model prog w) A (eval (.Subscript value slice pos) env) Q E s:=by
 refine zJ (bA h (λo s₁ h₁=>bA h₁ (λi s₂ h₂=>?_) λ_ _ x=>x) λ_ _ x=>x);obtain⟨hT,h₂⟩:=h₂;unfold subscriptTail;refine aA ?_;rw[getitemInPython_of_ne hT.not_modules];refine aA (wpAny_specialOf hT hl ?_);have fin:wpAny (model prog w) A (subscripted slice false o i) (λr s₃=>wpAny (model prog w) A (letTemporaryGo value o r >>= λ_=>pure r) Q E s₃) E s₂:=by
  rw[hs o i];exact wpAny_operating (bA h₂ (λr s₃ h₃=>aA (wpAny_letTemporaryGo (bg h₃))) λ_ _ x=>x)
 first
  |exact bg (aA fin)
  |exact aA (bg (aA fin))
  |exact aA fin
def zba(I:Inv X aa σ H s)(g:gG H a y o):s.TypeIs (.ref a) "dict" := by
 rcases g with ⟨kvs,k,e,_,_⟩|⟨kvs,k,b,e,_,_,_⟩
 ·obtain⟨_,_,vs,_,dd⟩:=rm I.hok e;exact dd.typeIs
 ·obtain⟨_,_,xs,_,dd⟩:=rS I.hok e;exact dd.typeIs
def zad(td ty:TE):TE:=λσ H Q=>td σ H λx H1=>ty σ H1 λy H2=>∃a v,x=.ref a/\gG H2 a y (some v)/\Q v H2
def ZM(ty td:TE):TE:=λσ H Q=>ty σ H λy H1=>td σ H1 λx H2=>∃a o,x=.ref a/\gG H2 a y o/\Q (.bl (!o.isSome)) H2
def Yk(td ty tv:TE):TS:=λD σ H=>tv σ H λv H1=>td σ H1 λx H2=>ty σ H2 λy H3=>∃a H4,x=.ref a/\ox H3 a y v H4/\D.nx σ H4
section
variable{X:Cx}{o i e value:Expr}{pos pos' tpos:Pos}{td ty tv:TE}
def V4(hu:X.A.units+1<cLine)(ho:PE X o td)(hi:PE X i ty)(hs:yV i):PE X (.Subscript o i pos) (zad td ty):=by
 intro aa s σ H Q I h;refine ND PySem.F.slot_dict_getitem.lookup hs (aI (ho aa s σ H _ I h) λu s1 ⟨x,H1,I1,rx,q1⟩=>aI (hi aa s1 σ H1 _ I1 q1) λiv s2 ⟨y,H2,I2,ry,a,v,ex,g,q2⟩=>?_);subst ex;obtain rfl:u=Value.ref a:=rx;nomatch zba I2 g,zab hu I2 g ry λw' s3 I3 fw=>⟨v,H2,I3,fw,q2⟩
def YN(hu:X.A.units+1<cLine)(hi:PE X i ty)(ho:PE X o td):PC X .NotIn i o (ZM ty td):=by
 intro aa s σ H Q I h;refine aI (hi aa s σ H _ I h) λiv s1 ⟨y,H1,I1,ry,q1⟩=>aI (ho aa s1 σ H1 _ I1 q1) λu s2 ⟨x,H2,I2,rx,a,ov,ex,g,q2⟩=>?_
 subst ex;obtain rfl:u=Value.ref a:=rx;exact zaD hu I2 g ry λs3 I3=>⟨.bl (!ov.isSome),H2,I3,rfl,q2⟩
def zt(hu:X.A.units+1<cLine)(ho:PE X o td)(hi:PE X i ty)(hv:PE X value tv)(hs:swapsWith value (some (.Subscript o i pos')) pos.line X.env=pure false) :
  PS X (.Assign [.Subscript o i pos'] value pos) (Yk td ty tv):=by
 intro aa s σ H D I h;refine wpAny_Assign_Subscript (aI (hv aa s σ H _ I h) λr s1 ⟨v,H1,I1,rv,q1⟩=>aI (ho aa s1 σ H1 _ I1 q1) λu s2 ⟨x,H2,I2,rx,q2⟩=>aI (hi aa s2 σ H2 _ I2 q2) λiv s3 ⟨y,H3,I3,ry,a,H4,ex,g,q3⟩=>?_) hs;subst ex;obtain rfl:u=Value.ref a:=rx;exact Wo hu I3 g ry rv λs4 I4=>⟨σ,H4,I4,q3⟩
end
def Nq(h:Heap)(hb:sysModules<h.objs.size):cn P w H (h.push {cls:=.type "dict",data:=.dict #[]}) h.objs.size (.dK []) :=
 ⟨cb _,oW.mpr (Ne.symm (dB hb)),[],.nil,Iq h⟩
def Wq:TE:=λ_ H Q=>∀p,H p=none->Q (.ref p) (upd H p (.dK []))
section
variable{X:Cx}{pos:Pos}
def yW:PE X (.Dict [] [] pos) Wq:=λaa s σ H Q I h =>
 wpAny_Dict_empty ⟨.ref s.heap.objs.size,_,I.laid (a:=s.heap.objs.size) (o:=.dK []) (t':=s.toks) (λ_ _ q=>cv _ q) (aJ _) (Nq s.heap I.big),rfl,h _ (I.hok.fresh (aJ _))⟩
end
structure M1(X:Cx)(o:Expr)(m:Str)(c9:Pos)(e:Expr)(bN:Pos):Prop where
 base:attributeBase o m X.env (eval o X.env)=eval o X.env
 few:((backTo bN (starEach [e] X.env)).all (fun x => !x.1) && (backToKw bN (keywordEach [] X.env)).all (fun x=>x.1.isSome) && decide (([e]:List Expr).length+([]:List Keyword).length+(if ([]:List Keyword).isEmpty then 0 else 1)<30))=true
 line:(c9.endLine == bN.line)=true
 trees:backTo bN (starEach [e] X.env)=[(false,eval e X.env)]
structure M2(X:Cx)(o:Expr)(m:Str)(c9:Pos)(e f:Expr)(bN:Pos):Prop where
 base:attributeBase o m X.env (eval o X.env)=eval o X.env
 few:((backTo bN (starEach [e,f] X.env)).all (fun x => !x.1) && (backToKw bN (keywordEach [] X.env)).all (fun x=>x.1.isSome) && decide (([e,f]:List Expr).length+([]:List Keyword).length+(if ([]:List Keyword).isEmpty then 0 else 1)<30))=true
 line:(c9.endLine == bN.line)=true
 trees:backTo bN (starEach [e,f] X.env)=[(false,eval e X.env),(false,eval f X.env)]
def MQ(H:Hp)(a:Addr):Prop:=(∃kvs,Rd H a (.dK kvs))\/∃kvs,Rd H a (.dT kvs)
def Vv(I:Inv X aa σ H s)(d:MQ H a) :
  s.TypeIs (.ref a) "dict" /\ (∀b,Value.ref a=.ref b->∃ob,s.heap.get? b=some ob/\ob.dict=none)/\(a == sysModules)=false:=by
 rcases d with ⟨kvs,e⟩|⟨kvs,e⟩
 ·obtain⟨_,hd,vs,_,dd⟩:=rm I.hok e;exists dd.typeIs,λb q=>?_,hd;cases q;obtain⟨ob,_,_,h1,h2,_⟩:=dd;nomatch ob,h1,h2.2.1
 ·obtain⟨_,hd,xs,_,dd⟩:=rS I.hok e;exists dd.typeIs,λb q=>?_,hd;cases q;obtain⟨ob,_,_,h1,h2,_⟩:=dd;nomatch ob,h1,h2.2.1
section
variable{X:Cx}{aa:List (Addr×Obj)}{σ:St}{H:Hp}{s:Shared}{a:Addr}{y d:V}{u r:Value}{o:Option V}{A:Around}{E:Value->Shared->Prop}
def Uj(hu:A.units+1<cLine)(I:Inv X aa σ H s)(g:gG H a y o)(ry:RelV y u)(rd:RelV d r)(h:∀w' s',Inv X aa σ H s'->RelV (o.getD d) w'->Q w' s') :
  wpAny (model X.prog X.w) A (call (.builtin "dict.get") [.ref a,u,r]) Q E s:=by
 rcases g with ⟨kvs,k,e,ey,l⟩|⟨kvs,k,b,e,ey,eb,l⟩
 ·subst ey;obtain⟨z,hd,vs,rel,dd⟩:=rm I.hok e;refine call_meetsIn vE dd.typeIs FQ (Oo _ _ _) (meets_dict_get_default (eJ X.prog X.w) a (uE ry) hd r) ⟨_,dd.mapOf,h _ _ (I.tok _) ?_⟩;rw[l];exact (rel.val k).getD rd
 ·subst ey;cases (show u=Value.ref b from ry);obtain⟨z,hd,xs,rel,dd⟩:=rS I.hok e;refine call_meetsIn vE dd.typeIs FQ (Oo _ _ _) (meetsH_dict_get_default (tupleKind (eJ X.prog X.w)) a b hd r) ⟨x6 hu,k,xs,vp I.hok eb,dd,h _ _ (I.tok _) ?_⟩;rw[l];exact (rel.val k).getD rd
end
def Yp(td ty tx:TE):TE:=λσ H Q=>td σ H λx H1=>∃a,x=.ref a/\MQ H1 a/\ty σ H1 λy H2=>tx σ H2 λz H3=>∃o,gG H3 a y o/\Q (o.getD z) H3
section
variable{X:Cx}{o e f:Expr}{c9 bN:Pos}{td ty tx:TE}
def Ar(hu:X.A.units+1<cLine)(ho:PE X o td)(he:PE X e ty)(hf:PE X f tx)(m:M2 X o "get" c9 e f bN):PE X (.Call (.Attribute o "get" c9) [e,f] [] bN) (Yp td ty tx):=by
 intro aa s σ H Q I h;refine wpAny_Call_method m.base m.few m.line PQ vE IW (aI (ho aa s σ H _ I h) λu s1 ⟨x,H1,I1,rx,a,ex,d,q1⟩=>?_);subst ex;obtain rfl:u=Value.ref a:=rx;obtain⟨t1,t2,_⟩:=Vv I1 d;exists t1,t2,?_;rw[m.trees];refine xI rfl (zr (xg (aI (he aa s1 σ H1 _ I1 q1) λiv s2 ⟨y,H2,I2,ry,q2⟩ =>
  xg (aI (hf aa s2 σ H2 _ I2 q2) λfv s3 ⟨z,H3,I3,rz,ov,g,q3⟩=>EK ?_))))
 exact Uj hu I3 g ry rz λw' s4 I4 fw=>⟨_,H3,I4,fw,q3⟩
end
end L2
namespace Att
open PySem PySem.W PySem.Calls PyProof.Rows
def XR:∀(ns:List Int) (vs:List Value),WellAll P h vs (ns.map WData.int)->IntsAre vs ns:=by
 intro ns;induction ns with
 |nil =>
  intro vs w;rw[iA]at w;cases w;exact .nil
 |cons n ns ih =>
  intro vs w;rw[bw]at w;cases w with
  |cons a b =>
   cases a;exact .cons _ _ (ih _ b)
def script_of{l:OpenLaw}{n:Nat}(hn:l.most=some n){P:Params}{h:Heap}{args:List WData}{vals:List Value}
  (xC:l.row.toRowW.claim.pre args=true) (d8:WellAll P h vals args) :
  ∃a vs ns,vals=[Value.ref a]/\args=[WData.list (ns.map WData.int)]/\h.get? a=some {cls:=.type "list",data:=.seq vs.toArray}/\IntsAre vs ns/\ns.length<=n:=by
 have Yz:WShape.hasAll [] args [.list .int]=true:=(pre_splitW xC).1;have hc:l.pre.holds [] {args:=args}=true:=(pre_splitW xC).2;obtain⟨d,r,rfl,h1,h2⟩:=hasAllW_cons Yz;obtain rfl:=hasAllW_nil h2;obtain⟨xs,rfl,h3⟩:=hasW_list h1;obtain⟨ns,rfl⟩:=items_int h3;have aT:ns.length<=n:=by
  unfold OpenLaw.pre at hc;have h4:(WTm.not (.lt (.lit (.int (n:Int))) (.len (.arg 0)))).holds [] {args:=[.list (ns.map .int)]}=true:=by
   have h4:=(holds_andW hc).1;rw[hn]at h4;exact h4
  have h5:=condW_of h4 (w_not (w_lt w_lit (w_len_list (w_arg rfl))));rw[ay]at h5;refine Nat.le_of_not_lt λq=>?_
  have q':(n:Int)<((ns.length:Nat):Int):=by omega
  first
   |(rw[aC q']at h5;exact absurd h5 (by decide))
   |(simp at h5;omega)
 cases d8 with
 |cons w1 w2 =>
  cases w2;cases w1 with
  |list ho j3=>nomatch _,_,ns,rfl,rfl,ho,XR ns _ j3,aT
def post_true(l:OpenLaw)(args:List WData):l.row.toRowW.claim.post args (.bool true) args=true :=
 postW_of (r:=l.row.toRowW) (X:=(true == true))
  (show WShape.has [] (.bool true) .bool=true by first|rfl|decide|simp[WShape.has,WShape.arms,WShape.armsAll])
  (show (WTm.eq .res (.lit (.bool true))).value [] {args:=args,res:=some (.bool true),after:=args}=some (.bool (true == true)) from w_eq_bool (w_res rfl) w_lit) rfl
end Att
namespace L2
open PySem PySem.Spec PyProof.Rows
theorem BJ:∀{vs:List Value}{ns:List Int},IntsAre vs ns->Vals (ns.map V.int) vs
 |_,_,.nil=>.nil
 |_,_,.cons n t h=>.cons ⟨t,rfl⟩ (BJ h)
def D1(H:Hp):Prop:=∀b,H b=none\/∃o xs,H b=some (.frz o (.lst xs))
set_option tactic.hygienic true in
def UG{P:Program}{w:World}{K:Frag}{mg mb:Str->Option Value}{CX:j0}{k:Nat}{fa a:Addr}{fd:FuncData}{x:Str}{sp:Sp}{s₁:Shared}{vs:List Value}{ns:List Int}
  (KX:K.In s₁.heap) (jc:s₁.heap.Ns mainGlobals mg) (hb:s₁.heap.Ns builtinsNs mb) (Sb:∀x:Str,x ≠ "__name__" -> mb x=bootBuiltins x) (hlim:s₁.heap.NoLimit) (hg:s₁.gens = #[])
  (ha:s₁.heap.get? a=some {cls:=.type "list",data:=.seq vs.toArray}) (hi:IntsAre vs ns) (hl:ns.length<=sizeLine) (hr:cz k callerA)
  (F:∀base:Heap,K.In base->base.Ns mainGlobals mg->gW P w K mg base CX k fa fd [x] sp) (Tz:∀(s:Shared) (u:Value),BindsTo s fd ⟨[u],[]⟩ [(x,u)])
  (eR:∀H:Hp,D1 H->ai K H a (ns.map V.int)->sp [.ref a] H (λv _=>v=.bl true) λ_ _ _=>False)
  (Ba:∀H e s',CX [] H s₁ (λ_ _ _=>False) e s'->False) :
  codeAny (model P w) callerA (.call (.ref fa) ⟨[.ref a],[]⟩) (λr s'=>r=.ok (.ret (.bool true))/\OldK s₁.heap s'.heap/\s'.os=s₁.os/\AllBare s'.gens) s₁:=by
 have rv:=BJ hi;have U7:=hi.length;have core:∀H:Hp,D1 H->ai K H a (ns.map V.int)->cm P w H s₁.heap->(∀b,H b≠none->b=a)->(H a≠none->K.lookup a=none) ->
   codeAny (model P w) callerA (.call (.ref fa) ⟨[.ref a],[]⟩) (λr s'=>r=.ok (.ret (.bool true))/\OldK s₁.heap s'.heap/\s'.os=s₁.os/\AllBare s'.gens) s₁:=by
  intro H hO hS hok hA hK;have MS:∀{b:Addr}{o:Obj},s₁.heap.get? b=some o->H b=none->(mz s₁.heap H).get? b=some o:=λe n=>zbY e n
  have va:∀{b:Addr}{o:Obj}{es:Array DictEntry}{ep:Nat},s₁.heap.get? b=some o->o.data=.dict es ep->H b=none:=fun {b o es ep} e d=>by
   cases q:H b with
   |none=>rfl
   |some u =>
    have e':b=a:=hA b (by rw[q];simp);subst e';rw[ha]at e;cases e;have d':Data.seq vs.toArray _=Data.dict es ep:=d;cases d'
  have xj:∀{b:Addr}{m:Str->Option Value},s₁.heap.Ns b m->(mz s₁.heap H).Ns b m:=fun {b m} ⟨o,es,ep,e,d,r⟩=>⟨o,es,ep,MS e (va e d),d,r⟩
  have IS:K.In (mz s₁.heap H):=λb o e=>MS (KX b o e) (by
   cases q:H b with
   |none=>rfl
   |some u =>
    have e':b=a:=hA b (by rw[q];simp);subst e';rw[hK (by rw[q];simp)]at e;cases e)
  have hM:Mod K mg (mz s₁.heap H):=⟨IS,xj jc,⟨mb,xj hb,Sb⟩,let ⟨mc,h1,h2⟩:=hlim; ⟨mc,xj h1,h2⟩⟩;have e0:p6 P w K mg (mz s₁.heap H) callerA [] s₁ H:=⟨rfl,hM,λb o e=>zbp e,GG (VB _ _),trivial,λb hb=>absurd (show b∈([]:List Addr) from hb) (by simp),hok,.of_eq hg⟩;refine qq ((F _ IS (xj jc)).run callerA [] s₁ H ⟨[.ref a],[]⟩ [.ref a] [.ref a] _ _ hr e0 (Tz s₁ (.ref a)) (.cons rfl .nil) (eR H hO hS)) λr s' h=>?_
  cases r with
  |error e=>exact (Ba H e s' h).elim
  |ok fl =>
   cases fl with
   |next=>exact False.elim h
   |brk=>exact False.elim h
   |cont=>exact False.elim h
   |ret u =>
    obtain⟨v,H',os,bare,un,Q3,r',q⟩:=h;have q':v=.bl true:=q;subst q';obtain rfl:u=Value.bool true:=r';exists rfl,OldK.of_keep λb o e=>?_,os,bare;cases q:H b with
    |none=>exact un.keep b o e q (by intro z;exact absurd (show b∈([]:List Addr) from z) (by simp)) (by simp)
    |some u =>
     rcases hO b with z|⟨ob,xs,z⟩
     ·rw[q]at z;cases z
     ·have z2:=un.frzs b ob _ z;obtain⟨e1,_⟩:=hok b _ z;obtain⟨e2,_⟩:=Q3 b _ z2;rw[e]at e1;cases e1;exact e2
 cases hk:K.lookup a with
 |some o =>
  have e:=KX a o hk;rw[ha]at e;cases e;refine core (λ_=>none) (λ_=>.inl rfl) (.inr ⟨_,vs.toArray,_,hk,rfl,rfl,rfl,by rw[bJ,U7];exact hl,by simpa using rv⟩) (λb u z=>by have z':(none:Option HO)=some u:=z;cases z') (λb z=>absurd rfl z) λz=>absurd rfl z
 |none =>
  refine core (λb=>if b=a then some (.frz {cls:=.type "list",data:=.seq vs.toArray} (.lst (ns.map V.int)))else none) (λb=>?_) (.inl (.inr ⟨{cls:=.type "list",data:=.seq vs.toArray},ax rfl⟩)) (λb u z=>?_) (λb z=>?_) λ_=>hk
  ·by_cases hb:b=a
   ·exact .inr ⟨_,_,ax hb⟩
   ·exact .inl (aq hb)
  ·by_cases hb:b=a
   ·have z':=(ax hb).symm.trans z;cases z';subst hb;nomatch ha,by rw[ay];exact hl,vs,_,rv,ha
   ·have z':=(aq hb).symm.trans z;cases z'
  ·by_cases hb:b=a
   ·exact hb
   ·exact absurd (aq hb) z
abbrev pM:j0:=λ_ _ _ _ _ _=>False
abbrev E0:XK:=λ_ _ _=>False
def AU:oK pM X E0:=λ_ _ _ _ _ _ _ h=>h.elim
structure lI(K:Frag)(x qual:Str)(st:Stmt)(f:Addr)(fd:FuncData):Prop where
 ex:∃(oc:Value) (od:Option Addr) (kV doc pm:Value) (an:Option Addr) (bX ct:Value) (lV:Array (Option Value)),
  fd=PySem.W.fnOf x qual (uO st) (ni st) (cL st) .none kV doc pm an bX ct/\K.lookup f=some ⟨oc,od,.func fd,lV⟩/\PySem.W.codeIn K bX qual=true
 kp:PySem.W.keepIn K (.ref f)=true
section
variable{P:Program}{w:World}{K:Frag}{mg:Str->Option Value}{base:Heap}
def lI.ok{x qual:Str}{st:Stmt}{f:Addr}{fd:FuncData}{N ps:List Str}{k:Nat}{sp:Sp}(F:lI K x qual st f fd)(S:mR N ps (cL st))(len:∀vs H Q E,sp vs H Q E->vs.length=ps.length)
  (BV:∀ (bX:Value) (A:Around) (outer:List Env) (s:Shared) (H:Hp) (vs:List V) (Q:VK) (E:XK),cz k (A.deeper (envOfC qual (cL st) s.heap.objs.size f bX))->sp vs H Q E -> ∃t,eC (kM pM P w K mg base N qual (cL st) f bX A outer s H E).nox (ni st) t/\t {nx:=λ_ H'=>Q .non H',rt:=Q} (start N vs) H):gW P w K mg base pM (k+1) f fd ps sp:=by
 obtain⟨oc,od,kV,doc,pm,an,bX,ct,lV,rfl,lk,iN⟩:=F.ex;refine Nx lk iN S len λA outer s H vs Q E hr eR=>?_
 obtain⟨t,h,q⟩:=BV bX A outer s H vs Q E hr eR;nomatch t,h.nox,q
def WV{x qual:Str}{st:Stmt}{f:Addr}{oc:Value}{od an:Option Addr}{lV:Array (Option Value)}{kV doc pm bX ct:Value}(l:K.lookup f=some ⟨oc,od,.func (PySem.W.fnOf x qual (uO st) (ni st) (cL st) .none kV doc pm an bX ct),lV⟩)
  (c:PySem.W.codeIn K bX qual=true) (k:PySem.W.keepIn K (.ref f)=true):lI K x qual st f (PySem.W.fnOf x qual (uO st) (ni st) (cL st) .none kV doc pm an bX ct):=⟨⟨oc,od,kV,doc,pm,an,bX,ct,lV,rfl,l,c⟩,k⟩
end
def PM(hr:cz k A):A.units+1<cLine:=je (Cn (by decide:1<=64) _) hr.units
section
variable{X:Cx}
def pv(i:Nat)(hN:X.N[i]?=some x:=by rfl)(hv:vZ X.env.scope x:=by first|exact Or.inl rfl|exact Or.inr (Or.inl rfl)|exact Or.inr (Or.inr rfl))(hd:(x == ("__debug__" : Str))=false:=by decide)
  (iN:(x == ("__classdict__" : Str))=false:=by decide):PE X (.Name x pos) (jA i):=Qv hN hv hd iN
end
def bL{A B:Prop}(h:B):if false=true then A else B:=by
 rw[aq cQ];exact h
def bP{A B:Prop}(h:A):if true=true then A else B:=by
 rw[ax rfl];exact h
def kg{c A B:Prop}[Decidable c](h1:c->A)(h2:¬c->B):if c then A else B:=by
 by_cases h:c
 ·rw[ax h];exact h1 h
 ·rw[aq h];exact h2 h
def Sd{c A B:Prop}[Decidable c](hc:c)(h:B):if (!decide c)=true then A else B:=by
 rw[aC hc];exact bL h
def ag(H H':Hp):Prop:=∀b o,H b=some o->H' b=some o
def ag.refl(H:Hp):ag H H:=λ_ _ h=>h
def ag.trans(a:ag H H1)(b:ag H1 H2):ag H H2:=λc o h=>b c o (a c o h)
def ag.free(e:ag H H')(h:H' l=Option.none):H l=Option.none:=by
 cases q:H l with
 |none=>rfl
 |some o =>
  rw[e l o q]at h;cases h
def ag.seq{K:Frag}{H H':Hp}{a:Addr}{xs:List V}(e:ag H H')(h:ai K H a xs):ai K H' a xs:=by
 rcases h with (h|⟨o,h⟩)|h
 ·exact .inl (.inl (e _ _ h))
 ·exact .inl (.inr ⟨o,e _ _ h⟩)
 ·exact .inr h
section
variable{κ:Type}[DecidableEq κ]
theorem Gr:∀{l:List κ}{k:κ},l.Nodup->¬k∈l->(l++[k]).Nodup
 |[],k,_,_=>by simp
 |a::r,k,h,hk=>by
  obtain⟨h1,h2⟩:=jO.mp h;show (a::(r++[k])).Nodup;refine jO.mpr ⟨λm=>?_,Gr h2 λm=>hk (ba.mpr (Or.inr m))⟩;rcases bW.mp m with q|q
  ·exact h1 q
  ·exact hk (ba.mpr (Or.inl (bh.mp q).symm))
end
end L2
namespace OF
abbrev av:=List (Int×Int)
noncomputable def aK:av->Int->Int
 |[],_=>0
 |p::r,k=>(if p.1=k then p.2 else 0)+aK r k
structure IsForm(f:av):Prop where
 rise:f.Pairwise (λa b=>a.1<b.1)
 nz:∀p∈f,p.2≠0
theorem eE:∀(a b:av) (k:Int),aK (a++b) k=aK a k+aK b k
 |[],b,k=>by simp[aK]
 |p::r,b,k=>by
  have ih:=eE r b k;simp only[ug,aK,ih];lia
def zaZ(a:av)(p:Int×Int)(k:Int):aK (a++[p]) k=aK a k+(if p.1=k then p.2 else 0):=by
 rw[eE];simp[aK]
theorem oX:∀(a:av) (k:Int),aK (a.map λp=>(p.1,-p.2)) k = -aK a k
 |[],_=>rfl
 |p::r,k=>by
  simp only[bw,aK,oX r k];split<;>lia
theorem si:∀(a:av) (k:Int),(∀p∈a,p.1≠k)->aK a k=0
 |[],_,_=>rfl
 |p::r,k,h=>by
  have h1:¬p.1=k:=h p (by simp);simp only[aK,aq h1,si r k λq hq=>h q (by simp[hq])];rfl
def qt(h:∀q∈r,p.1<q.1):aK (p::r) p.1=p.2:=by
 simp only[aK,ax];rw[si r p.1 λq hq=>GD (h q hq)];lia
theorem GP:∀{f g:av},IsForm f->IsForm g->(∀k,aK f k=aK g k)->f=g
 |[],[],_,_,_=>rfl
 |[],q::s,_,hg,h=>by
  have h1:=qY.mp hg.rise;have h2:=h q.1;rw[qt h1.1]at h2;exact absurd h2.symm (hg.nz q (by simp))
 |p::r,[],hf,_,h=>by
  have h1:=qY.mp hf.rise;have h2:=h p.1;rw[qt h1.1]at h2;exact absurd h2 (hf.nz p (by simp))
 |p::r,q::s,hf,hg,h=>by
  have f1:=qY.mp hf.rise;have g1:=qY.mp hg.rise;have kD:p.1=q.1:=by
   rcases Int.lt_trichotomy p.1 q.1 with hl|he|hl
   ·have h2:=h p.1;rw[qt f1.1,si (q::s) p.1 (λz hz=>by
     rcases ba.mp hz with e|hz
     ·rw[e];lia
     ·have:=g1.1 z hz;lia)]at h2
    exact absurd h2 (hf.nz p (by simp))
   ·exact he
   ·have h2:=h q.1;rw[qt g1.1,si (p::r) q.1 (λz hz=>by
     rcases ba.mp hz with e|hz
     ·rw[e];lia
     ·have:=f1.1 z hz;lia)]at h2
    exact absurd h2.symm (hg.nz q (by simp))
  have hv:p.2=q.2:=by
   have h2:=h p.1;rw[qt f1.1,kD,qt g1.1]at h2;exact h2
  have e:p=q:=Cv kD hv;subst e;have ih:=GP (f:=r) (g:=s) ⟨f1.2,λz hz=>hf.nz z (by simp[hz])⟩ ⟨g1.2,λz hz=>hg.nz z (by simp[hz])⟩ λk=>by
   have h2:=h k;simp only[aK]at h2;lia
  rw[ih]
noncomputable def look:av->Int->Option Int
 |[],_=>none
 |p::r,k=>if p.1=k then some p.2 else look r k
def dh(d:av)(k:Int):Int:=(look d k).getD 0
noncomputable def fY(d:av)(k v:Int):av:=if (d.any λp=>decide (p.1=k))=true then d.map (λp=>if p.1=k then (p.1,v)else p)else d++[(k,v)]
theorem vH(k:Int):∀d:av,(d.any λp=>decide (p.1=k))=(look d k).isSome
 |[]=>rfl
 |p::r=>by
  rw[ju,look];by_cases e:p.1=k
  ·simp[e]
  ·simp[e,vH k r]
theorem Md(k j v:Int):∀d:av,look (d.map λp=>if p.1=k then (p.1,v)else p) j=(look d j).map λx=>if j=k then v else x
 |[]=>rfl
 |p::r=>by
  have ih:=Md k j v r;rw[bw];by_cases h:p.1=k
  ·rw[ax h];by_cases e:p.1=j
   ·simp[look,e,show j=k from e.symm.trans h]
   ·simp[look,e,ih]
  ·rw[aq h];by_cases e:p.1=j
   ·simp[look,e,show ¬j=k from λz=>h (e.trans z)]
   ·simp[look,e,ih]
theorem Jl(k j v:Int):∀d:av,look d k=none->look (d++[(k,v)]) j=if j=k then some v else look d j
 |[],_=>by
  by_cases e:k=j
  ·simp[look,e]
  ·simp[look,e,show ¬j=k from λz=>e z.symm]
 |p::r,hn=>by
  have hk:¬p.1=k:=λz=>by simp[look,z]at hn
  have og:look r k=none:=by simpa [look,hk] using hn
  have ih:=Jl k j v r og;rw[ug];by_cases e:p.1=j
  ·simp[look,e,show ¬j=k from λz=>hk (e.trans z)]
  ·simp[look,e,ih]
def Dv(d:av)(k j v:Int):look (fY d k v) j=if j=k then some v else look d j:=by
 unfold fY;by_cases a:(d.any λp=>decide (p.1=k))=true
 ·rw[ax a,Md];rw[vH]at a;by_cases e:j=k
  ·obtain⟨x,hx⟩:=PB.mp a;rw[e,hx];simp
  ·rw[aq e];cases look d j<;>simp[e]
 ·rw[aq a];refine Jl k j v d ?_;rw[vH]at a;cases q:look d k with
  |none=>rfl
  |some x=>rw[q]at a;exact (a rfl).elim
def LP(d:av)(k v:Int):(fY d k v).length<=d.length+1:=by
 unfold fY;split
 ·rw[ay];lia
 ·simp
def Aj:look d k≠none↔k∈d.map (·.1):=by
 induction d with
 |nil=>simp[look]
 |cons p r ih =>
  rw[bw,ba,look];by_cases e:p.1=k
  ·simp[e]
  ·have e':¬k=p.1:=λz=>e z.symm
   simp only[aq e];rw[ih];simp[e']
def ye(d:av)(k v:Int):(fY d k v).map (·.1)=if (look d k).isSome then d.map (·.1)else d.map (·.1)++[k]:=by
 unfold fY;rw[vH];by_cases a:(look d k).isSome=true
 ·rw[ax a,ax a,ft];congr 1
  funext p
  simp only[Function.comp];split<;>rfl
 ·rw[aq a,aq a,aQ];rfl
def QN(k v:Int)(h:(d.map (·.1)).Nodup):((fY d k v).map (·.1)).Nodup:=by
 rw[ye];by_cases a:(look d k).isSome=true
 ·rw[ax a];exact h
 ·rw[aq a];have hk:¬k∈d.map (·.1):=λm=>a (by
   have:=Aj.mpr m
   cases q:look d k with
   |none=>exact (this q).elim
   |some x=>rfl)
  exact List.nodup_append.mpr ⟨h,by simp,λa ha b hb=>by
   have:b=k:=by simpa using hb
   subst this;intro e;subst e;exact hk ha⟩
def Ra(d:av)(k j v:Int):dh (fY d k v) j=if j=k then v else dh d j:=by
 unfold dh;rw[Dv];split<;>rfl
structure DictOf(d l:av):Prop where
 nd:(d.map (·.1)).Nodup
 len:d.length<=l.length
 val:∀k,dh d k=aK l k
 src:∀k∈d.map (·.1),k∈l.map (·.1)
def DS:DictOf [] []:=⟨Ir,aJ _,λ_=>rfl,λ_ h=>h⟩
def DictOf.snoc(h:DictOf d l)(p:Int×Int):DictOf (fY d p.1 (dh d p.1+p.2)) (l++[p]):=by
 exists QN _ _ h.nd,?_,λk=>?_,λk hk=>?_
 ·have:=LP d p.1 (dh d p.1+p.2);have:=h.len;simp;lia
 ·rw[Ra,zaZ,<-h.val];by_cases e:k=p.1
  ·subst e;simp
  ·simp[e,show ¬p.1=k from λz=>e z.symm]
 ·rw[ye]at hk;rw[aQ,bW];split at hk
  ·exact .inl (h.src k hk)
  ·rcases bW.mp hk with hk|hk
   ·exact .inl (h.src k hk)
   ·exact .inr (by simpa using hk)
def dU(d:av)(ks:List Int):av:=(ks.filter λk=>decide (dh d k≠0)).map λk=>(k,dh d k)
theorem GX(d:av):∀(ks:List Int),ks.Nodup->∀k,aK (dU d ks) k=if k∈ks then dh d k else 0
 |[],_,k=>by simp[dU,aK]
 |a::r,hn,k=>by
  have h1:=jO.mp hn;have ih:=GX d r h1.2 k;have e0:dU d (a::r)=if dh d a≠0 then (a,dh d a)::dU d r else dU d r:=by
   unfold dU;rw[dZ];by_cases e:dh d a=0<;>simp[e]
  rw[e0];by_cases e:a=k
  ·subst e;have:¬a∈r:=h1.1;by_cases z:dh d a=0
   ·simp[z,ih,this]
   ·simp[z,aK,ih,this]
  ·have e':¬k=a:=λz=>e z.symm
   by_cases z:dh d a=0
   ·simp[z,ih,e']
   ·simp[z,aK,ih,e,e']
def W6(d:av)(h:ks.Pairwise (· < ·)):IsForm (dU d ks):=by
 exists ?_,λp hp=>?_
 ·unfold dU;rw[C8];exact (h.filter _)
 ·unfold dU at hp;obtain⟨k,hk,e⟩:=bV.mp hp;subst e;simpa using (iJ.mp hk).2
theorem Oa:∀{ks:List Int},ks.Pairwise (· <= ·)->ks.Nodup->ks.Pairwise (· < ·)
 |[],_,_=>.nil
 |a::r,h,n=>by
  have h1:=qY.mp h;have n1:=jO.mp n;refine .cons (λb hb=>?_) (Oa h1.2 n1.2)
  have:=h1.1 b hb
  have:a≠b:=λe=>n1.1 (e ▸ hb)
  lia
structure bx(f l:av):Prop extends IsForm f where
 val:∀k,aK f k=aK l k
 src:∀p∈f,p.1∈l.map (·.1)
set_option tactic.hygienic true in
def Dx(h:DictOf d l)(hp:ks.Perm (d.map (·.1)))(hs:ks.Pairwise (· <= ·)):bx (dU d ks) l:=by
 have nd:ks.Nodup:=hp.nodup_iff.mpr h.nd;exists W6 d (Oa hs nd),λk=>?_,λp hq=>?_
 ·rw[GX d ks nd,<-h.val];split
  ·rfl
  ·rename_i hk;unfold dh
   have:look d k=none:=by
    cases q:look d k with
    |none=>rfl
    |some x=>exact (hk (hp.mem_iff.mpr (Aj.mp (by rw[q];simp)))).elim
   rw[this];rfl
 ·unfold dU at hq;obtain⟨k,hk,e⟩:=bV.mp hq;subst e;exact h.src k (hp.mem_iff.mp (iJ.mp hk).1)
def bx.unique(a:bx f l)(b:bx g m)(h:∀k,aK l k=aK m k):f=g :=
 GP a.toIsForm b.toIsForm λk=>by rw[a.val,b.val,h]
def bx.self(h:IsForm f):bx f f:=⟨h,λ_=>rfl,λp hp=>bV.mpr ⟨p,hp,rfl⟩⟩
def Bb(d:av)(ks:List Int):(dU d ks).length<=ks.length:=by
 unfold dU;rw[ay];exact gI _ _
end OF
namespace L2
open PySem PySem.Spec PyProof.Rows
section
variable{X:Cx}
def SO(i j:Int):Prop:=0<j/\j.natAbs.log2<9000
def sF:bH X (binaryOp .FloorDiv) (rI SO λi j=>.int (i/j)):=tX λi j _ _ _ _ _ hc q=>by
 have h1:(0:Int)<j:=hc.1;have e:i.fdiv j=i/j:=Int.fdiv_eq_ediv_of_nonneg i (Int.le_of_lt h1);exact floordiv_int (GD h1) (by rw[e];exact q) (.inl (PyProof.noPylong_of_log2 hc.2))
def gC:bH X (binaryOp .Mult) (rI IntMulOk λi j=>.int (i*j)):=tX λ_ _ _ _ _ _ _ hc q=>mul_int q hc
def yc{j:Int}(h1:0<j)(h2:j<2^250):0<j/\j.natAbs.log2<9000:=by
 exists h1,?_;have h3:j.natAbs<2^250:=by
  have e:(j.natAbs:Int)=j:=by lia
  have:((j.natAbs:Nat):Int)<((2^250:Nat):Int):=by rw[e]; (have q:((2^250:Nat):Int)=(2:Int)^250:=by norm_cast);rw[q];exact h2
  exact Pd.mp this
 have h4:j.natAbs≠0:=by lia
 have:=(tW h4).mpr h3
 lia
def YC:gH X (.builtin "isinstance") (λxs H Q=>∃x n t b,xs=[x,V.ty n]/\iy X.K H x t/\kitOne X.K t (.type n)=some b/\Q (.bl b) H):=by
 intro aa s σ H xs us Q I r h;obtain⟨x,n,t,b,rfl,ty,e,q⟩:=h;obtain⟨u,w',rfl,ru,fw⟩:=qO r;cases (show w'=Value.type n from fw);exact Xv I ru ty e λtk=>⟨.bl b,H,I.tok _,rfl,q⟩
def Dc(hc:X.calm=true):gH X (.builtin "sum") (λxs H Q=>∃(a:Addr) (ns:List Int),xs=[.ref a]/\ai X.K H a (ns.map V.int)/\Q (.int ns.sum) H):=by
 intro aa s σ H xs us Q I r h;obtain⟨a,ns,rfl,hq,q⟩:=h;obtain⟨u,rfl,ru⟩:=ix r;cases (show u=Value.ref a from ru);obtain⟨af,rv,p,hz⟩:=I.list hq;have hi:=wy rv;obtain⟨zs,nr⟩:=hi.allInts.items;have hs:(PySem.numsOf af.toArray.toList).sum=ns.sum:=by rw[show af.toArray.toList=af from rfl,hi.numsOf]
 rw[nr,PySem.nums_intItems]at hs;refine sum_intListG (I.ok.hd hc) (nr ▸ p.isList) λh' tk t' hk=>?_
 exists .int ns.sum,H,I.kept (t':=tk) hk,⟨t',?_⟩,q;rw[preSum_eq,mG (by simp),hs]
def Ts:V->List V->Hp->VK->Prop:=λx vs H Q=>∃l xs k y,x=.ref l/\vs=[.int (k:Nat),y]/\H l=some (.lst xs)/\k<=xs.length/\xs.length<sizeLine/\Q .non (upd H l (.lst (xs.take k++y::xs.drop k)))
def Qf:fI X "list.insert" Ts:=by
 intro aa s σ H x vs v us Q I rx rv h;obtain⟨l,xs,k,y,rfl,rfl,hH,hk,hz,q⟩:=h;cases rx;obtain⟨u,w',rfl,ru,fw⟩:=rv.two;obtain⟨t,rfl⟩:=ru;obtain⟨z,af,n,r,hl,e⟩:=I.lstM hH;have aT:=r.length;have J2:¬(!Builtin.List.listFitsIndex (k:Int))=true:=by
  have h1:(k:Int)<2^63:=by
   have:=nH
   have:k<2^63:=by lia
   exact_mod_cast this
  have h0:(0:Int)<=(k:Int):=iW _;simp[Builtin.List.listFitsIndex];omega
 have hsz:af.toArray.size<=sizeLine:=by rw[bJ];lia
 obtain⟨x,hx⟩:∃x:Int,x=(k:Int):=⟨_,rfl⟩;rw[<-hx]at J2 ⊢;have M:=AutoSeq1.list_insert_list_int_val_1 l af.toArray n x t w' J2 hsz;refine ke F.slot_list_insert ⟨_,e,rfl⟩ F.entry_list_insert (F.args_list_insert_3 _ _ _) M ⟨e,?_⟩;exists .non,_,I.lset (its':=af.take k++w'::af.drop k) hH e ?_ (Vals.append (r.take k) (.cons fw (r.drop k))) ?_,rfl,q
 ·have h1:¬(x<0):=by lia
  have h2:min x.toNat af.toArray.size=k:=by rw[bJ];lia
  apply Array.ext';simp only[aq h1,h2];simp[List.extract_eq_take_drop];rw[mG (by rw[fL];exact aJ _)]
 ·rw[aS,aW,c7,fL];lia
end
def cn.there(x:cn P w H h a o):∃ob,h.get? a=some ob:=by
 cases o with
 |lst xs=>obtain⟨_,_,_,_,e⟩:=x;nomatch _,e
 |tup xs=>obtain⟨_,_,_,o,e,_⟩:=x;nomatch _,e
 |dK kvs=>obtain⟨_,_,_,_,o,_,_,e,_⟩:=x;nomatch _,e
 |dT kvs=>obtain⟨_,_,_,_,o,_,_,e,_⟩:=x;nomatch _,e
 |set S n=>obtain⟨o,_,_,_,e,_⟩:=x;nomatch _,e
 |ins C dx fs=>obtain⟨_,_,_,e,_⟩:=x;nomatch _,e
 |own y=>exact x
 |xd fs=>obtain⟨_,⟨_,_,_,e,_⟩,_⟩:=x;nomatch _,e
 |rng lo hi=>obtain⟨_,_,_,e⟩:=x;nomatch _,e
 |frz ob u=>obtain⟨e,_⟩:=x;nomatch _,e
 |tbl ps=>nomatch _,x
 |met f y=>nomatch _,x
 |ext φ=>obtain⟨_,e,_⟩:=x;exact e
def Inv.laidN(I:Inv X aa σ H s)(k:∀b u,s.heap.get? b=some u->h'.get? b=some u)(hn:s.heap.get? a=none)
  (new:cn X.prog X.w (upd H a o) h' a o):Inv X aa σ (upd H a o) {s with heap:=h',toks:=t'}:=by
 have hH:H a=none:=by
  cases q:H a with
  |none=>rfl
  |some u =>
   obtain⟨ob,e⟩:=(I.hok a u q).there;rw[hn]at e;cases e
 refine I.un ⟨λb u q _ _ _=>k b u q,λb u q _ _ _=>⟨u.slots,k b u q⟩,λb u q n _=>?_,λb u q _=>⟨u,k b u q⟩,λb xs q=>?_,λb u xs q=>?_,λb ps q=>⟨#[],?_⟩⟩ λb u e=>?_
 ·rw[aO (by intro z;rw[z,hn]at q;cases q)];exact n
 ·rw[aO (cE q hH)];exact q
 ·rw[aO (cE q hH)];exact q
 ·rw[aO (cE q hH),q];simp
 ·by_cases hb:b=a
  ·subst hb;rw[au]at e;cases e;exact new
  ·rw[aO hb]at e;exact (I.hok b u e).stay (λc v _ q=>k c v q) (λc q=>by rw[aO (cE q hH)];exact q) λc xs q=>by rw[aO (cE q hH)];exact q
theorem Aa:∀(names:List (Str×NameKind)) (acc:List (Str×Addr)),(∀x,(x,NameKind.free)∈names->∃c,env.cells.lookup x=some c) ->
  ∃cl,(forIn names acc λ(x:Str×NameKind) (cs:List (Str×Addr))=>(if (x.2 == NameKind.free)=true then (do let a <-cellOf env x.1;pure (ForInStep.yield ((x.1,a)::cs)))else pure (ForInStep.yield cs):Sem (ForInStep (List (Str×Addr)))))=pure cl /\
   ∀x,cl.lookup x=(if (x,NameKind.free)∈names then env.cells.lookup x else acc.lookup x)
 |[],acc,_=>⟨acc,rfl,λx=>by simp⟩
 |(n,k)::r,acc,h=>by
  by_cases hk:k=NameKind.free
  ·subst hk;obtain⟨c,hc⟩:=h n (by simp);obtain⟨cl,e,l⟩:=Aa (env:=env) r ((n,c)::acc) λx hx=>h x (by simp[hx])
   exists cl,?_,λx=>?_
   ·rw[xm];have gw:cellOf env n=pure c:=by unfold cellOf;rw[hc]
    simp only[beq_self_eq_true,gM,gw,pure_bind];exact e
   ·rw[l x];by_cases hx:(x,NameKind.free)∈r
    ·simp[hx]
    ·by_cases hn:x=n
     ·subst hn;simp[hx,hc]
     ·have hb:(x == n)=false:=by simpa using hn
      simp[hx,hn,rW,hb]
  ·have hb:(k == NameKind.free)=false:=by simpa using hk
   obtain⟨cl,e,l⟩:=Aa (env:=env) r acc λx hx=>h x (by simp[hx])
   exists cl,?_,λx=>?_
   ·rw[xm];simp only[hb,tK,l7,pure_bind];exact e
   ·rw[l x];have:¬((x,NameKind.free)=(n,k)):=λz=>hk (by injection z with _ z2;exact z2.symm)
    simp[ba,this]
theorem uV(env:Env)(x:Str):∀(names:List (Str×NameKind)),(names.map λ(n,k)=>if (k == NameKind.free&&env.scope.kind == .function&&env.kindOf n == some .cell)then (n,NameKind.cell)else (n,k)).lookup x =
  (names.lookup x).map λk=>if (k == NameKind.free&&env.scope.kind == .function&&env.kindOf x == some .cell)then NameKind.cell else k
 |[]=>rfl
 |(n,k)::r=>by
  have ih:=uV env x r;show List.lookup x ((if (k == NameKind.free&&env.scope.kind == .function&&env.kindOf n == some .cell)=true then (n,NameKind.cell)else (n,k))::_)=_;by_cases hx:x=n
  ·subst hx;split<;>simp_all [rW]
  ·have hb:(x == n)=false:=by simpa using hx
   split
   ·simp only[rW,hb];exact ih
   ·simp only[rW,hb];exact ih
noncomputable abbrev cg(X:Cx)(N':List Str)(scope:Scope)(cl:List (Str×Addr))(C:Addr)(s₀:Shared)(H₀:Hp)(fp:List Addr):Cx :=
 {X with N:=N',s₀:=s₀,H₀:=H₀,env:=compEnvC scope cl C X.env,outer:=X.stack,ex:=fp,fn:=λ_=>false,pn:=[],xe:=λ_ _=>False}
structure lJ(X:Cx)(scope:Scope)(N':List Str)(nT:Nat)(js:List Nat):Prop where
 kind:scope.kind=.function
 nocell:∀y∈scope.names,y.2≠.cell
 names:∀y∈scope.names,y.2=.local->scope.names.lookup y.1=some .local
 len:N'.length=nT+js.length
 frees:∀(k j:Nat) (x:Str),js[k]?=some j->N'[nT+k]?=some x->X.N[j]?=some x
 kinds:∀y∈scope.names,y.2=.free->X.env.scope.names.lookup y.1=some .cell
 vis:∀x∈N'.drop nT,scope.names.lookup x=some .free
noncomputable def kB(nT:Nat)(js:List Nat)(σ:St):St:=List.replicate nT none++js.map λj=>(σ[j]?).join
def wL(wi:TI)(nT:Nat)(js:List Nat)(g:TG)(tc:TT)(te:TE):TE:=λσ H Q=>wi σ H λJ H1=>∃W:Nat->Nat->List V->St->Hp->Prop,(∃m,W 0 m [] (kB nT js σ) H1)/\∀i m ys σ H,W i m ys σ H ->
 (J.stop i H/\∀D,H D=none->Q (.ref D) (upd H D (.lst ys))) \/
 (J.go i H/\ys.length<sizeLine/\∃ N:List V->St->Hp->Prop,(∀ cH σ' H',N cH σ' H'->∃ m',m'<m/\W (i+1) m' cH σ' H') /\ ∀x H',J.yld i H x H'->g x σ H' λσ2 H2=>tc σ2 H2 λb H3=>if b=true then te σ2 H3 λy H4=>N (ys++[y]) σ2 H4 else N ys σ2 H3)
def lb(X:Cx)(ifs:List Expr)(t:TT):Prop :=
 ∀(aa:List (Addr×Obj)) (s:Shared) (σ:St) (H:Hp) (Q:Bool->Hp->Prop),Inv X aa σ H s->t σ H Q ->
  wpAny (model X.prog X.w) X.A (forIn ifs true λc r=>if r=true then do let ok <-isTrue c X.env (eval c X.env);pure (ForInStep.yield ok)else pure (ForInStep.yield r)) (TP X aa σ Q) X.xe s
def AV:TT:=λ_ H Q=>Q true H
def lL:lb X [] AV:=λ_ _ _ H _ I h=>wpAny_tests_nil ⟨H,I,h⟩
def jM(h:PT X c t):lb X [c] t:=λaa s σ H Q I q=>wpAny_tests_one (h aa s σ H Q I q)
section
variable{prog:Program}{w:World}{A:Around}{R:Result->Shared->Prop}{s:Shared}
theorem zac(I:Nat->Shared->Prop)
  (turn:∀ n s,I n s->wpAny (model prog w) A (pyNext it) (fun r s₁=>match r with
   |none=>R (.ok .next) s₁
   |some v=>wpAny (model prog w) A (letOwnedTupleGo target it v) (λ_ s₁'=>wpAny (model prog w) A (assign target env v) (λ_ s₂ =>
     wpAny (model prog w) A (forIn ifs true λc r=>if r=true then do let ok <-isTrue c env (eval c env);pure (ForInStep.yield ok)else pure (ForInStep.yield r)) (λok s₃ =>
      if ok=true then wpAny (model prog w) A (eval elt env) (λx s₄ =>
       wpAny (model prog w) A (call (.builtin "list.append") [acc,x]) (λ_ s₅=>∃m,m<n/\I m s₅) (λ_ _=>False) s₄) (λ_ _=>False) s₃
      else ∃m,m<n/\I m s₃) (λ_ _=>False) s₂) (λ_ _=>False) s₁') (λ_ _=>False) s₁) (λ_ _=>False) s)
  (n:Nat) (h:I n s) :
  codeAny (model prog w) A (.compLoop (.ListComp elt [⟨target,iter,ifs,0⟩] scope pos) 0 it acc env) R s:=by
 refine codeAny_loop rfl I (λn s hI=>?_) n h;show wpAny _ A ((compTurn (.ListComp elt [⟨target,iter,ifs,0⟩] scope pos) 0 it acc env).onRaise (λx=>do noteFrame x env;theTreesLotGoes x)) _ _ s;refine wpAny_noted ?_;rw[compTurn_list];refine aA (vh (aA (bA (turn n s hI) (λr s₁ h₁=>?_) λ_ _ h'=>h'.elim)));cases r with
 |none=>exact bg h₁
 |some v =>
  refine aA (bA h₁ (λ_ s₁' h₁'=>?_) λ_ _ h'=>h'.elim);refine aA (bA h₁' (λ_ s₂ h₂=>aA (bA h₂ (λok s₃ h₃=>?_) λ_ _ h'=>h'.elim)) λ_ _ h'=>h'.elim);cases ok with
  |false=>exact bg ⟨rfl,h₃⟩
  |true =>
   exact aA (aA (bA h₃ (λx s₄ h₄=>aA (bA h₄ (λ_ s₅ h₅=>bg (bg ⟨rfl,h₅⟩)) λ_ _ h'=>h'.elim)) λ_ _ h'=>h'.elim))
end
set_option maxHeartbeats 4000000 in
set_option tactic.hygienic true in
def O5{X:Cx}{tg iter elt:Expr}{ifs:List Expr}{scope:Scope}{pos:Pos}{N':List Str}{nT:Nat}{js:List Nat}{g:TG}{tc:TT}{te:TE}{RR:Value->Addr->Result->Shared->Prop}
  (hc:X.calm=true) (S:lJ X scope N' nT js) {aa:List (Addr×Obj)}{σ:St}{H2:Hp}{s2:Shared}{cl:List (Str×Addr)}{it:Addr}{fp:List Addr}{tn:Nat->Heap->Prop}{J:It}
  (gE:∀x,cl.lookup x=(if (x,NameKind.free)∈scope.names then X.env.cells.lookup x else none))
  (hg:∀C s₀ H₀ fp,PG (cg X N' scope cl C s₀ H₀ fp) tg g) (ht:∀C s₀ H₀ fp,lb (cg X N' scope cl C s₀ H₀ fp) ifs tc) (he:∀C s₀ H₀ fp,PE (cg X N' scope cl C s₀ H₀ fp) elt te)
  (I2:Inv X aa σ H2 s2) (T:kA X.prog X.w X.K tg J fp it tn) (cU:tn 0 s2.heap) (f2:∀b∈fp,eo X aa H2 b) {QQ:Addr->List V->Hp->Prop}
  (W:Nat->Nat->List V->St->Hp->Prop) (w0:∃m,W 0 m [] (kB nT js σ) H2)
  (turn:∀ i m ys σ H,W i m ys σ H->(J.stop i H/\∀ D,H D=none->QQ D ys H) \/ (J.go i H/\ys.length<sizeLine/\∃ N:List V->St->Hp->Prop,(∀ cH σ' H',N cH σ' H'->∃ m',m'<m/\W (i+1) m' cH σ' H') /\ ∀x H',J.yld i H x H'->g x σ H' λσ2 H2=>tc σ2 H2 λb H3=>if b=true then te σ2 H3 λy H4=>N (ys++[y]) σ2 H4 else N ys σ2 H3))
  (DA:∀(D C:Addr) (s':Shared) (ys:List V) (H':Hp) (m:Str->Option Value),QQ D ys H'->s'.heap.Ns C m->s2.heap.get? C=none->s2.heap.objs.size<=C->D≠C->H' C=none->(∀h',Heap.SameBut C s'.heap h'->Inv X aa σ (upd H' D (.lst ys)) {s' with heap:=h'})->RR (.ref D) C (.ok .next) s') :
  wpAny (model X.prog X.w) X.A (newList []) (λacc s₃=>wpAny (model X.prog X.w) X.A (newFunctionEnv scope X.env.globals cl [] X.env.qual none .none (some X.env)) (λgu s₄ =>
   codeAny (model X.prog X.w) X.A (.compStart (.ListComp elt [⟨tg,iter,ifs,0⟩] scope pos) 0 (.ref it) acc {gu with scope:=relabel scope X.env}) (RR acc gu.locals) s₄) (λ_ _=>False) s₃) (λ_ _=>False) s2:=by
 refine nP (wpAny_newFunctionEnv S.nocell (by intro y hy;simp at hy) (λh₁ hns₁ hsb₁=>?_) S.kind);dsimp only at hns₁ hsb₁ ⊢;generalize hH2:s2.heap.push {cls:=.type "list",dict:=none,data:=.seq ([]:List Value).toArray}=G2 at hns₁ hsb₁ ⊢;have hC:G2.objs.size=s2.heap.objs.size+1:=by rw[<-hH2,nM]
 generalize hCC:G2.objs.size=C at hns₁ hsb₁ hC ⊢;generalize hDD:s2.heap.objs.size=D at hC ⊢;have fE:D≠C:=by lia
 have below:∀b o,s2.heap.get? b=some o->b≠C/\b≠D:=λb o e=>by
  have h:@LT.lt Nat _ b s2.heap.objs.size:=bo e;exact⟨λz=>by have z':@Eq Nat b C:=z;lia,λz=>by have z':@Eq Nat b D:=z;lia⟩
 have old:∀b o,s2.heap.get? b=some o->h₁.get? b=some o:=λb o e=>hsb₁.extBut b o (below b o e).1 (cv _ (hH2 ▸ cv _ e))
 have sL:h₁.get? D=some {cls:=.type "list",data:=.seq ([]:List Value).toArray}:=hsb₁.extBut _ _ fE (cv _ (by rw[<-hH2,<-hDD];exact c8 _ rfl));have nC:s2.heap.get? C=none:=tH (by lia);have nD:s2.heap.get? D=none:=tH (by lia);have fC:H2 C=none:=I2.hok.fresh (by omega);have fD:H2 D=none:=I2.hok.fresh (by omega);have lY:∀b∈fp,b≠C/\b≠D:=λb hb=>by obtain⟨o,e,_⟩:=T.obj _ _ cU b hb;exact below b o e
 have uz:∀b∈fp,b∉bq X.stack:=λb hb z=>by
  obtain⟨_,f1,f3,_⟩:=f2 b hb;rcases ba.mp (I2.stkSub b z)with e|e
  ·exact f1 e
  ·exact f3 e
 have jb:∀x c,cl.lookup x=some c->X.env.cells.lookup x=some c/\(x,NameKind.free)∈scope.names:=λx c e=>by
  rw[gE]at e;split at e
  ·rename_i hm;nomatch e,hm
  ·cases e
 have BU:∀b∈bq X.stack,b≠D/\b≠C:=λb hb=>by
  have h:=I2.stkSub b hb;rcases ba.mp h with e|e
  ·have h1:@LT.lt Nat _ X.env.locals s2.heap.objs.size:=I2.lt;have h2:@Eq Nat b X.env.locals:=e;exact⟨λz=>by have z':@Eq Nat b D:=z;lia,λz=>by have z':@Eq Nat b C:=z;lia⟩
  ·obtain⟨_,o,ho,_⟩:=I2.ok.funs.mem e;have h1:@LT.lt Nat _ b X.s₀.heap.objs.size:=bo ho;have h2:=I2.sz;exact⟨λz=>by have z':@Eq Nat b D:=z;lia,λz=>by have z':@Eq Nat b C:=z;lia⟩
 have AA:(cg X N' scope cl C s2 H2 fp).Ok:=by
  refine⟨I2.ok.mod,S.kind,I2.ok.glob,I2.ok.blt,(by show s2.heap.objs.size<=C;omega),λx y c h1 h2=>I2.ok.inj x y c (jb x c h1).1 (jb y c h2).1,λx hx=>?_,λx c hx _=>(cQ hx).elim,λ_=>I2.ok.hd hc,I2.ok.frames,.inl rfl,
   λb hb=>⟨(lY b hb).1,λx c e=>(f2 b hb).2.2.2.2.1 x c (jb x c e).1⟩,I2.bs,bp I2.ok.bsz I2.sz,λb o e hb=>?_,uz,I2.stack,I2.stkFree⟩
  ·have cw:(relabel scope X.env).names.lookup x=some .cell\/(relabel scope X.env).names.lookup x=some .free:=hx;have hk:(relabel scope X.env).names.lookup x=_:=uV X.env x scope.names;rw[hk]at cw;have hf:(x,NameKind.free)∈scope.names:=by
    cases q:scope.names.lookup x with
    |none=>rw[q]at cw;rcases cw with z|z<;>cases z
    |some k =>
     have hm:=ng q;cases k with
     |free=>exact hm
     |cell=>exact absurd rfl (S.nocell _ hm)
     |_=>rw[q]at cw;rcases cw with z|z<;>simp at z
   obtain⟨c,e⟩:=I2.ok.has x (.inl (S.kinds _ hf rfl));exact⟨c,by show cl.lookup x=some c;rw[gE,ax hf];exact e⟩
  ·rcases (f2 b hb).2.2.2.1 with z|z
   ·exact I2.ok.noex b o e z
   ·have h1:@LT.lt Nat _ b X.s₀.heap.objs.size:=bo (I2.ok.bs b o e).1;have h2:@LE.le Nat _ X.s₀.heap.objs.size b:=z;lia
 have I0:Inv (cg X N' scope cl C s2 H2 fp) [] (kB nT js σ) H2 {s2 with heap:=h₁,toks:=s2.toks+([]:List (Str×Value)).length}:=by
  exists AA,rfl,I2.bare,Un.kept old,⟨_,hns₁,λi x v e1 e2 e3=>?_⟩,λx c e=>?_,fC,λx c e=>I2.freeC x c (jb x c e).1,λp hp=>absurd (show p∈([]:List (Addr×Obj)) from hp) (by simp),I2.hok.kept old,?_
  ·unfold kB at e2;by_cases hi:i<nT
   ·rw[yF (by simpa using hi),Bt,ax hi]at e2;cases e2
   ·rw[xO (by simpa using hi),rY,bY]at e2;obtain⟨k,hk⟩:∃k,i=nT+k:=⟨i-nT,by lia⟩;subst hk;rw[A1]at e2;cases q:js[k]? with
    |none=>rw[q]at e2;cases e2
    |some j =>
     rw[q]at e2;have ma:(σ[j]?).join=some v:=cD e2;have BK:σ[j]?=some (some v):=by
      cases z:σ[j]? with
      |none=>rw[z]at ma;cases ma
      |some a=>rw[z]at ma;exact congrArg some ma
     have Fp:=S.frees k j x q e1;have uW:scope.names.lookup x=some .free:=S.vis x (by
      rw[KD];exact⟨k,by rw[BF];exact e1⟩)
     have kU:(x,NameKind.free)∈scope.names:=ng uW;have gw:=S.kinds _ kU rfl;obtain⟨m,hn,hl⟩:=I2.loc;obtain⟨u,r,l⟩:=hl j x v Fp BK (.inr (.inl gw));exists u,r,?_;rcases l with ⟨l,_⟩|⟨_,c,ec,ic⟩
     ·have l':X.env.scope.names.lookup x=some .local:=l;rw[gw]at l';cases l'
     ·refine .inr ⟨?_,c,?_,?_⟩
      ·left;show (relabel scope X.env).names.lookup x=some .cell;have hk:(relabel scope X.env).names.lookup x=_:=uV X.env x scope.names;have uH:X.env.scope.kind=.function:=I2.ok.kind;have B7:X.env.kindOf x=some .cell:=gw;rw[hk,uW,Ha,uH,B7];rfl
      ·show cl.lookup x=some c;rw[gE,ax kU];exact ec
      ·exact ic.keeps old
  ·obtain⟨v,q⟩:=I2.cell x c (jb x c e).1;nomatch v,q.keeps old
  ·unfold kB;rw[aS,rY,ay];exact S.len.symm
 have lp:∀s₃:Shared,s₃={s2 with heap:=h₁,toks:=s2.toks+([]:List (Str×Value)).length} ->
   codeAny (model X.prog X.w) X.A (.compLoop (.ListComp elt [⟨tg,iter,ifs,0⟩] scope pos) 0 (.ref it) (.ref D) (compEnvC scope cl C X.env)) (RR (.ref D) C) s₃:=by
  rintro s₃ rfl;obtain⟨m0,w0⟩:=w0;refine zac (λn s'=>∃(i:Nat) (ys:List V) (af:List Value) (no:Nat) (σ':St) (H':Hp),Inv (cg X N' scope cl C s2 H2 fp) [(D,{cls:=.type "list",data:=.seq af.toArray no})] σ' H' s'/\Vals ys af/\tn i s'.heap/\(∀b∈fp,H' b=none)/\ys.length<=sizeLine/\W i n ys σ' H') ?_ m0
   ⟨0,[],[],0,kB nT js σ,H2,I0.pins_of λp hp=>?_,.nil,T.keep _ _ _ cU λb _ o e=>old b o e,λb hb=>(f2 b hb).1,cb _,w0⟩
  ·rintro n s3 ⟨i,ys,af,no,σ3,H3,I3,rv,oo,nG,hz,w3⟩;have qw:∀{H':Hp},(∀b∈fp,H' b=none)->∀b∈fp,eo (cg X N' scope cl C s2 H2 fp) [(D,{cls:=.type "list",data:=.seq af.toArray no})] H' b:=λhn b hb =>
    ⟨hn b hb,(lY b hb).1,uz b hb,.inl hb,λx c e=>(f2 b hb).2.2.2.2.1 x c (jb x c e).1,λp hp=>by
     have e:p=(D,{cls:=.type "list",data:=.seq af.toArray no}):=by simpa using hp
     rw[e];exact Ne.symm (lY b hb).2⟩
   rcases turn i n ys σ3 H3 w3 with ⟨stop,q⟩|⟨go,bE,N,hN,step⟩
   ·refine bA (T.done (cg X N' scope cl C s2 H2 fp) rfl rfl rfl hc i _ s3 σ3 H3 (λ_ _=>False) I3 (qw nG) oo stop) (λr s4 ⟨hr,I4⟩=>?_) λ_ _ h=>h
    subst hr;obtain⟨CJ,uq,Ug,TJ,_⟩:=I4.pin (D,{cls:=.type "list",data:=.seq af.toArray no}) (by simp);obtain⟨m,hn,_⟩:=I4.loc;have pH:H3 C=none:=I4.free;refine DA D C s4 ys H3 m (q D uq) hn nC (by lia) fE pH λh' sb=>?_
    have k4:∀b o,b≠C->s4.heap.get? b=some o->h'.get? b=some o:=λb o hb e=>sb.extBut b o hb e
    have ky:∀b u,H3 b=some u->b≠D:=λb u e=>cE e uq
    refine I2.call' (s':={s4 with heap:=h'}) (ch:=fp) I4.os ⟨λb o e n hb hx=>k4 b o (below b o e).1 (I4.base.keep b o e n hb hx),λb o e n hb hx=>?_,λb o e n hx=>?_,λb o e hx=>?_,λb xs e=>?_,λb o u e=>?_,λb ps e=>?_⟩ (λb u e=>?_) I4.bare λb hb=>?_
    ·obtain⟨sl,e'⟩:=I4.base.slot b o e n hb hx;nomatch sl,k4 b _ (below b o e).1 e'
    ·rw[aO (below b o e).2];exact I4.base.free b o e n hx
    ·obtain⟨o',e'⟩:=I4.base.there b o e hx;nomatch o',k4 b o' (below b o e).1 e'
    ·have e':=I4.base.tups b xs e;rw[aO (ky b _ e')];exact e'
    ·have e':=I4.base.frzs b o u e;rw[aO (ky b _ e')];exact e'
    ·obtain⟨more,e'⟩:=I4.base.tbls b ps e;exact⟨more,by rw[aO (ky b _ e')];exact e'⟩
    ·by_cases hb:b=D
     ·subst hb;rw[au]at e;cases e;nomatch hz,af,no,rv,k4 b _ fE CJ
     ·rw[aO hb]at e;refine (I4.hok b u e).stay (λc v iR z=>k4 c v ?_ z) (λc z=>by rw[aO (ky c _ z)];exact z) λc xs z=>by rw[aO (ky c _ z)];exact z
      rcases iR with rfl|iR
      ·exact cE e pH
      ·exact cE iR pH
    ·obtain⟨_,g1,_,g3,g4,g5⟩:=f2 b hb;nomatch g3,g1,g4,g5
   ·refine bA (T.item (cg X N' scope cl C s2 H2 fp) rfl rfl rfl hc i _ s3 σ3 H3 (λ_ _=>False) I3 (qw nG) oo go) (λr s4 ⟨u,hr,h4⟩=>?_) λ_ _ h=>h
    subst hr;refine bA h4 (λ_ s5 ⟨x,H5,I5,r5,y5,kh,tw⟩=>?_) λ_ _ h=>h
    have vQ:=I5.pinned (qw tw) (T.obj _ _ kh);refine bA (hg C s2 H2 fp _ s5 σ3 H5 x u _ vQ r5 (step x H5 y5)) (λ_ s6 ⟨σ6,H6,I6,q6⟩=>?_) λ_ _ h=>h
    refine bA (ht C s2 H2 fp _ s6 σ6 H6 _ I6 q6) (λok s7 ⟨H7,I7,q7⟩=>?_) λ_ _ h=>h
    have back:∀{pp:List (Addr×Obj)}{s':Shared}{σ':St}{H':Hp},(∀b∈fp,∀o,s5.heap.get? b=some o->(b,o)∈pp)->Inv (cg X N' scope cl C s2 H2 fp) pp σ' H' s'->tn (i+1) s'.heap/\∀b∈fp,H' b=none:=fun {pp s' σ' H'} lD I'=>by
     exists T.keep _ _ _ kh λb hb o e=>(I'.pin (b,o) (cx _ (lD b hb o e))).1,λb hb=>?_;obtain⟨o,e,d⟩:=T.obj _ _ kh b hb;exact (I'.pin (b,o) (cx _ (lD b hb o e))).2.1
    have DO:∀b∈fp,∀o,s5.heap.get? b=some o->(b,o)∈[(D,({cls:=.type "list",data:=.seq af.toArray no}:Obj))]++kY fp s5.heap:=λb hb o e=>cx _ (nO hb e)
    cases ok with
    |false =>
     rw[aq cQ];rw[aq cQ]at q7;obtain⟨m',hm,w7⟩:=hN _ _ _ q7;obtain⟨b1,b2⟩:=back DO I7;nomatch m',hm,i+1,ys,af,no,σ6,H7,I7.unpinned,rv,b1,b2,hz,w7
    |true =>
     rw[ax rfl];rw[ax rfl]at q7;refine bA (he C s2 H2 fp _ s7 σ6 H7 _ I7 q7) (λv8 s8 ⟨y,H8,I8,r8,q8⟩=>?_) λ_ _ h=>h
     obtain⟨eD,tO,oa,nf,_⟩:=I8.pin (D,{cls:=.type "list",data:=.seq af.toArray no}) (cx _ (i8 _ (by simp)));have aT:=rv.length;refine ke En ⟨_,eD,rfl⟩ Dz (ER _ _) (C1 D af.toArray no v8 (by rw[bJ];lia)) ⟨eD,?_⟩;obtain⟨m',hm,w8⟩:=hN _ _ _ q8;have I9:Inv (cg X N' scope cl C s2 H2 fp) (kY fp s5.heap) σ6 H8 s8:=I8.pins_of λp hp=>I8.pin p (cx _ (cx _ hp))
     have B8:=get?_update_seq eD (λa=>a.push v8);have ud:=I9.turned (h':=s8.heap.update D (Obj.mapSeq λa=>a.push v8)) (t':=s8.toks) (it:=D) (λb o hb e=>(A8 _ _ _ _ hb).trans e) tO oa (.inr (by show s2.heap.objs.size<=D;lia))
      (λx c e z=>by
       obtain⟨v,oc,ow,uX⟩:=I8.cell x c e;rw[z,eD]at ow;cases ow;cases uX) (λp hp z=>by
        have gU:p∈kY fp s5.heap:=by simpa using hp
        exact (lY p.1 (EM gU).1).2 z)
     obtain⟨b1,b2⟩:=back (λb hb o e=>nO hb e) ud;exists m',hm,i+1,ys++[y],af++[v8],(if ((af.toArray.push v8).size == af.toArray.size)=true then no else no+1),σ6,H8,ud.pins_of λp hp=>?_,rv.append (.cons r8 .nil),b1,b2,(by rw[aS];simp;assumption),w8;obtain rfl:=bh.mp hp;refine⟨?_,tO,oa,nf,λv z=>by cases z⟩;refine B8.trans ?_;rw[Lp]
  ·have e:p=(D,{cls:=.type "list",data:=.seq ([]:List Value).toArray}):=by simpa using hp
   subst e;exact⟨sL,fD,fE,λz=>(BU D z).1 rfl,λv z=>by cases z⟩
 exact codeAny_compStart_list (lp _ rfl) (T.self _ 0 _ _ _ (T.keep _ _ _ cU λb _ o e=>old b o e) (lp _ rfl))
def gn{X:Cx}{tg iter elt:Expr}{ifs:List Expr}{scope:Scope}{pos:Pos}(N':List Str)(nT:Nat)(js:List Nat){wi:TI}{g:TG}{tc:TT}{te:TE}
  (hc:X.calm=true) (S:lJ X.nox scope N' nT js) (hi:PI X.nox tg iter wi)
  (hg:∀cl C s₀ H₀ fp,PG (cg X.nox N' scope cl C s₀ H₀ fp) tg g) (ht:∀cl C s₀ H₀ fp,lb (cg X.nox N' scope cl C s₀ H₀ fp) ifs tc) (he:∀cl C s₀ H₀ fp,PE (cg X.nox N' scope cl C s₀ H₀ fp) elt te)
  (hs:∀x,foldedSetIterable iter X.env x=pure x:=by intro _;rfl) :
  PE X.nox (.ListComp elt [⟨tg,iter,ifs,0⟩] scope pos) (wL wi nT js g tc te):=by
 intro aa s σ H Q I h;rw[eval_ListComp];obtain⟨cl,e,l⟩:=Aa (env:=X.env) scope.names [] λx hx=>I.ok.has x (.inl (S.kinds _ hx rfl))
 have AQ:closureFor scope X.env=pure cl:=by
  unfold closureFor;show (forIn scope.names [] λ(x:Str×NameKind) (cs:List (Str×Addr))=>(if (x.2 == NameKind.free)=true then (do let a <-cellOf X.env x.1;pure (ForInStep.yield ((x.1,a)::cs)))else pure (ForInStep.yield cs):Sem (ForInStep (List (Str×Addr))))) >>= (λs=>pure s)=pure cl;rw[e,pure_bind]
 refine Pb (cl:=cl) (use:=none) rfl hs AQ S.kind S.names ?_;refine aI (hi aa s σ H _ I h) λv s1 h1=>aI h1 λsE s2 h2=>?_
 obtain⟨it,fp,tn,J,H2,rfl,I2,T,cU,f2,W,w0,turn⟩:=h2;refine O5 (X:=X.nox) (QQ:=λD ys H'=>Q (.ref D) (upd H' D (.lst ys))) (RR:=λacc C=>compPost (model X.prog X.w) X.A (λ_ _=>False) none (EP X.nox aa σ Q) acc C) hc S (λx=>by rw[l x];rfl) (hg cl) (ht cl) (he cl) I2 T cU f2 W w0 turn λD C s' ys H' m q hn nC _ _ _ fin=>?_
 nomatch m,hn,λh' sb=>⟨.ref D,_,fin h' sb,rfl,q⟩
set_option tactic.hygienic true in
def EZ{X:Cx}{tg iter elt:Expr}{ifs:List Expr}{scope:Scope}{bN pos pos':Pos}{x:Str}{i:Nat}(N':List Str)(nT:Nat)(js:List Nat){wi:TI}{g:TG}{tc:TT}{te:TE}
    (hN:X.nox.N.Nodup) (CD:X.nox.N[i]?=some x) (hx:oR X.nox.env.scope x)
    (hc:X.calm=true) (S:lJ X.nox scope N' nT js) (hi:PI X.nox tg iter wi)
    (hg:∀cl C s₀ H₀ fp,PG (cg X.nox N' scope cl C s₀ H₀ fp) tg g) (ht:∀cl C s₀ H₀ fp,lb (cg X.nox N' scope cl C s₀ H₀ fp) ifs tc) (he:∀cl C s₀ H₀ fp,PE (cg X.nox N' scope cl C s₀ H₀ fp) elt te)
    (hs:∀x,foldedSetIterable iter X.env x=pure x:=by intro _;rfl) (pP:swapsWith (.ListComp elt [⟨tg,iter,ifs,0⟩] scope bN) (some (.Name x pos')) pos.line X.env=pure true:=by rfl)
    (hf:X.nox.fn x=true\/X.nox.env.scope.names.lookup x=some .local:=by first|exact .inl rfl|exact .inr rfl|assumption) :
    PS X.nox (.Assign [.Name x pos'] (.ListComp elt [⟨tg,iter,ifs,0⟩] scope bN) pos) (ny (wL wi nT js g tc te) (a9 i)):=by
  intro aa s σ H D0 I h;have hG:PG X.nox (.Name x pos') (a9 i):=BQ hN CD hx hf;rw [exec_Assign_Name_used _ _ _ _ pP];obtain ⟨cl,e,l⟩:=Aa (env:=X.env) scope.names [] λx hx=>I.ok.has x (.inl (S.kinds _ hx rfl))
  have AQ:closureFor scope X.env=pure cl:=by
    unfold closureFor;show (forIn scope.names [] λ(x:Str×NameKind) (cs:List (Str×Addr))=>(if (x.2 == NameKind.free)=true then (do let a <-cellOf X.env x.1;pure (ForInStep.yield ((x.1,a)::cs)))else pure (ForInStep.yield cs):Sem (ForInStep (List (Str×Addr))))) >>= (λs=>pure s)=pure cl;rw [e,pure_bind]
  refine aA (vh (aA ?_));show wpAny _ X.nox.A (do let _ <-comprehension (.ListComp elt [⟨tg,iter,ifs,0⟩] scope bN) scope X.env _ (newList []) false (eval iter X.env) (some (assign (.Name x pos') X.env))) _ _ s;refine aA (bA (Pb (cl:=cl) (use:=some (assign (.Name x pos') X.env)) (Q:=λ_ s'=>SP X.nox aa D0 .next s') rfl hs AQ S.kind S.names ?_) (λ_ s' hq=>bg (bg hq)) λ_ _ e=>e);refine aI (hi aa s σ H _ I h) λv s1 h1=>aI h1 λsE s2 h2=>?_
  obtain ⟨it,fp,tn,J,H2,rfl,I2,T,cU,f2,W,w0,turn⟩:=h2;refine O5 (X:=X.nox) (QQ:=λD ys H'=>a9 i (.ref D) σ (upd H' D (.lst ys)) D0.nx) (RR:=λacc C=>compPost (model X.prog X.w) X.A (λ_ _=>False) (some (assign (.Name x pos') X.env)) (λ_ s'=>SP X.nox aa D0 .next s') acc C) hc S (λx=>by rw [l x];rfl) (hg cl) (ht cl) (he cl) I2 T cU f2 W w0 turn λD C s' ys H' m q hn nC hC fE yN fin=>?_
  show wpAny _ X.A (assign (.Name x pos') X.env (.ref D)) _ _ _;have I3:Inv X.nox aa σ (upd H' D (.lst ys)) s':=fin s'.heap ⟨rfl,λ_ _=>rfl⟩;have Cg:upd H' D (.lst ys) C=none:=by rw [aO (Ne.symm fE)];exact yN
  have vx:∀{H3:Hp},H3 C=none->eo X.nox aa H3 C:=λh3=>I2.fpOk hC h3
  obtain ⟨oC,es,ep,oI,rC⟩:=id hn;have gw:∀v,oC.data≠.cell v:=λv z=>by
    have:=rC
    rw [z]at this;simp at this
  have I4 := I3.pinned (fp := [C]) (fun b hb => by have z : b = C := by simpa using hb
                                                   subst z; exact vx  Cg  ) (fun b hb => by have z : b = C := by simpa using hb
                                                                                            subst z; exact ⟨oC, oI, gw⟩)
  refine aI (hG _ s' σ _ (.ref D) (.ref D) _ I4 rfl q) λ_ s5 ⟨σ5,H5,I5,q5⟩=>?_
  have pC:=I5.pin (C,oC) (cx _ (cx _ (nO (by simp) oI)));refine ⟨m,⟨oC,es,ep,pC.1,rC⟩,λh' sb=>?_⟩;obtain ⟨f0,f1,Vq,f3,f4,f5⟩:=vx pC.2.1;exact ⟨σ5,H5,(I5.unpinned).turned (t':=s5.toks) (λb o hb e=>(sb.2 b hb).trans e) f0 f1 f3 f4 f5,q5⟩
def jI{K:Frag}{a:Addr}{xs:List V}{g:TG}{tc:TT}{te:TE}{σ:St}{H:Hp}{R:List V->Hp->Addr->Prop}(Pv:Nat->List V->St->Hp->Prop)(h0:Pv 0 [] σ H)(hl:∀i ys σ H,i<=xs.length->Pv i ys σ H->ai K H a xs/\ys.length<=i)(hz:xs.length<=sizeLine)
  (hs:∀i x ys σ H,xs[i]?=some x->Pv i ys σ H->g x σ H λσ2 H2=>tc σ2 H2 λb H3=>if b=true then te σ2 H3 λy H4=>Pv (i+1) (ys++[y]) σ2 H4 else Pv (i+1) ys σ2 H3)
  (hd:∀ys σ H,Pv xs.length ys σ H->∀D,H D=none->R ys H D) :
  ∃W:Nat->Nat->List V->St->Hp->Prop,(∃m,W 0 m [] σ H)/\∀i m ys σ H,W i m ys σ H ->
   ((gV K a).stop i H/\∀D,H D=none->R ys H D) \/
   ((gV K a).go i H/\ys.length<sizeLine/\∃ N:List V->St->Hp->Prop,(∀ cH σ' H',N cH σ' H'->∃ m',m'<m/\W (i+1) m' cH σ' H') /\ ∀x H',(gV K a).yld i H x H'->g x σ H' λσ2 H2=>tc σ2 H2 λb H3=>if b=true then te σ2 H3 λy H4=>N (ys++[y]) σ2 H4 else N ys σ2 H3):=by
 exists λi m ys σ H=>m=xs.length-i/\i<=xs.length/\Pv i ys σ H,⟨xs.length,by simp,cb _,h0⟩,?_;rintro i m ys σ H ⟨rfl,hi,p⟩;have q:=hl i ys σ H hi p;by_cases bE:i<xs.length
 ·refine .inr ⟨⟨xs,xs[i],q.1,by simp[bE]⟩,(by lia),Pv (i+1),λcH σ' H' p'=>⟨xs.length-(i+1),by lia,rfl,bE,p'⟩,λx H' y=>?_⟩;obtain⟨e,y⟩:=y;subst e;exact hs i x ys σ _ (y xs q.1) p
 ·have e:i=xs.length:=by lia
  subst e;exact .inl ⟨⟨xs,q.1,aJ _⟩,hd ys σ H p⟩
def Td{lo:Int}{n:Nat}{g:TG}{tc:TT}{te:TE}{σ:St}{H:Hp}{R:List V->Hp->Addr->Prop}(Pv:Nat->List V->St->Hp->Prop)(h0:Pv 0 [] σ H)(hl:∀i ys σ H,Pv i ys σ H->ys.length<=i)(hz:n<=sizeLine)
  (hs:∀i ys σ H,i<n->Pv i ys σ H->g (.int (lo+i)) σ H λσ2 H2=>tc σ2 H2 λb H3=>if b=true then te σ2 H3 λy H4=>Pv (i+1) (ys++[y]) σ2 H4 else Pv (i+1) ys σ2 H3)
  (hd:∀ys σ H,Pv n ys σ H->∀D,H D=none->R ys H D) :
  ∃W:Nat->Nat->List V->St->Hp->Prop,(∃m,W 0 m [] σ H)/\∀i m ys σ H,W i m ys σ H ->
   ((mv lo n).stop i H/\∀D,H D=none->R ys H D) \/
   ((mv lo n).go i H/\ys.length<sizeLine/\∃ N:List V->St->Hp->Prop,(∀ cH σ' H',N cH σ' H'->∃ m',m'<m/\W (i+1) m' cH σ' H') /\ ∀x H',(mv lo n).yld i H x H'->g x σ H' λσ2 H2=>tc σ2 H2 λb H3=>if b=true then te σ2 H3 λy H4=>N (ys++[y]) σ2 H4 else N ys σ2 H3):=by
 exists λi m ys σ H=>m=n-i/\i<=n/\Pv i ys σ H,⟨n,by simp,cb _,h0⟩,?_;rintro i m ys σ H ⟨rfl,hi,p⟩;have q:=hl i ys σ H p;by_cases bE:i<n
 ·refine .inr ⟨bE,(by lia),Pv (i+1),λcH σ' H' p'=>⟨n-(i+1),by lia,rfl,bE,p'⟩,λx H' y=>?_⟩;obtain⟨e,y⟩:=y;subst e y;exact hs i ys σ _ bE p
 ·have e:i=n:=by lia
  subst e;exact .inl ⟨aJ _,hd ys σ H p⟩
end L2
namespace OS
open PySem PyProof.Rows
class KO where
 num:Value->Int
 ok:Value->Prop
 kind:SortKind
class KL [KO] (prog:Program) (w:World) (A:Around) (s:Shared):Prop where
 lt:∀{E:Value->Shared->Prop}{Q:Bool->Shared->Prop}{u v:Value},KO.ok u->KO.ok v->Q (decide (KO.num u<KO.num v)) s->wpAny (model prog w) A (keyLt' KO.kind u v) Q E s
variable [KO]
end OS
namespace L2
open PySem PySem.Spec PyProof.Rows
def cj(H:Hp):List Addr->List (Int×Int)->Prop:=Paired λp t=>H p=some (.tup [.int t.1,.int t.2])
def cj.length(h:cj H ps l):ps.length=l.length:=dP h
def cj.keep(h:cj H ps l)(k:∀b xs,H b=some (.tup xs)->H' b=some (.tup xs)):cj H' ps l:=Paired.mapP h λp t e=>k p _ e
theorem cj.at:∀{H:Hp}{ps:List Addr}{l:List (Int×Int)}{i:Nat}{t:Int×Int},cj H ps l->l[i]?=some t->∃p,ps[i]?=some p/\H p=some (.tup [.int t.1,.int t.2])
 |_,_,_,_,_,.nil,e=>by simp at e
 |_,_,_,0,_,.cons r _,e=>by simp at e;subst e;nomatch _,rfl,r
 |_,_,_,i+1,t,.cons _ q,e=>by
  obtain⟨p,h1,h2⟩:=cj.at (i:=i) (t:=t) q (by simpa using e);nomatch p,by simpa using h1,h2
def cj.at'{H:Hp}{ps:List Addr}{l:List (Int×Int)}{i:Nat}{p:Addr}(h:cj H ps l)(e:ps[i]?=some p):∃t,l[i]?=some t/\H p=some (.tup [.int t.1,.int t.2]):=by
 have hi:i<l.length:=by
  have:=(d6.mp e).1
  have:=h.length
  lia
 obtain⟨q,h1,h2⟩:=h.at (i:=i) (t:=l[i]) (by simp[hi]);rw[e]at h1;cases h1;nomatch l[i],by simp[hi],h2
theorem cj.append:∀{H:Hp}{ps qs:List Addr}{l m:List (Int×Int)},cj H ps l->cj H qs m->cj H (ps++qs) (l++m)
 |_,_,_,_,_,.nil,s=>s
 |_,_,_,_,_,.cons r t,s=>.cons r (cj.append t s)
def cj.snoc(h:cj H ps l)(e:H p=some (.tup [.int t.1,.int t.2])):cj H (ps++[p]) (l++[t]):=cj.append h (.cons e .nil)
def TL(K:Frag)(H:Hp)(a:Addr)(l:List (Int×Int)):Prop:=∃ps:List Addr,ai K H a (ps.map V.ref)/\cj H ps l
def a7(H:Hp)(a:Addr)(l:List (Int×Int)):Prop:=∃ps:List Addr,H a=some (.lst (ps.map V.ref))/\cj H ps l
def a7.tl{K:Frag}{H:Hp}{a:Addr}{l:List (Int×Int)}(h:a7 H a l):TL K H a l:=let ⟨ps,h1,h2⟩:=h; ⟨ps,.of h1,h2⟩
def a7.keep(h:a7 H a l)(k:ag H H'):a7 H' a l:=let ⟨ps,h1,h2⟩:=h; ⟨ps,k _ _ h1,h2.keep λb xs e=>k b _ e⟩
def ag.upd(h:H p=none):ag H (upd H p o):=λc o' e=>by rw[aO (cE e h)];exact e
def Yh(r:Vals [.int a,.int b] us):∃t u,us=[Value.int a t,Value.int b u]:=by
 obtain⟨u,w,rfl,⟨t,rfl⟩,⟨t',rfl⟩⟩:=qO r;nomatch t,t',rfl
theorem K1:∀(ns:List Int),PySem.W.WData.weightAll (ns.map PySem.W.WData.int)<=2^20->∀n∈ns,intBits n<=2^20
 |[],_,_,h=>by simp at h
 |m::r,hw,n,hn=>by
  have e:PySem.W.WData.weightAll ((m::r).map PySem.W.WData.int)=PySem.W.WData.weight (.int m)+1+PySem.W.WData.weightAll (r.map PySem.W.WData.int):=rfl;rw[e]at hw;rcases ba.mp hn with z|z
  ·subst z;have e2:PySem.W.WData.weight (.int n)=if n == 0 then 0 else n.natAbs.log2+1:=rfl
   rw[e2]at hw;unfold intBits;split at hw<;>split<;>simp_all<;>lia
  ·exact K1 r (by lia) n z
def Sa{l:PySem.W.OpenLaw}{n k:Nat}{q:Program}{loose:List Str}{XP:(Str->Option Value)->Heap->Prop}{YP:World->Heap->Prop}{d:DefRec}{K:Params->Frag}{CX:World->j0}{sp:World->Sp}{x:Str}
  (hn:l.most=some n) (o6:n<=sizeLine) (AX:d.params.defaults=[]) (hr:cz k callerA)
  (hY:∀(w:World) (h:Heap),YP w h->(K w.params).In h)
  (F:∀ (w:World) (mg:Str->Option Value) (fa:Addr) (h:Heap),(K w.params).In h->h.Ns mainGlobals mg->mg d.name=some (.ref fa) -> ∃fd:FuncData,(∀(s:Shared) (u:Value),BindsTo s fd ⟨[u],[]⟩ [(x,u)]) /\ ∀base:Heap,(K w.params).In base->base.Ns mainGlobals mg->gW l.prog w (K w.params) mg base (CX w) k fa fd [x] (sp w))
  (eR:∀(w:World) (H:Hp) (a:Addr) (ns:List Int),ns.length<=n->(∀z∈ns,intBits z<=2^20)->D1 H->ai (K w.params) H a (ns.map V.int)->sp w [.ref a] H (λv _=>v=.bl true) λ_ _ _=>False)
  (Ba:∀(w:World) (H:Hp) (s:Shared) (e:Value) (s':Shared),CX w [] H s (λ_ _ _=>False) e s'->False) :
  PySem.W.WalkO q loose XP YP l.row.toRowW d [] (λf vs=>PySem.call f vs):=by
 intro w s₀ s₁ mg mb G Y fa o pm cd doc dV kV ho hd iN hD yA hg args vals as xC UJ B4 d8 uU;obtain rfl:dV=.none:=QZ hD AX;obtain rfl:kV=.none:=V9 hD;obtain⟨a,vs,ns,rfl,rfl,Xp,hints,aT⟩:=Att.script_of hn xC d8;have P7:∀z∈ns,intBits z<=2^20:=by
  have h1:(PySem.W.WData.list (ns.map PySem.W.WData.int)).layable=true:=gz.mp UJ _ (by simp);have h2:=br (uL.mp h1).2;exact K1 ns h2
 have KX:=hY w _ Y;obtain⟨fd,hb,hF⟩:=F w mg fa _ KX G.T.g yA;refine PySem.W.enter_call (qq (UG KX G.T.g G.T.b G.T.builtins G.T.nolimit hg Xp hints (bp aT o6) hr hF hb (λH hO hS=>eR w H a ns aT P7 hO hS) λH e s'=>Ba w H s₁ e s') λr s' hq=>?_);obtain⟨rfl,h2,h3,h4⟩:=hq;nomatch .inl ⟨.bool true,.bool true,[],rfl,λ_=>rfl,.bool true,Att.post_true l _,λ_=>⟨List.Pairwise.nil,λ_ hm=>(nomatch hm)⟩⟩,h2,h3,h4
noncomputable def cR(p:Int×Int):bO×V:=(Sum.inl p.1,V.int p.2)
theorem qQ(k:Int):∀d:OF.av,gO (d.map cR) (Sum.inl k)=(OF.look d k).map V.int
 |[]=>rfl
 |p::r=>by
  rw[bw,OF.look];by_cases e:p.1=k
  ·rw[vq (show (cR p).1=Sum.inl k by simp[cR,e]),ax e];rfl
  ·rw[uF (show ¬(cR p).1=Sum.inl k by simp[cR,e]),aq e];exact qQ k r
def C0(d:OF.av)(k v:Int):fH (d.map cR) (Sum.inl k:bO) (V.int v)=(OF.fY d k v).map cR:=by
 unfold fH OF.fY;rw[FF,qQ,OF.vH,xQ];split
 ·rw[ft,ft];congr 1
  funext p
  simp only[Function.comp,cR];by_cases e:p.1=k
  ·simp[e]
  ·simp[e]
 ·rw[aQ];rfl
def zbB(d:OF.av):(d.map cR).map (·.1)=(d.map (·.1)).map Sum.inl:=by
 rw[ft,ft];rfl
end L2
namespace OF
open PySem
def ZL(hx:0<=x)(hy:0<=y):Builtin.bitOr x y=((x.toNat|||y.toNat:Nat):Int):=by
 have n1:¬0<=Builtin.bitNot x:=by unfold Builtin.bitNot;lia
 have n2:¬0<=Builtin.bitNot y:=by unfold Builtin.bitNot;lia
 have e:∀z:Int,Builtin.bitNot (Builtin.bitNot z)=z:=λz=>by unfold Builtin.bitNot;lia
 unfold Builtin.bitOr;rw[Vc n1 n2,e,e,e]
def Mj(h:z/2^i%2=0):z+2^i=z|||2^i:=by
 have hb:z%2^i<2^i:=EN _ (qC i);have hz:z=2^(i+1)*(z/2^(i+1))+z%2^i:=by
  have h1:=GF z (2^(i+1));have h2:z%2^(i+1)=z%2^i+2^i*(z/2^i%2):=Nat.mod_pow_succ;rw[h,BL,F9]at h2;lia
 generalize z/2^(i+1)=a at hz;generalize z%2^i=b at hz hb;have hp:2^i+b<2^(i+1):=by rw[kN];lia
 have e8:b<2^(i+1):=by lia
 have e1:z+2^i=2^(i+1)*a+(2^i+b):=by lia
 have e2:2^i+b=2^i|||b:=by
  have:=B1 hb 1
  rw[Hx]at this;exact this
 rw[e1,hz,B1 hp,B1 e8,e2,Nat.or_assoc,PY b]
noncomputable def c5:List (Int×Int)->Nat->Nat
 |[],a=>a
 |t::r,a=>c5 r (a|||t.1.toNat)
theorem K9:∀(l:List (Int×Int)) (t:Int×Int) (a:Nat),c5 (l++[t]) a=c5 l a|||t.1.toNat
 |[],_,_=>rfl
 |p::r,t,a=>K9 r t _
noncomputable def mn(l:List (Int×Int))(g:Int):Int:=((l.filter λt=>decide (Builtin.bitAnd t.1 g=t.1)).map (·.2)).sum
end OF
namespace L2
open PySem PySem.Spec PyProof.Rows
def aF{c A B:Prop}[Decidable c](h:¬c)(b:B):if c then A else B:=by rw[aq h];exact b
def aU{c A B:Prop}[Decidable c](h:c)(a:A):if c then A else B:=by rw[ax h];exact a
def lJ.of(sc₀:Scope)(N₀:List Str)(h1:X.env.scope=sc₀)(h2:X.N=N₀)(hk:scope.kind=.function)
  (j3:(scope.names.all λy=>y.2 != .cell&&(y.2 != .local || scope.names.lookup y.1 == some .local)&&(y.2 != .free || sc₀.names.lookup y.1 == some .cell))=true)
  (aT:N'.length=nT+js.length) (hf:(js.map λj=>N₀[j]?)=(N'.drop nT).map some) (hv:((N'.drop nT).all λx=>scope.names.lookup x == some .free)=true):lJ X scope N' nT js:=by
 have Ew:=gz.mp j3;exists hk,λy hy e=>?_,λy hy e=>?_,aT,λk j x e1 e2=>?_,λy hy e=>?_,λx hx=>?_
 ·have:=Ew y hy;rw[e]at this;simp at this
 ·have:=Ew y hy;rw[e]at this;simp at this;exact this
 ·have e3:(js.map λj=>N₀[j]?)[k]?=some (N₀[j]?):=by rw[bY,e1];rfl
  rw[hf,bY,BF,e2]at e3;rw[h2];exact (cD e3).symm
 ·have:=Ew y hy;rw[e]at this;simp at this;rw[h1];exact this
 ·have:=gz.mp hv x hx;simpa using this
end L2
namespace OF
theorem uQ:∀{l B:List Int},l.Nodup->(∀x∈l,x∈B)->l.length<=B.length
 |[],_,_,_=>cb _
 |a::r,B,hn,hs=>by
  have h1:=jO.mp hn;have ha:=hs a (by simp);have h2:r.length<=(B.erase a).length:=uQ h1.2 λx hx=>by
   have cY:x≠a:=λz=>h1.1 (z ▸ hx)
   exact (List.mem_erase_of_ne cY).mpr (hs x (by simp[hx]))
  have h3:=List.length_erase_of_mem ha;have h4:0<B.length:=List.length_pos_of_mem ha;rw[aW];lia
end OF
namespace L2
open PySem PySem.Spec PyProof.Rows
inductive D where
 |non|bl (b:Bool)|int (n:Int)|str (x:Str)|tup (ds:List D)|lst (ds:List D)
mutual
def Is(H:Hp):V->D->Prop
 |v,.non=>v=.non
 |v,.bl b=>v=.bl b
 |v,.int n=>v=.int n
 |v,.str x=>v=.str x
 |v,.tup ds=>∃a xs,v=.ref a/\H a=some (.tup xs)/\a8 H xs ds
 |v,.lst ds=>∃a xs,v=.ref a/\H a=some (.lst xs)/\a8 H xs ds
def a8(H:Hp):List V->List D->Prop
 |xs,[]=>xs=[]
 |xs,d::ds=>∃x r,xs=x::r/\Is H x d/\a8 H r ds
end
mutual
theorem Is.keep(k:ag H H'):∀{v:V}{d:D},Is H v d->Is H' v d
 |v,.non,h=>by unfold Is at *;exact h
 |v,.bl _,h=>by unfold Is at *;exact h
 |v,.int _,h=>by unfold Is at *;exact h
 |v,.str _,h=>by unfold Is at *;exact h
 |v,.tup ds,h=>by
  unfold Is at *;obtain⟨a,xs,e,h1,h2⟩:=h;nomatch a,xs,e,k _ _ h1,a8.keep k h2
 |v,.lst ds,h=>by
  unfold Is at *;obtain⟨a,xs,e,h1,h2⟩:=h;nomatch a,xs,e,k _ _ h1,a8.keep k h2
theorem a8.keep(k:ag H H'):∀{xs:List V}{ds:List D},a8 H xs ds->a8 H' xs ds
 |xs,[],h=>by unfold a8 at *;exact h
 |xs,d::ds,h=>by
  unfold a8 at *;obtain⟨x,r,e,h1,h2⟩:=h;nomatch x,r,e,Is.keep k h1,a8.keep k h2
end
theorem a8.length:∀{xs:List V}{ds:List D},a8 H xs ds->xs.length=ds.length
 |xs,[],h=>by unfold a8 at h;rw[h];rfl
 |xs,d::ds,h=>by
  unfold a8 at h;obtain⟨x,r,rfl,_,h2⟩:=h;rw[aW,aW,a8.length h2]
theorem a8.at:∀{xs:List V}{ds:List D}{i:Nat}{d:D},a8 H xs ds->ds[i]?=some d->∃x,xs[i]?=some x/\Is H x d
 |xs,[],i,d,h,e=>by simp at e
 |xs,d'::ds,0,d,h,e=>by
  unfold a8 at h;obtain⟨x,r,rfl,h1,h2⟩:=h
  have:d'=d:=by simpa using e
  subst this;nomatch x,rfl,h1
 |xs,d'::ds,i+1,d,h,e=>by
  unfold a8 at h;obtain⟨x,r,rfl,h1,h2⟩:=h;obtain⟨x',e1,e2⟩:=a8.at (i:=i) (d:=d) h2 (by simpa using e);nomatch x',by simpa using e1,e2
noncomputable def MV(b:Bool):Int:=if b then 1 else 0
mutual
noncomputable def cC:D->D->Bool
 |.non,.non=>true
 |.bl a,.bl b=>a == b
 |.bl a,.int n=>MV a == n
 |.int n,.bl a=>n == MV a
 |.int n,.int m=>n == m
 |.str x,.str y=>x == y
 |.tup ds,.tup es=>jL ds es
 |.lst ds,.lst es=>jL ds es
 |_,_=>false
noncomputable def jL:List D->List D->Bool
 |[],[]=>true
 |d::ds,e::es=>cC d e&&jL ds es
 |_,_=>false
end
mutual
noncomputable def ja:D->Nat
 |.tup ds=>lC ds+1
 |.lst ds=>lC ds+1
 |_=>0
noncomputable def lC:List D->Nat
 |[]=>0
 |d::ds=>max (ja d) (lC ds)
end
theorem Dy:∀{ds:List D}{j:Nat}{d:D},ds[j]?=some d->ja d<=lC ds
 |[],j,d,e=>by simp at e
 |d'::ds,0,d,e=>by
  have:d'=d:=by simpa using e
  subst this;unfold lC;lia
 |d'::ds,j+1,d,e=>by
  have:=Dy (ds:=ds) (j:=j) (d:=d) (by simpa using e)
  rw[lC];lia
def Xg(ds es:List D):cC (.tup ds) (.tup es)=jL ds es:=rfl
def CF(ds es:List D):cC (.lst ds) (.lst es)=jL ds es:=rfl
def F6(d e:D)(ds es:List D):jL (d::ds) (e::es)=(cC d e&&jL ds es):=rfl
def jJ(ds es:List D)(j:Nat):Bool:=match ds[j]?,es[j]? with
 |some d,some e=>cC d e
 |_,_=>false
theorem wq:∀(ds es:List D),jL ds es=((List.range (min ds.length es.length)).all (jJ ds es)&&(ds.length == es.length))
 |[],[]=>rfl
 |[],e::es=>by show false=_;simp
 |d::ds,[]=>by show false=_;simp
 |d::ds,e::es=>by
  have ih:=wq ds es;rw[F6,ih,aW,aW,Nat.add_min_add_right,List.range_succ_eq_map,rP,E3];have e1:jJ (d::ds) (e::es) 0=cC d e:=rfl;have e2:(jJ (d::ds) (e::es)) ∘ Nat.succ=jJ ds es:=by funext j;rfl
  rw[e1,e2,Bool.and_assoc];congr 2;simp
def Sj(h:ds.length≠es.length):jL ds es=false:=by
 rw[wq]
 have:(ds.length == es.length)=false:=by simpa using h
 rw[this,iG]
mutual
theorem Ex:∀d:D,cC d d=true
 |.non=>rfl
 |.bl b=>by show (b == b)=true;simp
 |.int n=>by show (n == n)=true;simp
 |.str x=>by show (x == x)=true;simp
 |.tup ds=>EB ds
 |.lst ds=>EB ds
theorem EB:∀ds:List D,jL ds ds=true
 |[]=>rfl
 |d::ds=>by rw[F6,Ex d,EB ds];rfl
end
mutual
theorem Is.inj:∀{v:V}{d e:D},Is H v d->Is H v e->d=e
 |v,.non,e,h,h'=>by
  unfold Is at h;subst h;cases e<;>unfold Is at h' <;>first|rfl|(cases h';done)|(obtain⟨_,_,z,_⟩:=h';cases z)
 |v,.bl b,e,h,h'=>by
  unfold Is at h;subst h;cases e<;>unfold Is at h' <;>first|(cases h';rfl)|(cases h';done)|(obtain⟨_,_,z,_⟩:=h';cases z)
 |v,.int n,e,h,h'=>by
  unfold Is at h;subst h;cases e<;>unfold Is at h' <;>first|(cases h';rfl)|(cases h';done)|(obtain⟨_,_,z,_⟩:=h';cases z)
 |v,.str x,e,h,h'=>by
  unfold Is at h;subst h;cases e<;>unfold Is at h' <;>first|(cases h';rfl)|(cases h';done)|(obtain⟨_,_,z,_⟩:=h';cases z)
 |v,.tup ds,e,h,h'=>by
  unfold Is at h;obtain⟨a,xs,rfl,h1,h2⟩:=h;cases e with
  |tup es =>
   unfold Is at h';obtain⟨b,ys,z,g1,g2⟩:=h';cases z;rw[h1]at g1;cases g1;rw[a8.inj h2 g2]
  |lst es =>
   unfold Is at h';obtain⟨b,ys,z,g1,g2⟩:=h';cases z;rw[h1]at g1;cases g1
  |_=>unfold Is at h';cases h'
 |v,.lst ds,e,h,h'=>by
  unfold Is at h;obtain⟨a,xs,rfl,h1,h2⟩:=h;cases e with
  |lst es =>
   unfold Is at h';obtain⟨b,ys,z,g1,g2⟩:=h';cases z;rw[h1]at g1;cases g1;rw[a8.inj h2 g2]
  |tup es =>
   unfold Is at h';obtain⟨b,ys,z,g1,g2⟩:=h';cases z;rw[h1]at g1;cases g1
  |_=>unfold Is at h';cases h'
theorem a8.inj:∀{xs:List V}{ds es:List D},a8 H xs ds->a8 H xs es->ds=es
 |xs,[],es,h,h'=>by
  unfold a8 at h;subst h;cases es with
  |nil=>rfl
  |cons e es=>unfold a8 at h';obtain⟨_,_,z,_⟩:=h';cases z
 |xs,d::ds,es,h,h'=>by
  unfold a8 at h;obtain⟨x,r,rfl,h1,h2⟩:=h;cases es with
  |nil=>unfold a8 at h';cases h'
  |cons e es =>
   unfold a8 at h';obtain⟨x',r',z,g1,g2⟩:=h';cases z;rw[Is.inj h1 g1,a8.inj h2 g2]
end
section
variable{X:Cx}{aa:List (Addr×Obj)}{σ:St}{H:Hp}{s:Shared}
structure Cu(A:Around)(s:Shared)(u w:Value)(b:Bool):Prop where
 rc:SeqAt.RcAt A s u w b
 ne:SeqAt.RcNeAt A s u w (!b)
def xK(r:Vals xs af)(h:a8 H xs ds)(hj:j<af.toArray.size):∃d x,ds[j]?=some d/\Is H x d/\RelV x af.toArray[j]:=by
 have j5:j<af.length:=by simpa using hj
 have l1:=r.length;have l2:=h.length;have ed:ds[j]?=some ds[j]:=by simp[show j<ds.length by omega]
 obtain⟨x,ex,hx⟩:=h.at ed;obtain⟨u,eu,ru⟩:=r.get ex;exists _,x,ed,hx,?_;rw[dD j5]at eu
 have:af.toArray[j]=u:=by simpa using cD eu
 rw[this];exact ru
inductive Kd (s:Shared) (H:Hp):Value->D->Prop where
 |none:Kd s H .none .non
 |bool (b:Bool):Kd s H (.bool b) (.bl b)
 |int (n:Int) (t:Tok):Kd s H (.int n t) (.int n)
 |str (x:Str) (t:Tok):Kd s H (.str x t) (.str x)
 |tuple {a:Addr}{xs:List V}{af:List Value}{ds:List D} (h:H a=some (.tup xs)) (r:Vals xs af) (p:s.heap.IsTuple a af.toArray) (q:a8 H xs ds):Kd s H (.ref a) (.tup ds)
 |list {a:Addr}{xs:List V}{af:List Value}{ds:List D} (h:H a=some (.lst xs)) (r:Vals xs af) (p:s.heap.IsList a af.toArray) (q:a8 H xs ds):Kd s H (.ref a) (.lst ds)
def ly(I:Inv X aa σ H s)(h:Is H v d)(r:RelV v u):Kd s H u d:=by
 cases d with
 |non=>unfold Is at h;subst h;cases (show u=Value.none from r);exact .none
 |bl b=>unfold Is at h;subst h;cases (show u=Value.bool b from r);exact .bool b
 |int n=>unfold Is at h;subst h;obtain⟨t,e⟩:=(show ∃t,u=Value.int n t from r);cases e;exact .int n t
 |str x=>unfold Is at h;subst h;obtain⟨t,e⟩:=(show ∃t,u=Value.str x t from r);cases e;exact .str x t
 |tup ds =>
  unfold Is at h;obtain⟨a,xs,rfl,h1,h2⟩:=h;cases (show u=Value.ref a from r);obtain⟨_,af,r1,t1⟩:=(show cn X.prog X.w H s.heap a (.tup xs) from I.hok a _ h1);exact .tuple h1 r1 t1 h2
 |lst ds =>
  unfold Is at h;obtain⟨a,xs,rfl,h1,h2⟩:=h;cases (show u=Value.ref a from r);obtain⟨af,r1,p1,_⟩:=I.list (ai.of (K:=X.K) h1);exact .list h1 r1 p1.isList h2
def Sc:D->Prop
 |.tup _=>False
 |.lst _=>False
 |_=>True
set_option maxHeartbeats 4000000 in
def oA(hu:A.units<cLine)(k1:Kd s H u d)(hs:Sc d)(k2:Kd s H u' e):Cu A s u u' (cC d e)/\SeqAt.EqAt A s u u' (cC d e):=by
 cases k1 with
 |tuple=>exact hs.elim
 |list=>exact hs.elim
 |none  =>
  cases k2 with
  |none  => nomatch ⟨.none_none ,.none_none ⟩,zd _
  |bool c=>nomatch ⟨.none_bool c,.none_bool c⟩,.none_bool c
  |int k v=>nomatch ⟨.none_int k v,.none_int k v⟩,.none_int k v
  |str y v=>nomatch ⟨.none_str y v,.none_str y v⟩,.none_str y v
  |list h r p q=>nomatch ⟨.none_list  p hu,.none_list  p hu⟩,.none_list  p hu
  |tuple h r p q=>nomatch ⟨.none_tuple  p hu,.none_tuple  p hu⟩,.none_tuple  p hu
 |bool b =>
  cases k2 with
  |none  => nomatch ⟨.bool_none b,.bool_none b⟩,.bool_none b
  |bool c=>nomatch ⟨.bool_bool b c,.bool_bool b c⟩,.bool_bool b c
  |int k v=>nomatch ⟨.bool_int b k v,.bool_int b k v⟩,.bool_int b k v
  |str y v=>nomatch ⟨.bool_str b y v,.bool_str b y v⟩,.bool_str b y v
  |list h r p q=>nomatch ⟨.bool_list b p hu,.bool_list b p hu⟩,.bool_list b p hu
  |tuple h r p q=>nomatch ⟨.bool_tuple b p hu,.bool_tuple b p hu⟩,.bool_tuple b p hu
 |int m t =>
  cases k2 with
  |none  => nomatch ⟨.int_none m t,.int_none m t⟩,.int_none m t
  |bool c=>nomatch ⟨.int_bool m t c,.int_bool m t c⟩,.int_bool m t c
  |int k v=>nomatch ⟨.int_int m t k v,.int_int m t k v⟩,.int_int m t k v
  |str y v=>nomatch ⟨.int_str m t y v,.int_str m t y v⟩,.int_str m t y v
  |list h r p q=>nomatch ⟨.int_list m t p hu,.int_list m t p hu⟩,.int_list m t p hu
  |tuple h r p q=>nomatch ⟨.int_tuple m t p hu,.int_tuple m t p hu⟩,.int_tuple m t p hu
 |str x t =>
  cases k2 with
  |none  => nomatch ⟨.str_none x t,.str_none x t⟩,.str_none x t
  |bool c=>nomatch ⟨.str_bool x t c,.str_bool x t c⟩,.str_bool x t c
  |int k v=>nomatch ⟨.str_int x t k v,.str_int x t k v⟩,.str_int x t k v
  |str y v=>nomatch ⟨.str_str x t y v,.str_str x t y v⟩,.str_str x t y v
  |list h r p q=>nomatch ⟨.str_list x t p hu,.str_list x t p hu⟩,.str_list x t p hu
  |tuple h r p q=>nomatch ⟨.str_tuple x t p hu,.str_tuple x t p hu⟩,.str_tuple x t p hu
set_option maxHeartbeats 4000000 in
def D3(I:Inv X aa σ H s):∀(n:Nat) (d e:D) (A:Around) {u u':Value},ja d<=n->A.units+n<cLine->Kd s H u d->Kd s H u' e->Cu A s u u' (cC d e)/\SeqAt.EqAt A s u u' (cC d e):=by
 intro n;induction n with
 |zero =>
  intro d e A u u' hd hu k1 k2;cases k1 with
  |tuple=>unfold ja at hd;lia
  |list=>unfold ja at hd;omega
  |none=>exact oA (by assumption) .none trivial k2
  |bool b=>exact oA (by assumption) (.bool b) trivial k2
  |int m t=>exact oA (by assumption) (.int m t) trivial k2
  |str y t=>exact oA (by assumption) (.str y t) trivial k2
 |succ n ih =>
  intro d e A u u' hd hu k1 k2;have bT:A.units<cLine:=by lia
  have rJ:A.in1.units+n<cLine:=by show A.units+1+n<cLine;lia
  cases k1 with
  |@tuple a xs af ds h1 r1 p1 q1 =>
   cases k2 with
   |@tuple b ys de es h2 r2 p2 q2 =>
    have cN:lC ds<=n:=by unfold ja at hd;lia
    have n1:af.length=ds.length:=by have:=r1.length;have:=q1.length;lia
    have n2:de.length=es.length:=by have:=r2.length;have:=q2.length;lia
    have he:∀j (g1:j<af.toArray.size) (g2:j<de.toArray.size),SeqAt.EqAt A.in1 s af.toArray[j] de.toArray[j] (jJ ds es j):=λj g1 g2=>by
     obtain⟨d1,x1,e1,i1,v1⟩:=xK r1 q1 g1;obtain⟨d2,x2,e2,i2,v2⟩:=xK r2 q2 g2;have e3:jJ ds es j=cC d1 d2:=by unfold jJ;rw[e1,e2]
     rw[e3];exact (ih d1 d2 A.in1 (bp (Dy e1) cN) rJ (ly I i1 v1) (ly I i2 v2)).2
    have ev:((List.range (min af.toArray.size de.toArray.size)).all (jJ ds es)&&(af.toArray.size == de.toArray.size))=cC (.tup ds) (.tup es):=by
     rw[bJ,bJ,n1,n2,Xg,wq]
    have R1:=jhC p1 p2 bT he;have R2:=ZX p1 p2 bT he;rw[ev]at R1 R2;exists ⟨R1,R2⟩,?_;by_cases hab:a=b
    ·subst hab;rw[h1]at h2;cases h2;rw[a8.inj q1 q2,Ex];exact zd _
    ·exact KQ hab R1
   |@list b ys de es h2 r2 p2 q2=>nomatch ⟨.tuple_list p1 p2 bT,.tuple_list p1 p2 bT⟩,.tuple_list p1 p2 bT
   |none=>nomatch ⟨.tuple_none p1 bT,.tuple_none p1 bT⟩,.tuple_none p1 bT
   |bool b=>nomatch ⟨.tuple_bool b p1 bT,.tuple_bool b p1 bT⟩,.tuple_bool b p1 bT
   |int m t=>nomatch ⟨.tuple_int m t p1 bT,.tuple_int m t p1 bT⟩,.tuple_int m t p1 bT
   |str y t=>nomatch ⟨.tuple_str y t p1 bT,.tuple_str y t p1 bT⟩,.tuple_str y t p1 bT
  |@list a xs af ds h1 r1 p1 q1 =>
   cases k2 with
   |@list b ys de es h2 r2 p2 q2 =>
    have cN:lC ds<=n:=by unfold ja at hd;omega
    have n1:af.length=ds.length:=by have:=r1.length;have:=q1.length;omega
    have n2:de.length=es.length:=by have:=r2.length;have:=q2.length;omega
    have R:Cu A s (.ref a) (.ref b) (cC (.lst ds) (.lst es)):=by
     by_cases hn:ds.length=es.length
     ·have he:∀j (g1:j<af.toArray.size) (g2:j<de.toArray.size),SeqAt.EqAt A.in1 s af.toArray[j] de.toArray[j] (jJ ds es j):=λj g1 g2=>by
       obtain⟨d1,x1,e1,i1,v1⟩:=xK r1 q1 g1;obtain⟨d2,x2,e2,i2,v2⟩:=xK r2 q2 g2;have e3:jJ ds es j=cC d1 d2:=by unfold jJ;rw[e1,e2]
       rw[e3];exact (ih d1 d2 A.in1 (bp (Dy e1) cN) rJ (ly I i1 v1) (ly I i2 v2)).2
      have hsz:af.toArray.size=de.toArray.size:=by simp;lia
      have ev:(List.range af.toArray.size).all (jJ ds es)=cC (.lst ds) (.lst es):=by
       rw[bJ,n1,CF,wq,hn,Bv];simp
      have R1:=Ve p1 p2 hsz bT he;have R2:=Rt p1 p2 hsz bT he;rw[ev]at R1 R2;nomatch R1,R2
     ·have hsz:(af.toArray.size != de.toArray.size)=true:=by simp;lia
      rw[CF,Sj hn];nomatch jgx p1 p2 hsz bT,X1 p1 p2 hsz bT
    exists R,?_;by_cases hab:a=b
    ·subst hab;rw[h1]at h2;cases h2;rw[a8.inj q1 q2,Ex];exact zd _
    ·exact KQ hab R.rc
   |@tuple b ys de es h2 r2 p2 q2=>nomatch ⟨.list_tuple p1 p2 bT,.list_tuple p1 p2 bT⟩,.list_tuple p1 p2 bT
   |none=>nomatch ⟨.list_none p1 bT,.list_none p1 bT⟩,.list_none p1 bT
   |bool b=>nomatch ⟨.list_bool b p1 bT,.list_bool b p1 bT⟩,.list_bool b p1 bT
   |int m t=>nomatch ⟨.list_int m t p1 bT,.list_int m t p1 bT⟩,.list_int m t p1 bT
   |str y t=>nomatch ⟨.list_str y t p1 bT,.list_str y t p1 bT⟩,.list_str y t p1 bT
  |none=>exact oA bT .none trivial k2
  |bool b=>exact oA bT (.bool b) trivial k2
  |int m t=>exact oA bT (.int m t) trivial k2
  |str y t=>exact oA bT (.str y t) trivial k2
def Me(f:Bool->Bool):R2:=λx y H Q=>∃d e,Is H x d/\Is H y e/\ja d<=60/\Q (.bl (f (cC d e))) H
def oi(hu:X.A.units+60<cLine):bH X (compareOp .Eq) (Me id):=by
 intro aa s σ H x y v u Q I rx ry h;obtain⟨d,e,h1,h2,h3,q⟩:=h;exact (D3 I 60 d e X.A h3 hu (ly I h1 rx) (ly I h2 ry)).1.rc _ _ _ _ ⟨.bl (cC d e),H,I,rfl,q⟩
def D7(hu:X.A.units+60<cLine):bH X (compareOp .NotEq) (Me not):=by
 intro aa s σ H x y v u Q I rx ry h;obtain⟨d,e,h1,h2,h3,q⟩:=h;exact (D3 I 60 d e X.A h3 hu (ly I h1 rx) (ly I h2 ry)).1.ne _ _ _ _ ⟨.bl (!(cC d e)),H,I,rfl,q⟩
def jD(hr:cz k A):A.units+60<cLine:=je (Cn (by decide:60<=64) _) hr.units
end
open PySem PySem.Spec PyProof.Rows
section
variable{X:Cx}{st:Stmt}{sts:List Stmt}{t:TS}{e:Expr}{te:TE}
def Zh(t:TS):TS:=λD σ H=>∃M:St->Hp->Prop,t {D with nx:=M} σ H/\∀σ' H',M σ' H'->D.nx σ' H'
set_option tactic.hygienic true in
def ur(h:PS X st t):PS X st (Zh t):=by
 rintro aa s σ H D I ⟨M,q,w⟩;refine aI (h aa s σ H {D with nx:=M} I q) λr s' z=>?_
 cases r with
 |next=>obtain⟨σ',H',I',m⟩:=z;nomatch σ',H',I',w _ _ m
 |_=>exact z
end
end L2
namespace My
open PySem L2 OF
def cP(h:n<=1000000):n<sizeLine:=je h (by decide)
def tZ(h1 : -(2^64)<a)(h2:a<2^64):IntMulOk a b:=xb.ok (.inl ⟨h1,h2⟩)
def ku(h1 : -(2^64)<b)(h2:b<2^64):IntMulOk a b:=xb.ok (.inr ⟨h1,h2⟩)
def jH{ps:List Addr}{i:Nat}{y:V}(hi:(ps.map V.ref)[i]?=some y):∃p,ps[i]?=some p/\y=V.ref p:=by
 rw[bY]at hi;cases e:ps[i]? with
 |none=>rw[e]at hi;cases hi
 |some p=>rw[e]at hi;nomatch p,rfl,(cD hi).symm
def A0{ns:List Int}{i:Nat}{y:V}(hi:(ns.map V.int)[i]?=some y):∃n,ns[i]?=some n/\y=V.int n:=by
 rw[bY]at hi;cases e:ns[i]? with
 |none=>rw[e]at hi;cases hi
 |some p=>rw[e]at hi;nomatch p,rfl,(cD hi).symm
def zcM(K:Frag):Sp:=λvs H Q _=>∃(a:Addr) (l:av) (g:Int),vs=[.ref a,.int g]/\TL K H a l/\l.length<=100000/\∀H',ag H H'->Q (.int (mn l g)) H'
def Oe(K:Frag):Sp:=λvs H Q _=>∃(a:Addr) (ns:List Int),vs=[.ref a]/\ai K H a (ns.map V.int)/\ns.length<=63/\(∀n∈ns,intBits n<=2^20)/\∀H',Q (.bl true) H'
noncomputable def dT(t:Int×Int):D:=.tup [.int t.1,.int t.2]
def dF(l:av):D:=.lst (l.map dT)
theorem Pn:∀{ps:List Addr}{l:av},cj H ps l->a8 H (ps.map V.ref) (l.map dT)
 |_,_,.nil=>by unfold a8;rfl
 |_,_,.cons (a:=p) (b:=t) r q=>by
  rw[bw,bw];unfold a8;exists _,_,rfl,?_,Pn q;unfold dT Is;exists p,_,rfl,r,?_;unfold a8;exists _,_,rfl,(by unfold Is;rfl),?_;unfold a8;exists _,_,rfl,(by unfold Is;rfl),?_;unfold a8;rfl
def _root_.L2.a7.is(h:a7 H a l):Is H (.ref a) (dF l):=by
 obtain⟨ps,h1,h2⟩:=h;unfold dF Is;nomatch a,_,rfl,h1,Pn h2
def TR(t:Int×Int):ja (dT t)=1:=rfl
theorem Qs:∀l:av,lC (l.map dT)<=1
 |[]=>cb _
 |t::r=>by
  rw[bw,lC,TR]
  have:=Qs r
  lia
def Uv(l:av):ja (dF l)<=2:=by
 unfold dF;rw[ja];have:=Qs l;lia
def XJ(t u:Int×Int):cC (dT t) (dT u)=decide (t=u):=by
 obtain⟨a,b⟩:=t;obtain⟨c,d⟩:=u;show ((a == c)&&((b == d)&&true))=decide ((a,b)=(c,d));by_cases e1:a=c<;>by_cases e2:b=d<;>simp[e1,e2]
theorem Kg:∀l m:av,jL (l.map dT) (m.map dT)=decide (l=m)
 |[],[]=>rfl
 |[],_::_=>rfl
 |_::_,[]=>rfl
 |t::l,u::m=>by
  rw[bw,bw,F6,XJ,Kg l m];by_cases e1:t=u<;>by_cases e2:l=m<;>simp[e1,e2]
def Y3(l m:av):cC (dF l) (dF m)=decide (l=m):=by unfold dF;rw[CF];exact Kg l m
def Ss(h1:H a=some (.lst xs))(h2:a8 H xs ds):Is H (.ref a) (.lst ds):=by
 unfold Is;nomatch a,xs,rfl,h1,h2
set_option tactic.hygienic true in
def zcb(h1:a.natAbs<2^j)(h2:b.natAbs<2^k)(h:j+k<=134217728):IntMulOk a b:=by
 have f:∀{x:Int}{m:Nat},x.natAbs<2^m->intBits x<=m:=fun {x m} hx=>by
  unfold intBits;split
  ·exact cb _
  ·rename_i h0;have QK:x.natAbs≠0:=by simpa using h0
   exact (tW QK).mpr hx
 exact jgf (f h1) (f h2) h
def Vs(B:Nat)(l:av):Prop:=∀t∈l,t.2.natAbs<=B
theorem CH:∀{f:av},IsForm f->∀t∈f,aK f t.1=t.2
 |[],_,t,h=>by simp at h
 |p::r,hf,t,h=>by
  have h1:=qY.mp hf.rise;rcases ba.mp h with e|e
  ·rw[e];exact qt h1.1
  ·have hr:IsForm r:=⟨h1.2,λq hq=>hf.nz q (by simp[hq])⟩
   have:=CH hr t e
   have h2:=h1.1 t e;rw[aK,aq (by lia),this];lia
def _root_.L2.ag.write(h:ag HB H)(ha:HB a=none):ag HB (upd H a o):=λb u e=>by
 rw[aO (cE e ha)];exact h b u e
def a7.cat{H H':Hp}{a b c:Addr}{l m:av}{ps qs:List Addr}(h1:cj H ps l)(h2:cj H qs m)(s:ag H H')(hc:H' c=some (.lst (ps.map V.ref++qs.map V.ref))):a7 H' c (l++m) :=
 ⟨ps++qs,by rw[hc,aQ],cj.append (h1.keep λb xs z=>s b _ z) (h2.keep λb xs z=>s b _ z)⟩
def _root_.L2.TL.seq{K:Frag}{H:Hp}{a:Addr}{l:av}(h:TL K H a l):∃xs,ai K H a xs:=let ⟨ps,h1,_⟩:=h; ⟨_,h1⟩
def T9{K:Frag}{a:Addr}{l:av}{H:Hp}{te:TE}{R:List V->Hp->Addr->Prop}(f:Int×Int->Int×Int)(hT:TL K H a l)(hl:l.length<=1000000)(rest:List (Option V)){σ:St}(hσ:σ=none::none::rest)
  (he:∀t∈l,∀(H2:Hp) (R:V->Hp->Prop),ag H H2->(∀w,H2 w=none->R (.ref w) (upd H2 w (.tup [.int (f t).1,.int (f t).2])))->te (some (.int t.1)::some (.int t.2)::rest) H2 R)
  (q:∀(D:Addr) (ys:List V) (H2:Hp),H D=none->a7 (upd H2 D (.lst ys)) D (l.map f)->ag H (upd H2 D (.lst ys))->R ys H2 D) :
  ∃W:Nat->Nat->List V->St->Hp->Prop,(∃m,W 0 m [] σ H)/\∀i m ys σ H,W i m ys σ H ->
   ((gV K a).stop i H/\∀D,H D=none->R ys H D) \/
   ((gV K a).go i H/\ys.length<sizeLine/\∃ N:List V->St->Hp->Prop,(∀ cH σ' H',N cH σ' H'->∃ m',m'<m/\W (i+1) m' cH σ' H') /\ ∀x H',(gV K a).yld i H x H'->gm K 2 (cB (a9 0) (cB (a9 1) fW)) x σ H' λσ2 H2=>AV σ2 H2 λb H3=>if b=true then te σ2 H3 λy H4=>N (ys++[y]) σ2 H4 else N ys σ2 H3):=by
 obtain⟨ps,hS,hP⟩:=hT;subst hσ;refine jI (K:=K) (a:=a) (xs:=ps.map V.ref) (R:=R) (λi ys σ H2=>∃(v0 v1:Option V) (qs:List Addr),σ=v0::v1::rest/\ys=qs.map V.ref/\cj H2 qs ((l.take i).map f)/\ag H H2)
  ⟨none,none,[],rfl,rfl,.nil,ag.refl _⟩ (λi ys σ H2 hi ⟨_,_,qs,_,e1,e2,e3⟩=>⟨e3.seq hS,by rw[e1,ay,e2.length,ay,c7];lia⟩) (by rw[ay,hP.length];exact dq (cP hl)) ?_ ?_
 ·rintro i z ys σ H2 hi ⟨v0,v1,qs,rfl,rfl,g2,g4⟩;obtain⟨p,FD,rfl⟩:=jH hi;obtain⟨t,bQ,dk⟩:=hP.at' FD;have bz:l.take (i+1)=l.take i++[t]:=by rw[dR,bQ];rfl
  exists p,_,rfl,aG.of (g4 _ _ dk),rfl,_,_,rfl,_,_,rfl,rfl,?_;show te (some (.int t.1)::some (.int t.2)::rest) H2 _;refine he t (cM bQ) H2 _ g4 λw hw=>?_
  have j6:ag H2 (upd H2 w (.tup [.int (f t).1,.int (f t).2])):=ag.upd hw;exists _,_,qs++[w],rfl,(by rw[aQ];rfl),?_,g4.trans j6;rw[bz,aQ];exact cj.snoc (g2.keep λb xs z=>j6 b _ z) au
 ·rintro ys σ H2 ⟨v0,v1,qs,rfl,rfl,g2,g4⟩ w hw;have Dd:l.take (ps.map V.ref).length=l:=by rw[ay,hP.length,dH]
  rw[Dd]at g2;have j6:ag H2 (upd H2 w (.lst (qs.map V.ref))):=ag.upd hw;exact q w _ _ (g4.free hw) ⟨qs,au,g2.keep λb xs z=>j6 b _ z⟩ (g4.trans j6)
def xk{H:Hp}{a b:Addr}{o:HO}(h:H a=some o)(hb:H b=none):b≠a:=(cE h hb).symm
end My
namespace OF
open PySem
noncomputable def dA(t:Int×Int)(m:av):av:=m.map λu=>(Builtin.bitOr t.1 u.1,t.2*u.2)
def bF(l m:av):av:=l.flatMap λt=>dA t m
def IT(t:Int×Int)(m:av):(dA t m).length=m.length:=ay _
def VR(t u:Int×Int)(m:av):dA t (m++[u])=dA t m++[(Builtin.bitOr t.1 u.1,t.2*u.2)]:=by unfold dA;rw[aQ];rfl
def YB(l m:av)(t:Int×Int):bF (l++[t]) m=bF l m++dA t m:=by unfold bF;rw[List.flatMap_append];simp
theorem uA:∀(l m:av),(bF l m).length=l.length*m.length
 |[],m=>by simp[bF]
 |t::l,m=>by
  have:=uA l m
  have e:bF (t::l) m=dA t m++bF l m:=by unfold bF;rw[jd]
  rw[e,aS,IT,this,aW,FP,Nat.one_mul,Fg]
def PD(h:x∈bF l m):∃t∈l,∃u∈m,x=(Builtin.bitOr t.1 u.1,t.2*u.2):=by
 unfold bF at h;obtain⟨t,ht,h⟩:=Cs.mp h;unfold dA at h;obtain⟨u,hu,e⟩:=bV.mp h;nomatch t,ht,u,hu,e.symm
noncomputable def cA(φ:Int->Int):av->Int
 |[]=>0
 |t::r=>φ t.1*t.2+cA φ r
theorem ML(φ:Int->Int):∀a b:av,cA φ (a++b)=cA φ a+cA φ b
 |[],b=>by simp[cA]
 |t::r,b=>by rw[ug,cA,cA,ML φ r b];lia
theorem Pu(φ:Int->Int)(k:Int):∀l:av,cA φ l=φ k*aK l k+cA φ (l.filter λt=>decide (t.1≠k))
 |[]=>by simp[cA,aK]
 |t::r=>by
  have ih:=Pu φ k r;rw[cA,aK,ih];by_cases h:t.1=k
  ·rw[ax h,y9 (by simp[h]),h,A9];lia
  ·rw[aq h,Dn (by simp[h]),cA,ua];lia
theorem KC(k j:Int):∀l:av,aK (l.filter λt=>decide (t.1≠k)) j=if j=k then 0 else aK l j
 |[]=>by simp[aK]
 |t::r=>by
  have ih:=KC k j r;by_cases h:t.1=k
  ·rw[y9 (by simp[h]),ih,aK];by_cases hj:j=k
   ·simp[hj]
   ·rw[aq hj,aq hj,aq (by lia)];lia
  ·rw[Dn (by simp[h]),aK,aK,ih];by_cases hj:j=k
   ·rw[ax hj,ax hj,aq (by lia)];rfl
   ·rw[aq hj,aq hj]
theorem Nj(φ:Int->Int):∀(n:Nat) (l:av),l.length<=n->(∀k,aK l k=0)->cA φ l=0
 |_,[],_,_=>rfl
 |0,t::r,h,_=>by simp at h
 |n+1,t::r,h,hc=>by
  rw[Pu φ t.1,hc,Int.mul_zero,ua];have e:((t::r).filter λu=>decide (u.1≠t.1))=r.filter λu=>decide (u.1≠t.1):=y9 (by simp)
  rw[e];refine Nj φ n _ ?_ λk=>?_
  ·have:=gI (λu:Int×Int=>decide (u.1≠t.1)) r
   rw[aW]at h;lia
  ·rw[<-e,KC];split
   ·rfl
   ·exact hc k
theorem OR(φ:Int->Int):∀l:av,cA φ (l.map λp=>(p.1,-p.2)) = -cA φ l
 |[]=>rfl
 |t::r=>by
  rw[bw,cA,cA,OR φ r];show φ t.1 * -t.2 + -cA φ r=_;rw[Int.mul_neg];lia
def WH(φ:Int->Int)(h:∀k,aK l k=aK m k):cA φ l=cA φ m:=by
 have:=Nj φ _ (l++m.map λp=>(p.1,-p.2)) (aJ _) λk=>by rw[eE,oX,h];lia
 rw[ML,OR]at this;lia
theorem A4(φ:Int->Int)(c:Int):∀l:av,cA φ (l.map λp=>(p.1,p.2*c))=cA φ l*c
 |[]=>by simp[cA]
 |t::r=>by rw[bw,cA,cA,A4 φ c r,Int.add_mul,Int.mul_assoc]
noncomputable def DK(g k:Int):Int:=if Builtin.bitAnd k g=k then 1 else 0
theorem Cd(g:Int):∀l:av,mn l g=cA (DK g) l
 |[]=>rfl
 |t::r=>by
  have ih:=Cd g r;unfold mn at ih ⊢;rw[cA,<-ih,DK];by_cases h:Builtin.bitAnd t.1 g=t.1
  ·rw[ax h,Dn (by simp[h]),bw,gh,Ca]
  ·rw[aq h,y9 (by simp[h]),LC,ua]
def Av(a b:Nat):Builtin.bitAnd (a:Int) (b:Int)=((a&&&b:Nat):Int):=by
 have:=U1 (x:=(a:Int)) (y:=(b:Int)) (iW _) (iW _)
 simpa using this
def Bk(a b:Nat):Builtin.bitOr (a:Int) (b:Int)=((a|||b:Nat):Int):=by
 have:=ZL (x:=(a:Int)) (y:=(b:Int)) (iW _) (iW _)
 simpa using this
def zA(l:av)(k:Int):aK l k=cA (λj=>if j=k then 1 else 0) l:=by
 induction l with
 |nil=>rfl
 |cons t r ih =>
  rw[aK,cA,ih];split<;>simp_all
def za6(a b:Int):Builtin.bitAnd a b=Builtin.bitAnd b a:=by
 unfold Builtin.bitAnd;by_cases h1:0<=a<;>by_cases h2:0<=b<;>simp[h1,h2,Nat.and_comm,PY]
def Vx(a b:Int):Builtin.bitOr a b=Builtin.bitOr b a:=by unfold Builtin.bitOr;rw[za6]
def L6(l m:av)(k:Int):aK (bF l m) k=aK (bF m l) k:=by
 have e0:∀l:av,aK (bF l []) k=0:=λl=>by
  induction l with
  |nil=>rfl
  |cons t r ih =>
   have e:bF (t::r) []=dA t []++bF r []:=(by unfold bF;rw[jd]);rw[e];exact ih
 have step:∀(l m:av) (t:Int×Int),aK (bF m (t::l)) k=aK (dA t m) k+aK (bF m l) k:=by
  intro l m t;induction m with
  |nil=>rfl
  |cons u r ih =>
   have e1:bF (u::r) (t::l)=dA u (t::l)++bF r (t::l):=by unfold bF;rw[jd]
   have e2:bF (u::r) l=dA u l++bF r l:=by unfold bF;rw[jd]
   have e3:dA u (t::l)=(Builtin.bitOr u.1 t.1,u.2*t.2)::dA u l:=rfl;have e4:dA t (u::r)=(Builtin.bitOr t.1 u.1,t.2*u.2)::dA t r:=rfl;rw[e1,eE,ih,e2,eE,e3,e4,aK,aK,Vx u.1 t.1,Int.mul_comm u.2 t.2];lia
 induction l with
 |nil=>rw[e0];rfl
 |cons t r ih =>
  have e:bF (t::r) m=dA t m++bF r m:=by unfold bF;rw[jd]
  rw[e,eE,ih,step]
end OF
namespace L2
open PySem PySem.Spec PyProof.Rows
def Inv.turnedT(I:Inv X aa σ H s)(k:∀b u,b≠e->b≠it->s.heap.get? b=some u->h'.get? b=some u)
  (fe:eo X aa H e) (fi:eo X aa H it) (hT:s.heap.objs.size<=T) (new:cn X.prog X.w (upd H T o) h' T o):Inv X aa σ (upd H T o) {s with heap:=h',toks:=t'}:=by
 have hn:H T=none:=I.hok.fresh hT;have ne1:∀b u,H b=some u->b≠e/\b≠it:=λb u q=>⟨cE q fe.1,cE q fi.1⟩
 have nm:∀b,b∉[e,it]->b≠e/\b≠it:=λb hb=>⟨λz=>hb (by simp[z]),λz=>hb (by simp[z])⟩
 have lt:∀b u,s.heap.get? b=some u->b≠T:=λb u q=>dB (cy (bo q) hT)
 refine I.step (g':=s.gens) (d':=s.drawn) (ch:=[e,it]) (λb hb=>?_) (λb u _ _ hc q _=>k b u (nm b hc).1 (nm b hc).2 q) (λb u _ _ hc q _=>⟨u.slots,k b u (nm b hc).1 (nm b hc).2 q⟩) (λb u _ q n=>by rw[aO (lt b u q)];exact n)
  (λb u hc q=>⟨u,k b u (nm b hc).1 (nm b hc).2 q⟩) (λb xs q=>by rw[aO (cE q hn)];exact q) (λb u xs q=>by rw[aO (cE q hn)];exact q) (λb ps q=>⟨#[],by rw[aO (cE q hn),q];simp⟩) (λm hm=>?_) (λb u q=>?_) I.bare
 ·rcases ba.mp hb with z|z
  ·subst z;nomatch fe.2.2.2.1,fe.2.1,fe.2.2.2.2.1,fe.2.2.2.2.2
  ·have z':b=it:=by simpa using z
   subst z';nomatch fi.2.2.2.1,fi.2.1,fi.2.2.2.2.1,fi.2.2.2.2.2
 ·obtain⟨u,es,ep,ho,r⟩:=hm;nomatch u,es,ep,k _ u (Ne.symm fe.2.1) (Ne.symm fi.2.1) ho,r
 ·by_cases hb:b=T
  ·subst hb;rw[au]at q;cases q;exact new
  ·rw[aO hb]at q;refine (I.hok b u q).stay (λc v hc z=>?_) (λc z=>by rw[aO (cE z hn)];exact z) λc xs z=>by rw[aO (cE z hn)];exact z
   rcases hc with w|w
   ·rw[w]at z ⊢;exact k b v (ne1 b u q).1 (ne1 b u q).2 z
   ·exact k c v (ne1 c _ w).1 (ne1 c _ w).2 z
def vD(K:Frag)(a:Addr):It :=
 ⟨λi H=>∃xs x,ai K H a xs/\xs[i]?=some x,λi H y H'=>∃T x,H T=none/\y=.ref T/\H'=upd H T (.tup [.int (i:Nat),x])/\∀xs,ai K H a xs->xs[i]?=some x,λi H=>∃xs,ai K H a xs/\xs.length<=i⟩
def SS{P:Program}{w:World}{K:Frag}{elts:List Expr}{x1:Nat}{pos:Pos}(a e it:Addr)(Ql:e≠it):kA P w K (.Tuple elts x1 pos) (vD K a) [e,it] e (λi h=>(∃old,IsEnum h e it i old)/\h.IsListIter it a i) where
 mem:=by simp
 obj:=λi h st b hb=>by
  obtain⟨⟨old,he⟩,o,ho,c,d⟩:=st;rcases ba.mp hb with z|z
  ·subst z;exact⟨_,he,λv z=>by cases z⟩
  ·have z':b=it:=by simpa using z
   subst z';exact⟨o,ho,λv z=>by rw[d]at z;cases z⟩
 keep:=λi h h' st k=>by
  obtain⟨⟨old,he⟩,hit⟩:=st;nomatch ⟨old,k e (by simp) _ he⟩,hit.at λo q=>k it (by simp) o q
 item:=by
  intro X hP hw hK hc i aa s σ H E I hf st hg;subst hP hw hK;obtain⟨⟨old,he⟩,hit⟩:=st;obtain⟨xs,x,hq,hx⟩:=hg;obtain⟨af,rv,p,hz⟩:=I.list hq;obtain⟨u,hu,ru⟩:=rv.get hx;have fe:=hf e (by simp);have fi:=hf it (by simp);refine wpAny_pyNext_enum_item he hit p.isList (x:=u) (by simpa using hu) Ql λh1 ho Q9 hT hsz k1=>⟨_,rfl,?_⟩
  have helt:e<s.heap.objs.size:=bo he;have NC:s.heap.objs.size≠e:=qW helt;have eA:it<s.heap.objs.size:=by obtain⟨o,q,_⟩:=hit;exact bo q
  refine wpAny_letOwnedTupleGo_enum ho λh2 yv sb=>?_
  have kk:∀b v,b≠e->b≠it->s.heap.get? b=some v->h2.get? b=some v:=λb v hV iq q=>(sb.2 b hV).trans (k1 b v hV iq q)
  have b9:h2.get? s.heap.objs.size=some {cls:=.type "tuple",data:=.seq #[.int i s.toks,u]}:=(sb.2 _ NC).trans hT;exists .ref s.heap.objs.size,upd H s.heap.objs.size (.tup [.int (i:Nat),x]),I.turnedT (t':=s.toks+1) kk fe fi (aJ _) ⟨by show 2<=sizeLine;decide,[.int i s.toks,u],.cons ⟨_,rfl⟩ (.cons ru .nil),?_⟩,rfl,⟨_,x,I.hok.fresh (aJ _),rfl,rfl,λys hy=>by rw[I.list_inj hy hq];exact hx⟩,⟨⟨_,by simpa using yv⟩,?_⟩,λb hb=>?_
  ·nomatch _,b9,rfl,0,rfl
  ·exact Q9.at λo q=>(sb.2 it Ql.symm).trans q
  ·rcases ba.mp hb with z|z
   ·subst z;rw[aO (Ne.symm NC)];exact fe.1
   ·have z':b=it:=by simpa using z
    subst z';rw[aO (dB eA)];exact fi.1
 done:=by
  intro X hP hw hK hc i aa s σ H E I hf st hg;subst hP hw hK;obtain⟨⟨old,he⟩,hit⟩:=st;obtain⟨xs,hq,hx⟩:=hg;obtain⟨af,rv,p,hz⟩:=I.list hq;obtain⟨f0,f1,f2,f3,f4,f5⟩:=hf it (by simp);have hl:=rv.length;exact wpAny_pyNext_enum_end (I.ok.hd hc) he hit p.isList (by simp;lia) λh' eb=>⟨rfl,I.turned (t':=s.toks) (λb o hb q=>eb b o hb q) f0 f1 f3 f4 f5⟩
 self:=λ_ _ _ _ _ st h=>by
  obtain⟨⟨old,he⟩,_⟩:=st;exact wpAny_pyIter_enum he h
def X8(K:Frag)(ta:TA):TI:=λσ H R=>ta σ H λvs H1=>∃a,vs=[.ref a]/\(∃xs,ai K H1 a xs)/\R (vD K a) H1
def Xf:bootBuiltins "enumerate" = some (.type "enumerate"):=by decide+kernel
def QT{X:Cx}{elts:List Expr}{x1:Nat}{p0 p pos:Pos}{a:Expr}{ta:TA}(hg:Gl X "enumerate")(hm:X.mg "enumerate" = none)(ha:PA X [a] ta)(hs:starEach [a] X.env=[(false,eval a X.env)]:=by rfl) :
  PI X (.Tuple elts x1 p0) (.Call (.Name "enumerate" p) [a] [] pos) (X8 X.K ta):=by
 intro aa s σ H R I h;refine Call_ (nX I hg hm Xf (sS (aI (ha pos aa s σ H _ I h) λus s1 ⟨vs,H1,I1,r1,q1⟩=>?_) hs rfl));obtain⟨b,rfl,⟨xs,hq⟩,q⟩:=q1;obtain⟨u,rfl,ru⟩:=ix r1;cases (show u=Value.ref b from ru);obtain⟨af,rv,p,hz⟩:=I1.list hq;refine call_enumerate_list p.isList λh' he hit hsz k=>wpAny_pyIter_enum he ?_
 have I2:Inv X aa σ H1 {s1 with heap:=h'}:=I1.kept (t':=s1.toks) k;have cY:s1.heap.objs.size+1≠s1.heap.objs.size:=Nat.succ_ne_self _;exists s1.heap.objs.size+1,[s1.heap.objs.size+1,s1.heap.objs.size],_,_,H1,rfl,I2,SS b _ _ cY,⟨⟨_,he⟩,hit⟩,λc hc=>?_,q;have fr:∀c,s1.heap.objs.size<=c->eo X aa H1 c:=λc hc=>I1.fpOk hc (I1.hok.fresh hc)
 rcases ba.mp hc with z|z
 ·subst z;exact fr _ (Mu _)
 ·have z':c=s1.heap.objs.size:=by simpa using z
  subst z';exact fr _ (aJ _)
def TX{K:Frag}{a:Addr}{xs:List V}{g:TG}{tc:TT}{te:TE}{σ:St}{H:Hp}{R:List V->Hp->Addr->Prop}(Pv:Nat->List V->St->Hp->Prop)(h0:Pv 0 [] σ H)(hl:∀i ys σ H,i<=xs.length->Pv i ys σ H->ai K H a xs/\ys.length<=i)(hz:xs.length<=sizeLine)
  (hs:∀i x ys σ H T,xs[i]?=some x->Pv i ys σ H->H T=none->g (.ref T) σ (upd H T (.tup [.int (i:Nat),x])) λσ2 H2=>tc σ2 H2 λb H3=>if b=true then te σ2 H3 λy H4=>Pv (i+1) (ys++[y]) σ2 H4 else Pv (i+1) ys σ2 H3)
  (hd:∀ys σ H,Pv xs.length ys σ H->∀D,H D=none->R ys H D) :
  ∃W:Nat->Nat->List V->St->Hp->Prop,(∃m,W 0 m [] σ H)/\∀i m ys σ H,W i m ys σ H ->
   ((vD K a).stop i H/\∀D,H D=none->R ys H D) \/
   ((vD K a).go i H/\ys.length<sizeLine/\∃ N:List V->St->Hp->Prop,(∀ cH σ' H',N cH σ' H'->∃ m',m'<m/\W (i+1) m' cH σ' H') /\ ∀x H',(vD K a).yld i H x H'->g x σ H' λσ2 H2=>tc σ2 H2 λb H3=>if b=true then te σ2 H3 λy H4=>N (ys++[y]) σ2 H4 else N ys σ2 H3):=by
 exists λi m ys σ H=>m=xs.length-i/\i<=xs.length/\Pv i ys σ H,⟨xs.length,by simp,cb _,h0⟩,?_;rintro i m ys σ H ⟨rfl,hi,p⟩;have q:=hl i ys σ H hi p;by_cases bE:i<xs.length
 ·refine .inr ⟨⟨xs,xs[i],q.1,by simp[bE]⟩,(by lia),Pv (i+1),λcH σ' H' p'=>⟨xs.length-(i+1),by lia,rfl,bE,p'⟩,λx H' y=>?_⟩;obtain⟨T,z,hT,rfl,rfl,y⟩:=y;exact hs i z ys σ _ T (y xs q.1) p hT
 ·have e:i=xs.length:=by lia
  subst e;exact .inl ⟨⟨xs,q.1,aJ _⟩,hd ys σ H p⟩
open PySem PySem.Spec PyProof.Rows
def RF:typeLookup (.type "list") "keys" = pure none:=by rw[typeLookup_type,builtinLookup_eq_fast];kernel_rfl
section
variable{prog:Program}{w:World}{A:Around}{E:Value->Shared->Prop}{s:Shared}{a:Addr}
def RU(hx:s.heap.get? a=some {cls:=.type "list",dict:=none,data:=.seq af n,slots:=sl})(hA:A.handled=none)
  (h:∀h' tk e,Heap.NewExcOf s.heap h' e "AttributeError" -> Q none {s with heap:=h',toks:=tk}):wpAny (model prog w) A (getAttr? (.ref a) "keys") Q E s:=by
 obtain⟨hp,g,d,tk,os⟩:=s;have hT:∀Io,(⟨hp,g,d,Io,os⟩:Shared).TypeIs (.ref a) "list" := λ_=>⟨_,hx,rfl⟩
 have f1:=sub_AttributeError;have f3:=PySem.F.slot_list_getattribute.lookup;have f4:=PySem.F.slot_list_getattribute.bind (.ref a);have f5:=am_list_getattr_none;unfold getAttr? getAttrBy? getAttrBy;repeat (any_goals (first|assumption|exact hT _|((with_reducible show wpAny _ _ (call (Value.builtin "list.__getattribute__") _ _) _ _ _);refine ke PySem.F.slot_list_getattribute (hT _) am_entry_list_getattribute (PySem.F.args_list_getattribute_2 _ _) (meets_getattribute_miss_list a af n sl "keys" _ RF (by decide+kernel) (by decide+kernel)) ⟨hx,hA,λh' Io e cw=>?_⟩)|wp_step))
 obtain⟨t',u',he⟩:=cw.there;show wpAny _ _ (getattributeRaised _ _ _ _ _ _ _) _ _ _;unfold getattributeRaised;repeat (any_goals (first|assumption|wp_step))
 exact h _ _ _ cw.of
end
def Nu:entryFor table "dict.update.loop" = some Builtin.«dict.update.loop» := entryFor_of_tree (by kernel_rfl)
def mX(d:OF.av)(l:OF.av):OF.av:=l.foldl (λd t=>OF.fY d t.1 t.2) d
section
variable{X:Cx}{aa:List (Addr×Obj)}{σ:St}{H:Hp}
def zaf(hh:A.handled=none)(hS:∀o,ai X.K (upd H d o) l (ps.map V.ref))(hP:∀o,cj (upd H d o) ps tt)(hF:∀o,eo X aa (upd H d o) it)(lZ:(d == sysModules)=false) :
  ∀(r i:Nat) (kv:OF.av) (s:Shared),i+r=tt.length->kv.length+r<sizeLine->Inv X aa σ (upd H d (.dK (kv.map cR))) s->s.heap.IsListIter it l i ->
   (∀s',Inv X aa σ (upd H d (.dK ((mX kv (tt.drop i)).map cR))) s'->R (.ok (.ret .none)) s') ->
   codeAny (model X.prog X.w) A (.builtin "dict.update.loop" ⟨[.ref d,.ref it,rawInt i,.none],[]⟩) R s:=by
 intro r;induction r with
 |zero =>
  intro i kv s hi hz I st q;obtain⟨af,rv,p,pK⟩:=I.list (hS _);have hl:=rv.length;have da:=(hP (.dK (kv.map cR))).length;rw[ay]at hl;obtain⟨f0,f1,f2,f3,f4,f5⟩:=hF (.dK (kv.map cR));refine C4 Nu ?_;show wpAny _ _ (pyNext (.ref it) >>= _) _ _ _;refine aA (wpAny_pyNext_list_end (A:=A.under _) hh st p.isList (by simp;lia) λh' eb=>?_);refine aA (m:=Builtin.Dict.addKeywords d []) (bg (bg ?_));have I':Inv X aa σ (upd H d (.dK (kv.map cR))) {s with heap:=h'}:=I.turned (t':=s.toks) (λb o hb e=>eb b o hb e) f0 f1 f3 f4 f5;refine q _ ?_;rw[FN (by lia)];exact I'
 |succ r ih =>
  intro i kv s hi hz I st q;obtain⟨af,rv,p,pK⟩:=I.list (hS _);have da:=(hP (.dK (kv.map cR))).length;have eA:i<tt.length:=by lia
  obtain⟨pa,Rc,Tq⟩:=(hP (.dK (kv.map cR))).at (i:=i) (t:=tt[i]) (by simp[eA]);obtain⟨u,hu,ru⟩:=rv.get (i:=i) (x:=V.ref pa) (by rw[bY,Rc];rfl);cases (show u=Value.ref pa from ru);obtain⟨f0,f1,f2,f3,f4,f5⟩:=hF (.dK (kv.map cR));refine C4 Nu ?_;show wpAny _ _ (pyNext (.ref it) >>= _) _ _ _;refine aA (wpAny_pyNext_list_item st p.isList (x:=.ref pa) (by simpa using hu) λh1 bu sb=>?_);have I1:Inv X aa σ (upd H d (.dK (kv.map cR))) {s with heap:=h1}:=I.turned (t':=s.toks) (λb o hb e=>(sb.2 b hb).trans e) f0 f1 f3 f4 f5;obtain⟨_,de,r2,t2⟩:=(show cn X.prog X.w _ h1 pa (.tup _) from I1.hok pa _ Tq);obtain⟨x1,x2,rfl⟩:=Yh r2;obtain⟨ot,bQ,dk,nt,Zl⟩:=id t2;dsimp only;refine aA (pq (aA (wpAny_tryCatch ?_)));unfold Builtin.Dict.pairItems;refine aA (xa (T := "tuple") ⟨ot,bQ,dk⟩ ?_);rw[ax (by decide)];refine aA (nq bQ Zl (bg ?_));show wpAny _ _ (holding [Value.int tt[i].1 x1,Value.int tt[i].2 x2] (dictSet d (Value.int tt[i].1 x1) (Value.int tt[i].2 x2))) _ _ _;refine pq ?_;obtain⟨z,hd,vs,rel,dd⟩:=zM I1.hok (show upd H d (.dK (kv.map cR)) d=some (.dK (kv.map cR)) from au);have Uw:=rel.length;rw[ay]at Uw;refine wpAny_dictSet_pairs (knd:=eJ X.prog X.w) (k:=Sum.inl tt[i].1) (LN _ _ _ _) dd (λh2 om mH=>?_) (by lia);have kQ:=OF.LP kv tt[i].1 tt[i].2;have I2:Inv X aa σ (upd (upd H d (.dK (kv.map cR))) d (.dK ((OF.fY kv tt[i].1 tt[i].2).map cR))) {s with heap:=h2,toks:=s.toks+1}:=by
   refine E5 (s:={s with heap:=h1}) I1 (by rw[au];exact True.intro) mH (let ⟨q,_,_,hq,_⟩:=om; ⟨q,hq⟩) (Ip (by rw[ay];lia) hd ?_ om);rw[<-C0];exact rel.put (Sum.inl tt[i].1) ⟨x2,rfl⟩
  rw[zX]at I2;refine bg ⟨AN _ (by decide+kernel),?_⟩;have UX:it≠d:=by
   intro z
   have:=(hF (.dK (kv.map cR))).1
   rw[z,au]at this;cases this
  have cU:h2.IsListIter it l (i+1):=bu.at λo e=>(mH.2 it UX).trans e
  show codeAny _ _ (.builtin "dict.update.loop" ⟨[.ref d,.ref it,rawInt ((i:Int)+1),.none],[]⟩) _ _
  have:=ih (i+1) (OF.fY kv tt[i].1 tt[i].2) _ (by lia) (by lia) I2 cU λs' I'=>q s' (by
   have e:tt.drop i=tt[i]::tt.drop (i+1):=sP eA;rw[e];exact I')
  simpa using this
def Xy(hc:X.calm=true):gH X (.type "dict") (λxs H Q=>∃(a:Addr) (l:OF.av),xs=[.ref a]/\TL X.K H a l/\l.length<=1000000/\∀d,H d=none->Q (.ref d) (upd H d (.dK ((mX [] l).map cR)))):=by
 intro aa s σ H xs us Q I r h;obtain⟨a,l,rfl,⟨ps,hS,hP⟩,hz,q⟩:=h;obtain⟨u,rfl,ru⟩:=ix r;cases (show u=Value.ref a from ru);have hA:X.A.handled=none:=I.ok.hd hc;refine callType_codes (Q₁:=λobj s₁=>obj=.ref s.heap.objs.size/\s₁={s with heap:=s.heap.push {cls:=.type "dict",data:=.dict #[]}}) PySem.F.kt_called_dict (PySem.F.kt_typeCall_dict_1 _) PySem.F.entry_dict_init (kt_code_dict_new _ ⟨rfl,rfl⟩) ?_;rintro obj s₁ ⟨rfl,rfl⟩;have GB:(s.heap.push {cls:=.type "dict",data:=.dict #[]}).DictOf (eJ X.prog X.w) s.heap.objs.size []:=Iq s.heap;have I1:Inv X aa σ (upd H s.heap.objs.size (.dK [])) {s with heap:=s.heap.push {cls:=.type "dict",data:=.dict #[]}} :=
  I.laid (a:=s.heap.objs.size) (o:=.dK []) (t':=s.toks) (λ_ _ q=>cv _ q) (aJ _) (Nq s.heap I.big)
 have hn:H s.heap.objs.size=none:=I.hok.fresh (aJ _);have lZ:(s.heap.objs.size == sysModules)=false:=(zM I1.hok au).2.1;have p7:∀o,ai X.K (upd H s.heap.objs.size o) a (ps.map V.ref):=λo=>(ag.upd hn).seq hS
 have Uh:∀o,cj (upd H s.heap.objs.size o) ps l:=λo=>hP.keep λb xs z=>ag.upd hn b _ z
 generalize hd0:s.heap.objs.size=d at *;exists GB.typeIs,PySem.F.args_dict_init_2 _ _,?_;unfold Builtin.«dict.__init__»;refine aA ?_;unfold Builtin.Dict.selfAndRest;refine aA (wpAny_notOrdered_dict GB.typeIs ?_);show wpAny _ _ (pure (d,[Value.ref a])) _ _ _;refine bg ?_;show wpAny _ _ (Builtin.Dict.updateFrom "dict.__init__" d (.ref a) [] .none) _ _ _;unfold Builtin.Dict.updateFrom;obtain⟨af,rv,p,pK⟩:=I1.list (p7 _);obtain⟨ol,nl,lR,da,lq,vg⟩:=id p;refine aA (xa (T := "list") ⟨ol,lR,da⟩ ?_);rw[ax (by decide)];obtain⟨oc,od,odt,lV⟩:=ol;dsimp only at da lq vg;subst da lq vg;refine aA (RU lR hA λh2 tk e ne=>?_);have I2:Inv X aa σ (upd H d (.dK [])) {s with heap:=h2,toks:=tk}:=I1.kept (t':=tk) λb o q=>ne.keeps b o q
 obtain⟨de,rv2,p2,_⟩:=I2.list (p7 _);rw[ax (by rfl)];refine aA (zR (aA (tq p2.isList ?_)));have I3:Inv X aa σ (upd H d (.dK [])) {s with heap:=h2.push {cls:=.type "list_iterator",data:=.fields #[.ref a,.int 0 0]},toks:=tk}:=I2.kept (t':=tk) λb o q=>cv _ q
 have gy:(upd H d (.dK [])) h2.objs.size=none:=I2.hok.fresh (aJ _);have PH:h2.objs.size≠d:=λz=>by rw[z,au]at gy;cases gy
 refine bg ⟨AN _ (by decide+kernel),?_⟩;show codeAny _ _ (.builtin "dict.update.loop" ⟨[.ref d,.ref h2.objs.size,rawInt ((0:Nat):Int),.none],[]⟩) _ _;refine zaf (A:=X.A.in1) (it:=h2.objs.size) hA p7 Uh (λo=>?_) lZ l.length 0 [] _ (by lia) ?_ I3 ⟨_,c8 _ rfl,rfl,rfl⟩ λs' I'=>?_
 ·have hH:H h2.objs.size=none:=by rw[aO PH]at gy;exact gy
  exact I2.fpOk (s:={s with heap:=h2,toks:=tk}) (aJ _) (by rw[aO PH];exact hH)
 ·have:(1000000:Nat)<sizeLine:=by decide
  simp;lia
 ·rw[mZ]at I';nomatch rfl,⟨.ref d,_,I',rfl,q d hn⟩
end
end L2
namespace OF
open PySem
noncomputable def ip(s:Int)(j:Nat)(v:Nat->Int):Nat->Int:=λg=>v g+if g.testBit j then s*v (g-2^j)else 0
def RY(h:g.testBit j=true):g-2^j=g^^^2^j:=by
 have h1:(g^^^2^j)/2^j%2=0:=by
  have:(g^^^2^j).testBit j=false:=by rw[DX,h,Nat.testBit_two_pow_self];rfl
  rw[vJ]at this
  have:=wW this
  lia
 have h2:=Mj h1;have h3:(g^^^2^j)|||2^j=g:=by
  apply rf;intro i;rw[sO,DX,uZ];by_cases e:j=i
  ·subst e;simp[h]
  ·simp[e]
 lia
def pf(h:g.testBit j=true)(i:Nat):(g-2^j).testBit i=(g.testBit i&&decide (i≠j)):=by
 rw[RY h,DX,uZ];by_cases e:j=i
 ·subst e;simp[h]
 ·have e':¬i=j:=λz=>e z.symm
  simp[e,e']
def fm(s:Int)(v:Nat->Int):Nat->Nat->Int
 |0=>v
 |m+1=>ip s m (fm s v m)
def S0(s:Int)(j:Nat)(v w:Nat->Int):ip s j (λg=>v g+w g)=λg=>ip s j v g+ip s j w g:=by
 funext g
 show v g+w g+(if g.testBit j then s*(v (g-2^j)+w (g-2^j))else 0)=(v g+if g.testBit j then s*v (g-2^j)else 0)+(w g+if g.testBit j then s*w (g-2^j)else 0);split
 ·rw[A9];lia
 ·lia
theorem Jw(s:Int)(v w:Nat->Int):∀m,fm s (λg=>v g+w g) m=λg=>fm s v m g+fm s w m g
 |0=>rfl
 |m+1=>by
  show ip s m (fm s (λg=>v g+w g) m)=_;rw[Jw s v w m,S0];rfl
theorem Ot(s:Int):∀m,fm s (λ_=>0) m=λ_=>0
 |0=>rfl
 |m+1=>by
  show ip s m (fm s (λ_=>0) m)=_;rw[Ot s m];funext g;unfold ip;split<;>simp
def ig(a g j:Nat):Prop:=(∀i,i<j->a.testBit i=true->g.testBit i=true)/\∀i,j<=i->a.testBit i=g.testBit i
open Classical in
theorem Ck(a:Nat)(c:Int):∀(j g:Nat),fm 1 (λk=>if k=a then c else 0) j g=if ig a g j then c else 0
 |0,g=>by
  have h:ig a g 0↔g=a:=by
   constructor
   ·intro h;apply rf;intro i;exact (h.2 i (cb _)).symm
   ·intro h;subst h;nomatch λi hi=>by lia,λ_ _=>rfl
  show (if g=a then c else 0)=_;by_cases e:g=a
  ·rw[ax e,ax (h.mpr e)]
  ·rw[aq e,aq (λz=>e (h.mp z))]
 |j+1,g=>by
  show ip 1 j (fm 1 (λk=>if k=a then c else 0) j) g=_;unfold ip;rw[Ck a c j g];by_cases hg:g.testBit j=true
  ·rw[ax hg,Ck a c j (g-2^j),Ca];by_cases ha:a.testBit j=true
   ·have n2:¬ig a (g-2^j) j:=λz=>by
     have:=z.2 j (aJ _)
     rw[pf hg,ha]at this;simp at this
    have e:ig a g j↔ig a g (j+1):=by
     constructor
     ·intro z;exists λi hi h=>?_,λi hi=>z.2 i (by lia);by_cases q:i<j
      ·exact z.1 i q h
      ·rw[<-z.2 i (by lia)];exact h
     ·intro z;exists λi hi h=>z.1 i (by lia) h,λi hi=>?_;by_cases q:i=j
      ·subst q;rw[ha,hg]
      ·exact z.2 i (by lia)
    rw[aq n2];by_cases q:ig a g j
    ·rw[ax q,ax (e.mp q)];lia
    ·rw[aq q,aq (λz=>q (e.mpr z))];lia
   ·have n1:¬ig a g j:=λz=>by
     have:=z.2 j (aJ _)
     rw[hg]at this;exact ha this
    have e:ig a (g-2^j) j↔ig a g (j+1):=by
     constructor
     ·intro z;exists λi hi h=>?_,λi hi=>?_
      ·by_cases q:i<j
       ·have:=z.1 i q h
        rw[pf hg]at this;simp at this;exact this.1
       ·have:i=j:=by lia
        subst this;exact hg
      ·have:=z.2 i (by omega)
       rw[pf hg]at this;rw[this];simp;lia
     ·intro z;exists λi hi h=>?_,λi hi=>?_
      ·rw[pf hg,z.1 i (by omega) h];simp;lia
      ·rw[pf hg];by_cases q:i=j
       ·subst q;simp[ha]
       ·rw[z.2 i (by omega)];simp[q]
    rw[aq n1];by_cases q:ig a (g-2^j) j
    ·rw[ax q,ax (e.mp q)];lia
    ·rw[aq q,aq (λz=>q (e.mpr z))];omega
  ·rw[aq hg,P8];have e:ig a g j↔ig a g (j+1):=by
    constructor
    ·intro z;exists λi hi h=>?_,λi hi=>z.2 i (by omega);by_cases q:i<j
     ·exact z.1 i q h
     ·rw[<-z.2 i (by omega)];exact h
    ·intro z;exists λi hi h=>z.1 i (by omega) h,λi hi=>?_;by_cases q:i=j
     ·subst q;cases ha:a.testBit i with
      |true=>exact absurd (z.1 i (by lia) ha) hg
      |false=>simpa using hg
     ·exact z.2 i (by omega)
   by_cases q:ig a g j
   ·rw[ax q,ax (e.mp q)]
   ·rw[aq q,aq (λz=>q (e.mpr z))]
def YM(ha:a<2^m)(hg:g<2^m):ig a g m↔a&&&g=a:=by
 have hi:∀{x:Nat},x<2^m->∀i,m<=i->x.testBit i=false:=λhx i h=>sN (cy hx (dm (by decide) h))
 constructor
 ·intro z;apply rf;intro i;rw[sh];by_cases q:i<m
  ·cases h:a.testBit i with
   |true=>rw[z.1 i q h];rfl
   |false=>rfl
  ·rw[hi ha i (by lia),hi hg i (by omega)];rfl
 ·intro z;refine⟨λi _ h=>?_,λi h=>by rw[hi ha i h,hi hg i h]⟩
  have:=congrArg (λx=>x.testBit i) z
  simp only[sh,h]at this;simpa using this
theorem HH:∀{l:av},(∀t∈l,0<=t.1/\t.1<2^m)->∀g,g<2^m->fm 1 (λk=>aK l (k:Int)) m g=mn l (g:Int)
 |[],_,g,_=>by
  show fm 1 (λ_=>0) m g=0;rw[Ot]
 |t::r,h,g,hg=>by
  have ih:=HH (l:=r) (λu hu=>h u (by simp[hu])) g hg;obtain⟨h0,h1⟩:=h t (by simp);obtain⟨a,ha⟩:=mf h0;have WW:a<2^m:=by
   rw[ha]at h1;have e:((2^m:Nat):Int)=(2:Int)^m:=by norm_cast
   lia
  have e1:(λk:Nat=>aK (t::r) (k:Int))=λk=>(if k=a then t.2 else 0)+aK r (k:Int):=by
   funext k
   rw[aK,ha];by_cases q:k=a
   ·rw[ax q,ax (by lia)]
   ·rw[aq q,aq (by lia)]
  rw[e1,Jw];show fm 1 (λk=>if k=a then t.2 else 0) m g+fm 1 (λk=>aK r (k:Int)) m g=_;rw[Ck,ih,Cd,Cd,cA,DK,ha,Av];have e2:=YM WW hg;by_cases q:a&&&g=a
  ·rw[ax (e2.mpr q),ax (by lia),Ca]
  ·rw[aq (λz=>q (e2.mp z)),aq (by lia),LC]
noncomputable def bR(ns:List Int)(p:Nat):Int:=ns.getD p 0
def El(s:Int)(j:Nat)(ns:List Int):List Int:=(List.range ns.length).map (ip s j (bR ns))
def Tp(v:Nat->Int)(h:p<n):bR ((List.range n).map v) p=v p:=by
 unfold bR;rw[Ah,bY,qc h];rfl
def zcr(h:∀p,p<n->v p=w p)(hg:g<n):ip s j v g=ip s j w g:=by
 unfold ip;rw[h g hg,h (g-2^j) (je (HR _ _) hg)]
def Vt(s:Int)(j n:Nat)(v:Nat->Int):El s j ((List.range n).map v)=(List.range n).map (ip s j v):=by
 unfold El;rw[ay,nj];refine nS λp hp=>?_
 have gU:=kO.mp hp;exact zcr (n:=n) (λq hq=>Tp v hq) gU
def GU(ns:List Int):ns=(List.range ns.length).map (bR ns):=by
 refine List.ext_getElem (by simp) λi h1 h2=>?_
 simp[bR,h1]
def qi(s:Int)(ns:List Int):Nat->List Int
 |0=>ns
 |j+1=>El s j (qi s ns j)
theorem AM(s:Int)(n:Nat)(v:Nat->Int):∀j,qi s ((List.range n).map v) j=(List.range n).map (fm s v j)
 |0=>rfl
 |j+1=>by rw[qi,AM s n v j,Vt];rfl
theorem OA:∀(l d:av),(l.map (·.1)).Nodup->(∀t∈l,look d t.1=none)->∀k,look (L2.mX d l) k=(look l k).or (look d k)
 |[],d,_,_,k=>by simp[L2.mX,look]
 |t::r,d,hn,hd,k=>by
  rw[bw,jO]at hn;have e:L2.mX d (t::r)=L2.mX (fY d t.1 t.2) r:=rfl;have cY:∀u∈r,¬u.1=t.1:=λu hu z=>hn.1 (bV.mpr ⟨u,hu,z⟩)
  rw[e,OA r _ hn.2 (λu hu=>by rw[Dv,aq (cY u hu)];exact hd u (by simp[hu])),Dv,look];by_cases q:t.1=k
  ·have hr:look r k=none:=by
    cases z:look r k with
    |none=>rfl
    |some x =>
     obtain⟨u,hu,eu⟩:=bV.mp (Aj.mp (by rw[z];simp));exact absurd (eu.trans q.symm) (cY u hu)
   rw[hr,ax q.symm,ax q];rfl
  ·rw[aq (λz=>q z.symm),aq q]
theorem OK:∀{l:av},(l.map (·.1)).Nodup->∀k,(look l k).getD 0=aK l k
 |[],_,_=>rfl
 |t::r,hn,k=>by
  rw[bw,jO]at hn;have ih:=OK hn.2 k;rw[look,aK];by_cases q:t.1=k
  ·have hr:aK r k=0:=si r k λp hp z=>hn.1 (bV.mpr ⟨p,hp,z.trans q.symm⟩)
   rw[ax q,ax q,hr];simp
  ·rw[aq q,aq q,ih];lia
def xD(h:IsForm f):(f.map (·.1)).Nodup:=by
 rw[List.Nodup,C8];exact h.rise.imp λh=>by lia
def za8(h:IsForm f)(k:Int):dh (L2.mX [] f) k=aK f k:=by
 unfold dh;rw[OA f [] (xD h) (λ_ _=>rfl),<-OK (xD h) k];cases look f k<;>rfl
noncomputable def pc(n:Nat):Nat:=if h:n=0 then 0 else n%2+pc (n/2)
termination_by n
decreasing_by lia
def yg:pc 0=0:=by rw[pc];rfl
def P2(h:n≠0):pc n=n%2+pc (n/2):=by rw[pc,dif_neg h]
def zO(b e:Nat)(he:e<2):pc (2*b+e)=e+pc b:=by
 by_cases h:2*b+e=0
 ·have:b=0:=by lia
  have:e=0:=by lia
  subst b e;rw[yg]
 ·rw[P2 h,show (2*b+e)%2=e by lia,show (2*b+e)/2=b by lia]
def LV(b c e f:Nat)(he:e<2)(hf:f<2):(2*b+e)&&&(2*c+f)=2*(b&&&c)+e*f:=by
 apply rf;intro i;have hef:e*f<2:=by
  have:e=0\/e=1:=by lia
  have:f=0\/f=1:=by lia
  rcases ‹e=0\/e=1› with rfl|rfl<;>rcases ‹f=0\/f=1› with rfl|rfl<;>decide
 cases i with
 |zero =>
  rw[sh,EJ,EJ,EJ,show (2*b+e)%2=e by lia,show (2*c+f)%2=f by lia,show (2*(b&&&c)+e*f)%2=e*f by lia]
  have:e=0\/e=1:=by omega
  have:f=0\/f=1:=by omega
  rcases ‹e=0\/e=1› with rfl|rfl<;>rcases ‹f=0\/f=1› with rfl|rfl<;>decide
 |succ i =>
  rw[sh,Fe,Fe,Fe,show (2*b+e)/2=b by lia,show (2*c+f)/2=c by lia,show (2*(b&&&c)+e*f)/2=b&&&c by lia,sh]
theorem N7:∀(n a:Nat),a<=n->a≠0->(a&&&(a-1))<a/\pc (a&&&(a-1))+1=pc a
 |0,a,h,h0=>by lia
 |n+1,a,h,h0=>by
  obtain⟨b,e,he,rfl⟩:∃b e,e<2/\a=2*b+e:=⟨a/2,a%2,by lia,by lia⟩
  have:e=0\/e=1:=by lia
  rcases this with rfl|rfl
  ·have hb:b≠0:=by lia
   obtain⟨h1,h2⟩:=N7 n b (by lia) hb;rw[show 2*b+0-1=2*(b-1)+1 by lia,LV b (b-1) 0 1 (by decide) (by decide),zO b 0 (by decide)]
   have:=zO (b&&&(b-1)) 0 (by decide)
   simp only[Nat.zero_mul,F9,Pz]at *;lia
  ·have e1:=LV b b 1 0 (by decide) (by decide);rw[Nat.and_self]at e1;rw[show 2*b+1-1=2*b+0 by lia,e1,zO b 1 (by decide)]
   have:=zO b 0 (by decide)
   simp only[BL,F9]at *;lia
theorem Nk:∀(m a:Nat),a<2^m->pc a<=m
 |0,a,h=>by
  have:a=0:=by simpa using h
  subst this;rw[yg];exact aJ _
 |m+1,a,h=>by
  by_cases h0:a=0
  ·subst h0;rw[yg];lia
  ·rw[P2 h0]
   have:=Nk m (a/2) (by rw[kN]at h;lia)
   lia
def RI(m:Nat)(l:av):Int:=(l.map λt=>t.2*2^(m-pc t.1.toNat)).sum
def zao(i j:Nat):i&&&2^j=if i.testBit j then 2^j else 0:=by
 apply rf;intro k;rw[sh,uZ];by_cases e:j=k
 ·subst e;cases h:i.testBit j<;>simp
 ·cases h:i.testBit j<;>simp[e]
end OF
namespace My
open PySem L2 OF
def tt{σ:St}{H:Hp}{F G:Hp->Prop}(h:F H):AV σ H λb H3=>if b=true then F H3 else G H3:=by
 show (if true=true then F H else G H);rw[ax rfl];exact h
end My
namespace L2
open PySem OF
def RN(hf:∀t∈f,0<=t.1/\t.1<2^m):qi 1 ((List.range (2^m)).map λk:Nat=>aK f (k:Int)) m=(List.range (2^m)).map λg:Nat=>mn f (g:Int):=by
 rw[AM];exact nS λg hg=>HH hf g (kO.mp hg)
end L2
namespace My
open PySem L2 OF
def ym{K:Frag}{a:Addr}{l:av}{H:Hp}{tc:TT}{te:TE}{R:List V->Hp->Addr->Prop}(p:Int×Int->Bool)(f:Int×Int->Int×Int)(hT:TL K H a l)(hl:l.length<=1000000)(rest:List (Option V)){σ:St}(hσ:σ=none::none::rest)
  (hc:∀t∈l,∀(H2:Hp) (R:Bool->Hp->Prop),ag H H2->R (p t) H2->tc (some (.int t.1)::some (.int t.2)::rest) H2 R)
  (he:∀t∈l,p t=true->∀(H2:Hp) (R:V->Hp->Prop),ag H H2->(∀w,H2 w=none->R (.ref w) (upd H2 w (.tup [.int (f t).1,.int (f t).2])))->te (some (.int t.1)::some (.int t.2)::rest) H2 R)
  (q:∀(D:Addr) (ys:List V) (H2:Hp),H D=none->a7 (upd H2 D (.lst ys)) D ((l.filter p).map f)->ag H (upd H2 D (.lst ys))->R ys H2 D) :
  ∃W:Nat->Nat->List V->St->Hp->Prop,(∃m,W 0 m [] σ H)/\∀i m ys σ H,W i m ys σ H ->
   ((gV K a).stop i H/\∀D,H D=none->R ys H D) \/
   ((gV K a).go i H/\ys.length<sizeLine/\∃ N:List V->St->Hp->Prop,(∀ cH σ' H',N cH σ' H'->∃ m',m'<m/\W (i+1) m' cH σ' H') /\ ∀x H',(gV K a).yld i H x H'->gm K 2 (cB (a9 0) (cB (a9 1) fW)) x σ H' λσ2 H2=>tc σ2 H2 λb H3=>if b=true then te σ2 H3 λy H4=>N (ys++[y]) σ2 H4 else N ys σ2 H3):=by
 obtain⟨ps,hS,hP⟩:=hT;subst hσ;refine jI (K:=K) (a:=a) (xs:=ps.map V.ref) (R:=R) (λi ys σ H2=>∃(v0 v1:Option V) (qs:List Addr),σ=v0::v1::rest/\ys=qs.map V.ref/\cj H2 qs (((l.take i).filter p).map f)/\ag H H2)
  ⟨none,none,[],rfl,rfl,.nil,ag.refl _⟩ (λi ys σ H2 hi ⟨_,_,qs,_,e1,e2,e3⟩=>⟨e3.seq hS,by
   rw[e1,ay,e2.length,ay];exact bp (gI _ _) (by rw[c7];lia)⟩) (by rw[ay,hP.length];exact dq (cP hl)) ?_ ?_
 ·rintro i z ys σ H2 hi ⟨v0,v1,qs,rfl,rfl,g2,g4⟩;obtain⟨b,FD,rfl⟩:=jH hi;obtain⟨t,bQ,dk⟩:=hP.at' FD;have fT:=cM bQ;have bz:l.take (i+1)=l.take i++[t]:=by rw[dR,bQ];rfl
  exists b,_,rfl,aG.of (g4 _ _ dk),rfl,_,_,rfl,_,_,rfl,rfl,?_;show tc (some (.int t.1)::some (.int t.2)::rest) H2 _;refine hc t fT H2 _ g4 ?_;by_cases hp:p t=true
  ·rw[hp];refine aU rfl ?_;refine he t fT hp H2 _ g4 λw hw=>?_
   have j6:ag H2 (upd H2 w (.tup [.int (f t).1,.int (f t).2])):=ag.upd hw;exists _,_,qs++[w],rfl,(by rw[aQ];rfl),?_,g4.trans j6;rw[bz,fS,aQ];simp only[dZ,hp,LW,gM,bw,iA];exact cj.snoc (g2.keep λb xs z=>j6 b _ z) au
  ·refine aF hp ⟨_,_,qs,rfl,rfl,?_,g4⟩;rw[bz,fS,aQ];simp only[dZ,hp,LW,iA,fc];simpa using g2
 ·rintro ys σ H2 ⟨v0,v1,qs,rfl,rfl,g2,g4⟩ w hw;have Dd:l.take (ps.map V.ref).length=l:=by rw[ay,hP.length,dH]
  rw[Dd]at g2;have j6:ag H2 (upd H2 w (.lst (qs.map V.ref))):=ag.upd hw;exact q w _ _ (g4.free hw) ⟨qs,au,g2.keep λb xs z=>j6 b _ z⟩ (g4.trans j6)
def _root_.OF.IsForm.filter(h:IsForm f)(p:Int×Int->Bool):IsForm (f.filter p):=⟨h.rise.filter _,λt ht=>h.nz t (iJ.mp ht).1⟩
noncomputable def ij(k:Nat)(t:Int×Int):Bool:=t.1.toNat.testBit k
def iE(k:Nat)(l:av):av:=l.filter λt => !ij k t
def fM(k:Nat)(l:av):av:=(l.filter λt=>ij k t).map λt=>(t.1-2^k,t.2)
def qJ(k:Nat)(b:Int)(l:av):av:=iE k l++if b=0 then []else fM k l
def Qa(k:Nat)(l:av):(iE k l).length<=l.length:=gI _ _
def Rn(k:Nat)(l:av):(fM k l).length<=l.length:=by unfold fM;rw[ay];exact gI _ _
theorem Ms(k:Nat):∀l:av,(iE k l).length+(fM k l).length=l.length
 |[]=>rfl
 |t::l=>by
  have ih:=Ms k l;unfold iE fM at *;by_cases h:ij k t=true<;>simp_all<;>lia
def Yr(h:0<=t.1)(k:Nat):Builtin.bitAnd t.1 (2^k)=if ij k t then 2^k else 0:=by
 have e:((t.1.toNat:Nat):Int)=t.1:=mJ h;have pw:((2:Int)^k)=((2^k:Nat):Int):=by norm_cast
 unfold ij;rw[<-e,pw,Av,zao,oJ];split<;>rfl
def zae(k:Nat):(2:Int)^k≠0:=by
 have pw:((2:Int)^k)=((2^k:Nat):Int):=by norm_cast
 have:=qC k
 lia
def GO(h:0<=t.1)(k:Nat):decide (V.int (Builtin.bitAnd t.1 (2^k))=V.int 0) = !ij k t:=by
 rw[Yr h];cases ij k t
 ·simp
 ·have:=zae k
  simp[this]
def Ys(h:0<=t.1)(hb:ij k t=true):2^k<=t.1:=by
 have e:((t.1.toNat:Nat):Int)=t.1:=mJ h;have pw:((2:Int)^k)=((2^k:Nat):Int):=by norm_cast
 have:=zU hb
 lia
noncomputable def we(g k:Nat)(b:Bool):Nat:=if b then (if g.testBit k then g else g+2^k)else (if g.testBit k then g-2^k else g)
def Rk(g k:Nat)(b:Bool)(i:Nat):(we g k b).testBit i=if i=k then b else g.testBit i:=by
 unfold we;by_cases h:g.testBit k=true
 ·cases b
  ·simp only[h,gM,tK,l7];rw[pf h];by_cases e:i=k<;>simp[e]
  ·simp only[h,gM];by_cases e:i=k<;>simp[e,h]
 ·have h':g.testBit k=false:=by simpa using h
  cases b
  ·simp only[h',tK,l7];by_cases e:i=k<;>simp[e,h']
  ·simp only[h',gM,tK,l7];have hd:g/2^k%2=0:=by
    rw[vJ]at h'
    have:=wW h'
    lia
   rw[Mj hd,sO,uZ];by_cases e:i=k
   ·simp[e]
   ·have:¬k=i:=λz=>e z.symm
    simp[e,this]
end My
namespace L2
open PySem PySem.Spec PyProof.Rows
section
variable{X:Cx}
def Ur:V->List V->Hp->VK->Prop:=λx vs H Q=>∃n:Int,x=.int n/\vs=[]/\Q (.int (intBits n)) H
def wH:fI X "int.bit_length" Ur:=by
 intro aa s σ H x xs v us Q I rx rv h;obtain⟨n,rfl,rfl,q⟩:=h;obtain⟨t,rfl⟩:=rx;obtain rfl:=rv.zero;exact call_int_bit_length ⟨.int _,H,I.tok _,⟨_,rfl⟩,q⟩
end
end L2
namespace My
open PySem L2 OF
def BI(n:Nat):intBits (n:Int)=if n=0 then 0 else n.log2+1:=by
 unfold intBits;by_cases h:n=0
 ·subst h;rfl
 ·rw[aq h,aq (by simp;assumption)];rfl
def Dw(n:Nat):n<2^intBits (n:Int):=by
 rw[BI];by_cases h:n=0
 ·subst h;decide
 ·rw[aq h];exact Nat.lt_log2_self
def DT{n m:Nat}(h:n<2^m):intBits (n:Int)<=m:=by
 rw[BI];by_cases h0:n=0
 ·subst h0;simp
 ·rw[aq h0];exact (tW h0).mpr h
def Tf(m:Nat):intBits ((2^m:Nat):Int)=m+1:=by
 rw[BI,aq (by have:=qC m;lia),Nat.log2_two_pow]
theorem FX:∀(l:av) (s j:Nat),(c5 l s).testBit j=true↔s.testBit j=true\/∃t∈l,t.1.toNat.testBit j=true
 |[],s,j=>by simp[c5]
 |t::l,s,j=>by
  rw[c5,FX l,sO,wk];constructor
  ·rintro ((h|h)|⟨u,h1,h2⟩)
   ·exact .inl h
   ·exact .inr ⟨t,mD ..,h⟩
   ·exact .inr ⟨u,cq _ h1,h2⟩
  ·rintro (h|⟨u,h1,h2⟩)
   ·exact .inl (.inl h)
   ·rcases ba.mp h1 with z|z
    ·subst z;exact .inl (.inr h2)
    ·exact .inr ⟨u,z,h2⟩
def LL(h:∀t∈l,0<=t.1/\t.1<2^m):c5 l 0<2^m:=by
 refine Bg _ λj hj=>?_
 cases e:(c5 l 0).testBit j
 ·rfl
 ·rcases (FX l 0 j).mp e with z|⟨t,h1,h2⟩
  ·simp at z
  ·have:=h t h1
   have pw:((2:Int)^m)=((2^m:Nat):Int):=by norm_cast
   have h3:t.1.toNat<2^j:=cy (by lia:t.1.toNat<2^m) (dm (by decide) hj);rw[sN h3]at h2;cases h2
noncomputable def lst(a:Nat):List Nat:=(List.range (intBits (a:Int))).filter λk=>a.testBit k
def Xh:k∈lst a↔a.testBit k=true:=by
 unfold lst;rw[iJ,kO];constructor
 ·exact λh=>h.2
 ·intro h;exists ?_,h;rcases kb k (intBits (a:Int))with z|z
  ·exact z
  ·have:=sN (cy (Dw a) (dm (by decide) z))
   rw[this]at h;cases h
end My
namespace L2
open PySem PySem.Spec PyProof.Rows
def Inv.turnedN(ch:List Addr)(I:Inv X aa σ H s)(k:∀b u,b∉ch->s.heap.get? b=some u->h'.get? b=some u)
  (f:∀b∈ch,eo X aa H b):Inv X aa σ H {s with heap:=h',toks:=t'}:=by
 have out:∀b u,H b=some u->b∉ch:=λb u q z=>by rw[(f b z).1]at q;cases q
 refine I.step (g':=s.gens) (d':=s.drawn) (ch:=ch) (λb hb=>⟨(f b hb).2.2.2.1,(f b hb).2.1,(f b hb).2.2.2.2.1,(f b hb).2.2.2.2.2⟩) (λb u _ _ hc q _=>k b u hc q) (λb u _ _ hc q _=>⟨u.slots,k b u hc q⟩) (λ_ _ _ _ n=>n)
  (λb u hc q=>⟨u,k b u hc q⟩) (λ_ _ e=>e) (λ_ _ _ e=>e) (λb ps e=>⟨#[],by rw[e];simp⟩) (λm hm=>?_) (λb u e=>?_) I.bare
 ·obtain⟨u,es,ep,ho,r⟩:=hm;nomatch u,es,ep,k _ u (λz=>(f _ z).2.1 rfl) ho,r
 ·refine (I.hok b u e).stay (λc v hc q=>k c v ?_ q) (λ_ q=>q) λ_ _ q=>q
  rcases hc with z|z
  ·rw[z];exact out b u e
  ·exact out c _ z
def Inv.turnedL(ch:List Addr)(I:Inv X aa σ H s)(k:∀b u,b∉ch->s.heap.get? b=some u->h'.get? b=some u)
  (f:∀b∈ch,eo X aa H b) (hT:s.heap.objs.size<=T) (new:cn X.prog X.w (upd H T o) h' T o):Inv X aa σ (upd H T o) {s with heap:=h',toks:=t'}:=by
 have hn:H T=none:=I.hok.fresh hT;have out:∀b u,H b=some u->b∉ch:=λb u q z=>by rw[(f b z).1]at q;cases q
 have lt:∀b u,s.heap.get? b=some u->b≠T:=λb u q=>dB (cy (bo q) hT)
 have up:∀{b:Addr}{u:HO},H b=some u->upd H T o b=some u:=λq=>by rw[aO (cE q hn)];exact q
 refine I.step (g':=s.gens) (d':=s.drawn) (ch:=ch) (λb hb=>⟨(f b hb).2.2.2.1,(f b hb).2.1,(f b hb).2.2.2.2.1,(f b hb).2.2.2.2.2⟩) (λb u _ _ hc q _=>k b u hc q) (λb u _ _ hc q _=>⟨u.slots,k b u hc q⟩) (λb u _ q n=>by rw[aO (lt b u q)];exact n)
  (λb u hc q=>⟨u,k b u hc q⟩) (λb xs q=>up q) (λb u xs q=>up q) (λb ps q=>⟨#[],by rw[up q];simp⟩) (λm hm=>?_) (λb u q=>?_) I.bare
 ·obtain⟨u,es,ep,ho,r⟩:=hm;nomatch u,es,ep,k _ u (λz=>(f _ z).2.1 rfl) ho,r
 ·by_cases hb:b=T
  ·subst hb;rw[au]at q;cases q;exact new
  ·rw[aO hb]at q;refine (I.hok b u q).stay (λc v hc z=>?_) (λc z=>up z) λc xs z=>up z
   rcases hc with w|w
   ·rw[w]at z ⊢;exact k b v (out b u q) z
   ·exact k c v (out c _ w) z
def tu(K:Frag)(a b:Addr):It :=
 ⟨λi H=>∃xs ys x y,ai K H a xs/\ai K H b ys/\xs[i]?=some x/\ys[i]?=some y,λi H v H'=>∃T x y,H T=none/\v=.ref T/\H'=upd H T (.tup [x,y])/\(∀xs,ai K H a xs->xs[i]?=some x)/\∀ys,ai K H b ys->ys[i]?=some y,λi H=>∃xs ys,ai K H a xs/\ai K H b ys/\(xs.length<=i\/ys.length<=i)⟩
def Zw{P:Program}{w:World}{K:Frag}{elts:List Expr}{x1:Nat}{pos:Pos}(a b z TI TO i1 i2:Addr)(D:ZipApart z TI TO i1 i2 a b) :
  kA P w K (.Tuple elts x1 pos) (tu K a b) [z,TI,TO,i1,i2] z (λi h=>IsZip h z TI TO .none/\IsPair h TI (.ref i1) (.ref i2)/\(∃u v,IsPair h TO u v)/\h.IsListIter i1 a i/\h.IsListIter i2 b i) where
 mem:=by simp
 obj:=λi h st c hc=>by
  obtain⟨hz,dY,⟨u,v,eM⟩,⟨o1,e1,c1,d1⟩,⟨o2,e2,c2,d2⟩⟩:=st;simp only[ba,ia,ib]at hc;rcases hc with rfl|rfl|rfl|rfl|rfl
  ·exact⟨_,hz,λv z=>by cases z⟩
  ·exact⟨_,dY,λv z=>by cases z⟩
  ·exact⟨_,eM,λv z=>by cases z⟩
  ·exact⟨o1,e1,λv z=>by rw[d1]at z;cases z⟩
  ·exact⟨o2,e2,λv z=>by rw[d2]at z;cases z⟩
 keep:=λi h h' st k=>by
  obtain⟨hz,dY,⟨u,v,eM⟩,h1,h2⟩:=st;nomatch k z (by simp) _ hz,k TI (by simp) _ dY,⟨u,v,k TO (by simp) _ eM⟩,h1.at λo q=>k i1 (by simp) o q,h2.at λo q=>k i2 (by simp) o q
 item:=by
  intro X hP hw hK hc i aa s σ H E I hf st hg;subst hP hw hK;obtain⟨hz,dY,⟨u,v,eM⟩,h1,h2⟩:=st;obtain⟨xs,ys,x,y,hq,gq,hx,hy⟩:=hg;obtain⟨af,rv,p,hsz⟩:=I.list hq;obtain⟨its',tR,p',LF⟩:=I.list gq;obtain⟨ux,hu,ru⟩:=rv.get hx;obtain⟨uy,vb,tM⟩:=tR.get hy;refine wpAny_pyNext_zip_item D hz dY eM h1 h2 p.isList p'.isList (x:=ux) (y:=uy) (by simpa using hu) (by simpa using vb) λhV jx ES rq Dl hT hs1 k1=>⟨_,rfl,?_⟩
  refine Mf jx λiq pK sb=>?_
  have lz:z<s.heap.objs.size:=bo hz;have DD:s.heap.objs.size≠z:=qW lz;have kk:∀c o,c∉[z,TI,TO,i1,i2]->s.heap.get? c=some o->iq.get? c=some o:=λc o hc q=>by
   simp only[ba,ia,ib,not_or]at hc;exact (sb.2 c hc.1).trans (k1 c o hc.1 hc.2.2.1 hc.2.2.2.1 hc.2.2.2.2 q)
  have b9:IsPair iq s.heap.objs.size ux uy:=(sb.2 _ DD).trans hT;have Ef:IsPair iq TI (.ref i1) (.ref i2):=(sb.2 _ D.TIz).trans (k1 _ _ D.TIz D.TITO D.TIi1 D.TIi2 dY);exists .ref s.heap.objs.size,upd H s.heap.objs.size (.tup [x,y]),I.turnedL (t':=s.toks) _ kk hf (aJ _) ⟨by show 2<=sizeLine;decide,[ux,uy],.cons ru (.cons tM .nil),?_⟩,rfl,⟨_,x,y,I.hok.fresh (aJ _),rfl,rfl,λzs h=>by rw[I.list_inj h hq];exact hx,λzs h=>by rw[I.list_inj h gq];exact hy⟩,⟨pK,Ef,⟨ux,uy,(sb.2 _ D.TOz).trans ES⟩,?_,?_⟩,λc hc=>?_
  ·nomatch _,b9,rfl,0,rfl
  ·exact rq.at λo q=>(sb.2 _ D.i1z).trans q
  ·exact Dl.at λo q=>(sb.2 _ D.i2z).trans q
  ·have gE:c<s.heap.objs.size:=by
    simp only[ba,ia,ib]at hc;rcases hc with rfl|rfl|rfl|rfl|rfl
    ·exact lz
    ·exact bo dY
    ·exact bo eM
    ·obtain⟨o,q,_⟩:=h1;exact bo q
    ·obtain⟨o,q,_⟩:=h2;exact bo q
   rw[aO (dB gE)];exact (hf c hc).1
 done:=by
  intro X hP hw hK hc i aa s σ H E I hf st hg;subst hP hw hK;obtain⟨hz,dY,⟨u,v,eM⟩,h1,h2⟩:=st;obtain⟨xs,ys,hq,gq,hx⟩:=hg;obtain⟨af,rv,p,hsz⟩:=I.list hq;obtain⟨its',tR,p',LF⟩:=I.list gq;have hl:=rv.length;have qr:=tR.length;refine wpAny_pyNext_zip_end (I.ok.hd hc) D hz dY eM h1 h2 p.isList p'.isList ?_ λh' kk=>⟨rfl,I.turnedN (t':=s.toks) [z,TI,TO,i1,i2] (λc o hc q=>?_) hf⟩
  ·rcases hx with z|z
   ·left;simp;lia
   ·right;simp;lia
  ·simp only[ba,ia,ib,not_or]at hc;exact kk c o hc.1 hc.2.2.1 hc.2.2.2.1 hc.2.2.2.2 q
 self:=λ_ _ _ _ _ st h=>yB st.1 h
def VH(K:Frag)(ta:TA):TI:=λσ H R=>ta σ H λvs H1=>∃a b,vs=[.ref a,.ref b]/\(∃xs,ai K H1 a xs)/\(∃ys,ai K H1 b ys)/\R (tu K a b) H1
def OT:bootBuiltins "zip" = some (.type "zip"):=by decide+kernel
def KZ{X:Cx}{elts:List Expr}{x1:Nat}{p0 p pos:Pos}{a b:Expr}{ta:TA}(hg:Gl X "zip")(hm:X.mg "zip" = none)(ha:PA X [a,b] ta)(hs:starEach [a,b] X.env=(false,eval a X.env)::starEach [b] X.env:=by rfl)(mH:(backTo pos (starEach [b] X.env)).any (·.1)=false:=by rfl) :
  PI X (.Tuple elts x1 p0) (.Call (.Name "zip" p) [a,b] [] pos) (VH X.K ta):=by
 intro aa s σ H R I h;refine Call_ (nX I hg hm OT (sS (aI (ha pos aa s σ H _ I h) λus s1 ⟨vs,H1,I1,r1,q1⟩=>?_) hs mH));obtain⟨l1,l2,rfl,⟨xs,hq⟩,⟨ys,gq⟩,q⟩:=q1;obtain⟨u,v,rfl,ru,rv⟩:=qO r1;cases (show u=Value.ref l1 from ru);cases (show v=Value.ref l2 from rv);obtain⟨af,rx,p,hz⟩:=I1.list hq;obtain⟨its',rx',p',DP⟩:=I1.list gq;have n1:l1<s1.heap.objs.size:=by obtain⟨o,q,_⟩:=p.isList;exact bo q
 have n2:l2<s1.heap.objs.size:=by obtain⟨o,q,_⟩:=p'.isList;exact bo q
 refine call_zip_2 p.isList p'.isList λh' hz dY eM h1 h2 hsz k=>yB hz ?_
 have I2:Inv X aa σ H1 {s1 with heap:=h'}:=I1.kept (t':=s1.toks) k;exists _,_,_,_,H1,rfl,I2,Zw l1 l2 _ _ _ _ _ (zipApart_new n1 n2),⟨hz,dY,⟨_,_,eM⟩,h1,h2⟩,λc hc=>?_,q;have fr:∀c,s1.heap.objs.size<=c->eo X aa H1 c:=λc hc=>I1.fpOk hc (I1.hok.fresh hc)
 simp only[ba,ia,ib]at hc;rcases hc with rfl|rfl|rfl|rfl|rfl<;>exact fr _ (by lia)
def Kt{K:Frag}{a b:Addr}{xs ys:List V}{g:TG}{tc:TT}{te:TE}{σ:St}{H:Hp}{R:List V->Hp->Addr->Prop}(EV:xs.length=ys.length)(Pv:Nat->List V->St->Hp->Prop)(h0:Pv 0 [] σ H)
  (hl:∀i zs σ H,i<=xs.length->Pv i zs σ H->ai K H a xs/\ai K H b ys/\zs.length<=i) (hz:xs.length<=sizeLine)
  (hs:∀i x y zs σ H T,xs[i]?=some x->ys[i]?=some y->Pv i zs σ H->H T=none->g (.ref T) σ (upd H T (.tup [x,y])) λσ2 H2=>tc σ2 H2 λb H3=>if b=true then te σ2 H3 λy H4=>Pv (i+1) (zs++[y]) σ2 H4 else Pv (i+1) zs σ2 H3)
  (hd:∀zs σ H,Pv xs.length zs σ H->∀D,H D=none->R zs H D) :
  ∃W:Nat->Nat->List V->St->Hp->Prop,(∃m,W 0 m [] σ H)/\∀i m zs σ H,W i m zs σ H ->
   ((tu K a b).stop i H/\∀D,H D=none->R zs H D) \/
   ((tu K a b).go i H/\zs.length<sizeLine/\∃ N:List V->St->Hp->Prop,(∀ vF σ' H',N vF σ' H'->∃ m',m'<m/\W (i+1) m' vF σ' H') /\ ∀x H',(tu K a b).yld i H x H'->g x σ H' λσ2 H2=>tc σ2 H2 λb H3=>if b=true then te σ2 H3 λy H4=>N (zs++[y]) σ2 H4 else N zs σ2 H3):=by
 exists λi m zs σ H=>m=xs.length-i/\i<=xs.length/\Pv i zs σ H,⟨xs.length,by simp,cb _,h0⟩,?_;rintro i m zs σ H ⟨rfl,hi,p⟩;obtain⟨q1,q2,q3⟩:=hl i zs σ H hi p;by_cases bE:i<xs.length
 ·have Eb:i<ys.length:=by lia
  refine .inr ⟨⟨xs,ys,xs[i],ys[i],q1,q2,by simp[bE],by simp[Eb]⟩,(by lia),Pv (i+1),λcH σ' H' p'=>⟨xs.length-(i+1),by lia,rfl,bE,p'⟩,λx H' y=>?_⟩;obtain⟨T,u,v,hT,rfl,rfl,y1,y2⟩:=y;exact hs i u v zs σ _ T (y1 xs q1) (y2 ys q2) p hT
 ·have e:i=xs.length:=by lia
  subst e;exact .inl ⟨⟨xs,ys,q1,q2,.inl (aJ _)⟩,hd zs σ H p⟩
end L2
namespace My
open PySem L2 OF
noncomputable def wd:Nat->Str
 |0 => "and"
 |1 => "or"
 |_ => "xor"
end My
namespace L2
open PySem PySem.Spec PyProof.Rows
section
variable{X:Cx}{e st lo:Expr}{te:TE}{tl to:TO}{p2 pos:Pos}
noncomputable def iV{α:Type}(c n:Nat)(xs:List α):List α:=(List.range n).filterMap λk=>xs[c+2*k]?
theorem NR(r:Vals xs us)(f:Nat->Nat):∀ks:List Nat,Vals (ks.filterMap λk=>xs[f k]?) (ks.filterMap λk=>us[f k]?)
 |[]=>.nil
 |k::ks=>by
  have ih:=NR r f ks;have hl:=r.length;cases h:xs[f k]? with
  |none =>
   have h2:us[f k]?=none:=by rw[List.getElem?_eq_none_iff]at h ⊢;lia
   rw[QA (f:=λk=>xs[f k]?) h,QA (f:=λk=>us[f k]?) h2];exact ih
  |some x =>
   obtain⟨u,hu,ru⟩:=r.get h;rw[Cf (f:=λk=>xs[f k]?) h,Cf (f:=λk=>us[f k]?) hu];exact .cons ru ih
def Tn(c n:Nat)(hc:c<=n):sliceRange (c:Int) (n:Int) 2=(List.range ((n-c+1)/2)).map λk=>c+2*k:=by
 unfold sliceRange;have e:(if (2:Int)>0 then (if (c:Int)<(n:Int)then ((n:Int)-(c:Int)+2-1)/2 else 0)else (if (c:Int)>(n:Int)then ((c:Int)-(n:Int)-2-1)/(-2)else 0)).toNat=(n-c+1)/2:=by
  rw[ax (by decide)];split<;>lia
 simp only[e];exact nS λk _=>by lia
def zbW(items:Array Value)(c:Nat)(hc:c<=items.size):slicePick items (some (c:Int)) none (some 2)=(iV c ((items.size-c+1)/2) items.toList).toArray:=by
 unfold slicePick;have e:sliceBounds (some (c:Int)) none (some 2) items.size=((c:Int),(items.size:Int),2):=by
  show ((if (2:Int)>0 then max 0 (min (if (c:Int)<0 then (c:Int)+items.size else (c:Int)) items.size)else _),(if (2:Int)>0 then (items.size:Int)else -1),(2:Int))=_;have h1:max 0 (min (if (c:Int)<0 then (c:Int)+items.size else (c:Int)) items.size)=(c:Int):=by
   rw[aq (by lia)];lia
  rw[h1];rfl
 rw[e,Tn c items.size hc,Ml];congr 1;unfold iV;congr 1
 funext k
 simp
def Sy(K:Frag)(te:TE)(tl to:TO):TE:=λσ H Q=>te σ H λx H1=>tl σ H1 λo1 H2=>to σ H2 λo H3=>o=some 2/\∃(c:Nat) (a:Addr) (xs:List V),o1=some (c:Int)/\x=.ref a/\ai K H3 a xs/\c<=xs.length /\
 ∀p,H3 p=none->Q (.ref p) (upd H3 p (.lst (iV c ((xs.length-c+1)/2) xs)))
def xE(he:PE X e te)(uU:PO X (some lo) tl)(cW:PO X (some st) to):PE X (.Subscript e (.Slice (some lo) none (some st) p2) pos) (Sy X.K te tl to):=by
 intro aa s σ H Q I h;refine zJ (aI (he aa s σ H _ I h) λv s1 ⟨x,H1,I1,r1,q1⟩=>?_);refine wpAny_Slice (aI (uU aa s1 σ H1 _ I1 q1) λvl s2 ⟨o1,H2,I2,pl,q2⟩=>?_);rw[Fw];refine bg (aI (cW aa s2 σ H2 _ I2 q2) λvk s3 ⟨o,H3,I3,pk,q3⟩=>?_);obtain⟨rfl,c,a,xs,rfl,rfl,hx,hc,q⟩:=q3;cases r1;have I4:Inv X aa σ H3 {s3 with heap:=s3.heap.push {cls:=.type "slice",data:=.fields #[vl,.none,vk]}}:=I3.kept (t':=s3.toks) λb ob q=>cv _ q
 obtain⟨af,r,ht,hz⟩:=I4.list hx;have aT:=r.length;show wpAny (model X.prog X.w) X.A (subscriptTail e (.Slice (some lo) none (some st) p2) (.ref a) (.ref s3.heap.objs.size)) (EP X aa σ Q) X.xe {s3 with heap:=s3.heap.push {cls:=.type "slice",data:=.fields #[vl,.none,vk]}};refine tail_any (ops:=[.ref a,.ref s3.heap.objs.size]) ht.isList.typeIs slot_list_getitem.lookup ?_ (by with_unfolding_all rfl);refine GZ ht.isList (GI ..) pl .none pk (by simp) ?_ (by rw[bJ];lia);rw[zbW _ c (by rw[bJ];lia)];exists .ref _,_,I4.laid (o:=.lst (iV c ((xs.length-c+1)/2) xs)) (t':=s3.toks) (λb ob q=>cv _ q) (aJ _) ?_,rfl,q _ (I4.hok.fresh (aJ _));exists ?_,iV c ((xs.length-c+1)/2) af,0,NR r (λk=>c+2*k) _,?_
 ·unfold iV;refine bp (List.length_filterMap_le _ _) ?_;rw[nj];exact bp ((show ∀n c:Nat,(n-c+1)/2<=n by lia) _ _) hz
 ·rw[c8 _ rfl,bJ,<-aT]
end
end L2
namespace My
open PySem L2 OF
def Rh(c n:Nat)(ns:List Int)(h:ns.length=2*n)(hc:c<2):iV c n (ns.map V.int)=((List.range n).map λk=>bR ns (2*k+c)).map V.int:=by
 unfold iV;rw[ft];have key:∀ks:List Nat,(∀k∈ks,k<n)->(ks.filterMap λk=>(ns.map V.int)[c+2*k]?)=ks.map (V.int ∘ λk=>bR ns (2*k+c)):=λks=>by
  induction ks with
  |nil=>intro _;rfl
  |cons k ks ih =>
   intro hk;have hkn:=hk k (mD ..);have e:(λk=>(ns.map V.int)[c+2*k]?) k=some (V.int (bR ns (2*k+c))):=by
    show (ns.map V.int)[c+2*k]?=_;rw[bY,dD (by lia:c+2*k<ns.length)];show some (V.int _)=some (V.int _);unfold bR;rw[Ah,show 2*k+c=c+2*k by lia,dD (by omega:c+2*k<ns.length)];rfl
   rw[Cf (f:=λk=>(ns.map V.int)[c+2*k]?) e,ih λj hj=>hk j (cq _ hj)];rfl
 exact key _ λk hk=>kO.mp hk
def mw(s:Int)(n:Nat)(ns:List Int):List Int:=(List.range n).map (λk=>bR ns (2*k))++(List.range n).map λk=>bR ns (2*k+1)+s*bR ns (2*k)
def Yq(s:Int)(n:Nat)(ns:List Int):(mw s n ns).length=2*n:=by unfold mw;simp;lia
def XG(h:g<n):bR (mw s n ns) g=bR ns (2*g):=by
 unfold bR mw;rw[Ah,yF (by simpa using h),bY,qc h];rfl
def Wf(h:g<n):bR (mw s n ns) (g+n)=bR ns (2*g+1)+s*bR ns (2*g):=by
 conv=>lhs;unfold bR mw
 rw[Ah,xO (by simp),ay,nj,Pk,bY,qc h];rfl
def mK(s:Int)(v:Nat->Int)(m i:Nat)(ns:List Int):Prop:=ns.length=2^m/\∀a b,a<2^(m-i)->b<2^i->bR ns (a+2^(m-i)*b)=fm s v i (2^i*a+b)
def mK.start(s:Int)(m:Nat)(ns:List Int)(h:ns.length=2^m):mK s (bR ns) m 0 ns:=by
 exists h,λa b ha hb=>?_
 have:b=0:=by simpa using hb
 subst this;simp[fm]
def IZ(hb:b<2^i):(2^(i+1)*a+b).testBit i=false/\(2^(i+1)*a+(b+2^i)).testBit i=true:=by
 have p:=qC i;have e:2^(i+1)*a=2^i*(2*a):=by rw[kN,wu]
 constructor
 ·rw[vJ,e,EF p,Ma hb];simp
 ·rw[vJ,e,EF p,show b+2^i=2^i*1+b by lia,EF p,Ma hb];simp
def mK.next(h:mK s v m i ns)(hi:i<m):mK s v m (i+1) (mw s (2^(m-1)) ns):=by
 obtain⟨hl,hv⟩:=h;have em:2^m=2*2^(m-1):=by rw[<-An];congr 1;lia
 exists by rw[Yq,em],λa b ha hb=>?_;have e1:2^(m-i)=2*2^(m-(i+1)):=by rw[<-An];congr 1;lia
 have e2:2^(m-1)=2^(m-(i+1))*2^i:=by rw[<-yU];congr 1;lia
 have e3:2^(i+1)=2*2^i:=by rw[An]
 have p0:=qC i;generalize hA:2^(m-(i+1))=A at *;generalize hB:2^i=B at *;have Im:∀g,fm s v (i+1) g=fm s v i g+if g.testBit i then s*fm s v i (g-2^i)else 0:=λg=>rfl
 have low:∀b',b'<B->a+A*b'<2^(m-1):=λb' h'=>by
  rw[e2]
  have:A*b'+A<=A*B:=by rw[<-Qu];exact Nat.mul_le_mul_left _ h'
  lia
 have twice:∀b',2*(a+A*b')=2*a+2^(m-i)*b':=λb'=>by rw[e1,xS,wu]
 rcases kb b B with e8|e8
 ·rw[XG (low b e8),twice,hv (2*a) b (by rw[e1];lia) e8,Im];have ht:=(IZ (i:=i) (a:=a) (b:=b) (by rw[hB];exact e8)).1;rw[e3,wu,Oc]at *;rw[show 2*(B*a)=B*(2*a) by rw[Oc]]at *;simp only[ht,tK,l7,P8]
 ·obtain⟨c,rfl⟩:∃c,b=c+B:=⟨b-B,by lia⟩;have hc:c<B:=by lia
  have pl:a+A*(c+B)=(a+A*c)+2^(m-1):=by rw[e2,xS,Nat.add_assoc]
  rw[pl,Wf (low c hc),twice,show 2*a+2^(m-i)*c+1=(2*a+1)+2^(m-i)*c by lia,
   hv (2*a+1) c (by rw[e1];lia) hc,hv (2*a) c (by rw[e1];lia) hc,Im]
  have ht:=(IZ (i:=i) (a:=a) (b:=c) (by rw[hB];exact hc)).2;rw[e3,hB]at ht;have x1:2*B*a=B*(2*a):=by rw[C2 2 B,wu]
  have x2:B*(2*a+1)+c=2*B*a+(c+B):=by rw[xS,Hx,x1];lia
  have x3:2*B*a+(c+B)-2^i=B*(2*a)+c:=by rw[hB,x1];lia
  rw[e3,ax ht,x3,x2]
def mK.all(h:mK s (bR ns) m m ms)(hn:ns.length=2^m):ms=qi s ns m:=by
 obtain⟨hl,hv⟩:=h;have e0:ns=(List.range (2^m)).map (bR ns):=by rw[<-hn];exact GU ns
 conv=>rhs;rw[e0]
 rw[AM]
 conv=>lhs;rw[GU ms,hl]
 refine nS λg hg=>?_
 have:=hv 0 g (by simp) (kO.mp hg)
 simpa using this
open PySem L2 OF
def rV(k:Nat)(o l:av):av:=iE k l++bF (fM k l) o
def O7(h0:∀t∈l,0<=t.1)(h:t∈fM k l):0<=t.1/\∃u∈l,t.2=u.2/\t.1=u.1-2^k/\ij k u=true:=by
 obtain⟨u,hu,rfl⟩:=bV.mp h;obtain⟨h1,h2⟩:=iJ.mp hu
 have:=Ys (h0 u h1) h2
 nomatch by show 0<=u.1-2^k;lia,u,h1,rfl,rfl,h2
def BY(h:t∈iE k l):t∈l/\ij k t=false:=by
 obtain⟨h1,h2⟩:=iJ.mp h;exact⟨h1,by simpa using h2⟩
open PySem L2 OF
noncomputable def OU(m:Int)(f:av):av:=f.filter λt=>decide (t.2%m≠0)
noncomputable def xM:av->V
 |[]=>.non
 |t::_=>.int t.1
open PySem L2 OF
def c6(H:Hp):List Addr->List av->Prop:=Paired λp f=>a7 H p f
def c6.length(h:c6 H ps l):ps.length=l.length:=dP h
def c6.keep(h:c6 H ps l)(k:ag H H'):c6 H' ps l:=Paired.mapP h λp t e=>e.keep k
theorem c6.snoc:∀{H:Hp}{ps:List Addr}{l:List av}{p:Addr}{t:av},c6 H ps l->a7 H p t->c6 H (ps++[p]) (l++[t])
 |_,_,_,_,_,.nil,e=>.cons e .nil
 |_,_,_,_,_,.cons x r,e=>.cons x (c6.snoc r e)
def FLo(H:Hp)(a:Addr)(l:List av):Prop:=∃ps:List Addr,H a=some (.lst (ps.map V.ref))/\c6 H ps l
def gD(w:Nat)(l o:av):av:=if w=0 then bF l o else (l++o)++(bF l o).map λt=>(t.1,t.2*(if w=1 then -1 else -2))
noncomputable def vj(l:av):av:=[(0,1)]++l.map λt=>(t.1,-t.2)
theorem BH(t:Int×Int)(j:Int):∀m:av,aK (dA t m) j=t.2*cA (λi=>if Builtin.bitOr t.1 i=j then 1 else 0) m
 |[]=>by simp[dA,aK,cA]
 |u::m=>by
  have ih:=BH t j m;unfold dA at *;rw[bw];simp only[aK,cA];rw[ih,A9];by_cases h:Builtin.bitOr t.1 u.1=j
  ·rw[ax h,ax h];simp
  ·rw[aq h,aq h];simp
theorem CZ(h:∀j,aK m j=aK m' j)(j:Int):∀l:av,aK (bF l m) j=aK (bF l m') j
 |[]=>rfl
 |t::l=>by
  have ih:=CZ h j l;show aK (dA t m++bF l m) j=aK (dA t m'++bF l m') j;rw[eE,eE,ih,BH,BH,WH _ h]
def Il(hf:IsForm f)(hk:∀t∈f,0<=t.1/\t.1<2^M):f.length<=2^M:=by
 have pw:((2:Int)^M)=((2^M:Nat):Int):=by norm_cast
 have h1:=uQ (xD hf) (B:=(List.range (2^M)).map λk:Nat=>(k:Int)) λx hx=>by
  obtain⟨t,ht,rfl⟩:=bV.mp hx
  have:=hk t ht
  exact bV.mpr ⟨t.1.toNat,kO.mpr (by lia),mJ this.1⟩
 simpa using h1
theorem c6.keepU{H:Hp}{D:Addr}{xs:List V}{o:HO}(hD:H D=some (.lst xs)):∀{ps:List Addr}{l:List av},c6 H ps l->D∉ps->c6 (upd H D o) ps l
 |_,_,.nil,_=>.nil
 |_,_,.cons e r,h=>by
  refine .cons ?_ (c6.keepU hD r λz=>h (cq _ z));obtain⟨qs,h1,h2⟩:=e;exact⟨qs,by rw[aO (λz=>h (by rw[z];exact mD ..))];exact h1,h2.keep λb zs z=>by rw[aO (qM z hD (by intro w;cases w))];exact z⟩
open PySem L2 OF
def Jf{l:av}{U:Nat}(h0:∀t∈l,0<=t.1)(hU:∀j,(c5 l 0).testBit j=true->U.testBit j=true):∀t∈l,0<=t.1/\t.1<2^intBits (U:Int):=λt ht=>by
 exists h0 t ht,?_;have h1:t.1.toNat<2^intBits (U:Int):=by
  refine Bg _ λj hj=>?_
  cases e:t.1.toNat.testBit j
  ·rfl
  ·have h2:=hU j ((FX l 0 j).mpr (.inr ⟨t,ht,e⟩));rw[sN (cy (Dw U) (dm (by decide) hj))]at h2;cases h2
 have pw:((2:Int)^intBits (U:Int))=((2^intBits (U:Int):Nat):Int):=by norm_cast
 have:=h0 t ht
 lia
open PySem L2 OF
def Sg:Sp:=λvs H Q _=>∃c k:Int,vs=[.int c,.int k] /\ -(2^64)<k/\k<2^64/\∀r,0<=r->r<2147483587->Q (.int r) H
noncomputable def mi(t:Int×Int):Bool:=decide (t.1=0) || decide (t.2<0)
def zb8(l:av):Int:=((l.filter mi).map (·.2)).sum
def zaE(K:Frag):Sp:=λvs H Q _=>∃(a:Addr) (l:av),vs=[.ref a]/\TL K H a l/\l.length<=100000/\∀H',ag H H'->Q (.int (zb8 l)) H'
end My
namespace L2
open PySem PySem.Spec PyProof.Rows
section
variable{X:Cx}{e st lo hi:Expr}{te:TE}{tl th to:TO}{p2 pos:Pos}
def LI(m:Int)(ns:List Int):Prop:=m∈ns/\∀n∈ns,m<=n
def Vh(hi:IntsAre us ns)(nr:us.toArray=intItems xs)(cY:0<xs.size)(hP:(intItems xs)[argBest (λi j=>decide (numAt xs i<numAt xs j)) (xs.size-1)]?=some v) :
  ∃m t,v=.int m t/\LI m ns:=by
 obtain⟨t,rfl⟩:=intItems_at hP;exists _,t,rfl,?_,λn hn=>?_
 all_goals
  have hs:xs.toList.map (·.1)=ns:=by
   rw[<-nums_intItems,<-nr];exact (show numsOf us.toArray.toList=ns from hi.numsOf)
  obtain⟨b1,b2⟩:=argBest_lt (numAt xs) (xs.size-1);have gK:∀j,j<xs.size->ns[j]?=some (numAt xs j):=λj hj=>by
   rw[<-hs,bY];unfold numAt;rw[CU,MO hj];rfl
 ·exact cM (gK _ (by omega))
 ·obtain⟨j,hj⟩:=List.getElem?_of_mem hn;have nR:j<xs.size:=by
   have:=(d6.mp hj).1
   rw[<-hs,ay,vW]at this;exact this
  rw[gK j nR]at hj;cases hj;exact b2 j (by lia)
def zby(hc:X.calm=true):gH X (.builtin "min") (λxs H Q=>∃(a:Addr) (ns:List Int),xs=[.ref a]/\ai X.K H a (ns.map V.int)/\0<ns.length/\∀m,LI m ns->Q (.int m) H):=by
 intro aa s σ H xs us Q I r h;obtain⟨a,ns,rfl,hq,cY,q⟩:=h;obtain⟨u,rfl,ru⟩:=ix r;cases (show u=Value.ref a from ru);obtain⟨af,rv,p,hz⟩:=I.list hq;have hi:=wy rv;obtain⟨zs,nr⟩:=hi.allInts.items;have hsz:0<zs.size:=by
  have h1:=rv.length;rw[ay]at h1;have h2:af.toArray.size=zs.size:=by rw[nr];simp[intItems]
  rw[bJ]at h2;lia
 refine min_intList (I.ok.hd hc) (nr ▸ p.isList) hsz λv h' tk hP hk=>?_
 obtain⟨m,t,rfl,hm⟩:=Vh hi nr hsz hP;nomatch .int m,H,I.kept (t':=tk) hk,⟨t,rfl⟩,q m hm
theorem Fj:∀{bs:List Bool}{us:List Value},Vals (bs.map V.bl) us->∀(i:Nat) (v:Value),us[i]?=some v->∃b,bs[i]?=some b/\v=.bool b
 |[],us,r,i,v,h=>by rw[iA]at r;cases r;simp at h
 |b::bs,us,r,i,v,h=>by
  rw[bw]at r;cases r with
  |cons r1 r2 =>
   cases i with
   |zero =>
    have e:_=v:=cD h;subst e;nomatch b,rfl,r1
   |succ i=>exact Fj r2 i v h
def Ho(hc:X.calm=true):gH X (.builtin "all") (λxs H Q=>∃(a:Addr) (bs:List Bool),xs=[.ref a]/\ai X.K H a (bs.map V.bl)/\Q (.bl (bs.all id)) H):=by
 intro aa s σ H xs us Q I r h;obtain⟨a,bs,rfl,hq,q⟩:=h;obtain⟨u,rfl,ru⟩:=ix r;cases (show u=Value.ref a from ru);obtain⟨af,rv,p,hz⟩:=I.list hq;have hl:=p.isList;have bE:a<s.heap.objs.size:=by obtain⟨_,e,_⟩:=hl;exact bo e
 have hh:=I.ok.hd hc;refine call_all_walk (tq hl ?_);refine⟨s.heap.objs.size,[s.heap.objs.size,a],[s.heap.objs.size],af.toArray.size,_,_,λi=>(bs[i]?).getD true,rfl,LX (A:=X.A.in1) hh _ a (dB bE) af.toArray,⟨⟨_,c8 _ rfl,rfl,rfl⟩,hl.push _⟩,λi v s' Q' E' hP hQ=>?_,λh' tk hk=>?_⟩
 ·obtain⟨b,e,rfl⟩:=Fj rv i v (by simpa using hP);simp only[e,yM]at hQ;exact kG hQ
 ·have e:((List.range af.toArray.size).all λi=>(bs[i]?).getD true)=bs.all id:=by
   have h1:=rv.length;rw[ay]at h1;rw[bJ,<-h1];rw[rN,gz,gz];constructor
   ·intro z b hb;obtain⟨i,hi,rfl⟩:=LY hb
    have:=z i (kO.mpr hi)
    simpa [dD hi] using this
   ·intro z i hi;have mL:=kO.mp hi;simp only[dD mL,yM];exact z _ (nV mL)
  rw[e];exists .bl (bs.all id),H,I.kept (t':=tk) (λb o e=>hk b o (λhm=>?_) (cv _ e)),rfl,q;rw[bh.mp hm]at e;exact oN _ (bo e)
end
end L2
namespace My
open PySem L2 OF
def EX(K:Nat):((2:Int)^K)=((2^K:Nat):Int):=by norm_cast
open PySem L2 OF
inductive Sm where
 |bit (k:Nat)|fix (b:Int)|no (s:Sm)|two (w:Nat) (s t:Sm)
def Sm.d:Sm->D
 |.bit k=>.tup [.str "bit",.int (k:Int)]
 |.fix b=>.tup [.str "fix",.int b]
 |.no s=>.tup [.str "not",s.d]
 |.two w s t=>.tup [.str (wd w),s.d,t.d]
noncomputable def Sm.dp:Sm->Nat
 |.bit _=>0
 |.fix _=>0
 |.no s=>s.dp+1
 |.two _ s t=>max s.dp t.dp+1
def Sm.ok(P:Nat->Prop):Sm->Prop
 |.bit k=>P k
 |.fix b=>b=0\/b=1
 |.no s=>s.ok P
 |.two w s t=>w<3/\s.ok P/\t.ok P
def xc:Is H v (.tup [d,e])->∃p x y,v=.ref p/\H p=some (.tup [x,y])/\Is H x d/\Is H y e:=λh=>by
 unfold Is at h;obtain⟨p,xs,rfl,h1,h2⟩:=h;unfold a8 at h2;obtain⟨x0,r0,rfl,h3,h4⟩:=h2;unfold a8 at h4;obtain⟨x1,r1,rfl,h5,h6⟩:=h4;unfold a8 at h6;subst h6;nomatch p,x0,x1,rfl,h1,h3,h5
def Ux:Is H v (.tup [d,e,f])->∃p x y z,v=.ref p/\H p=some (.tup [x,y,z])/\Is H x d/\Is H y e/\Is H z f:=λh=>by
 unfold Is at h;obtain⟨p,xs,rfl,h1,h2⟩:=h;unfold a8 at h2;obtain⟨x0,r0,rfl,h3,h4⟩:=h2;unfold a8 at h4;obtain⟨x1,r1,rfl,h5,h6⟩:=h4;unfold a8 at h6;obtain⟨x2,r2,rfl,h7,h8⟩:=h6;unfold a8 at h8;subst h8;nomatch p,x0,x1,x2,rfl,h1,h3,h5,h7
def mm(h:H p=some (.tup [x,y]))(h1:Is H x d)(h2:Is H y e):Is H (.ref p) (.tup [d,e]):=by
 unfold Is;exists p,_,rfl,h,?_;unfold a8;exists _,_,rfl,h1,?_;unfold a8;exists _,_,rfl,h2,?_;unfold a8;rfl
def NG(h:H p=some (.tup [x,y,z]))(h1:Is H x d)(h2:Is H y e)(h3:Is H z f):Is H (.ref p) (.tup [d,e,f]):=by
 unfold Is;exists p,_,rfl,h,?_;unfold a8;exists _,_,rfl,h1,?_;unfold a8;exists _,_,rfl,h2,?_;unfold a8;exists _,_,rfl,h3,?_;unfold a8;rfl
def cX:Is H v (.str x)↔v=.str x:=by unfold Is;exact Iff.rfl
def qv:Is H v (.int x)↔v=.int x:=by unfold Is;exact Iff.rfl
def tN(h:Is H v (Sm.bit k).d):∃p,v=.ref p/\H p=some (.tup [.str "bit",.int (k:Int)]):=by
 obtain⟨p,x,y,rfl,h1,h2,h3⟩:=xc h;rw[cX]at h2;rw[qv]at h3;subst h2 h3;nomatch p,rfl,h1
def vv(h:Is H v (Sm.fix b).d):∃p,v=.ref p/\H p=some (.tup [.str "fix",.int b]):=by
 obtain⟨p,x,y,rfl,h1,h2,h3⟩:=xc h;rw[cX]at h2;rw[qv]at h3;subst h2 h3;nomatch p,rfl,h1
def sV(h:Is H v (Sm.no s).d):∃p x,v=.ref p/\H p=some (.tup [.str "not",x])/\Is H x s.d:=by
 obtain⟨p,x,y,rfl,h1,h2,h3⟩:=xc h;rw[cX]at h2;subst h2;nomatch p,y,rfl,h1,h3
def sM(h:Is H v (Sm.two w s t).d):∃p x y,v=.ref p/\H p=some (.tup [.str (wd w),x,y])/\Is H x s.d/\Is H y t.d:=by
 obtain⟨p,x,y,z,rfl,h1,h2,h3,h4⟩:=Ux h;rw[cX]at h2;subst h2;nomatch p,y,z,rfl,h1,h3,h4
theorem jK(k:∀p xs,H p=some (.tup xs)->H' p=some (.tup xs)):∀{s:Sm}{v:V},Is H v s.d->Is H' v s.d
 |.bit j,v,h=>by obtain⟨p,rfl,h1⟩:=tN h;exact mm (k _ _ h1) (cX.mpr rfl) (qv.mpr rfl)
 |.fix j,v,h=>by obtain⟨p,rfl,h1⟩:=vv h;exact mm (k _ _ h1) (cX.mpr rfl) (qv.mpr rfl)
 |.no s,v,h=>by obtain⟨p,x,rfl,h1,h2⟩:=sV h;exact mm (k _ _ h1) (cX.mpr rfl) (jK k h2)
 |.two w s t,v,h=>by obtain⟨p,x,y,rfl,h1,h2,h3⟩:=sM h;exact NG (k _ _ h1) (cX.mpr rfl) (jK k h2) (jK k h3)
theorem B5:∀(ls ks:List Nat),ks.Nodup->(∀k∈ks,∀j,k.testBit j=true->j∈ls)->ks.length<=2^ls.length
 |[],ks,hn,h=>by
  have h0:∀k∈ks,k=0:=λk hk=>rf λj=>by
   cases e:k.testBit j
   ·simp
   ·exact absurd (h k hk j e) (by simp)
  match ks,hn,h0 with
  |[],_,_=>exact cb _
  |[_],_,_=>exact aJ _
  |a::b::r,hn,h0 =>
   have h1:=h0 a (by simp);have h2:=h0 b (by simp);rw[jO]at hn;exact absurd (by rw[h1,h2];simp) hn.1
 |x::r,ks,hn,h=>by
  have hA:(ks.filter λk=>k.testBit x).length<=2^r.length:=by
   have:=B5 r ((ks.filter λk=>k.testBit x).map λk=>k-2^x) (by
    rw[List.Nodup,C8];refine (hn.filter _).imp_of_mem fun {a b} ha hb hab z=>hab ?_
    have h1:=zU (iJ.mp ha).2;have h2:=zU (iJ.mp hb).2;omega) (λk hk j hj=>by
     obtain⟨k',hk',rfl⟩:=bV.mp hk;have my:=iJ.mp hk';rw[pf my.2]at hj;have j5:k'.testBit j=true/\j≠x:=by simpa using hj
     rcases ba.mp (h k' my.1 j j5.1)with z|z
     ·exact absurd z j5.2
     ·exact z)
   rw[ay]at this;exact this
  have hB:(ks.filter λk => !k.testBit x).length<=2^r.length:=B5 r _ (hn.filter _) λk hk j hj=>by
   have my:=iJ.mp hk;rcases ba.mp (h k my.1 j hj)with z|z
   ·subst z;have:=my.2;rw[hj]at this;cases this
   ·exact z
  have hs:∀l:List Nat,l.length=(l.filter λk=>k.testBit x).length+(l.filter λk => !k.testBit x).length:=λl=>by
   induction l with
   |nil=>rfl
   |cons a l ih =>
    rw[dZ,dZ,aW,ih];cases a.testBit x<;>simp<;>lia
  rw[aW,kN,hs ks];lia
def u9:(wd w ≠ "bit")/\(wd w ≠ "fix")/\(wd w ≠ "not"):=by
 match w with
 |0=>decide
 |1=>decide
 |n+2=>show ("xor" : Str) ≠ "bit" /\ ("xor" : Str) ≠ "fix" /\ ("xor" : Str) ≠ "not";decide
end My
namespace L2
open PySem PySem.Spec PyProof.Rows
def vU(K:Frag)(a:Addr)(n:Nat):It :=
 ⟨λi H=>∃xs x,ai K H a xs/\i<n/\xs[n-1-i]?=some x,λi H x H'=>H'=H/\∀xs,ai K H a xs->xs[n-1-i]?=some x,λi _=>n<=i⟩
def XC{P:Program}{w:World}{K:Frag}{tg:Expr}(a it:Addr)(n:Nat) :
  kA P w K tg (vU K a n) [it] it (λi h=>i<=n/\h.IsRevIter it a ((n:Int)-1-(i:Int))) where
 mem:=bh.mpr rfl
 obj:=λi h st b hb=>by
  obtain⟨_,o,e,c,d⟩:=st;rw[bh.mp hb];exact⟨o,e,λv z=>by rw[d]at z;cases z⟩
 keep:=λi h h' st k=>⟨st.1,st.2.at (k it (bh.mpr rfl))⟩
 item:=by
  intro X hP hw hK hc i aa s σ H E I hf st hg;subst hP hw hK;obtain⟨xs,x,hq,hi,hx⟩:=hg;obtain⟨af,rv,p,_⟩:=I.list hq;obtain⟨u,hu,ru⟩:=rv.get hx;have fo:=hf it (bh.mpr rfl);have hit:=st.2;rw[show (n:Int)-1-(i:Int)=((n-1-i:Nat):Int) by omega]at hit;refine wpAny_pyNext_rev_item hit p.isList (x:=u) (by simpa using hu) λh' bU sb=>?_
  have J:Inv X aa σ H {s with heap:=h'}:=I.turned (t':=s.toks) (λb o hb z=>(sb.2 b hb).trans z) fo.1 fo.2.1 fo.2.2.2.1 fo.2.2.2.2.1 fo.2.2.2.2.2;rw[show ((n-1-i:Nat):Int)-1=(n:Int)-1-((i+1:Nat):Int) by omega]at bU;have cU:=bU;obtain⟨o,z1,z2,z3⟩:=bU;nomatch u,rfl,uj (s:={s with heap:=h'}) z1 z2 z3 (by decide) ⟨x,H,J,ru,⟨rfl,λys hy=>by rw[I.list_inj hy hq];exact hx⟩,⟨hi,cU⟩,λb hb=>(hf b hb).1⟩
 done:=by
  intro X hP hw hK hc i aa s σ H E I hf st hg;subst hP hw hK;have fo:=hf it (bh.mpr rfl);have hn:n<=i:=hg;have hit:=st.2;have hle:=st.1;rw[show (n:Int)-1-(i:Int) = -1 by lia]at hit;exact wpAny_pyNext_rev_end (I.ok.hd hc) hit λh' eb=>⟨rfl,I.turned (t':=s.toks) (λb o hb z=>eb b o hb z) fo.1 fo.2.1 fo.2.2.2.1 fo.2.2.2.2.1 fo.2.2.2.2.2⟩
 self:=λ_ _ _ _ _ st h=>wpAny_pyIter_revIter st.2 h
def zbx(K:Frag)(ta:TA):TI:=λσ H R=>ta σ H λvs H1=>∃a xs,vs=[.ref a]/\ai K H1 a xs/\R (vU K a xs.length) H1
def Sn{X:Cx}{tg a:Expr}{ta:TA}{p pos:Pos}(hg:Gl X "reversed")(hm:X.mg "reversed" = none)(ha:PA X [a] ta)(hs:starEach [a] X.env=[(false,eval a X.env)]:=by rfl) :
  PI X tg (.Call (.Name "reversed" p) [a] [] pos) (zbx X.K ta):=by
 intro aa s σ H R I h;refine Call_ (nX I hg hm boot_reversed (sS (aI (ha pos aa s σ H _ I h) λus s1 ⟨vs,H1,I1,r1,q1⟩=>?_) hs rfl));obtain⟨l,xs,rfl,hq,q⟩:=q1;obtain⟨u,rfl,ru⟩:=Vals.one r1;cases (show u=Value.ref l from ru);obtain⟨af,rx,p,hz⟩:=I1.list hq;have fO:=rx.length;refine call_reversed_list p.isList (wpAny_pyIter_revIter (it:=s1.heap.objs.size) (l:=l) (i:=((af.toArray.size:Nat):Int)-1) ⟨_,c8 _ rfl,rfl,rfl⟩ ?_);exists s1.heap.objs.size,[s1.heap.objs.size],_,_,H1,rfl,I1.kept (t':=s1.toks) λb o e=>cv _ e,XC l _ xs.length,⟨cb _,?_⟩,λb hb=>?_,q
 ·rw[show ((xs.length:Nat):Int)-1-((0:Nat):Int)=((af.toArray.size:Nat):Int)-1 by rw[bJ,fO];simp];nomatch _,c8 _ rfl,rfl,rfl
 ·rw[bh.mp hb];exact I1.fpOk (aJ _) (I1.hok.fresh (aJ _))
def zbA{K:Frag}{a:Addr}{xs:List V}{g:TG}{tb:TS}{D:kr}{σ:St}{H:Hp}(Pv:Nat->St->Hp->Prop)(h0:Pv 0 σ H)(hl:∀i σ H,i<=xs.length->Pv i σ H->ai K H a xs)
  (hs:∀i x σ H,xs.reverse[i]?=some x->Pv i σ H->g x σ H λσ2 H2=>tb {D with nx:=Pv (i+1),ct:=Pv (i+1),bk:=D.nx} σ2 H2) (hd:∀σ H,Pv xs.length σ H->D.nx σ H) :
  ∃W:Nat->Nat->St->Hp->Prop,(∃m,W 0 m σ H)/\∀i m σ H,W i m σ H ->
   ((vU K a xs.length).stop i H/\D.nx σ H)\/((vU K a xs.length).go i H/\∃N:St->Hp->Prop,(∀σ' H',N σ' H'->∃m',m'<m/\W (i+1) m' σ' H')/\∀x H',(vU K a xs.length).yld i H x H'->g x σ H' λσ2 H2=>tb {D with nx:=N,ct:=N,bk:=D.nx} σ2 H2):=by
 exists λi m σ H=>m=xs.length-i/\i<=xs.length/\Pv i σ H,⟨xs.length,by simp,cb _,h0⟩,λi m σ H ⟨em,hi,p⟩=>?_;subst em;have q:=hl i σ H hi p;rcases kb i xs.length with bE|X3
 ·have hb:xs.length-1-i<xs.length:=by omega
  refine .inr ⟨⟨xs,xs[xs.length-1-i],q,bE,dD hb⟩,Pv (i+1),λσ' H' p'=>⟨xs.length-(i+1),by lia,rfl,bE,p'⟩,λx H' y=>?_⟩;rw[y.1];exact hs i x σ H (by rw[List.getElem?_reverse bE];exact y.2 xs q) p
 ·have e:i=xs.length:=by lia
  rw[e]at p;exact .inl ⟨X3,hd σ H p⟩
def QD(K:Frag):V->List V->Hp->VK->Prop:=λx vs H Q=>∃l b xs zs,x=.ref l/\vs=[.ref b]/\H l=some (.lst xs)/\aG K H b zs/\xs.length+zs.length<=sizeLine/\Q .non (upd H l (.lst (xs++zs)))
def SJ{prog:Program}{w:World}{A:Around}{E:Value->Shared->Prop}{s:Shared}{l b:Addr}{af de:List Value}{n:Nat}{Q:Value->Shared->Prop}
  (e:s.heap.get? l=some {cls:=.type "list",data:=.seq af.toArray n}) (hb:IsTup s.heap b de.toArray) (hz:af.length+de.length<=sizeLine)
  (h:Q .none {s with heap:=s.heap.update l (Obj.mapSeq λx=>x++de.toArray)}):wpAny (model prog w) A (call (.builtin "list.extend") [.ref l,.ref b]) Q E s:=by
 obtain⟨o,ho,hc,k,hd⟩:=hb;refine pB F.slot_list_extend ⟨_,e,rfl⟩ F.entry_list_extend ?_ (F.args_list_extend_2 _ _);unfold Builtin.«list.extend»;refine aA (wpAny_of_eq (a:=(Value.ref l,Value.ref b)) rfl ?_);dsimp only;unfold Builtin.List.listExtendWith;refine aA (xa (T := "tuple") ⟨o,ho,hc⟩ ?_);rw[ax (by rw[show (Value.type "tuple" == Value.type "tuple")=true by decide+kernel,IU])];refine aA (wpAny_listItems ho hd ?_);refine aA (wpAny_listItems e rfl ?_);have hlong:¬(!af.toArray.isEmpty&&Builtin.List.listTooLong (af.toArray.size+de.toArray.size))=true:=by
  rw[Rr (by rw[bJ,bJ];exact hz),iG];exact cQ
 rw[aq hlong];refine aA ?_;show wpAny _ _ (updateSeq l _) _ _ _;refine wpAny_updateSeq e rfl ?_ (by rw[bJ];lia) (by rw[Array.size_append,bJ,bJ];lia);exact bg ⟨_,rfl,h⟩
def zax{X:Cx}:fI X "list.extend" (QD X.K):=by
 intro aa s σ H x vs v us Q I rx rv h;obtain⟨l,b,xs,zs,rfl,rfl,hH,hB,hz,q⟩:=h;cases rx;obtain⟨u,rfl,ru⟩:=rv.one;cases ru;obtain⟨z,af,n,r,hl,e⟩:=I.lstM hH;obtain⟨de,r2,pl,_⟩:=I.tuple hB;have da:=r2.length;refine SJ e pl (by lia) ⟨.non,_,I.lset (its':=af++de) hH e (by simp) (r.append r2) ?_,rfl,q⟩;rw[aS];exact hz
end L2
namespace My
open PySem L2 OF
noncomputable def Sm.sz:Sm->Nat
 |.bit _=>1
 |.fix _=>1
 |.no s=>s.sz+1
 |.two _ s t=>s.sz+t.sz+1
noncomputable def Sm.pre:Sm->List Sm
 |.bit k=>[.bit k]
 |.fix b=>[.fix b]
 |.no s=>.no s::s.pre
 |.two w s t=>.two w s t::(t.pre++s.pre)
theorem Sm.pre_len:∀s:Sm,s.pre.length=s.sz
 |.bit _=>rfl
 |.fix _=>rfl
 |.no s=>by show s.pre.length+1=s.sz+1;rw[pre_len s]
 |.two w s t=>by show (t.pre++s.pre).length+1=s.sz+t.sz+1;rw[aS,pre_len s,pre_len t];lia
theorem Sm.sz_pos:∀s:Sm,0<s.sz
 |.bit _=>Nat.one_pos
 |.fix _=>Nat.one_pos
 |.no s=>NV _
 |.two w s t=>NV _
theorem Sm.sz_dp:∀s:Sm,s.sz+1<=2^(s.dp+1)
 |.bit _=>aJ _
 |.fix _=>aJ _
 |.no s=>by
  have:=sz_dp s
  show s.sz+1+1<=2^(s.dp+1+1);rw[kN]
  have:=sz_pos s
  lia
 |.two w s t=>by
  have h1:=sz_dp s;have h2:=sz_dp t;have k1:2^(s.dp+1)<=2^(max s.dp t.dp+1):=dm (by decide) (by lia);have k2:2^(t.dp+1)<=2^(max s.dp t.dp+1):=dm (by decide) (by lia);show s.sz+t.sz+1+1<=2^(max s.dp t.dp+1+1);rw[kN];lia
def zaK(st:List Sm):Sm->List Sm->Prop
 |.bit k,bU=>bU=st++[.bit k]
 |.fix b,bU=>bU=st++[.fix b]
 |.no s,bU=>∃a,st=a++[s]/\bU=a++[.no s]
 |.two w s t,bU=>∃a,st=a++[s,t]/\bU=a++[.two w s t]
def pe(fin:List Sm):List Sm->List Sm->Prop
 |st,[]=>st=fin
 |st,p::L=>∃bU,zaK st p bU/\pe fin bU L
theorem xG:∀(s:Sm) (st L:List Sm),pe fin (st++[s]) L->pe fin st (s.pre.reverse++L)
 |.bit k,st,L,h=>⟨_,rfl,h⟩
 |.fix b,st,L,h=>⟨_,rfl,h⟩
 |.no s,st,L,h=>by
  show pe fin st ((Sm.no s::s.pre).reverse++L);rw[Ac,iT];exact xG s st _ ⟨_,⟨st,rfl,rfl⟩,h⟩
 |.two w s t,st,L,h=>by
  show pe fin st ((Sm.two w s t::(t.pre++s.pre)).reverse++L);rw[Ac,nK,iT,iT];exact xG s st _ (xG t _ _ ⟨_,⟨st,by rw[iT];rfl,rfl⟩,h⟩)
abbrev dC(G:Hp):List V->List Sm->Prop:=Paired λx s=>Is G x s.d
theorem dC.snoc:∀{G:Hp}{xs:List V}{l:List Sm}{x:V}{s:Sm},dC G xs l->Is G x s.d->dC G (xs++[x]) (l++[s])
 |_,_,_,_,_,.nil,h=>.cons h .nil
 |_,_,_,_,_,.cons e r,h=>.cons e (dC.snoc r h)
theorem dC.last:∀{G:Hp}{xs:List V}{l:List Sm},dC G xs l->xs≠[]->∃ys y m s,xs=ys++[y]/\l=m++[s]/\dC G ys m/\Is G y s.d
 |_,_,_,.nil,h=>absurd rfl h
 |_,_,_,.cons (l₁:=[]) e .nil,h=>⟨[],_,[],_,rfl,rfl,.nil,e⟩
 |G,x::y::xs,s::l,.cons e r,h=>by
  obtain⟨ys,z,m,t,e1,e2,h1,h2⟩:=dC.last r (by simp);rw[e1,e2];nomatch x::ys,z,s::m,t,rfl,rfl,.cons e h1,h2
theorem dC.rev:∀{G:Hp}{xs:List V}{l:List Sm},dC G xs l->dC G xs.reverse l.reverse
 |_,_,_,.nil=>.nil
 |_,_,_,.cons e r=>by rw[Ac,Ac];exact (dC.rev r).snoc e
theorem dC.at:∀{G:Hp}{xs:List V}{l:List Sm}{i:Nat}{x:V},dC G xs l->xs[i]?=some x->∃s,l[i]?=some s/\Is G x s.d
 |_,_,_,_,_,.nil,h=>by cases h
 |_,_,_,0,_,.cons e r,h=>by cases h;nomatch _,rfl,e
 |_,_,_,i+1,_,.cons e r,h=>dC.at (i:=i) r h
theorem Fl:∀{a b:List α}{m:List β},Paired R (a++b) m->∃m1 m2,m=m1++m2/\Paired R a m1/\Paired R b m2
 |[],b,m,h=>⟨[],m,rfl,.nil,h⟩
 |x::a,b,y::m,.cons e r=>by
  obtain⟨m1,m2,rfl,h1,h2⟩:=Fl (a:=a) r;nomatch y::m1,m2,rfl,.cons e h1,h2
theorem rM:∀{a:List α}{m:List β}{x:α}{y:β},Paired R a m->R x y->Paired R (a++[x]) (m++[y])
 |_,_,_,_,.nil,h=>.cons h .nil
 |_,_,_,_,.cons e r,h=>.cons e (rM r h)
open PySem L2 OF
theorem v9:∀{m a b:List β}{l:List α},Paired R l (a++b)->∃l1 l2,l=l1++l2/\Paired R l1 a/\Paired R l2 b
 |m,[],b,l,h=>⟨[],l,rfl,.nil,h⟩
 |m,y::a,b,x::l,.cons e r=>by
  obtain⟨l1,l2,rfl,h1,h2⟩:=v9 (m:=m) (a:=a) r;nomatch x::l1,l2,rfl,.cons e h1,h2
theorem Sm.pre_ok:∀{s:Sm},s.ok P->∀p∈s.pre,p.ok P
 |.bit k,h,p,hp=>by rw[bh.mp hp];exact h
 |.fix b,h,p,hp=>by rw[bh.mp hp];exact h
 |.no s,h,p,hp=>by
  rcases ba.mp hp with rfl|z
  ·exact h
  ·exact Sm.pre_ok (s:=s) h p z
 |.two w s t,h,p,hp=>by
  rcases ba.mp hp with rfl|z
  ·exact h
  ·rcases bW.mp z with z|z
   ·exact Sm.pre_ok h.2.2 p z
   ·exact Sm.pre_ok h.2.1 p z
def Wj(w:Nat):iz (V.str (wd w)) [.str "and",.str "or",.str "xor"]=true:=by
 match w with
 |0=>decide
 |1=>decide
 |n+2=>show iz (V.str "xor") [.str "and",.str "or",.str "xor"]=true;decide
def px(h:n+1<=2^21):n<sizeLine:=cy (Nat.lt_of_succ_le h) (by decide)
def NB{s:Sm}(h:s.dp<=20):s.sz+1<=2^21:=bp s.sz_dp (dm (by decide) (by lia))
end My
namespace L2
open PySem PySem.Spec PyProof.Rows
section
variable{X:Cx}
def Uz:V->List V->Hp->VK->Prop:=λx vs H Q=>∃(l:Addr) (ns:List Int) (k:Int),x=.ref l/\vs=[.int k]/\H l=some (.lst (ns.map V.int))/\k∈ns/\Q (.int ((ns.idxOf k:Nat):Int)) H
def SU:fI X "list.index" Uz:=by
 intro aa s σ H x vs v us Q I rx rv h;obtain⟨l,ns,k,rfl,rfl,hH,hk,q⟩:=h;cases rx;obtain⟨u,rfl,t,rfl⟩:=rv.one;obtain⟨z,af,n,r,hl,e⟩:=I.lstM hH;have hi:=wy r;have hn:=hi.length;have hj:ns.idxOf k<ns.length:=List.idxOf_lt_length_iff.mpr hk;have hz:af.length<2^40:=by rw[<-hl];exact je z (by decide)
 refine ke IX ⟨_,e,rfl⟩ JM (L9 _ _)
  (Qy l af.toArray n none #[] (.int k t) (isInt k) (ns.idxOf k) (by rw[bJ];lia) (by lia) ?_ ?_) ⟨e,λy hy=>(eq_isInt k t hi y (by simpa using hy)).at _ _,⟨.int _,H,I.tok _,⟨_,rfl⟩,q⟩⟩
 ·show isInt k af[ns.idxOf k]=true;rw[isInt_at k hi _ (by omega) hj];simpa using List.getElem_idxOf hj
 ·intro m hm bE;show isInt k af[m]=false;rw[isInt_at k hi _ (by simpa using hm) (by lia)];exact ne_of_lt_idxOf bE _
end
end L2
namespace My
open PySem L2 OF
def YF(f:av)(m:Nat):List Int:=(List.range (2^m)).map λg:Nat=>mn f (g:Int)
open PySem L2 OF
theorem Gy:∀(r l d:av),DictOf d l->∃d',DictOf d' (l++r)
 |[],l,d,h=>⟨d,by rw[fc];exact h⟩
 |p::r,l,d,h=>by
  have:=Gy r (l++[p]) _ (h.snoc p)
  rw[iT]at this;exact this
def Pj(l:av):∃f,bx f l:=by
 obtain⟨d,hd⟩:=Gy l [] [] DS;exists _,Dx (ks:=(d.map (·.1)).mergeSort λa b=>decide (a<=b)) hd (List.mergeSort_perm _ _) ?_
 have:=List.pairwise_mergeSort (le:=λa b:Int=>decide (a<=b)) (λa b c h1 h2=>by simp at *;lia) (λa b=>by simp;lia) (d.map (·.1))
 exact this.imp λh=>by simpa using h
end My
namespace L2
open PySem PySem.Spec PyProof.Rows
section
variable{X:Cx}
def Px (hc:X.calm=true):gH X (.builtin "sorted") (fun xs H Q=>∃ (a:Addr) (kvs:List (bO × V)) (ks:List Int),xs=[.ref a]/\H a=some (.dK kvs)/\kvs.map (·.1)=ks.map Sum.inl/\ks.length<64 /\ ∀(l:Addr) (kn:List Int),H l=none->kn.Perm ks->kn.Pairwise (· <= ·)->Q (.ref l) (upd H l (.lst (kn.map V.int)))):=by
 intro aa s σ H xs us Q I r h;obtain⟨a,kvs,ks,rfl,hH,Mr,Wn,q⟩:=h;obtain⟨u,rfl,ru⟩:=ix r;cases (show u=Value.ref a from ru);obtain⟨z,hd,vs,rel,dd⟩:=zM I.hok hH;obtain⟨ep,gK⟩:=dd.dictAt;have aT:vs.length=ks.length:=by
  have e1:=rel.length;have e2:=congrArg List.length Mr;rw[ay,ay]at e2;lia
 refine Calls.call_function_entry kind_sorted plain_sorted entry_sorted (args_sorted1 _) ?_;unfold Builtin.«sorted»;refine aA (m:=checkCount "sorted" 1 1 _) (bg ?_);refine aA (PySem.W.kdu_collect (A:=X.A.in1) (PySem.W.kdl_dict (knd:=eJ X.prog X.w) (kvs:=vs) (ep:=ep) hd) (I.ok.hd hc) gK (by rw[<-rel.length];exact z) λh' tk acc hk sL=>?_);have vM:acc.toList.length=vs.length:=by rw[vW];exact sL.1
 have hkeys:vs.map (·.1)=ks.map Sum.inl:=rel.keys.symm.trans Mr;have hI:IntsAre acc.toList ks:=by
  refine wy ?_;have j3:∀(j:Nat) (v:Value),acc.toList[j]?=some v->∃k,ks[j]?=some k/\∃t,v=Value.int k t:=λj v e=>by
   obtain⟨k,x,hx,S1⟩:=sL.2 j v (by rw[<-CU];exact e);have e1:(vs.map (·.1))[j]?=some k:=by rw[bY,hx];rfl
   rw[hkeys,bY]at e1;cases e2:ks[j]? with
   |none=>rw[e2]at e1;cases e1
   |some k' =>
    rw[e2]at e1;have e3:Sum.inl k'=k:=cD e1;subst e3;nomatch k',rfl,Qt S1
  have go:∀(zs:List Value) (ns:List Int),zs.length=ns.length->(∀(j:Nat) (v:Value),zs[j]?=some v->∃k,ns[j]?=some k/\∃t,v=Value.int k t)->Vals (ns.map V.int) zs:=by
   intro zs;induction zs with
   |nil=>intro ns hl _;cases ns with
    |nil=>exact .nil
    |cons _ _=>simp at hl
   |cons v r ih=>intro ns hl hv;cases ns with
    |nil=>simp at hl
    |cons n ns =>
     obtain⟨k,e1,e2⟩:=hv 0 v rfl;have e3:n=k:=by simpa using e1
     subst e3;exact .cons e2 (ih ns (by simpa using hl) λj w e=>by simpa using hv (j+1) w (by simpa using e))
  exact go acc.toList ks (by lia) j3
 refine aA (wpAny_newList ?_ (by rw[vM,<-rel.length];exact z));have uu:(h'.push (seqObj "list" acc.toList.toArray 0)).get? h'.objs.size=some (seqObj "list" acc.toList.toArray 0):=c8 _ rfl;show wpAny _ _ _ _ _ {s with heap:=h'.push (seqObj "list" acc.toList.toArray 0),toks:=tk};refine aA (pq (pB slot_list_sort ⟨_,uu,rfl⟩ entry_list_sort (list_sort_tree uu hI (by rw[vM,aT];exact Wn) λout wK a1 a2 a3=>⟨_,rfl,?_⟩) (args_list_sort _)));have nD:s.heap.get? h'.objs.size=none:=by
  cases e:s.heap.get? h'.objs.size with
  |none=>rfl
  |some o=>exact absurd (bo (hk _ _ e)) (oN _)
 have keep:∀b o,s.heap.get? b=some o->(sortedHeap (h'.push (seqObj "list" acc.toList.toArray 0)) h'.objs.size acc.toList out).get? b=some o:=λb o e=>by
  have bE:=bo (hk _ _ e);rw[sortedHeap_old (dB bE) (by rw[size_push'];exact Nat.lt_succ_of_lt bE)];exact cv _ (hk _ _ e)
 obtain⟨ee,Th⟩:=sortedHeap_at (out:=out) uu;have WD:H h'.objs.size=none:=by
  cases e:H h'.objs.size with
  |none=>rfl
  |some o=>obtain⟨ob,e'⟩:=(I.hok _ _ e).there;rw[nD]at e';cases e'
 have rv:Vals (wK.map V.int) out.toList:=BJ a1;have Gn:wK.length=ks.length:=a2.length_eq;exact bg ⟨_,rfl,⟨.ref h'.objs.size,_,I.laidN (o:=.lst (wK.map V.int)) (t':=tk) keep nD ⟨by rw[ay,Gn,<-aT,<-rel.length];exact z,out.toList,ee,rv,by simpa using Th⟩,rfl,q _ wK WD a2 a3⟩⟩
end
open PySem PySem.Spec PyProof.Rows
section
variable{X:Cx}{tg:Expr}
def Hz:fI X "str.startswith" (λx vs H Q=>∃i j,x=.str i/\vs=[.str j]/\Q (.bl (Txt.startswith i j)) H):=by
 intro aa s σ H x xs v us Q I rx rv h;obtain⟨i,j,rfl,rfl,q⟩:=h;obtain⟨t,rfl⟩:=rx;obtain⟨u,rfl,⟨t2,rfl⟩⟩:=rv.one;exact SC.startswith ⟨.bl _,H,I,rfl,q⟩
def Bo:fI X "str.find" (λx vs H Q=>∃i j,x=.str i/\vs=[.str j]/\Q (.int (Txt.find i j)) H):=by
 intro aa s σ H x xs v us Q I rx rv h;obtain⟨i,j,rfl,rfl,q⟩:=h;obtain⟨t,rfl⟩:=rx;obtain⟨u,rfl,⟨t2,rfl⟩⟩:=rv.one;exact SC.find ⟨.int _,H,I.tok _,⟨_,rfl⟩,q⟩
def Xu:fI X "str.lstrip" (λx vs H Q=>∃i j,x=.str i/\vs=[.str j]/\i.length<=sizeLine/\Q (.str (Txt.lstripChars i j)) H):=by
 intro aa s σ H x xs v us Q I rx rv h;obtain⟨i,j,rfl,rfl,hz,q⟩:=h;obtain⟨t,rfl⟩:=rx;obtain⟨u,rfl,⟨t2,rfl⟩⟩:=rv.one;exact call_gives F.slot_str_lstrip (oq _ _ _) F.entry_str_lstrip (F.args_str_lstrip_2 _ _) (gives_str_lstrip_chars i j t t2) (post_val_or_made (λ_=>fits_stripped _ _ _ hz) λt' k=>⟨.str _,H,I.tok _,⟨_,rfl⟩,q⟩)
theorem Oi:∀{ys:List Str}{af:List Value},Vals (ys.map V.str) af->StrsAre af ys
 |[],_,h=>by cases h;exact .nil
 |y::r,_,h=>by
  cases h with
  |cons a b=>obtain⟨t,rfl⟩:=a;exact .cons _ _ (Oi b)
def rg:fI X "str.join" (λx vs H Q=>∃i l ys,x=.str i/\vs=[.ref l]/\ai X.K H l (ys.map V.str)/\(ys.map (·.length)).sum+ys.length*i.length<=16777216/\Q (.str (Txt.join i ys)) H):=by
 intro aa s σ H x xs v us Q I rx rv h;obtain⟨i,l,ys,rfl,rfl,hq,hz,q⟩:=h;obtain⟨t,rfl⟩:=rx;obtain⟨u,rfl,ru⟩:=rv.one;cases (show u=Value.ref l from ru);obtain⟨af,r,p,hl⟩:=I.list hq;exact join_list p.isList (Oi r) hz λt' k=>⟨.str _,H,I.tok _,⟨_,rfl⟩,q⟩
theorem JH:∀{l:List (Str×Tok)},Vals ((l.map (·.1)).map V.str) (strValues l)
 |[]=>.nil
 |(x,t)::r=>.cons ⟨t,rfl⟩ (JH (l:=r))
def zav(I:Inv X aa σ H s)(e:l.map (·.1)=ys)(hz:ys.length<=sizeLine) :
  Inv X aa σ (upd H s.heap.objs.size (.lst (ys.map V.str))) {s with heap:=s.heap.push {cls:=.type "list",data:=.seq (strValues l).toArray},toks:=tk}:=by
 subst e;exact I.laid (o:=.lst _) (t':=tk) (λb o q=>cv _ q) (aJ _) ⟨by rw[ay];exact hz,strValues l,0,JH,c8 _ rfl⟩
def vm:fI X "str.split" (λx vs H Q=>∃i j,x=.str i/\vs=[.str j]/\(j.length == 0)=false/\i.length<sizeLine/\∀a,H a=none->Q (.ref a) (upd H a (.lst ((Txt.split i j).map V.str)))):=by
 intro aa s σ H x xs v us Q I rx rv h;obtain⟨i,j,rfl,rfl,hy,hz,q⟩:=h;obtain⟨t,rfl⟩:=rx;obtain⟨u,rfl,⟨t2,rfl⟩⟩:=rv.one;have hj:1<=j.length:=by
  have:j.length≠0:=by simpa using hy
  lia
 have hw:=split_weight i j hj;have hn:(Txt.split i j).length<=sizeLine:=by lia
 have fin:∀(l:List (Str×Tok)) (tk:Nat),l.map (·.1)=Txt.split i j->EP X aa σ Q (.ref s.heap.objs.size) {s with heap:=s.heap.push {cls:=.type "list",data:=.seq (strValues l).toArray},toks:=tk}:=λl tk e =>
  ⟨.ref s.heap.objs.size,_,zav I e hn,rfl,q _ (I.hok.fresh (aJ _))⟩
 cases h1:(decide (i.length<j.length) || decide (Builtin.Str.strKind i<Builtin.Str.strKind j))
 ·cases hf:(Builtin.Str.occurrences i j 0 i.length (i.length+1)).isEmpty
  ·have e:Txt.split i j=Builtin.Str.partsBetween i (Builtin.Str.occurrences i j 0 i.length (i.length+1)) j.length:=(aq (FC h1)).trans (aq (FC hf));refine ke Bf (oq _ _ _) AH (Fh _ _) (meets_str_split_sep i j t t2 h1 hy hf (by lia) (by rw[<-e];exact hn)) ?_;show wants _ _ _ {s with toks:=_,heap:=s.heap.push {cls:=.type "list",data:=.seq (strsFrom s.toks (Builtin.Str.partsBetween i (Builtin.Str.occurrences i j 0 i.length (i.length+1)) j.length)).toArray}};rw[strsFrom_eq];exact fin _ _ ((numbered_texts _ _).trans e.symm)
  ·exact ke Bf (oq _ _ _) AH (Fh _ _) (meets_str_split_not_found i j t t2 h1 hy hf)
    (fin [(i,t)] s.toks ((aq (FC h1)).trans (ax hf)).symm)
 ·exact ke Bf (oq _ _ _) AH (Fh _ _) (meets_str_split_cannot_occur i j t t2 h1)
   (fin [(i,t)] s.toks (ax h1).symm)
def lN:Ad X (λx lo hi H Q=>∃z,x=.str z/\z.length<=sizeLine/\Q (.str (Txt.slice z lo hi)) H):=by
 intro aa s σ H x v vl vu lo hi sl Q I rx hs pl pu h;obtain⟨z,rfl,hz,q⟩:=h;obtain⟨t,rfl⟩:=rx;have part:∀{v:Value}{o:Option Int},IsPart v o->∃l:Option (Int×Tok),v=partValue l/\l.map (·.1)=o:=λp=>by
  cases p with
  |none=>nomatch none,rfl,rfl
  |int i t=>nomatch some (i,t),rfl,rfl
 obtain⟨l,rfl,rfl⟩:=part pl;obtain⟨u,rfl,rfl⟩:=part pu;exists "str",_,F.slot_str_getitem.lookup,oq _ _ _,?_;exact wpAny_getItem_str_slice (l:=l) (u:=u) (st:=none) hs rfl (post_val_or_str ⟨bp (Txt.slice_le z _ _) hz,λt' k=>⟨.str _,H,I.tok _,⟨_,rfl⟩,q⟩⟩)
def Ce:gH X (.type "int") (λxs H Q=>∃x n,xs=[.str x]/\intText? x=some n/\x.length<=640/\Q (.int n) H):=by
 intro aa s σ H xs us Q I r h;obtain⟨x,n,rfl,hn,hl,q⟩:=h;obtain⟨u,rfl,⟨t,rfl⟩⟩:=ix r;exact jgX hn hl ⟨.int n,H,I.tok _,⟨_,rfl⟩,q⟩
noncomputable def nJ(x:Str):It:=⟨λi _=>i<x.cps.size,λi H v H'=>H'=H/\∃c,x.cps[i]?=some c/\v=.str ⟨#[c]⟩,λi _=>x.cps.size<=i⟩
def LD(te:TE):TI:=λσ H R=>te σ H λv H1=>∃x,v=.str x/\x.cps.all (· < 128)=true/\R (nJ x) H1
def zcF{P:Program}{w:World}{K:Frag}{tg:Expr}(x:Str)(t:Tok)(it:Addr):kA P w K tg (nJ x) [it] it (λi h=>h.IsStrIter it "str_ascii_iterator" x t i) where
 mem:=by simp
 obj:=λi h st b hb=>by
  have e:b=it:=by simpa using hb
  subst e;obtain⟨o,e,c,d⟩:=st;exact⟨o,e,λv z=>by rw[d]at z;cases z⟩
 keep:=λi h h' st k=>let ⟨o,e,c,d⟩:=st; ⟨o,k it (by simp) o e,c,d⟩
 item:=by
  intro X hP hw hK hc i aa s σ H E I hf st hg;subst hP hw hK;obtain⟨f0,f1,f2,f3,f4,f5⟩:=hf it (by simp);have hx:x.cps[i]?=some (x.cps[i]'hg):=by rw[MO hg]
  refine wpAny_pyNext_ascii_item st hx λh' bU sb=>?_
  have I1:Inv X aa σ H {s with heap:=h',toks:=s.toks+1}:=I.turned (λb o hb e=>(sb.2 b hb).trans e) f0 f1 f3 f4 f5;obtain⟨o,e,c,d⟩:=id bU;nomatch _,rfl,uj (s:={s with heap:=h',toks:=s.toks+1}) e c d (by decide) ⟨.str ⟨#[x.cps[i]'hg]⟩,H,I1,⟨_,rfl⟩,⟨rfl,_,hx,rfl⟩,bU,λb hb=>(hf b hb).1⟩
 done:=by
  intro X hP hw hK hc i aa s σ H E I hf st hg;subst hP hw hK;obtain⟨f0,f1,f2,f3,f4,f5⟩:=hf it (by simp);exact wpAny_pyNext_ascii_end (I.ok.hd hc) st (Kn hg) λh' eb=>⟨rfl,I.turned (t':=s.toks) (λb o hb e=>eb b o hb e) f0 f1 f3 f4 f5⟩
 self:=λ_ _ _ _ _ st h=>wpAny_pyIter_striter_ascii st h
def sr{l:Expr}{tl:TE}(hl:PE X l tl):PI X tg l (LD tl):=by
 intro aa s σ H R I h;refine aI (hl aa s σ H _ I h) λv s1 ⟨x,H1,I1,r1,q1⟩=>?_
 obtain⟨z,e,ha,q⟩:=q1;subst e;obtain⟨t,rfl⟩:=r1;refine wpAny_pyIter_ascii ha ?_;exists s1.heap.objs.size,[s1.heap.objs.size],_,_,H1,rfl,I1.kept (t':=s1.toks) λb o e=>cv _ e,zcF z t _,⟨_,c8 _ rfl,rfl,rfl⟩,λb hb=>?_,q;have e:b=s1.heap.objs.size:=by simpa using hb
 subst e;exact I1.fpOk (aJ _) (I1.hok.fresh (aJ _))
end
end L2
namespace My
open PySem L2 OF
noncomputable def S(l:List Nat):Str:=⟨l.toArray⟩
def gx(l:List Nat):(S l).cps.toList=l:=rfl
def aN(l:List Nat):(S l).length=l.length:=rfl
def Vr(x:Str):x=S x.cps.toList:=rfl
def rH(h:x.cps.toList=l):x=S l:=by subst h;rfl
def d0(h:S a=S b):a=b:=congrArg (λx:Str=>x.cps.toList) h
def kx(a b:List Nat):S a++S b=S (a++b):=rH (by
 show (a.toArray++b.toArray).toList=_;rw[Array.toList_append])
noncomputable def bM(c:Nat):List (List Nat)->List Nat
 |[]=>[]
 |[x]=>x
 |x::y::r=>x++c::bM c (y::r)
theorem Az(c:Nat):∀ws:List (List Nat),Str.join (S [c]) (ws.map S)=S (bM c ws)
 |[]=>rfl
 |[x]=>rfl
 |x::y::r=>by
  have ih:=Az c (y::r);show S x++S [c]++Str.join (S [c]) ((y::r).map S)=_;rw[ih,kx,kx,bM];simp
theorem GV:∀ws:List (List Nat),Str.join (S []) (ws.map S)=S ws.flatten
 |[]=>rfl
 |[x]=>by show S x=_;simp
 |x::y::r=>by
  have ih:=GV (y::r);show S x++S []++Str.join (S []) ((y::r).map S)=_;rw[ih,kx,kx];simp
def Y1(c:Nat)(ws:List (List Nat)):Txt.join (S [c]) (ws.map S)=S (bM c ws):=by
 unfold Txt.join;rw[PJ,Az]
def Ox(ws:List (List Nat)):Txt.join (S []) (ws.map S)=S ws.flatten:=by
 unfold Txt.join;rw[PJ,GV]
theorem OQ:∀{x y A B:List Nat},c∉x->c∉y->x++c::A=y++c::B->x=y/\A=B
 |[],[],_,_,_,_,h=>⟨rfl,by simpa using h⟩
 |[],b::y,_,_,_,h2,h=>by
  have:c=b:=by simpa using (kf h).1
  exact absurd (this ▸ mD) h2
 |a::x,[],_,_,h1,_,h=>by
  have:a=c:=by simpa using (kf h).1
  exact absurd (this ▸ mD) h1
 |a::x,b::y,A,B,h1,h2,h=>by
  obtain⟨e1,e2⟩:=kf h;obtain⟨e3,e4⟩:=OQ (λz=>h1 (cq _ z)) (λz=>h2 (cq _ z)) e2;nomatch by rw[e1,e3],e4
theorem B6:∀{ws vs:List (List Nat)},ws≠[]->vs≠[]->(∀w∈ws,c∉w)->(∀w∈vs,c∉w)->bM c ws=bM c vs->ws=vs
 |[],_,h,_,_,_,_=>absurd rfl h
 |_::_,[],_,h,_,_,_=>absurd rfl h
 |[x],[y],_,_,_,_,h=>by
  have:x=y:=h
  rw[this]
 |[x],y::z::r,_,_,h1,_,h=>by
  have h':x=y++c::bM c (z::r):=h;exact absurd (by rw[h'];simp) (h1 x (by simp))
 |x::z::r,[y],_,_,_,h2,h=>by
  have h':x++c::bM c (z::r)=y:=h;exact absurd (by rw[<-h'];simp) (h2 y (by simp))
 |x::x2::r,y::y2::r',_,_,h1,h2,h=>by
  have h':x++c::bM c (x2::r)=y++c::bM c (y2::r'):=h;obtain⟨e1,e2⟩:=OQ (h1 x (by simp)) (h2 y (by simp)) h';rw[e1,B6 (by simp) (by simp) (λw hw=>h1 w (cq _ hw)) (λw hw=>h2 w (cq _ hw)) e2]
def uS(h0:ws≠[])(hf:∀w∈ws,c∉w):Txt.split (S (bM c ws)) (S [c])=ws.map S:=by
 have e1:=StrLaws.join_split (S (bM c ws)) (S [c]);have e2:(Txt.split (S (bM c ws)) (S [c]))=((Txt.split (S (bM c ws)) (S [c])).map λp=>p.cps.toList).map S:=by
  rw[ft];exact (yS _).symm.trans (nS λp _=>Vr p)
 have kU:=StrLaws.split_free (S (bM c ws)) c;have Lf:=jgO (S (bM c ws)) (S [c]);rw[e2,Az]at e1;have e3:=d0 e1;have e4:=B6 (c:=c) (λz=>by
   rw[List.map_eq_nil_iff]at z;rw[z]at Lf;exact absurd Lf (by decide)) h0 (λw hw=>by
   obtain⟨p,hp,rfl⟩:=bV.mp hw;exact kU p hp) hf e3
 rw[e2,e4]
noncomputable def gL(n:Nat):List Nat:=(Nat.toDigits 10 n).map Char.toNat
def Ga(n:Nat):ofString (toString ((n:Nat):Int))=S (gL n):=rH (WB n)
def Jt(h:c∈gL n):48<=c/\c<=57:=by
 obtain⟨ch,jC,e⟩:=bV.mp h;have r:=TC (Nat.isDigit_of_mem_toDigits (by decide) (by decide) jC);rw[<-e];exact r
def Wt(h:¬m<10):gL m=gL (m/10)++[48+m%10]:=by
 have hm:m%10<10:=EN m (by decide);have t:Nat.toDigits 10 (m/10)++Nat.toDigits 10 (m%10)=Nat.toDigits 10 (10*(m/10)+m%10):=Nat.toDigits_append_toDigits (by decide) (by lia) hm;rw[GF]at t;unfold gL;rw[<-t,aQ,Pp hm]
 have:∀d:Nat,d<10->(Nat.digitChar d).toNat=48+d:=by decide
 rw[bw,iA,this _ hm]
def Ig(h:m<10):gL m=[48+m]:=by
 unfold gL;rw[Pp h]
 have:∀d:Nat,d<10->(Nat.digitChar d).toNat=48+d:=by decide
 rw[bw,iA,this _ h]
theorem zN:∀{k m:Nat},m<10^(k+1)->(gL m).length<=k+1
 |0,m,h=>by rw[Ig h];exact aJ _
 |k+1,m,h=>by
  by_cases h1:m<10
  ·rw[Ig h1];exact Nat.le_add_left _ _
  ·have h2:m/10<10^(k+1):=by rw[Nat.div_lt_iff_lt_mul (by decide)];rw[kN]at h;exact h
   rw[Wt h1,aS]
   have:=zN h2
   simp;assumption
def fK(m:Nat):List Nat:=(lst m).map λk=>97+k
def zau(hm:m<2^16)(h:c∈fK m):97<=c/\c<113:=by
 obtain⟨k,hk,rfl⟩:=bV.mp h;have hb:=Xh.mp hk
 have:k<16:=by
  rcases kb k 16 with y|y
  ·exact y
  ·rw[sN (cy hm (dm (by decide) y))]at hb;cases hb
 lia
def Vn(hm:m<2^16):(List.range 16).filter (λk=>m.testBit k)=lst m:=by
 have hb:intBits (m:Int)<=16:=DT hm;obtain⟨d,hd⟩:∃d,16=intBits (m:Int)+d:=⟨16-intBits (m:Int),by lia⟩;unfold lst;rw[hd,List.range_add,fS]
 have:List.filter (λk=>m.testBit k) (List.map (intBits (m:Int) + ·) (List.range d))=[]:=by
  rw[List.filter_eq_nil_iff];intro k hk;obtain⟨j,_,rfl⟩:=bV.mp hk
  have:=sN (cy (Dw m) (dm (by decide) (Nat.le_add_right _ j)):m<2^(intBits (m:Int)+j))
  rw[this];decide
 rw[this,fc]
def mI(m n:Nat):List Nat:=(if n=1/\m≠0 then []else gL n)++fK m
def kJ(t:Int×Int):List Nat:=mI t.1.toNat t.2.natAbs
noncomputable def sgn(n:Int):Nat:=if n<0 then 45 else 43
def cZ(t:Int×Int):List Nat:=[32,sgn t.2,32]++kJ t
noncomputable def me(n:Int):List Nat:=if n<0 then [45]else []
def IQ:av->List Nat
 |[]=>[48]
 |t::r=>me t.2++kJ t++r.flatMap cZ
def zD(t:Int×Int):Prop:=0<=t.1/\t.1<2^16/\t.2≠0/\t.2.natAbs<10^63
def tY(hm:m<2^16):(fK m).length<=16:=by
 unfold fK;rw[ay,<-Vn hm];exact bp (gI _ _) (by rw[nj];exact aJ _)
def L3(hm:m<2^16)(hn:n<10^63):(mI m n).length<=79:=by
 unfold mI;rw[aS];have h1:=tY hm;have h2:(gL n).length<=63:=zN (k:=62) hn;split
 ·simp;lia
 ·lia
open PySem L2 OF
def jT:("" : Str)=S []:=by decide+kernel
def fz:("0" : Str)=S [48]:=by decide+kernel
def pY:("1" : Str)=S [49]:=by decide+kernel
def jQ:(" " : Str)=S [32]:=by decide+kernel
def yK:("+" : Str)=S [43]:=by decide+kernel
def oH:("-" : Str)=S [45]:=by decide+kernel
def Zo:(" + " : Str)=S [32,43,32]:=by decide+kernel
def TV:(" - " : Str)=S [32,45,32]:=by decide+kernel
noncomputable def kZ:List Nat:=[97,98,99,100,101,102,103,104,105,106,107,108,109,110,111,112]
noncomputable def jP:List Nat:=[48,49,50,51,52,53,54,55,56,57]
def nQ:("abcdefghijklmnop" : Str)=S kZ:=by decide+kernel
def AS:("0123456789" : Str)=S jP:=by decide+kernel
def U2:∀k:Nat,k<16->kZ[k]?=some (97+k):=by decide
def zcu:∀k:Nat,k<16->Txt.find (S kZ) (S [97+k])=(k:Int):=by decide+kernel
def DV:∀d:Nat,d<10->intText? (S [48+d])=some (d:Int):=by decide+kernel
def GC(c:Nat):(S jP).cps.contains c=decide (48<=c/\c<=57):=by
 have:(S jP).cps.contains c=jP.contains c:=by
  show jP.toArray.contains c=_;simp
 rw[this];unfold jP;by_cases h:48<=c/\c<=57
 ·rw[aC h];obtain⟨d,rfl⟩:∃d,c=48+d:=⟨c-48,by lia⟩
  have:∀d,d<10->([48,49,50,51,52,53,54,55,56,57]:List Nat).contains (48+d)=true:=by decide
  exact this d (by lia)
 ·rw[aL h];simp only[List.contains_eq_mem,ba,ia,ib];exact aL (by omega)
theorem Gz:∀{d l:List Nat},(∀c∈d,48<=c/\c<=57)->(∀c r,l=c::r->¬(48<=c/\c<=57))->((d++l).takeWhile (S jP).cps.contains).length=d.length
 |[],[],_,_=>rfl
 |[],c::r,_,h=>by
  rw[Cp,LG,GC,aL (h c r rfl)];rfl
 |c::d,l,h,h'=>by
  rw[ug,LG,GC,aC (h c (by simp))];simp only[gM,aW];rw[Gz (λx hx=>h x (cq _ hx)) h']
def Xk(h:∀c∈d,48<=c/\c<=57)(h':∀c r,l=c::r->¬(48<=c/\c<=57)):Txt.lstripChars (S (d++l)) (S jP)=S l:=by
 have e:stripLo (S jP).cps.contains true (S (d++l))=d.length:=by
  unfold stripLo;rw[ax rfl,gx];exact Gz h h'
 have e2:stripHi (S jP).cps.contains false (S (d++l)) d.length=(d++l).length:=rfl;unfold Txt.lstripChars Txt.stripBy stripSame stripped;rw[e,e2];by_cases hd:d=[]
 ·subst hd;rw[ax (by simp[aN])];rfl
 ·have:d.length≠0:=λz=>hd (pN z)
  rw[aq (by simp[this])];refine rH ?_;rw[StrLaws.strSub_toList,gx,yQ,aS];exact mG (by lia)
def UI:Txt.slice (S (a++b)) none (some (a.length:Int))=S a:=by
 have:=StrLaws.sliceText_to (x:=S (a++b)) (j:=(a.length:Int)) ⟨iW _,by rw[gx,aS];lia⟩
 refine (show Txt.slice (S (a++b)) none (some (a.length:Int))=_ from this).trans ?_;rw[gx];exact rH (by simp)
def PZ:Txt.slice (S (a++b)) (some (a.length:Int)) none=S b:=by
 have:=StrLaws.sliceText_from (x:=S (a++b)) (i:=(a.length:Int)) ⟨iW _,by rw[gx,aS];omega⟩
 refine (show Txt.slice (S (a++b)) (some (a.length:Int)) none=_ from this).trans ?_;rw[gx];refine rH ?_;simp;exact mG (by lia)
def zcE(x:List Nat):Txt.startswith (S x) (S [45])=match x with|[]=>false|c::_=>c == 45:=by
 unfold Txt.startswith;rw[DG,gx,gx,aN,aN];cases x with
 |nil=>rfl
 |cons c r=>simp
open PySem L2 OF
theorem Ec(A B:α->β):∀(f:List α) (k:Nat),(f.flatMap λt=>[A t,B t])[2*k]?=f[k]?.map A/\(f.flatMap λt=>[A t,B t])[2*k+1]?=f[k]?.map B
 |[],k=>by simp
 |t::f,0=>by simp
 |t::f,k+1=>by
  obtain⟨h1,h2⟩:=Ec A B f k;have e1:2*(k+1)=2*k+1+1:=by lia
  have e2:2*(k+1)+1=2*k+1+1+1:=by lia
  rw[jd];constructor
  ·rw[e1];simpa using h1
  ·rw[e2];simpa using h2
def DR(A B:α->β)(f:List α):(f.flatMap λt=>[A t,B t]).length=2*f.length:=by
 induction f with
 |nil=>rfl
 |cons t f ih=>rw[jd,aS,ih,aW];simp;lia
def QC(A:α->β)(f:List α):(List.range f.length).filterMap (λk=>f[k]?.map A)=f.map A:=by
 apply List.ext_getElem?;intro i
 have:∀(n:Nat) (g:List α),n<=g.length->(List.range n).filterMap (λk=>g[k]?.map A)=(g.take n).map A:=λn g=>by
  induction n with
  |zero=>intro _;rfl
  |succ n ih =>
   intro h;rw[sk,List.filterMap_append,ih (by lia),dR,aQ,dD (by assumption:n<g.length)];simp[dD (by assumption:n<g.length)]
 rw[this _ f (aJ _),dH]
def zat(A B:α->V)(f:List α):iV 0 (((f.flatMap λt=>[A t,B t]).length-0+1)/2) (f.flatMap λt=>[A t,B t])=f.map A:=by
 have e:((f.flatMap λt=>[A t,B t]).length-0+1)/2=f.length:=by rw[DR];lia
 unfold iV;rw[e,<-QC A f];congr 1
 funext k
 rw[Pz];exact (Ec A B f k).1
def zap(A B:α->V)(f:List α):iV 1 (((f.flatMap λt=>[A t,B t]).length-1+1)/2) (f.flatMap λt=>[A t,B t])=f.map B:=by
 have e:((f.flatMap λt=>[A t,B t]).length-1+1)/2=f.length:=by rw[DR];lia
 unfold iV;rw[e,<-QC B f];congr 1
 funext k
 rw[Fg];exact (Ec A B f k).2
def Ge(h:zD t):(cZ t).length<=82:=by
 unfold cZ
 have:(kJ t).length<=79:=L3 (by have:=h.1;have:=h.2.1;lia) h.2.2.2
 simp;assumption
theorem Ov:∀{r:av},(∀t∈r,zD t)->(r.flatMap cZ).length<=82*r.length
 |[],_=>by simp
 |t::r,h=>by
  rw[jd,aS,aW];have h1:=Ge (h t (by simp));have h2:=Ov (r:=r) λu hu=>h u (by simp[hu])
  lia
end My
namespace L2
open PySem PySem.Spec PyProof.Rows
def zc{l:List Nat}{g:TG}{tb:TS}{D:kr}{σ:St}{H:Hp}(Pv:Nat->St->Hp->Prop)(h0:Pv 0 σ H)
  (hs:∀i c σ H,l[i]?=some c->Pv i σ H->g (.str (My.S [c])) σ H λσ2 H2=>tb {D with nx:=Pv (i+1),ct:=Pv (i+1),bk:=D.nx} σ2 H2) (hd:∀σ H,Pv l.length σ H->D.nx σ H) :
  ∃W:Nat->Nat->St->Hp->Prop,(∃m,W 0 m σ H)/\∀i m σ H,W i m σ H ->
   ((nJ (My.S l)).stop i H/\D.nx σ H)\/((nJ (My.S l)).go i H/\∃N:St->Hp->Prop,(∀σ' H',N σ' H'->∃m',m'<m/\W (i+1) m' σ' H')/\∀x H',(nJ (My.S l)).yld i H x H'->g x σ H' λσ2 H2=>tb {D with nx:=N,ct:=N,bk:=D.nx} σ2 H2):=by
 exists λi m σ H=>m=l.length-i/\i<=l.length/\Pv i σ H,⟨l.length,by simp,cb _,h0⟩,?_;rintro i m σ H ⟨rfl,hi,p⟩;by_cases bE:i<l.length
 ·refine .inr ⟨bE,Pv (i+1),λσ' H' p'=>⟨l.length-(i+1),by omega,rfl,bE,p'⟩,λx H' y=>?_⟩;obtain⟨rfl,c,hc,rfl⟩:=y;exact hs i c σ _ (by simpa [My.S] using hc) p
 ·have e:i=l.length:=by lia
  subst e;exact .inl ⟨aJ _,hd σ H p⟩
end L2
namespace My
open PySem L2 OF
def qT(h:∀c∈l,c<128):(S l).cps.all (· < 128)=true:=by
 show l.toArray.all _=true;simpa using h
end My
namespace L2
open PySem PySem.Spec PyProof.Rows
def cm.gone{P:Program}{w:World}{H:Hp}{h:Heap}{a:Addr}(x:cm P w H h)(e:h.get? a=none):H a=none:=by
 cases q:H a with
 |none=>rfl
 |some o=>obtain⟨ob,z⟩:=(x a o q).there;rw[e]at z;cases z
def qz(h:Heap)(a T:Addr)(C:Value):Prop :=
 ∃oe vs oT ts a0,h.get? a=some oe/\(oe.cls=C/\vs[0]?=some a0)/\oe.data=.fields vs/\vs[1]?=some (.ref T)/\T≠a/\h.get? T=some oT/\oT.data=.fields ts/\ts[3]?=some .none
def fB(P:Program)(w:World):j0:=λouter H s E e s'=>∃(a T:Addr) (C:Value) (H':Hp),e=.ref a/\s'.os=s.os/\AllBare s'.gens/\Un (bq outer) [] H H' s.heap s'.heap/\cm P w H' s'.heap /\
 s.heap.get? a=none/\s.heap.get? T=none/\H' a=none/\H' T=none/\qz s'.heap a T C/\E C none H'
section
variable{X:Cx}{aa:List (Addr×Obj)}{σ:St}{H:Hp}{s:Shared}
def xP{env:Env}{l:List Env}{L:Addr}(h:env.frame=some L):bq (env::l)=L::bq l:=by
 unfold bq;rw[yy,h]
structure fN(X:Cx):Prop where
 stk:X.stack=X.env::X.outer
 fr:X.env.frame=some X.env.locals
 ex:X.ex=[]
def sW(X:Cx)(H:Hp)(h:Heap)(xs:List Addr):Prop:=∀b∈xs,X.s₀.heap.get? b=none/\H b=none/\∃o vs,h.get? b=some o/\o.data=.fields vs
def Inv.over(O:fN X)(J:Inv X aa σ H s){xs:List Addr}(gF:sW X H s.heap xs){h3:Heap}(st:(PySem.W.hideAll s.heap (bq X.stack++xs)).StaysIn h3)(ups:∀b o,b∈bq X.stack->s.heap.get? b=some o->∃sl,h3.get? b=some {o with slots:=sl}) :
  cm X.prog X.w H h3/\Un (bq X.stack) xs H H s.heap h3:=by
 have stays:∀b o,s.heap.get? b=some o->b∉bq X.stack->b∉xs->h3.get? b=some o:=λb o e h1 h2=>st b o (vL _ e λz=>(bW.mp z).elim h1 h2)
 have oF:∀b o,H b=some o->b∉bq X.stack/\b∉xs:=λb o e=>⟨λz=>(by rw[J.stkFree b z]at e;cases e),λz=>(by rw[(gF b z).2.1]at e;cases e)⟩
 exists λb o e=>(J.hok b o e).stay (λc u hc q=>?_) (λ_ q=>q) λ_ _ q=>q,λb o e n hb hx=>stays b o e hb hx,λb o e n hb hx=>ups b o hb e,λ_ _ _ n _=>n,λb o e hx=>?_,λ_ _ q=>q,λ_ _ _ q=>q,λ_ ps q=>⟨#[],by rw[q];simp⟩
 ·have nW:∃o',H c=some o':=by
   rcases hc with rfl|hc
   ·nomatch _,e
   ·nomatch _,hc
  obtain⟨o',e'⟩:=nW;obtain⟨h1,h2⟩:=oF c o' e';exact stays c u q h1 h2
 ·by_cases hb:b∈bq X.stack
  ·obtain⟨sl,z⟩:=ups b o hb e;nomatch _,z
  ·nomatch o,stays b o e hb hx
def LO(O:fN X)(J:Inv X aa σ H s){xs:List Addr}(gF:sW X H s.heap xs){a:Addr}{C a0:Value}{h3:Heap}
  (ups:∀b o,b∈bq X.stack->s.heap.get? b=some o->∃sl,h3.get? b=some {o with slots:=sl}) (fl:Heap.FlyingW (PySem.W.hideAll s.heap (bq X.stack++xs)) X.outer a C a0 h3) (ha:s.heap.get? a=none\/a∈xs) {E:XK} (hE:E C none H) :
  fB X.prog X.w X.outer X.H₀ X.s₀ E (.ref a) {s with heap:=h3}:=by
 obtain⟨st,hn,hfun,oe,vs,T,oT,ts,he,hc,hd,h1,rZ,iF,hT,ir,oV⟩:=fl;have fresh:∀b,s.heap.get? b=none->X.s₀.heap.get? b=none:=λb e=>by
  cases q:X.s₀.heap.get? b with
  |none=>rfl
  |some o=>obtain⟨o',z⟩:=J.base.there b o q (by rw[O.ex];simp);rw[e]at z;cases z
 have jt:bq X.stack=X.env.locals::X.fs:=by rw[O.stk,xP O.fr]
 obtain⟨hok,un⟩:=Inv.over O J gF st ups;have young:∀b o,X.s₀.heap.get? b=some o->b∉xs:=λb o e z=>by rw[(gF b z).1]at e;cases e
 have old:∀b o,X.s₀.heap.get? b=some o->b≠X.env.locals:=λb o e=>dB (cy (bo e) J.ok.above)
 have nx:∀b:Addr,b∉X.ex:=λb=>by rw[O.ex];simp
 have b9:s.heap.get? T=none\/T∈xs:=by
  by_cases hx:T∈xs
  ·exact .inr hx
  ·refine .inl ?_;cases q:s.heap.get? T with
   |none=>rfl
   |some o =>
    by_cases hf:T∈bq X.stack
    ·obtain⟨_,o2,gc,eS⟩:=J.stack.mem hf;obtain⟨sl,z⟩:=ups T o2 hf gc;rw[hT]at z;cases z;exact absurd ir (eS ts)
    ·have:=vL (bq X.stack++xs) q λz=>(bW.mp z).elim hf hx
     rw[rZ]at this;cases this
 have both:∀b,(s.heap.get? b=none\/b∈xs)->X.s₀.heap.get? b=none/\H b=none:=λb hb=>by
  rcases hb with e|e
  ·nomatch fresh b e,J.hok.gone e
  ·nomatch (gF b e).1,(gF b e).2.1
 exists a,T,C,H,rfl,J.os,J.bare,⟨λb o e n hb hx=>?_,λb o e n hb hx=>?_,λb o e n _=>J.base.free b o e n (nx b),λb o e hx=>?_,J.base.tups,J.base.frzs,J.base.tbls⟩,hok,(both a ha).1,(both T b9).1,(both a ha).2,(both T b9).2,⟨oe,vs,oT,ts,a0,he,hc,hd,h1,iF,hT,ir,oV⟩,hE
 ·have e1:=J.base.keep b o e n hb (nx b);exact un.keep b o e1 (J.base.free b o e n (nx b)) (by rw[jt];exact λz=>(ba.mp z).elim (old b o e) hb) (young b o e)
 ·obtain⟨sl,e1⟩:=J.base.slot b o e n hb (nx b);obtain⟨o8,e2⟩:=un.slot b _ e1 (J.base.free b o e n (nx b)) (by rw[jt];exact cq _ hb) (young b o e);nomatch o8,e2
 ·obtain⟨o1,e1⟩:=J.base.there b o e (nx b);exact un.there b o1 e1 (young b o e)
def zcp(O:fN X)(J:Inv X aa σ H s){h':Heap}{a:Addr}{C:Value}{vs:List Value}(hx:Heap.MadeExcOf s.heap h' a C vs){E:XK}(hE:E C none H){E':Value->Shared->Prop} :
  wpAny (model X.prog X.w) X.A (leaving X.env (.ref a)) (λ_ dN=>fB X.prog X.w X.outer X.H₀ X.s₀ E (.ref a) dN) E' {s with heap:=h'}:=by
 have gy:X.A.frames=some (X.env::X.outer):=by rw[<-O.stk];exact J.ok.frames
 have hl:s.heap.FunFrames (PySem.W.hideAll s.heap (bq X.stack++[])) (X.env::X.outer):=by
  rw[<-O.stk];exact C3 J.stack λenv he b hb=>i8 _ (qZ.mpr ⟨env,he,hb⟩)
 refine wpAny_leaves_madeW (base:=PySem.W.hideAll s.heap (bq X.stack++[])) (h:=s.heap) (s:={s with heap:=h'}) gy O.fr (λb o e=>tG _ e) hl hx λh3 t fl _ _ ups=>?_
 exact LO O J (xs:=[]) (λb hb=>by cases hb) (λb o hb e=>ups b o (hx.keeps b o e) (by
  obtain⟨_,o2,gc,eS⟩:=J.stack.mem hb;rw[e]at gc;cases gc;exact eS)) fl (.inl hx.new) hE
def Ax(J:Inv X aa σ H s){E:XK}{e:Value}{s':Shared}(h:fB X.prog X.w X.stack H s E e s') :
  ∃(a T:Addr) (C:Value) (H':Hp),e=.ref a/\Inv X aa σ H' s'/\s.heap.get? a=none/\s.heap.get? T=none/\H' a=none/\H' T=none/\qz s'.heap a T C/\E C none H':=by
 obtain⟨a,T,C,H',rfl,ho,hg,un,hok,h1,h2,h3,h4,h5,h6⟩:=h;nomatch a,T,C,H',rfl,J.call' ho un hok hg (λb hb=>by cases hb),h1,h2,h3,h4,h5,h6
def BR(O:fN X)(J:Inv X aa σ H s){s1:Shared}{H1:Hp}{a T:Addr}{C:Value}(h1:s.heap.get? a=none)(h2:s.heap.get? T=none)(h3:H1 a=none)(h4:H1 T=none)(h5:qz s1.heap a T C):sW X H1 s1.heap [a,T]:=by
 obtain⟨oe,vs,oT,ts,a0,he,hc,hd,_,_,hT,ir,_⟩:=h5;have fresh:∀b,s.heap.get? b=none->X.s₀.heap.get? b=none:=λb e=>by
  cases q:X.s₀.heap.get? b with
  |none=>rfl
  |some o=>obtain⟨o',z⟩:=J.base.there b o q (by rw[O.ex];simp);rw[e]at z;cases z
 intro b hb;rcases ba.mp hb with rfl|hb
 ·nomatch fresh _ h1,h3,oe,vs,he,hd
 ·have e:b=T:=by simpa using hb
  subst e;nomatch fresh _ h2,h4,oT,ts,hT,ir
def Lc(J:Inv X aa σ H s){a T:Addr}{C:Value}(h5:qz s.heap a T C):∃a0,Heap.FlyingW (PySem.W.hideAll s.heap (bq X.stack++[a,T])) X.stack a C a0 s.heap:=by
 obtain⟨oe,vs,oT,ts,a0,he,hc,hd,B3,cY,hT,ir,h3⟩:=h5;have m1:a∈bq X.stack++[a,T]:=cx _ (by simp);have m2:T∈bq X.stack++[a,T]:=cx _ (by simp);nomatch a0,λb o e=>tG _ e,pZ _ m1,C3 J.stack λenv he b hb=>i8 _ (qZ.mpr ⟨env,he,hb⟩),oe,vs,T,oT,ts,he,hc,hd,B3,pZ _ m2,cY,hT,ir,h3
def F8(J:Inv X aa σ H s){h3:Heap}(ups:s.heap.UpToSlots h3):∀b o,b∈bq X.stack->s.heap.get? b=some o->∃sl,h3.get? b=some {o with slots:=sl}:=λb o hb e=>ups b o e (by
 obtain⟨_,o2,gc,eS⟩:=J.stack.mem hb;rw[e]at gc;cases gc;exact eS)
def zcA(O:fN X)(J:Inv X aa σ H s){E:XK}{e:Value}{s':Shared}(h:fB X.prog X.w X.stack H s E e s'){E':Value->Shared->Prop} :
  wpAny (model X.prog X.w) X.A (leaving X.env e) (λ_ dN=>fB X.prog X.w X.outer X.H₀ X.s₀ E e dN) E' s':=by
 obtain⟨a,T,C,H',rfl,J',h1,h2,h3,h4,h5,h6⟩:=Ax J h;have ap:=BR O J h1 h2 h3 h4 h5;obtain⟨a0,fl⟩:=Lc J' h5;have gy:X.A.frames=some (X.env::X.outer):=by rw[<-O.stk];exact J.ok.frames
 have fl2:=fl;rw[show X.stack=X.env::X.outer from O.stk]at fl;refine wpAny_leaves_onW (a0:=a0) (base:=PySem.W.hideAll s'.heap (bq (X.env::X.outer)++[a,T])) gy O.fr fl λoV MZ ups=>?_
 rw[<-O.stk]at MZ;exact LO O J' ap (F8 J' ups) MZ (.inr (by simp)) h6
end
open PySem PySem.Spec PyProof.Rows
noncomputable def mq:List Str:=["__init__","__getattribute__","__getattr__","__class__"]
noncomputable abbrev vB:List Value:=[.type "ValueError",.type "Exception",.type "BaseException",.type "object"]
inductive Tl (h:Heap):List Value->Prop
 |base:Tl h vB
 |own {D:Addr}{o:Obj}{c:ClassData}{m:Str->Option Value}{l:List Value} (e:h.get? D=some o) (k:o.data=.cls c) (n:h.Ns c.ns m) (q:∀x∈mq,m x=none) (r:Tl h l):Tl h (.ref D::l)
def Tl.toOwn(T:Tl h l):OwnTail h vB l:=by
 induction T with
 |base=>exact .base
 |@own D o c m l e k n q r ih =>
  obtain⟨c0,dd,dt,sl⟩:=o;obtain rfl:dt=.cls c:=k;exact .own e n (q _ (by decide)) ih
structure eG(C:Addr)(bm:List Value)(h:Heap):Prop where
 ex:∃(nm q:Str) (N:Addr) (bs:List Value) (hd:Bool) (sn:List Str) (sub:List Value) (ab:Bool) (col:Option Bool) (dd:Option Addr) (k0 k1 k2 k3 k5:Option Value) (m:Str->Option Value),
  h.get? C=some (excClassObj nm q C N bs bm hd sn sub ab col dd k0 k1 k2 k3 k5 "ValueError.__new__")/\h.Ns N m/\(∀x∈mq,m x=none)/\Tl h bm
def wF(K:Frag)(N:Addr):Bool:=PySem.W.nsOkIn K N&&mq.all λx=>PySem.W.nsIn K N x == some none
def yt(K:Frag):List Value->Bool
 |[]=>false
 |v::l=>(v::l) == vB || match v with
  | .ref D=>(match K.lookup D with
   | some o=>(match o.data with
    |.cls c=>wF K c.ns&&yt K l
    |_=>false)
   |none=>false)
  |_=>false
def gd(K:Frag)(C:Addr)(bm:List Value):Bool:=match K.lookup C with
 | some o=>(match o.data with
  |.cls c=>o.cls == .type "type" && o.slots.toList.length == 6&&o.slots.toList[4]? == some (some (.builtin "ValueError.__new__"))&&c.mro == .ref C::bm && !c.hasDel&&yt K bm&&wF K c.ns
  |_=>false)
 |none=>false
def OG{K:Frag}{h:Heap}{N:Addr}(X:K.In h)(e:wF K N=true):h.Ns N (h.nsMap N)/\∀x∈mq,h.nsMap N x=none:=by
 unfold wF at e;obtain⟨a,b⟩:=uL.mp e;nomatch .of_isNs (PySem.W.isNs_of_in X a),λx hx=>PySem.W.nsMap_none_of_in X a (kP.mp (gz.mp b x hx))
set_option tactic.hygienic true in
theorem HQ{K:Frag}{h:Heap}(X:K.In h):∀{l:List Value},yt K l=true->Tl h l
 |[],e=>by cases e
 |v::l,e=>by
  unfold yt at e;rcases Bool.or_eq_true_iff.mp e with z|z
  ·rw[kP.mp z];exact .base
  ·split at z
   ·split at z
    ·rename_i o ho;split at z
     ·rename_i c hc;obtain⟨z1,z2⟩:=uL.mp z;obtain⟨y1,y2⟩:=OG X z1;exact .own (X _ _ ho) hc y1 y2 (HQ X z2)
     ·cases z
    ·cases z
   ·cases z
def rF(h:l.length=n+1):∃a v,l=a::v/\v.length=n:=by
 cases l with
 |nil=>cases h
 |cons a v=>nomatch a,v,rfl,BW h
set_option tactic.hygienic true in
def r6{K:Frag}{h:Heap}{C:Addr}{bm:List Value}(X:K.In h)(e:gd K C bm=true):eG C bm h:=by
 unfold gd at e;split at e
 ·rename_i o ho;split at e
  ·rename_i c hc;simp only[eL,kP,OX]at e;obtain⟨⟨⟨⟨⟨⟨e0,e6⟩,e2⟩,e1⟩,e3⟩,e4⟩,e5⟩:=e;obtain⟨cl,dd,dt,⟨sl⟩⟩:=o;dsimp only at hc e0 e6 e2;subst hc e0;obtain⟨k0,l1,rfl,f1⟩:=rF e6;obtain⟨k1,l2,rfl,f2⟩:=rF f1;obtain⟨k2,l3,rfl,f3⟩:=rF f2;obtain⟨k3,l4,rfl,f4⟩:=rF f3;obtain⟨k4,l5,rfl,f5⟩:=rF f4;obtain⟨k5,l6,rfl,f6⟩:=rF f5;cases pN f6;cases e2;obtain⟨nm,bs,mro,ns,qn,hd,sn,sub,ab,col,del⟩:=c;dsimp only at e1 e3 e5;subst e1 e3;obtain⟨y1,y2⟩:=OG X e5;nomatch nm,qn,ns,bs,hd,sn,sub,ab,col,dd,k0,k1,k2,k3,k5,_,X _ _ ho,y1,y2,HQ X e4
  ·cases e
 ·cases e
section
variable{M:Model}{A:Around}{E:Value->Shared->Prop}{h:Heap}{g:Array GenState}{d:Drawn}{t:Nat}{os:OsState}{C a:Addr}{bm:List Value}{o:Obj}{prog:Program}{w:World}
def Tl.along(T:Tl h l)(hn:n∈mq)(hr:lookupAlong vB n=pure y)(hq:Q y ⟨h,g,d,t,os⟩):wpAny M A (lookupAlong l n) Q E ⟨h,g,d,t,os⟩:=by
 induction T with
 |base=>rw[hr];exact bg hq
 |@own D ob c m l e k ns q r ih =>
  obtain⟨c0,dd,dt,sl⟩:=ob;obtain rfl:dt=.cls c:=k;rw[lookupAlong_cons];exact aA (wpAny_classOwn_cls e ns (by rw[q n hn];exact ih))
def eG.look(Z:eG C bm h)(hn:n∈mq)(hB:typeLookup (.type "ValueError") n=pure y)(hq:Q y ⟨h,g,d,t,os⟩):wpAny M A (typeLookup (.ref C) n) Q E ⟨h,g,d,t,os⟩:=by
 obtain⟨nm,q,N,bs,hd,sn,sub,ab,col,dd,k0,k1,k2,k3,k5,m,hC,hN,hm,T⟩:=Z.ex;have hr:lookupAlong vB n=pure y:=by rw[typeLookup_eq,PySem.F.excBase_ValueError.mroIs]at hB;exact hB
 rw[typeLookup_eq];refine aA (wpAny_mroOf_exc hC ?_);rw[lookupAlong_cons];exact aA (wpAny_classOwn_exc hC hN (by rw[hm n hn];exact T.along hn hr hq))
def eG.sub(Z:eG C bm h)(hq:Q ((Value.ref C::bm).contains c) ⟨h,g,d,t,os⟩):wpAny M A (isSubtype (.ref C) c) Q E ⟨h,g,d,t,os⟩:=by
 obtain⟨nm,q,N,bs,hd,sn,sub,ab,col,dd,k0,k1,k2,k3,k5,m,hC,_⟩:=Z.ex;exact wpAny_isSubtype_exc hC hq
def eG.has(Z:eG C bm h)(hb:vB.contains (.type T)=b):(Value.ref C::bm).contains (.type T)=b:=by
 obtain⟨nm,q,N,bs,hd,sn,sub,ab,col,dd,k0,k1,k2,k3,k5,m,hC,hN,hm,T⟩:=Z.ex;rw[List.contains_cons,T.toOwn.hasType hb];rfl
def Zq:typeLookup (.type "ValueError") "__class__" = pure (some (.builtin "object.__class__")):=by rw[typeLookup_type,builtinLookup_eq_fast];kernel_rfl
def Yv(Z:eG C bm h)(hx:h.get? a=some o)(hc:o.cls=.ref C)(hq:R (.ok (.ret (.ref C))) ⟨h,g,d,t,os⟩) :
  codeAny (model prog w) A (.call (.builtin "getset_descriptor.__get__") ⟨[.builtin "object.__class__",.ref a,.ref C],[]⟩) R ⟨h,g,d,t,os⟩:=by
 have z1:(⟨h,g,d,t,os⟩:Shared).TypeIs (.builtin "object.__class__") "getset_descriptor" := CS;have z2:(Value.ref C::bm).contains (.type (".".intercalate ("object.__class__".cutAt '.').dropLast))=true:=by rw[F.owner_object_class];exact Z.has (by decide+kernel)
 refine codeAny_call_builtin F.slot_gs_get.plain F.entry_gs_get (F.slot_gs_get.check _ _ _ _ _ _ _ _ z1 (F.args_gs_get _ _ _) ?_);repeat (any_goals (first|assumption|(with_reducible refine pz hx ?_;rw[hc])|(with_reducible refine eG.sub Z ?_;rw[z2])|wp_step))
 exists AN _ (by decide+kernel),C4 F.entry_object_class ?_;repeat (any_goals (first|assumption|(with_reducible refine pz hx ?_;rw[hc])|wp_step))
def zbX(Z:eG C bm h)(hx:h.get? a=some o)(hc:o.cls=.ref C)(hq:Q (.done (.ret (.ref C))) ⟨h,g,d,t,os⟩) :
  wpAny (model prog w) A (Builtin.«object.__getattribute__» ⟨[.ref a,.str "__class__" tk],[]⟩) Q E ⟨h,g,d,t,os⟩:=by
 have z1:(⟨h,g,d,t,os⟩:Shared).TypeIs (.builtin "object.__class__") "getset_descriptor" := CS;have y5:=CS;have y6:=F.slot_gs_get.lookup;have y7:=F.slot_gs_set.lookup;have zn:("__class__" : Str)∈mq:=by decide
 repeat (any_goals (first|assumption|(with_reducible refine pz hx ?_;rw[hc])|with_reducible refine eG.look Z zn Zq ?_|wp_step))
 refine Yv Z hx hc ?_;repeat (any_goals (first|assumption|wp_step))
def za4(Z:eG C bm h)(hx:h.get? a=some o)(hc:o.cls=.ref C)(hq:Q () ⟨h,g,d,t,os⟩):wpAny M A (checkBuiltinCall "BaseException.__getattribute__" ⟨[.ref a,nv],[]⟩) Q E ⟨h,g,d,t,os⟩:=by
 have e1:builtinKind "BaseException.__getattribute__" = some .slot:=by decide+kernel
 have e2:splitId "BaseException.__getattribute__" = some ("BaseException","__getattribute__"):=by decide+kernel
 have e3:(Value.ref C::bm).contains (.type "BaseException")=true:=Z.has (by decide+kernel);have ha:=F.args_bexc_ga (.ref a) nv;simp only[checkBuiltinCall,e1,e2];refine aA ?_;unfold isInstance;repeat (first|(with_reducible refine pz hx ?_;rw[hc])|(with_reducible refine eG.sub Z ?_;rw[e3])|wp_step)
 exact hq
def S7(Z:eG C bm h)(hx:h.get? a=some o)(hc:o.cls=.ref C){tk:Tok}{fill expr:Bool}{Q:Value->Shared->Prop}(hq:Q (.ref C) ⟨h,g,d,t,os⟩) :
  wpAny (model prog w) A (getAttrBy (.ref a) (.str "__class__" tk) fill expr) Q E ⟨h,g,d,t,os⟩:=by
 have FB:=PySem.F.attrBase_ValueError;have y3:=FB.ga.bind (.ref a);have x0:(expr&&onTheHeap (Value.builtin "BaseException.__getattribute__"))=false:=by cases expr<;>rfl
 have x2:(Value.builtin "BaseException.__getattribute__" == Value.builtin "object.__getattribute__")=false:=by decide+kernel
 have x1:(onTheHeap (Value.ref C)&&Value.builtin "BaseException.__getattribute__" == Value.builtin "object.__getattribute__")=false:=by rw[x2];rfl
 have n1:("__getattribute__" : Str)∈mq:=by decide
 have n2:("__getattr__" : Str)∈mq:=by decide
 repeat (any_goals (first|assumption|(with_reducible refine pz hx ?_;rw[hc])|with_reducible refine eG.look Z n1 FB.ga.lookup ?_|with_reducible refine eG.look Z n2 FB.noGetattr ?_|wp_step))
 refine codeAny_call_builtin FB.ga.plain F.entry_bexc_ga (za4 Z hx hc (zbX Z hx hc ?_));repeat (any_goals (first|assumption|wp_step))
def Xb(Z:eG C bm h)(hx:h.get? a=some o)(hc:o.cls=.ref C){Q:Option Value->Shared->Prop}(hq:Q (some (.ref C)) ⟨h,g,d,t+1,os⟩):wpAny (model prog w) A (getAttr? (.ref a) "__class__") Q E ⟨h,g,d,t,os⟩:=by
 unfold getAttr? getAttrBy?;repeat (any_goals (first|assumption|with_reducible apply S7 Z hx hc|wp_step))
def Lr(a C:Addr)(h:Heap):Prop:=∃o,h.get? a=some o/\o.cls=.ref C
def P1{K:Frag}(e:gd K C bm=true):PySem.W.KitX K (.ref a) (.ref C) (Lr a C) where
 ty:=λM h _ ⟨o,h1,h2⟩=>h2 ▸ (SK h1).andThen .now
 it:=λM h X _=>by
  obtain⟨nm,q,N,bs,hd,sn,sub,ab,col,dd,k0,k1,k2,k3,k5,m,hC,_⟩:=(r6 X e).ex;intro A' Q' E' s' k q;unfold isType loadHead;exact aA (wpAny_loadPart (k _ _ hC) (bg q))
 ne:=λh tp dd af n sl X zY=>by
  obtain⟨nm,q,N,bs,hd,sn,sub,ab,col,uv,k0,k1,k2,k3,k5,m,hC,_⟩:=(r6 X e).ex;refine sJ.mpr λz=>?_
  have z':C=tp:=Value.ref.inj (kP.mp z);subst z';have y:Value.type "type" = Value.type "tuple" := congrArg (λo:Option Obj=>match o with|some o=>o.cls|none=>.none) (hC.symm.trans zY);exact absurd y (by decide)
 ca:=fun {prog w A E Q s} X p k=>by
  obtain⟨h,g,d,t,os⟩:=s;obtain⟨o,h1,h2⟩:=p;exact Xb (r6 X e) h1 h2 k
end
noncomputable abbrev lX(a C:Addr):HO:=.ext (Lr a C)
section
variable{X:Cx}
def nU:gH X (.builtin "isinstance") (fun xs H Q=>∃ (a C:Addr) (bm:List Value) (b:Bool),H a=some (lX a C)/\gd X.K C bm=true /\ ((∃D,xs=[.ref a,.ref D]/\kitOne X.K (.ref C) (.ref D)=some b)\/∃n,xs=[.ref a,.ty n]/\kitOne X.K (.ref C) (.type n)=some b)/\Q (.bl b) H):=by
 intro aa s σ H xs us Q I r h;obtain⟨a,C,bm,b,hH,he,hk,q⟩:=h;obtain⟨p,_,_⟩:=(show cn X.prog X.w H s.heap a (lX a C) from I.hok a _ hH);rcases hk with ⟨D,rfl,hk⟩|⟨n,rfl,hk⟩
 ·obtain⟨u,w',rfl,ru,fw⟩:=qO r;cases (show u=Value.ref a from ru);cases (show w'=Value.ref D from fw);exact iS (P1 he) I.kIn p hk (λz=>nomatch z) λtk=>⟨.bl b,H,I.tok _,rfl,q⟩
 ·obtain⟨u,w',rfl,ru,fw⟩:=qO r;cases (show u=Value.ref a from ru);cases (show w'=Value.type n from fw);exact iS (P1 he) I.kIn p hk (λz=>nomatch z) λtk=>⟨.bl b,H,I.tok _,rfl,q⟩
end
def SR:bootBuiltins "ValueError" = some (.type "ValueError"):=by kernel_rfl
open PySem PySem.Spec PyProof.Rows
structure qP(X:Cx)(E:XK):Prop where
 own:fN X
 xe:∀e s',wpAny (model X.prog X.w) X.A (leaving X.env e) (λ_ dN=>fB X.prog X.w X.outer X.H₀ X.s₀ E e dN) (λ_ _=>False) s'->X.xe e s'
section
variable{P:Program}{w:World}{K:Frag}{mg:Str->Option Value}{base:Heap}
def Qp:fN (kM CX P w K mg base N qual scope f cd A outer s H E):=⟨rfl,rfl,rfl⟩
def Uc(O:fN X):fN X.nox:=⟨O.stk,O.fr,O.ex⟩
def bK:qP (kM (fB P w) P w K mg base N qual scope f cd A outer s H E) E :=
 ⟨Qp,λ_ _ h=>bA h (λ_ _ z=>z) λ_ _ z=>False.elim z⟩
def lI.okE{x qual:Str}{st:Stmt}{f:Addr}{fd:FuncData}{N ps:List Str}{k:Nat}{sp:Sp}(F:lI K x qual st f fd)(S:mR N ps (cL st))(len:∀vs H Q E,sp vs H Q E->vs.length=ps.length)
  (hb:∀ (bX:Value) (A:Around) (outer:List Env) (s:Shared) (H:Hp) (vs:List V) (Q:VK) (E:XK),cz k (A.deeper (envOfC qual (cL st) s.heap.objs.size f bX))->sp vs H Q E -> ∃t,eC (kM (fB P w) P w K mg base N qual (cL st) f bX A outer s H E) (ni st) t/\t {nx:=λ_ H'=>Q .non H',rt:=Q} (start N vs) H):gW P w K mg base (fB P w) (k+1) f fd ps sp:=by
 obtain⟨oc,od,kV,doc,pm,an,bX,ct,lV,rfl,lk,iN⟩:=F.ex;exact Nx lk iN S len λA outer s H vs Q E hr eR=>hb bX A outer s H vs Q E hr eR
end
section
variable{X:Cx}{E:XK}
def dv(L:qP X E):oK (fB X.prog X.w) X E:=λ_ _ _ _ _ _ I h=>L.xe _ _ (zcA L.own I h)
def zas(C:Addr)(E:XK):TS:=λ_ _ H=>E (.ref C) none H
def fG{j}(L:qP X E)(hc:X.calm=true)(hg:Gl X x)(hm:X.mg x=some (.ref C))(ex:gd X.K C bm=true)(hd:(x == ("__debug__" : Str))=false:=by decide) :
  PS X (.Raise (some (.Call (.Name x np) [.Constant (.str msg) j cp] [] bN)) none pos) (zas C E):=by
 intro aa s σ H D I h;obtain⟨nm,q,N,bs,cN,sn,sub,ab,col,dd,k0,k1,k2,k3,k5,m,hC,hN,hq,T⟩:=(r6 I.ok.mod.kin ex).ex;have hb:bm.contains (.type "BaseException")=true:=T.toOwn.hasType (by decide+kernel);refine wpAny_Raise_call_subT (C:=C) (nm:=nm) (q:=q) (N:=N) (bs:=bs) (bm:=bm) (hdct:=cN) (sn:=sn) (sub:=sub) (ab:=ab) (col:=col) (dd:=dd) (k0:=k0) (k1:=k1) (k2:=k2) (k3:=k3) (k5:=k5)
  PySem.F.excBase_ValueError (mN:=m) hb (I.ok.hd hc) rfl (hq _ (by decide)) (ve I hg hm ⟨rfl,?_⟩ hd)
 have ha:PA X [.Constant (.str msg) j cp] (nA (tC (.str msg)) pU):=ae ak ah;refine zr (bA (ha bN aa s σ H (λvs H1=>vs=[.str msg]/\H1=H) I ⟨rfl,rfl⟩) (λus s1 h1=>?_) λ_ _ z=>z);obtain⟨vs,H1,I1,rv,rfl,rfl⟩:=h1;have rl:=rv.length;exists rfl,?_,I1.bk _ _ hC,hN.keeps I1.bk,T.toOwn.keeps I1.bk,λh' e hx=>L.xe _ _ (zcp L.own I1 hx h);show us.length<=sizeLine;rw[<-rl];show 1<=sizeLine;decide
end
def PS.nox{X:Cx}{st:Stmt}{t:TS}(h:PS X.nox st t):PS X st t:=λaa s σ H D I hw =>
 bA (h aa s σ H D (I.wish _) hw) (λ_ _ q=>q.unwish) λ_ _ z=>False.elim z
section
variable{X:Cx}{aa:List (Addr×Obj)}{σ:St}{H:Hp}{s:Shared}
def yn(X:Cx)(aa:List (Addr×Obj))(xs:List Addr):Prop:=∀b∈xs,b≠X.env.locals/\∀p∈X.pn++aa,p.1≠b
def Inv.turn(O:fN X)(nc:∀x,X.env.cells.lookup x=none)(J:Inv X aa σ H s)(gF:sW X H s.heap xs)(aw:yn X aa xs)(st:(PySem.W.hideAll s.heap (bq X.stack++xs)).StaysIn h3)
  (ups:∀b o,b∈bq X.stack->s.heap.get? b=some o->∃sl,h3.get? b=some {o with slots:=sl}):Inv X aa σ H {s with heap:=h3,toks:=t'}:=by
 obtain⟨hok,un⟩:=Inv.over O J gF st ups;have jt:bq X.stack=X.env.locals::X.fs:=by rw[O.stk,xP O.fr]
 have young:∀b o,X.s₀.heap.get? b=some o->b∉xs:=λb o e z=>by rw[(gF b z).1]at e;cases e
 have old:∀b o,X.s₀.heap.get? b=some o->b≠X.env.locals:=λb o e=>dB (cy (bo e) J.ok.above)
 have nx:∀b:Addr,b∉X.ex:=λb=>by rw[O.ex];simp
 exists J.ok,J.os,J.bare,⟨λb o e n hb hx=>?_,λb o e n hb hx=>?_,J.base.free,λb o e hx=>?_,J.base.tups,J.base.frzs,J.base.tbls⟩,?_,λx c e=>(by rw[nc x]at e;cases e),J.free,J.freeC,λp hp=>?_,hok,J.len
 ·have e1:=J.base.keep b o e n hb (nx b);exact un.keep b o e1 (J.base.free b o e n (nx b)) (by rw[jt];exact λz=>(ba.mp z).elim (old b o e) hb) (young b o e)
 ·obtain⟨sl,e1⟩:=J.base.slot b o e n hb (nx b);obtain⟨o8,e2⟩:=un.slot b _ e1 (J.base.free b o e n (nx b)) (by rw[jt];exact cq _ hb) (young b o e);nomatch o8,e2
 ·obtain⟨o1,e1⟩:=J.base.there b o e (nx b);exact un.there b o1 e1 (young b o e)
 ·obtain⟨m,⟨o,es,ep,ho,hd,r⟩,hl⟩:=J.loc;obtain⟨sl,e⟩:=ups X.env.locals o (by rw[jt];exact mD) ho;exists m,⟨_,es,ep,e,hd,r⟩,λi x v h1 h2 h3=>?_;obtain⟨u,ru,z⟩:=hl i x v h1 h2 h3;exists u,ru,?_;rcases z with z|⟨_,c,z,_⟩
  ·exact .inl z
  ·rw[nc x]at z;cases z
 ·obtain⟨e,n,ne,nf,d⟩:=J.pin p hp;have hx:p.1∉xs:=λz=>(aw p.1 z).2 p hp rfl
  nomatch un.keep p.1 p.2 e n (by rw[jt];exact λz=>(ba.mp z).elim ne nf) hx,n,ne,nf,d
def Inv.takeUp(O:fN X)(nc:∀x,X.env.cells.lookup x=none)(J:Inv X aa σ H s)(hn:H a=none)(h0:X.s₀.heap.get? a=none)(aw:yn X aa [a])(ho:cn X.prog X.w (upd H a o) s.heap a o):Inv X aa σ (upd H a o) s:=by
 have ne:∀b u,H b=some u->b≠a:=λb u e z=>by rw[z,hn]at e;cases e
 exists J.ok,J.os,J.bare,⟨J.base.keep,J.base.slot,λb ob e n hx=>?_,J.base.there,λb xs q=>?_,λb ob u q=>?_,λb ps q=>?_⟩,J.loc,J.cell,?_,λx c e=>(by rw[nc x]at e;cases e),λp hp=>?_,λb u e=>?_,J.len
 ·rw[aO (λz=>by rw[z,h0]at e;cases e)];exact J.base.free b ob e n hx
 ·have:=J.base.tups b xs q;rw[aO (ne b _ this)];exact this
 ·have:=J.base.frzs b ob u q;rw[aO (ne b _ this)];exact this
 ·obtain⟨more,this⟩:=J.base.tbls b ps q;exact⟨more,by rw[aO (ne b _ this)];exact this⟩
 ·rw[aO (Ne.symm (aw a (by simp)).1)];exact J.free
 ·obtain⟨e,n,h1,h2,h3⟩:=J.pin p hp;nomatch e,by rw[aO ((aw a (by simp)).2 p hp)];exact n,h1,h2,h3
 ·by_cases hb:b=a
  ·subst hb;rw[au]at e;cases e;exact ho
  ·rw[aO hb]at e;exact (J.hok b u e).stay (λ_ _ _ q=>q) (λc q=>by rw[aO (ne c _ q)];exact q) λc xs q=>by rw[aO (ne c _ q)];exact q
def Inv.unbound(nc:∀x,X.env.cells.lookup x=none)(J:Inv X aa σ H s)(hN:X.N.Nodup)(hi:X.N[i]?=some n)(hm:∀(j:Nat) (x:Str) (v:V),X.N[j]?=some x->σ[j]?=some (some v)->vZ X.env.scope x->∃u,RelV v u/\G4 X.env s.heap m x u)
  (hn:h'.Ns X.env.locals (λx=>if x=n then u else m x)) (hs:Heap.SameBut X.env.locals s.heap h'):Inv X aa (σ.set i none) H {s with heap:=h'}:=by
 have old:∀b o,X.s₀.heap.get? b=some o->b≠X.env.locals:=λb o e=>dB (cy (bo e) J.ok.above)
 refine⟨J.ok,J.os,J.bare,⟨λb o e q hb hx=>(hs.2 b (old b o e)).trans (J.base.keep b o e q hb hx),λb o e q hb hx=>?_,J.base.free,λb o e hx=>?_,J.base.tups,J.base.frzs,J.base.tbls⟩,⟨_,hn,λj x v h1 h2 h3=>?_⟩,λx c e=>(by rw[nc x]at e;cases e),J.free,J.freeC,λp hp=>?_,λb ob e=>?_,by rw[qH];exact J.len⟩
 ·obtain⟨sl,z⟩:=J.base.slot b o e q hb hx;nomatch sl,(hs.2 b (old b o e)).trans z
 ·obtain⟨o',z⟩:=J.base.there b o e hx;nomatch o',(hs.2 b (old b o e)).trans z
 ·by_cases hj:j=i
  ·subst hj;by_cases hl:j<σ.length
   ·rw[u4 hl]at h2;cases h2
   ·rw[N8 (by rw[qH];lia)]at h2;cases h2
  ·rw[CL (Ne.symm hj)]at h2;obtain⟨u',ru,z⟩:=hm j x v h1 h2 h3;have hx:x≠n:=λe=>hj (De hN h1 (e ▸ hi))
   exists u',ru,?_;rcases z with ⟨k,z⟩|⟨_,c,z,_⟩
   ·exact .inl ⟨k,by show (if x=n then u else m x)=_;rw[aq hx];exact z⟩
   ·rw[nc x]at z;cases z
 ·obtain⟨e,q,h1,h2,h3⟩:=J.pin p hp;nomatch (hs.2 p.1 h1).trans e,q,h1,h2,h3
 ·refine (J.hok b ob e).stay (λc v hc q=>(hs.2 c ?_).trans q) (λ_ q=>q) λ_ _ q=>q
  intro z;rcases hc with rfl|hc
  ·rw[z,J.free]at e;cases e
  ·rw[z,J.free]at hc;cases hc
def Uk{M:Model}{A:Around}{E:Value->Shared->Prop}{h:Heap}{g:Array GenState}{d:Drawn}{t:Nat}{os:OsState}{a B C:Addr}{bm sA:List Value}{o:Obj}{Q:Bool->Shared->Prop}(Z:eG C bm h)(ZB:eG B sA h)
  (hx:h.get? a=some o) (hc:o.cls=.ref C) (hb:(Value.ref C::bm).contains (.ref B)=true) (hq:Q true ⟨h,g,d,t,os⟩):wpAny M A (excMatches (.ref a) (.ref B)) Q E ⟨h,g,d,t,os⟩:=by
 have e1:(Value.ref B::sA).contains (.type "BaseException")=true:=ZB.has (by decide+kernel);have e2:=tc_notTuple;obtain⟨nm,q,N,bs,hd,sn,sub,ab,col,dd,k0,k1,k2,k3,k5,m,hB,_⟩:=ZB.ex;unfold excMatches;repeat (first|(with_reducible refine pz hx ?_;rw[hc])|with_reducible refine pz hB ?_|(with_reducible refine eG.sub ZB ?_;rw[e1])|(with_reducible refine eG.sub Z ?_;rw[hb])|wp_step)
 exact hq
noncomputable abbrev Cx.held(X:Cx)(a:Addr):Cx:={X with A:=X.A.mark (some (.ref a)),calm:=false,xe:=λ_ _=>False}
def Inv.held(I:Inv X aa σ H s)(a:Addr):Inv (X.held a) aa σ H s :=
 ⟨⟨I.ok.mod,I.ok.kind,I.ok.glob,I.ok.blt,I.ok.above,I.ok.inj,I.ok.has,I.ok.cab,(λz=>by cases z),I.ok.frames,I.ok.stk,I.ok.exf,I.ok.bs,I.ok.bsz,I.ok.noex,I.ok.exfs,I.ok.funs,I.ok.frf⟩,I.os,I.bare,I.base,I.loc,I.cell,I.free,I.freeC,I.pin,I.hok,I.len⟩
def Inv.unheld(O:X.Ok)(I:Inv (X.held a) aa σ H s):Inv X aa σ H s:=⟨O,I.os,I.bare,I.base,I.loc,I.cell,I.free,I.freeC,I.pin,I.hok,I.len⟩
def XP(X:Cx)(aa:List (Addr×Obj))(σ:St)(E:XK)(e:Value)(s':Shared):Prop :=
 ∃(a T:Addr) (C:Value) (H':Hp),e=.ref a/\Inv X aa σ H' s'/\sW X H' s'.heap [a,T]/\yn X aa [a,T]/\qz s'.heap a T C/\E C none H'
def XP.of(O:fN X)(J:Inv X aa σ H s)(h:fB X.prog X.w X.stack H s E e s'):XP X aa σ E e s':=by
 obtain⟨a,T,C,H',rfl,J',h1,h2,h3,h4,h5,h6⟩:=Ax J h;exists a,T,C,H',rfl,J',BR O J h1 h2 h3 h4 h5,λb hb=>?_,h5,h6;have e8:s.heap.get? b=none:=by
  rcases ba.mp hb with rfl|hb
  ·exact h1
  ·have e:b=T:=by simpa using hb
   rw[e];exact h2
 exists λz=>?_,λp hp z=>?_
 ·obtain⟨m,⟨o,es,ep,ho,_⟩,_⟩:=J.loc;rw[<-z,e8]at ho;cases ho
 ·obtain⟨e,_⟩:=J.pin p hp;rw[z,e8]at e;cases e
set_option tactic.hygienic true in
def Ry{B:Addr}{sA:List Value}{x n y:Str}{i j:Nat}{np py pn pa hp:Pos}(O:fN X)(nc:∀x,X.env.cells.lookup x=none)(hN:X.N.Nodup)(hi:X.N[i]?=some n)(hj:X.N[j]?=some y)(Ep:i≠j)
    (hn:X.env.scope.names.lookup n=some .local) (hy:X.env.scope.names.lookup y=some .local) (hg:Gl X x) (hm:X.mg x=some (.ref B)) (eB:gd X.K B sA=true) (hd:(x == ("__debug__" : Str))=false) (hd2:(n == ("__debug__" : Str))=false) (Dt:(n == ("__classdict__" : Str))=false)
    (pP:swapsWith (.Name n pn) (some (.Name y py)) pa.line X.env=pure false) {E:XK}{D:kr}{e:Value}
    (hE:∀C H',E C none H'->∃(c:Addr) (bm:List Value),C=.ref c/\gd X.K c bm=true/\(Value.ref c::bm).contains (.ref B)=true/\∀a,H' a=none->D.nx ((σ.set j (some (.ref a))).set i none) (upd H' a (lX a c))) (h:XP X aa σ E e s) :
    wpAny (model X.prog X.w) X.A (noteFrame e X.env) (λ_ s₂=>wpAny (model X.prog X.w) X.A (setFlight e none) (λ_ s₃ =>
      wpAny (model X.prog X.w) X.A (handleBy e X.env [.ExceptHandler (some (.Name x np)) (some n) [.Assign [.Name y py] (.Name n pn) pa] hp]) (SP X aa D) X.xe s₃) X.xe s₂) X.xe s:=by
  obtain ⟨a,T,C,H,rfl,J,ap,aw,FJ,hEc⟩:=h;obtain ⟨c,bm,rfl,ec,hbc,VP⟩:=hE C H hEc;obtain ⟨a0,fl⟩:=Lc J FJ;have Mc:=fl;rw [show X.stack=X.env::X.outer from O.stk]at Mc;have gy:X.A.frames=some (X.env::X.outer):=by rw [<-O.stk];exact J.ok.frames
  refine wpAny_looks_onW (a0:=a0) gy O.fr Mc λh4 Ff RD=>?_
  refine wpAny_landsW Ff λh5 yC Zg=>?_
  have sm:=RD.trans Zg;rw [<-O.stk]at yC;have J5:Inv X aa σ H {s with heap:=h5}:=Inv.turn O nc J ap aw yC.1 (F8 J sm) (t':=s.toks);refine wpAny_handleBy_cons (codeAny_handlers_test (ve (X:=X.held a) (J5.held a) hg hm ?_ hd)) (by intro q;cases q);obtain ⟨ob,hob,hobc⟩:=yC.there;refine Uk (r6 J5.kIn ec) (r6 J5.kIn eB) hob hobc hbc (codeAny_handlers_suite_as ?_);refine lands_againW yC λh6 Mm R8=>?_
  have J6:Inv X aa σ H {s with heap:=h6}:=Inv.turn O nc J ap aw Mm.1 (F8 J (sm.trans R8)) (t':=s.toks);obtain ⟨Mn,PL,Tt⟩:=Mm.there
  have Za  : yn   X aa   [a] := fun b hb => aw b (by have e : b = a := by simpa using hb
                                                     rw [e]; simp)
  have Ja:Inv X aa σ (upd H a (lX a c)) {s with heap:=h6}:=Inv.takeUp O nc J6 (ap a (by simp)).2.1 (ap a (by simp)).1 Za ⟨⟨Mn,PL,Tt⟩,⟨Mn,PL⟩,λh1 h2 ⟨o,z1,z2⟩ k=>⟨o,k o z1,z2⟩⟩;refine um (X:=X.held a) (Ja.held a) hN hi (.inl hn) (v:=.ref a) rfl (λs7 J7=>?_) (.inr hn);have hσ:i<σ.length:=by rw [J.len];exact (d6.mp hi).1
  have hσj:j<σ.length:=by rw [J.len];exact (d6.mp hj).1
  have suite:eC (X.held a) [.Assign [.Name y py] (.Name n pn) pa] (ny (jA i) (a9 j)):=ao (Nt (X:=X.held a) hN hj (.inl hy) (Qv hi (.inl hn) hd2 Dt) pP (.inr hy));refine bA (suite aa s7 _ _ {nx:=λσ' H'=>σ'=(σ.set i (some (.ref a))).set j (some (.ref a))/\H'=upd H a (lX a c),rt:=λ_ _=>False} J7 ⟨.ref a,by rw [u4 hσ],rfl,rfl⟩) (λf s8 h8=>?_) λ_ _ z=>False.elim z
  cases f with
  |next =>
    obtain ⟨σ8,H8,J8,rfl,rfl⟩:=h8;have Rl:=Inv.unheld J.ok J8;refine aA (wpAny_bindName (um Rl hN hi (.inl hn) (v:=.non) rfl (λs9 J9=>?_) (.inr hn)));unfold unbindBehindTheSuite;refine xZ ?_;obtain ⟨m,jc,hl⟩:=id J9.loc;have gK:(((σ.set i (some (.ref a))).set j (some (.ref a))).set i (some V.non))[i]?=some (some .non):=by rw [u4 (by rw [qH,qH];exact hσ)]
    obtain ⟨u,_,z⟩:=hl i n .non hi gK (.inl hn);have US:m n=some u:=by
      rcases z with ⟨_,z⟩|⟨_,c',z,_⟩
      · exact z
      · rw [nc n]at z;cases z
    refine wpAny_unbindName_local hn jc US (by rw [J.ok.kind];rfl) λh' u' og UD=>?_
    have SF:=Inv.unbound nc J9 hN hi hl og UD;refine ⟨_,_,SF,?_⟩;have e:((((σ.set i (some (.ref a))).set j (some (.ref a))).set i (some V.non)).set i none)=(σ.set j (some (.ref a))).set i none:=by
      rw [Ny,List.set_comm _ _ Ep,Ny]
    rw [e];exact VP a (ap a (by simp)).2.1
  |ret v=>obtain ⟨_,_,_,_,_,z⟩:=h8;exact False.elim z
  |brk=>obtain ⟨_,_,_,z⟩:=h8;exact False.elim z
  |cont=>obtain ⟨_,_,_,z⟩:=h8;exact False.elim z
def zag(K:Frag)(B:Addr)(i j:Nat)(D:kr)(σ:St):XK:=λC _ H'=>∃(c:Addr) (bm:List Value),C=.ref c/\gd K c bm=true/\(Value.ref c::bm).contains (.ref B)=true/\∀a,H' a=none->D.nx ((σ.set j (some (.ref a))).set i none) (upd H' a (lX a c))
end
open PySem PySem.Spec PyProof.Rows
section
variable{X:Cx}{aa:List (Addr×Obj)}{σ:St}{H:Hp}{s:Shared}
def HX(X:Cx)(H:Hp)(xs:List Addr):Prop:=∀b∈xs,X.s₀.heap.get? b=none/\H b=none
def Inv.overW(O:fN X)(J:Inv X aa σ H s){xs:List Addr}(gF:HX X H xs){h3:Heap}(st:(PySem.W.hideAll s.heap (bq X.stack++xs)).StaysIn h3)(ups:∀b o,b∈bq X.stack->s.heap.get? b=some o->∃sl,h3.get? b=some {o with slots:=sl}) :
  cm X.prog X.w H h3/\Un (bq X.stack) xs H H s.heap h3:=by
 have stays:∀b o,s.heap.get? b=some o->b∉bq X.stack->b∉xs->h3.get? b=some o:=λb o e h1 h2=>st b o (vL _ e λz=>(bW.mp z).elim h1 h2)
 have oF:∀b o,H b=some o->b∉bq X.stack/\b∉xs:=λb o e=>⟨λz=>(by rw[J.stkFree b z]at e;cases e),λz=>(by rw[(gF b z).2]at e;cases e)⟩
 exists λb o e=>(J.hok b o e).stay (λc u hc q=>?_) (λ_ q=>q) λ_ _ q=>q,λb o e n hb hx=>stays b o e hb hx,λb o e n hb hx=>ups b o hb e,λ_ _ _ n _=>n,λb o e hx=>?_,λ_ _ q=>q,λ_ _ _ q=>q,λ_ ps q=>⟨#[],by rw[q];simp⟩
 ·have nW:∃o',H c=some o':=by
   rcases hc with rfl|hc
   ·nomatch _,e
   ·nomatch _,hc
  obtain⟨o',e'⟩:=nW;obtain⟨h1,h2⟩:=oF c o' e';exact stays c u q h1 h2
 ·by_cases hb:b∈bq X.stack
  ·obtain⟨sl,z⟩:=ups b o hb e;nomatch _,z
  ·nomatch o,stays b o e hb hx
def Rg(O:fN X)(J:Inv X aa σ H s){xs:List Addr}(gF:HX X H xs){a:Addr}{C a0:Value}{h3:Heap}
  (ups:∀b o,b∈bq X.stack->s.heap.get? b=some o->∃sl,h3.get? b=some {o with slots:=sl}) (st:(PySem.W.hideAll s.heap (bq X.stack++xs)).StaysIn h3) (fl:h3.TracedW (PySem.W.hideAll s.heap (bq X.stack++xs)) a C a0) (ha:s.heap.get? a=none\/a∈xs) {E:XK} (hE:E C none H) :
  fB X.prog X.w X.outer X.H₀ X.s₀ E (.ref a) {s with heap:=h3}:=by
 obtain⟨oe,vs,T,oT,ts,he,hc,hd,h1,rZ,iF,hT,ir,oV⟩:=fl;have fresh:∀b,s.heap.get? b=none->X.s₀.heap.get? b=none:=λb e=>by
  cases q:X.s₀.heap.get? b with
  |none=>rfl
  |some o=>obtain⟨o',z⟩:=J.base.there b o q (by rw[O.ex];simp);rw[e]at z;cases z
 have jt:bq X.stack=X.env.locals::X.fs:=by rw[O.stk,xP O.fr]
 obtain⟨hok,un⟩:=Inv.overW O J gF st ups;have young:∀b o,X.s₀.heap.get? b=some o->b∉xs:=λb o e z=>by rw[(gF b z).1]at e;cases e
 have old:∀b o,X.s₀.heap.get? b=some o->b≠X.env.locals:=λb o e=>dB (cy (bo e) J.ok.above)
 have nx:∀b:Addr,b∉X.ex:=λb=>by rw[O.ex];simp
 have b9:s.heap.get? T=none\/T∈xs:=by
  by_cases hx:T∈xs
  ·exact .inr hx
  ·refine .inl ?_;cases q:s.heap.get? T with
   |none=>rfl
   |some o =>
    by_cases hf:T∈bq X.stack
    ·obtain⟨_,o2,gc,eS⟩:=J.stack.mem hf;obtain⟨sl,z⟩:=ups T o2 hf gc;rw[hT]at z;cases z;exact absurd ir (eS ts)
    ·have:=vL (bq X.stack++xs) q λz=>(bW.mp z).elim hf hx
     rw[rZ]at this;cases this
 have both:∀b,(s.heap.get? b=none\/b∈xs)->X.s₀.heap.get? b=none/\H b=none:=λb hb=>by
  rcases hb with e|e
  ·nomatch fresh b e,J.hok.gone e
  ·nomatch (gF b e).1,(gF b e).2
 exists a,T,C,H,rfl,J.os,J.bare,⟨λb o e n hb hx=>?_,λb o e n hb hx=>?_,λb o e n _=>J.base.free b o e n (nx b),λb o e hx=>?_,J.base.tups,J.base.frzs,J.base.tbls⟩,hok,(both a ha).1,(both T b9).1,(both a ha).2,(both T b9).2,⟨oe,vs,oT,ts,a0,he,hc,hd,h1,iF,hT,ir,oV⟩,hE
 ·have e1:=J.base.keep b o e n hb (nx b);exact un.keep b o e1 (J.base.free b o e n (nx b)) (by rw[jt];exact λz=>(ba.mp z).elim (old b o e) hb) (young b o e)
 ·obtain⟨sl,e1⟩:=J.base.slot b o e n hb (nx b);obtain⟨o8,e2⟩:=un.slot b _ e1 (J.base.free b o e n (nx b)) (by rw[jt];exact cq _ hb) (young b o e);nomatch o8,e2
 ·obtain⟨o1,e1⟩:=J.base.there b o e (nx b);exact un.there b o1 e1 (young b o e)
def V0{a b:Env}(h:a.frame=b.frame)(e:Value):noteFrame e a=noteFrame e b:=by
 unfold noteFrame PySem.frameOf;rw[h]
def Rb{α:Type}{a b:Env}(h:a.frame=b.frame)(w:String)(e:Value):(PySem.passOn w e a:Sem α)=PySem.passOn w e b:=by
 unfold PySem.passOn;rw[h]
def zaY{M:Model}{A:Around}{E':Value->Shared->Prop}{s:Shared}{base:Heap}{l:List Env}{e L:Addr}{cls a0:Value}{Q:Unit->Shared->Prop}(h:base.HeldW l e cls a0 L s.heap)
  (k:∀h',base.HeldW l e cls a0 L h'->s.heap.UpToSlots h'->Q () {s with heap:=h'}):wpAny M A (setFlight (.ref e) (some L)) Q E' s:=by
 obtain⟨st,hn,hf,oe,vs,T,oT,ts,he,hc,hd,h1,rZ,iF,hT,ir,h3⟩:=h;have MP:3<ts.size:=by
  rcases kb 3 ts.size with z|z
  ·exact z
  ·rw[Kn z]at h3;cases h3
 unfold setFlight;refine aA (gb he hd h1 ?_);rw[ax (by rfl)];show wpAny M A (setField (.ref T) 3 (rawInt ↑L)) Q E' s;refine Ei hT ir MP ?_;obtain⟨cT,dT,daT,sT⟩:=oT;obtain rfl:daT=.fields ts:=ir;have mT:(s.heap.update T (Obj.mapFields λx=>x.setIfInBounds 3 (rawInt ↑L))).get? T=some ⟨cT,dT,.fields (ts.setIfInBounds 3 (rawInt ↑L)),sT⟩:=FZ _ hT rfl;have other:∀b,b≠T->(s.heap.update T (Obj.mapFields λx=>x.setIfInBounds 3 (rawInt ↑L))).get? b=s.heap.get? b:=λb hb=>A8 _ _ _ _ hb
 refine k _ ⟨λb o z=>?_,hn,Le (λb o z qD=>⟨o,?_,rfl⟩) hf,oe,vs,T,_,_,?_,hc,hd,h1,rZ,iF,mT,rfl,?_⟩ λb o z qD=>⟨o.slots,?_⟩
 ·rw[other b (λy=>by rw[y,rZ]at z;cases z)];exact st b o z
 ·rw[other b (λy=>by rw[y,hT]at z;cases z;exact qD ts rfl)];exact z
 ·rw[other e iF.symm];exact he
 ·rw[Array.getElem?_setIfInBounds_self_of_lt MP]
 ·rw[other b (λy=>by rw[y,hT]at z;cases z;exact qD ts rfl)];exact z
def zcR(O:fN X)(J:Inv X aa σ H s){a T C:Addr}{Cl:Value}(hC:X.s₀.heap.get? C=none)(hCH:H C=none)(Bl:C≠X.env.locals){m:Str->Option Value}(jc:s.heap.Ns C m)(ap:sW X H s.heap [a,T])(FJ:qz s.heap a T Cl){E:XK}(hE:E Cl none H)
  {c1 c2:Env} (ml:c1.frame=X.env.frame) (vK:c2.frame=X.env.frame) {E' E2:Value->Shared->Prop} (hx:∀e s',wpAny (model X.prog X.w) X.A (leaving X.env e) (λ_ dN=>fB X.prog X.w X.outer X.H₀ X.s₀ E e dN) (λ_ _=>False) s'->E' e s') {α:Type}{Q:α->Shared->Prop} :
  wpAny (model X.prog X.w) X.A (noteFrame (.ref a) c1) (λ_ s4=>∃m,s4.heap.Ns C m/\∀h',Heap.SameBut C s4.heap h'->wpAny (model X.prog X.w) X.A (PySem.passOn "comprehension.variables-let-go" (.ref a) c2) Q E' {s4 with heap:=h'}) E2 s:=by
 rw[V0 ml,Rb vK];have gy:X.A.frames=some (X.env::X.outer):=by rw[<-O.stk];exact J.ok.frames
 have jt:bq X.stack=X.env.locals::X.fs:=by rw[O.stk,xP O.fr]
 obtain⟨oC,es,ep,oI,Ka,k1,k2⟩:=jc;have ED:∀vs,oC.data≠.fields vs:=λvs z=>by rw[Ka]at z;cases z
 obtain⟨oe,vs,oT,ts,a0,he,hc,hd,B3,cY,hT,ir,h3⟩:=id FJ;have IB:a≠C:=λz=>by rw[z,oI]at he;cases he;exact ED vs hd
 obtain⟨B,hB⟩:∃B,B=PySem.W.hideAll s.heap (bq X.stack++[a,T,C]):=⟨_,rfl⟩;have m1:a∈bq X.stack++[a,T,C]:=cx _ (by simp);have m2:T∈bq X.stack++[a,T,C]:=cx _ (by simp);have m3:C∈bq X.stack++[a,T,C]:=cx _ (by simp);have bC:B.get? C=none:=by rw[hB];exact pZ _ m3
 have fl:B.FlyingW (X.env::X.outer) a Cl a0 s.heap:=by
  rw[hB,<-O.stk];nomatch λb o e=>tG _ e,pZ _ m1,C3 J.stack λenv he b hb=>i8 _ (qZ.mpr ⟨env,he,hb⟩),oe,vs,T,oT,ts,he,hc,hd,B3,pZ _ m2,cY,hT,ir,h3
 have G3:C∉bq X.stack:=λz=>by
  rw[jt]at z;rcases ba.mp z with y|y
  ·exact Bl y
  ·obtain⟨_,o,ho,_⟩:=J.ok.funs.mem y;rw[hC]at ho;cases ho
 refine wpAny_looks_onW (a0:=a0) (base:=B) gy O.fr fl λh4 Ff MJ=>?_
 obtain⟨slC,G7⟩:=MJ C oC oI ED;exists m,⟨_,es,ep,G7,Ka,k1,k2⟩,λh5 sb=>?_;have sj:∀b,b≠C->h5.get? b=h4.get? b:=sb.2;obtain⟨st4,WN,UY,NI,Yj,T4,Wl,LH,PV,hc4,JT,P9,Rm,Yn,mP,Nb,Ub⟩:=id Ff;have V2:T4≠C:=λz=>by rw[z,G7]at mP;cases mP;exact ED LH Nb
 have UB:B.HeldW (X.env::X.outer) a Cl a0 X.env.locals h5:=by
  have hh:(PySem.W.hideAll h4 [C]).FunFrames B (X.env::X.outer):=PySem.W.funFrames_hideAll UY λenv wQ b hb z=>by
   rw[bh.mp hb]at z;exact G3 (by rw[O.stk];exact qZ.mpr ⟨env,wQ,z⟩)
  exists λb o z=>?_,WN,Le (λb o z eS=>⟨o,?_,rfl⟩) hh,NI,Yj,T4,Wl,LH,?_,hc4,JT,P9,Rm,Yn,?_,Nb,Ub
  ·rw[sj b (λy=>by rw[y,bC]at z;cases z)];exact st4 b o z
  ·have Dm:b≠C:=λy=>by rw[y,pZ _ (bh.mpr rfl)]at z;cases z
   rw[sj b Dm];exact tG _ z
  ·rw[sj a IB];exact PV
  ·rw[sj T4 V2];exact mP
 have xw:h5.get? a=some NI:=by rw[sj a IB];exact PV
 unfold PySem.passOn;refine aA (gb xw JT P9 ?_);rw[aq (by rw[show (Value.ref T4 == Value.none)=false from rfl];decide)];rw[O.fr];refine aA (zaY UB λh6 Om up6=>wpAny_throw (hx _ _ ?_));unfold leaving;refine aA (wpAny_noteFrame_againW O.fr Om.2.2.2 ?_);refine wpAny_landsW Om λh7 Ey Us=>?_
 rw[hB]at Ey;refine Rg O J (xs:=[a,T,C]) (λb hb=>?_) (λb o hb e=>?_) Ey.1 Ey.2.2.2 (.inr (by simp)) hE
 ·rcases ba.mp hb with rfl|hb
  ·nomatch (ap _ (by simp)).1,(ap _ (by simp)).2.1
  ·rcases ba.mp hb with rfl|hb
   ·nomatch (ap _ (by simp)).1,(ap _ (by simp)).2.1
   ·rw[bh.mp hb];nomatch hC,hCH
 ·obtain⟨_,o2,gc,eS⟩:=J.stack.mem hb;rw[e]at gc;cases gc;obtain⟨s1,e1⟩:=MJ b o e eS;have Dm:b≠C:=λz=>G3 (z ▸ hb)
  obtain⟨s2,e2⟩:=up6 b {o with slots:=s1} (by show h5.get? b=_;rw[sj b Dm];exact e1) eS;obtain⟨s3,e3⟩:=Us b _ e2 eS;nomatch s3,e3
end
noncomputable abbrev oY(X:Cx)(scope:Scope)(cl:List (Str×Addr))(C:Addr):Env:=newEnv scope C X.env.globals cl X.env.qual none .none (some X.env) builtinsNs
section
variable{prog:Program}{w:World}{A:Around}{R:Result->Shared->Prop}{s:Shared}
theorem ZU{elt target iter:Expr}{ifs:List Expr}{scope:Scope}{pos:Pos}{it acc:Value}{env:Env}(I:Nat->Shared->Prop)(EL:Value->Shared->Prop)(hEL:∀e s',EL e s'->notedBy (model prog w) A env (λx dN=>R (.error x) dN) e s')
  (turn:∀ n s,I n s->wpAny (model prog w) A (pyNext it) (fun r s₁=>match r with
   |none=>R (.ok .next) s₁
   |some v=>wpAny (model prog w) A (letOwnedTupleGo target it v) (λ_ s₁'=>wpAny (model prog w) A (assign target env v) (λ_ s₂ =>
     wpAny (model prog w) A (forIn ifs true λc r=>if r=true then do let ok <-isTrue c env (eval c env);pure (ForInStep.yield ok)else pure (ForInStep.yield r)) (λok s₃ =>
      if ok=true then wpAny (model prog w) A (eval elt env) (λx s₄ =>
       wpAny (model prog w) A (call (.builtin "list.append") [acc,x]) (λ_ s₅=>∃m,m<n/\I m s₅) (λ_ _=>False) s₄) EL s₃
      else ∃m,m<n/\I m s₃) (λ_ _=>False) s₂) (λ_ _=>False) s₁') (λ_ _=>False) s₁) (λ_ _=>False) s)
  (n:Nat) (h:I n s) :
  codeAny (model prog w) A (.compLoop (.ListComp elt [⟨target,iter,ifs,0⟩] scope pos) 0 it acc env) R s:=by
 refine codeAny_loop rfl I (λn s hI=>?_) n h;show wpAny _ A ((compTurn (.ListComp elt [⟨target,iter,ifs,0⟩] scope pos) 0 it acc env).onRaise (λx=>do noteFrame x env;theTreesLotGoes x)) _ _ s;refine wpAny_noted ?_;rw[compTurn_list];refine aA (vh (aA (bA (turn n s hI) (λr s₁ h₁=>?_) λ_ _ h'=>h'.elim)));cases r with
 |none=>exact bg h₁
 |some v =>
  refine aA (bA h₁ (λ_ s₁' h₁'=>?_) λ_ _ h'=>h'.elim);refine aA (bA h₁' (λ_ s₂ h₂=>aA (bA h₂ (λok s₃ h₃=>?_) λ_ _ h'=>h'.elim)) λ_ _ h'=>h'.elim);cases ok with
  |false=>exact bg ⟨rfl,h₃⟩
  |true =>
   exact aA (aA (bA h₃ (λx s₄ h₄=>aA (bA h₄ (λ_ s₅ h₅=>bg (bg ⟨rfl,h₅⟩)) λ_ _ h'=>h'.elim)) λe s' h'=>hEL e s' h'))
end
set_option maxHeartbeats 4000000 in
set_option tactic.hygienic true in
def QB{X:Cx}{tg iter elt:Expr}{ifs:List Expr}{scope:Scope}{pos:Pos}{N':List Str}{nT:Nat}{js:List Nat}{g:TG}{tc:TT}{te:TE}{RR:Value->Env->Result->Shared->Prop}(XE:Addr->Shared->Hp->List Addr->Value->Shared->Prop)
  (hc:X.calm=true) (S:lJ X scope N' nT js) {aa:List (Addr×Obj)}{σ:St}{H2:Hp}{s2:Shared}{cl:List (Str×Addr)}{it:Addr}{fp:List Addr}{tn:Nat->Heap->Prop}{J:It}
  (gE:∀x,cl.lookup x=(if (x,NameKind.free)∈scope.names then X.env.cells.lookup x else none))
  (hg:∀C s₀ H₀ fp,PG (cg X N' scope cl C s₀ H₀ fp) tg g) (ht:∀C s₀ H₀ fp,lb (cg X N' scope cl C s₀ H₀ fp) ifs tc) (he:∀C s₀ H₀ fp,PE ((cg X N' scope cl C s₀ H₀ fp).wish (XE C s₀ H₀ fp)) elt te)
  (I2:Inv X aa σ H2 s2) (T:kA X.prog X.w X.K tg J fp it tn) (cU:tn 0 s2.heap) (f2:∀b∈fp,eo X aa H2 b) {QQ:Addr->List V->Hp->Prop}
  (W:Nat->Nat->List V->St->Hp->Prop) (w0:∃m,W 0 m [] (kB nT js σ) H2)
  (turn:∀ i m ys σ H,W i m ys σ H->(J.stop i H/\∀ D,H D=none->QQ D ys H) \/ (J.go i H/\ys.length<sizeLine/\∃ N:List V->St->Hp->Prop,(∀ cH σ' H',N cH σ' H'->∃ m',m'<m/\W (i+1) m' cH σ' H') /\ ∀x H',J.yld i H x H'->g x σ H' λσ2 H2=>tc σ2 H2 λb H3=>if b=true then te σ2 H3 λy H4=>N (ys++[y]) σ2 H4 else N ys σ2 H3))
  (XW:∀(D C:Addr) (e:Value) (s':Shared),s2.heap.get? C=none->s2.heap.objs.size<=C->XE C s2 H2 fp e s'->notedBy (model X.prog X.w) X.A (compEnvC scope cl C X.env) (λx dN=>RR (.ref D) (oY X scope cl C) (.error x) dN) e s')
  (DA:∀(D C:Addr) (s':Shared) (ys:List V) (H':Hp) (m:Str->Option Value),QQ D ys H'->s'.heap.Ns C m->s2.heap.get? C=none->s2.heap.objs.size<=C->D≠C->H' C=none->(∀h',Heap.SameBut C s'.heap h'->Inv X aa σ (upd H' D (.lst ys)) {s' with heap:=h'})->RR (.ref D) (oY X scope cl C) (.ok .next) s') :
  wpAny (model X.prog X.w) X.A (newList []) (λacc s₃=>wpAny (model X.prog X.w) X.A (newFunctionEnv scope X.env.globals cl [] X.env.qual none .none (some X.env)) (λgu s₄ =>
   codeAny (model X.prog X.w) X.A (.compStart (.ListComp elt [⟨tg,iter,ifs,0⟩] scope pos) 0 (.ref it) acc {gu with scope:=relabel scope X.env}) (RR acc gu) s₄) (λ_ _=>False) s₃) (λ_ _=>False) s2:=by
 refine nP (wpAny_newFunctionEnv S.nocell (by intro y hy;simp at hy) (λh₁ hns₁ hsb₁=>?_) S.kind);dsimp only at hns₁ hsb₁ ⊢;generalize hH2:s2.heap.push {cls:=.type "list",dict:=none,data:=.seq ([]:List Value).toArray}=G2 at hns₁ hsb₁ ⊢;have hC:G2.objs.size=s2.heap.objs.size+1:=by rw[<-hH2,nM]
 generalize hCC:G2.objs.size=C at hns₁ hsb₁ hC ⊢;generalize hDD:s2.heap.objs.size=D at hC ⊢;have fE:D≠C:=by lia
 have below:∀b o,s2.heap.get? b=some o->b≠C/\b≠D:=λb o e=>by
  have h:@LT.lt Nat _ b s2.heap.objs.size:=bo e;exact⟨λz=>by have z':@Eq Nat b C:=z;lia,λz=>by have z':@Eq Nat b D:=z;lia⟩
 have old:∀b o,s2.heap.get? b=some o->h₁.get? b=some o:=λb o e=>hsb₁.extBut b o (below b o e).1 (cv _ (hH2 ▸ cv _ e))
 have sL:h₁.get? D=some {cls:=.type "list",data:=.seq ([]:List Value).toArray}:=hsb₁.extBut _ _ fE (cv _ (by rw[<-hH2,<-hDD];exact c8 _ rfl));have nC:s2.heap.get? C=none:=tH (by lia);have nD:s2.heap.get? D=none:=tH (by lia);have fC:H2 C=none:=I2.hok.fresh (by omega);have fD:H2 D=none:=I2.hok.fresh (by omega);have lY:∀b∈fp,b≠C/\b≠D:=λb hb=>by obtain⟨o,e,_⟩:=T.obj _ _ cU b hb;exact below b o e
 have uz:∀b∈fp,b∉bq X.stack:=λb hb z=>by
  obtain⟨_,f1,f3,_⟩:=f2 b hb;rcases ba.mp (I2.stkSub b z)with e|e
  ·exact f1 e
  ·exact f3 e
 have jb:∀x c,cl.lookup x=some c->X.env.cells.lookup x=some c/\(x,NameKind.free)∈scope.names:=λx c e=>by
  rw[gE]at e;split at e
  ·rename_i hm;nomatch e,hm
  ·cases e
 have BU:∀b∈bq X.stack,b≠D/\b≠C:=λb hb=>by
  have h:=I2.stkSub b hb;rcases ba.mp h with e|e
  ·have h1:@LT.lt Nat _ X.env.locals s2.heap.objs.size:=I2.lt;have h2:@Eq Nat b X.env.locals:=e;exact⟨λz=>by have z':@Eq Nat b D:=z;lia,λz=>by have z':@Eq Nat b C:=z;lia⟩
  ·obtain⟨_,o,ho,_⟩:=I2.ok.funs.mem e;have h1:@LT.lt Nat _ b X.s₀.heap.objs.size:=bo ho;have h2:=I2.sz;exact⟨λz=>by have z':@Eq Nat b D:=z;lia,λz=>by have z':@Eq Nat b C:=z;lia⟩
 have AA:(cg X N' scope cl C s2 H2 fp).Ok:=by
  refine⟨I2.ok.mod,S.kind,I2.ok.glob,I2.ok.blt,(by show s2.heap.objs.size<=C;omega),λx y c h1 h2=>I2.ok.inj x y c (jb x c h1).1 (jb y c h2).1,λx hx=>?_,λx c hx _=>(cQ hx).elim,λ_=>I2.ok.hd hc,I2.ok.frames,.inl rfl,
   λb hb=>⟨(lY b hb).1,λx c e=>(f2 b hb).2.2.2.2.1 x c (jb x c e).1⟩,I2.bs,bp I2.ok.bsz I2.sz,λb o e hb=>?_,uz,I2.stack,I2.stkFree⟩
  ·have cw:(relabel scope X.env).names.lookup x=some .cell\/(relabel scope X.env).names.lookup x=some .free:=hx;have hk:(relabel scope X.env).names.lookup x=_:=uV X.env x scope.names;rw[hk]at cw;have hf:(x,NameKind.free)∈scope.names:=by
    cases q:scope.names.lookup x with
    |none=>rw[q]at cw;rcases cw with z|z<;>cases z
    |some k =>
     have hm:=ng q;cases k with
     |free=>exact hm
     |cell=>exact absurd rfl (S.nocell _ hm)
     |_=>rw[q]at cw;rcases cw with z|z<;>simp at z
   obtain⟨c,e⟩:=I2.ok.has x (.inl (S.kinds _ hf rfl));exact⟨c,by show cl.lookup x=some c;rw[gE,ax hf];exact e⟩
  ·rcases (f2 b hb).2.2.2.1 with z|z
   ·exact I2.ok.noex b o e z
   ·have h1:@LT.lt Nat _ b X.s₀.heap.objs.size:=bo (I2.ok.bs b o e).1;have h2:@LE.le Nat _ X.s₀.heap.objs.size b:=z;lia
 have I0:Inv (cg X N' scope cl C s2 H2 fp) [] (kB nT js σ) H2 {s2 with heap:=h₁,toks:=s2.toks+([]:List (Str×Value)).length}:=by
  exists AA,rfl,I2.bare,Un.kept old,⟨_,hns₁,λi x v e1 e2 e3=>?_⟩,λx c e=>?_,fC,λx c e=>I2.freeC x c (jb x c e).1,λp hp=>absurd (show p∈([]:List (Addr×Obj)) from hp) (by simp),I2.hok.kept old,?_
  ·unfold kB at e2;by_cases hi:i<nT
   ·rw[yF (by simpa using hi),Bt,ax hi]at e2;cases e2
   ·rw[xO (by simpa using hi),rY,bY]at e2;obtain⟨k,hk⟩:∃k,i=nT+k:=⟨i-nT,by lia⟩;subst hk;rw[A1]at e2;cases q:js[k]? with
    |none=>rw[q]at e2;cases e2
    |some j =>
     rw[q]at e2;have ma:(σ[j]?).join=some v:=cD e2;have BK:σ[j]?=some (some v):=by
      cases z:σ[j]? with
      |none=>rw[z]at ma;cases ma
      |some a=>rw[z]at ma;exact congrArg some ma
     have Fp:=S.frees k j x q e1;have uW:scope.names.lookup x=some .free:=S.vis x (by
      rw[KD];exact⟨k,by rw[BF];exact e1⟩)
     have kU:(x,NameKind.free)∈scope.names:=ng uW;have gw:=S.kinds _ kU rfl;obtain⟨m,hn,hl⟩:=I2.loc;obtain⟨u,r,l⟩:=hl j x v Fp BK (.inr (.inl gw));exists u,r,?_;rcases l with ⟨l,_⟩|⟨_,c,ec,ic⟩
     ·have l':X.env.scope.names.lookup x=some .local:=l;rw[gw]at l';cases l'
     ·refine .inr ⟨?_,c,?_,?_⟩
      ·left;show (relabel scope X.env).names.lookup x=some .cell;have hk:(relabel scope X.env).names.lookup x=_:=uV X.env x scope.names;have uH:X.env.scope.kind=.function:=I2.ok.kind;have B7:X.env.kindOf x=some .cell:=gw;rw[hk,uW,Ha,uH,B7];rfl
      ·show cl.lookup x=some c;rw[gE,ax kU];exact ec
      ·exact ic.keeps old
  ·obtain⟨v,q⟩:=I2.cell x c (jb x c e).1;nomatch v,q.keeps old
  ·unfold kB;rw[aS,rY,ay];exact S.len.symm
 have lp:∀s₃:Shared,s₃={s2 with heap:=h₁,toks:=s2.toks+([]:List (Str×Value)).length} ->
   codeAny (model X.prog X.w) X.A (.compLoop (.ListComp elt [⟨tg,iter,ifs,0⟩] scope pos) 0 (.ref it) (.ref D) (compEnvC scope cl C X.env)) (RR (.ref D) (oY X scope cl C)) s₃:=by
  rintro s₃ rfl;obtain⟨m0,w0⟩:=w0;refine ZU (EL:=XE C s2 H2 fp) (hEL:=λe s' h=>XW D C e s' nC (by omega) h) (λn s'=>∃(i:Nat) (ys:List V) (af:List Value) (no:Nat) (σ':St) (H':Hp),Inv (cg X N' scope cl C s2 H2 fp) [(D,{cls:=.type "list",data:=.seq af.toArray no})] σ' H' s'/\Vals ys af/\tn i s'.heap/\(∀b∈fp,H' b=none)/\ys.length<=sizeLine/\W i n ys σ' H') ?_ m0
   ⟨0,[],[],0,kB nT js σ,H2,I0.pins_of λp hp=>?_,.nil,T.keep _ _ _ cU λb _ o e=>old b o e,λb hb=>(f2 b hb).1,cb _,w0⟩
  ·rintro n s3 ⟨i,ys,af,no,σ3,H3,I3,rv,oo,nG,hz,w3⟩;have qw:∀{H':Hp},(∀b∈fp,H' b=none)->∀b∈fp,eo (cg X N' scope cl C s2 H2 fp) [(D,{cls:=.type "list",data:=.seq af.toArray no})] H' b:=λhn b hb =>
    ⟨hn b hb,(lY b hb).1,uz b hb,.inl hb,λx c e=>(f2 b hb).2.2.2.2.1 x c (jb x c e).1,λp hp=>by
     have e:p=(D,{cls:=.type "list",data:=.seq af.toArray no}):=by simpa using hp
     rw[e];exact Ne.symm (lY b hb).2⟩
   rcases turn i n ys σ3 H3 w3 with ⟨stop,q⟩|⟨go,bE,N,hN,step⟩
   ·refine bA (T.done (cg X N' scope cl C s2 H2 fp) rfl rfl rfl hc i _ s3 σ3 H3 (λ_ _=>False) I3 (qw nG) oo stop) (λr s4 ⟨hr,I4⟩=>?_) λ_ _ h=>h
    subst hr;obtain⟨CJ,uq,Ug,TJ,_⟩:=I4.pin (D,{cls:=.type "list",data:=.seq af.toArray no}) (by simp);obtain⟨m,hn,_⟩:=I4.loc;have pH:H3 C=none:=I4.free;refine DA D C s4 ys H3 m (q D uq) hn nC (by lia) fE pH λh' sb=>?_
    have k4:∀b o,b≠C->s4.heap.get? b=some o->h'.get? b=some o:=λb o hb e=>sb.extBut b o hb e
    have ky:∀b u,H3 b=some u->b≠D:=λb u e=>cE e uq
    refine I2.call' (s':={s4 with heap:=h'}) (ch:=fp) I4.os ⟨λb o e n hb hx=>k4 b o (below b o e).1 (I4.base.keep b o e n hb hx),λb o e n hb hx=>?_,λb o e n hx=>?_,λb o e hx=>?_,λb xs e=>?_,λb o u e=>?_,λb ps e=>?_⟩ (λb u e=>?_) I4.bare λb hb=>?_
    ·obtain⟨sl,e'⟩:=I4.base.slot b o e n hb hx;nomatch sl,k4 b _ (below b o e).1 e'
    ·rw[aO (below b o e).2];exact I4.base.free b o e n hx
    ·obtain⟨o',e'⟩:=I4.base.there b o e hx;nomatch o',k4 b o' (below b o e).1 e'
    ·have e':=I4.base.tups b xs e;rw[aO (ky b _ e')];exact e'
    ·have e':=I4.base.frzs b o u e;rw[aO (ky b _ e')];exact e'
    ·obtain⟨more,e'⟩:=I4.base.tbls b ps e;exact⟨more,by rw[aO (ky b _ e')];exact e'⟩
    ·by_cases hb:b=D
     ·subst hb;rw[au]at e;cases e;nomatch hz,af,no,rv,k4 b _ fE CJ
     ·rw[aO hb]at e;refine (I4.hok b u e).stay (λc v iR z=>k4 c v ?_ z) (λc z=>by rw[aO (ky c _ z)];exact z) λc xs z=>by rw[aO (ky c _ z)];exact z
      rcases iR with rfl|iR
      ·exact cE e pH
      ·exact cE iR pH
    ·obtain⟨_,g1,_,g3,g4,g5⟩:=f2 b hb;nomatch g3,g1,g4,g5
   ·refine bA (T.item (cg X N' scope cl C s2 H2 fp) rfl rfl rfl hc i _ s3 σ3 H3 (λ_ _=>False) I3 (qw nG) oo go) (λr s4 ⟨u,hr,h4⟩=>?_) λ_ _ h=>h
    subst hr;refine bA h4 (λ_ s5 ⟨x,H5,I5,r5,y5,kh,tw⟩=>?_) λ_ _ h=>h
    have vQ:=I5.pinned (qw tw) (T.obj _ _ kh);refine bA (hg C s2 H2 fp _ s5 σ3 H5 x u _ vQ r5 (step x H5 y5)) (λ_ s6 ⟨σ6,H6,I6,q6⟩=>?_) λ_ _ h=>h
    refine bA (ht C s2 H2 fp _ s6 σ6 H6 _ I6 q6) (λok s7 ⟨H7,I7,q7⟩=>?_) λ_ _ h=>h
    have back:∀{pp:List (Addr×Obj)}{s':Shared}{σ':St}{H':Hp},(∀b∈fp,∀o,s5.heap.get? b=some o->(b,o)∈pp)->Inv (cg X N' scope cl C s2 H2 fp) pp σ' H' s'->tn (i+1) s'.heap/\∀b∈fp,H' b=none:=fun {pp s' σ' H'} lD I'=>by
     exists T.keep _ _ _ kh λb hb o e=>(I'.pin (b,o) (cx _ (lD b hb o e))).1,λb hb=>?_;obtain⟨o,e,d⟩:=T.obj _ _ kh b hb;exact (I'.pin (b,o) (cx _ (lD b hb o e))).2.1
    have DO:∀b∈fp,∀o,s5.heap.get? b=some o->(b,o)∈[(D,({cls:=.type "list",data:=.seq af.toArray no}:Obj))]++kY fp s5.heap:=λb hb o e=>cx _ (nO hb e)
    cases ok with
    |false =>
     rw[aq cQ];rw[aq cQ]at q7;obtain⟨m',hm,w7⟩:=hN _ _ _ q7;obtain⟨b1,b2⟩:=back DO I7;nomatch m',hm,i+1,ys,af,no,σ6,H7,I7.unpinned,rv,b1,b2,hz,w7
    |true =>
     rw[ax rfl];rw[ax rfl]at q7;refine bA (he C s2 H2 fp _ s7 σ6 H7 _ (I7.wish _) q7) (λv8 s8 ⟨y,H8,I8w,r8,q8⟩=>?_) λ_ _ h=>h
     have I8:=I8w.unwish;obtain⟨eD,tO,oa,nf,_⟩:=I8.pin (D,{cls:=.type "list",data:=.seq af.toArray no}) (cx _ (i8 _ (by simp)));have aT:=rv.length;refine ke En ⟨_,eD,rfl⟩ Dz (ER _ _) (C1 D af.toArray no v8 (by rw[bJ];lia)) ⟨eD,?_⟩;obtain⟨m',hm,w8⟩:=hN _ _ _ q8;have I9:Inv (cg X N' scope cl C s2 H2 fp) (kY fp s5.heap) σ6 H8 s8:=I8.pins_of λp hp=>I8.pin p (cx _ (cx _ hp))
     have B8:=get?_update_seq eD (λa=>a.push v8);have ud:=I9.turned (h':=s8.heap.update D (Obj.mapSeq λa=>a.push v8)) (t':=s8.toks) (it:=D) (λb o hb e=>(A8 _ _ _ _ hb).trans e) tO oa (.inr (by show s2.heap.objs.size<=D;lia))
      (λx c e z=>by
       obtain⟨v,oc,ow,uX⟩:=I8.cell x c e;rw[z,eD]at ow;cases ow;cases uX) (λp hp z=>by
        have gU:p∈kY fp s5.heap:=by simpa using hp
        exact (lY p.1 (EM gU).1).2 z)
     obtain⟨b1,b2⟩:=back (λb hb o e=>nO hb e) ud;exists m',hm,i+1,ys++[y],af++[v8],(if ((af.toArray.push v8).size == af.toArray.size)=true then no else no+1),σ6,H8,ud.pins_of λp hp=>?_,rv.append (.cons r8 .nil),b1,b2,(by rw[aS];simp;assumption),w8;obtain rfl:=bh.mp hp;refine⟨?_,tO,oa,nf,λv z=>by cases z⟩;refine B8.trans ?_;rw[Lp]
  ·have e:p=(D,{cls:=.type "list",data:=.seq ([]:List Value).toArray}):=by simpa using hp
   subst e;exact⟨sL,fD,fE,λz=>(BU D z).1 rfl,λv z=>by cases z⟩
 exact codeAny_compStart_list (lp _ rfl) (T.self _ 0 _ _ _ (T.keep _ _ _ cU λb _ o e=>old b o e) (lp _ rfl))
section
variable{X:Cx}{E:XK}{N':List Str}{scope:Scope}
def oy(X:Cx)(E:XK)(N':List Str)(scope:Scope)(C:Addr)(s₀:Shared)(H₀:Hp)(fp:List Addr):Value->Shared->Prop:=λe s'=>∃(aa:List (Addr×Obj)) (σ:St) (H:Hp) (s:Shared),Inv (cg X.nox N' scope [] C s₀ H₀ fp) aa σ H s/\fB X.prog X.w X.stack H s E e s'
def LA{C:Addr}{s₀:Shared}{H₀:Hp}{fp:List Addr}:oK (fB X.prog X.w) ((cg X.nox N' scope [] C s₀ H₀ fp).wish (oy X E N' scope C s₀ H₀ fp)) E:=λaa σ H s e s' I h=>⟨aa,σ,H,s,I.unwish,h⟩
def Nd(L:qP X E){aa:List (Addr×Obj)}{σ:St}{H2:Hp}{s2:Shared}{fp:List Addr}(I2:Inv X.nox aa σ H2 s2)(f2:∀b∈fp,eo X.nox aa H2 b){C:Addr}(nC:s2.heap.get? C=none)(sC:s2.heap.objs.size<=C){e:Value}{s':Shared}
  (h:oy X E N' scope C s2 H2 fp e s') {c1 c2:Env} (ml:c1.frame=X.env.frame) (vK:c2.frame=X.env.frame) {E2:Value->Shared->Prop}{α:Type}{Q:α->Shared->Prop} :
  wpAny (model X.prog X.w) X.A (noteFrame e c1) (λ_ s4=>∃m,s4.heap.Ns C m/\∀h',Heap.SameBut C s4.heap h'->wpAny (model X.prog X.w) X.A (PySem.passOn "comprehension.variables-let-go" e c2) Q X.xe {s4 with heap:=h'}) E2 s':=by
 obtain⟨Jc,σ',Hb,sb,Ib,hx⟩:=h;obtain⟨a,T,Cl,H',rfl,I4,h1,h2,h3,h4,h5,h6⟩:=Ax Ib hx;have ch:∀b∈fp,(b∈X.nox.ex\/X.nox.s₀.heap.objs.size<=b)/\b≠X.nox.env.locals/\(∀(x:Str) (c:Addr),List.lookup x X.nox.env.cells=some c->c≠b)/\∀(p:Addr×Obj),p∈X.nox.pn++aa->p.fst≠b:=λb hb=>by
  obtain⟨_,g1,_,g3,g4,g5⟩:=f2 b hb;nomatch g3,g1,g4,g5
 have WT:Inv X aa σ Hb sb:=(I2.call' (ch:=fp) Ib.os Ib.base Ib.hok Ib.bare ch).unwish;have JX:Inv X aa σ H' s':=(I2.call' (ch:=fp) I4.os I4.base I4.hok I4.bare ch).unwish;have ap:=BR L.own WT h1 h2 h3 h4 h5;obtain⟨m,jc,_⟩:=I4.loc;have hC:X.s₀.heap.get? C=none:=by
  cases q:X.s₀.heap.get? C with
  |none=>rfl
  |some o =>
   obtain⟨o',z⟩:=I2.base.there C o q (by show C∉X.ex;rw[L.own.ex];simp);rw[nC]at z;cases z
 have Bl:C≠X.env.locals:=λz=>by
  have h1:@LT.lt Nat _ X.env.locals s2.heap.objs.size:=I2.lt;have h2:@Eq Nat C X.env.locals:=z;have h3:@LE.le Nat _ s2.heap.objs.size C:=sC;lia
 exact zcR L.own JX hC I4.free Bl jc ap h5 h6 ml vK L.xe
def MR{scope:Scope}(h:∀y∈scope.names,y.2≠.free)(env:Env):relabel scope env=scope:=by
 obtain⟨k,names,g,c,mo⟩:=scope;unfold relabel;congr 1;refine (nS λy hy=>?_).trans (List.map_id _);obtain⟨n,kk⟩:=y
 have:kk≠.free:=h _ hy
 have e:(kk == NameKind.free)=false:=by simpa using this
 simp[e]
def LS(X:Cx)(scope:Scope)(u:Value->Sem Unit)(P:Shared->Prop)(acc:Value)(gu:Env):Result->Shared->Prop
 |.ok _,s'=>wpAny (model X.prog X.w) X.A (u acc) (λ_ dN=>∃m,dN.heap.Ns gu.locals m/\∀h',Heap.SameBut gu.locals dN.heap h'->P {dN with heap:=h'}) X.xe s'
 |.error e,s'=>∃m,s'.heap.Ns gu.locals m/\∀h',Heap.SameBut gu.locals s'.heap h'->wpAny (model X.prog X.w) X.A (PySem.passOn "comprehension.variables-let-go" e {gu with scope:=scope}) (λ(_:Value) s'=>P s') X.xe {s' with heap:=h'}
set_option tactic.hygienic true in
def zbT(L:qP X E){tg iter elt:Expr}{ifs:List Expr}{bN pos pos':Pos}{x:Str}{i:Nat}(nT:Nat){wi:TI}{g:TG}{tc:TT}{te:TE}
    (hN:X.nox.N.Nodup) (CD:X.nox.N[i]?=some x) (hx:oR X.nox.env.scope x)
    (hc:X.calm=true) (S:lJ X.nox scope N' nT []) (eS:∀y∈scope.names,y.2≠.free) (hi:PI X.nox tg iter wi)
    (hg:∀C s₀ H₀ fp,PG (cg X.nox N' scope [] C s₀ H₀ fp) tg g) (ht:∀C s₀ H₀ fp,lb (cg X.nox N' scope [] C s₀ H₀ fp) ifs tc) (he:∀C s₀ H₀ fp,PE ((cg X.nox N' scope [] C s₀ H₀ fp).wish (oy X E N' scope C s₀ H₀ fp)) elt te)
    (hs:∀x,foldedSetIterable iter X.env x=pure x:=by intro _;rfl) (pP:swapsWith (.ListComp elt [⟨tg,iter,ifs,0⟩] scope bN) (some (.Name x pos')) pos.line X.env=pure true:=by rfl)
    (hf:X.nox.fn x=true\/X.nox.env.scope.names.lookup x=some .local:=by first|exact .inl rfl|exact .inr rfl|assumption) :
    PS X (.Assign [.Name x pos'] (.ListComp elt [⟨tg,iter,ifs,0⟩] scope bN) pos) (ny (wL wi nT [] g tc te) (a9 i)):=by
  intro aa s σ H D0 I0 h;have I:=I0.wish λ_ _=>False
  have hG:PG X.nox (.Name x pos') (a9 i):=BQ hN CD hx hf;rw [exec_Assign_Name_used _ _ _ _ pP];refine aA (vh (aA ?_));show wpAny _ X.A (do let _ <-comprehension (.ListComp elt [⟨tg,iter,ifs,0⟩] scope bN) scope X.env _ (newList []) false (eval iter X.env) (some (assign (.Name x pos') X.env))) _ _ s;refine aA (bA (wpAny_comprehension_use (u:=assign (.Name x pos') X.env) (Q:=λ_ s'=>SP X aa D0 .next s') rfl hs eS S.kind S.names ?_) (λ_ s' hq=>bg (bg hq)) λ_ _ e=>e);refine bA (hi aa s σ H _ I h) (λv s1 h1=>bA h1 (λsE s2 h2=>?_) λ_ _ z=>False.elim z) λ_ _ z=>False.elim z
  obtain ⟨it,fp,tn,J,H2,rfl,I2,T,cU,f2,W,w0,turn⟩:=h2;have Bd:∀(D C:Addr) (e:Value) (s':Shared),s2.heap.get? C=none->s2.heap.objs.size<=C->oy X E N' scope C s2 H2 fp e s'->notedBy (model X.prog X.w) X.A (compEnvC scope [] C X.env) (λx' dN=>LS X scope (assign (.Name x pos') X.env) (SP X aa D0 .next) (.ref D) (oY X.nox scope [] C) (.error x') dN) e s':=λD C e s' nC sC C6 =>
    Nd (c1:=compEnvC scope [] C X.env) (c2:={oY X.nox scope [] C with scope:=scope}) (α:=Value) (Q:=λ_ s'=>SP X aa D0 .next s') L I2 f2 nC sC C6 rfl rfl
  have core:=QB (X:=X.nox) (elt:=elt) (iter:=iter) (pos:=bN) (QQ:=λD ys H'=>a9 i (.ref D) σ (upd H' D (.lst ys)) D0.nx) (XE:=oy X E N' scope) (cl:=[]) (RR:=LS X scope (assign (.Name x pos') X.env) (SP X aa D0 .next))
    hc S (λx=>by
      rw [aq λz=>eS _ z rfl];rfl) hg ht he I2 T cU f2 W w0 turn Bd ?_
  · rw [MR eS]at core;exact bA core (λacc s3 h3=>bA h3 (λgu s4 h4=>qq h4 λr s' q=>by cases r<;>exact q) λ_ _ z=>False.elim z) λ_ _ z=>False.elim z
  · intro D C s' ys H' m q hn Vo hC fE yN fin;show wpAny _ X.A (assign (.Name x pos') X.env (.ref D)) _ _ _;have I3:Inv X.nox aa σ (upd H' D (.lst ys)) s':=fin s'.heap ⟨rfl,λ_ _=>rfl⟩;have Cg:upd H' D (.lst ys) C=none:=by rw [aO (Ne.symm fE)];exact yN
    have vx:∀{H3:Hp},H3 C=none->eo X.nox aa H3 C:=λh3=>I2.fpOk hC h3
    obtain ⟨oC,es,ep,oI,rC⟩:=id hn;have gw:∀v,oC.data≠.cell v:=λv z=>by
      have:=rC
      rw [z]at this;simp at this
    have I4 := I3.pinned (fp := [C]) (fun b hb => by have z : b = C := by simpa using hb
                                                     subst z; exact vx  Cg  ) (fun b hb => by have z : b = C := by simpa using hb
                                                                                              subst z; exact ⟨oC, oI, gw⟩)
    refine bA (hG _ s' σ _ (.ref D) (.ref D) _ I4 rfl q) (λ_ s5 ⟨σ5,H5,I5,q5⟩=>?_) λ_ _ z=>False.elim z
    have pC:=I5.pin (C,oC) (cx _ (cx _ (nO (by simp) oI)));refine ⟨m,⟨oC,es,ep,pC.1,rC⟩,λh' sb=>?_⟩;obtain ⟨f0,f1,Vq,f3,f4,f5⟩:=vx pC.2.1;exact ⟨σ5,H5,((I5.unpinned).turned (t':=s5.toks) (λb o hb e=>(sb.2 b hb).trans e) f0 f1 f3 f4 f5).unwish,q5⟩
def OY(X:Cx)(scope:Scope)(P:Value->Shared->Prop)(acc:Value)(gu:Env)(r:Result)(s':Shared):Prop:=∃m,s'.heap.Ns gu.locals m/\∀h',Heap.SameBut gu.locals s'.heap h'->match r with
 |.ok _=>P acc {s' with heap:=h'}
 |.error e=>wpAny (model X.prog X.w) X.A (PySem.passOn "comprehension.variables-let-go" e {gu with scope:=scope}) P X.xe {s' with heap:=h'}
def QL(L:qP X E){tg iter elt:Expr}{ifs:List Expr}{pos:Pos}(nT:Nat){wi:TI}{g:TG}{tc:TT}{te:TE}
  (hc:X.calm=true) (S:lJ X.nox scope N' nT []) (eS:∀y∈scope.names,y.2≠.free) (hi:PI X.nox tg iter wi)
  (hg:∀C s₀ H₀ fp,PG (cg X.nox N' scope [] C s₀ H₀ fp) tg g) (ht:∀C s₀ H₀ fp,lb (cg X.nox N' scope [] C s₀ H₀ fp) ifs tc) (he:∀C s₀ H₀ fp,PE ((cg X.nox N' scope [] C s₀ H₀ fp).wish (oy X E N' scope C s₀ H₀ fp)) elt te)
  (hs:∀x,foldedSetIterable iter X.env x=pure x:=by intro _;rfl) :
  PE X (.ListComp elt [⟨tg,iter,ifs,0⟩] scope pos) (wL wi nT [] g tc te):=by
 intro aa s σ H Q I0 h;have I:=I0.wish λ_ _=>False
 rw[eval_ListComp];refine wpAny_comprehension rfl hs eS S.kind S.names ?_;refine bA (hi aa s σ H _ I h) (λv s1 h1=>bA h1 (λsE s2 h2=>?_) λ_ _ z=>False.elim z) λ_ _ z=>False.elim z
 obtain⟨it,fp,tn,J,H2,rfl,I2,T,cU,f2,W,w0,turn⟩:=h2;have Bd:∀(D C:Addr) (e:Value) (s':Shared),s2.heap.get? C=none->s2.heap.objs.size<=C->oy X E N' scope C s2 H2 fp e s'->notedBy (model X.prog X.w) X.A (compEnvC scope [] C X.env) (λx' dN=>OY X scope (EP X aa σ Q) (.ref D) (oY X.nox scope [] C) (.error x') dN) e s':=λD C e s' nC sC C6 =>
  Nd (c1:=compEnvC scope [] C X.env) (c2:={oY X.nox scope [] C with scope:=scope}) (α:=Value) (Q:=EP X aa σ Q) L I2 f2 nC sC C6 rfl rfl
 have core:=QB (X:=X.nox) (elt:=elt) (iter:=iter) (pos:=pos) (QQ:=λD ys H'=>Q (.ref D) (upd H' D (.lst ys))) (XE:=oy X E N' scope) (cl:=[]) (RR:=OY X scope (EP X aa σ Q))
  hc S (λx=>by
   rw[aq λz=>eS _ z rfl];rfl) hg ht he I2 T cU f2 W w0 turn Bd ?_
 ·rw[MR eS]at core;exact bA core (λacc s3 h3=>bA h3 (λgu s4 h4=>qq h4 λr s' q=>by
   obtain⟨m,hm,q⟩:=q;exact⟨m,hm,λh' sb=>by have:=q h' sb;cases r<;>exact this⟩) λ_ _ z=>False.elim z) λ_ _ z=>False.elim z
 ·intro D C s' ys H' m q hn Vo hC fE yN fin;nomatch m,hn,λh' sb=>⟨.ref D,_,(fin h' sb).unwish,rfl,q⟩
end
open PySem PySem.Spec PyProof.Rows
section
variable{X:Cx}
def zaO(n k:Nat):fromIndex n (k:Int)=k:=by
 unfold fromIndex;rw[aq (by lia),EW (iW _),oJ]
def zb1:fI X "str.startswith" (λx vs H Q=>∃(i j:Str) (k:Nat),x=.str i/\vs=[.str j,.int (k:Int)]/\Q (.bl (decide (k+j.length<=i.length)&&Builtin.Str.subAt i j k)) H):=by
 intro aa s σ H x xs v us Q I rx rv h;obtain⟨i,j,k,rfl,rfl,q⟩:=h;obtain⟨t,rfl⟩:=rx;obtain⟨u,u',rfl,⟨t2,rfl⟩,⟨t3,rfl⟩⟩:=rv.two;have g:=gives_str_startswith_from i j (k:Int) t t2 t3;rw[zaO]at g;exact call_gives F.slot_str_startswith (oq _ _ _) F.entry_str_startswith (F.args_str_startswith_3 _ _ _) g ⟨.bl _,H,I,rfl,q⟩
def ID:fI X "str.strip" (λx vs H Q=>∃i,x=.str i/\vs=[]/\i.length<=sizeLine/\Q (.str (Txt.strip i)) H):=by
 intro aa s σ H x xs v us Q I rx rv h;obtain⟨i,rfl,rfl,hz,q⟩:=h;obtain⟨t,rfl⟩:=rx;obtain rfl:=rv.zero;exact SC.strip (λt' k=>⟨.str _,H,I.tok _,⟨_,rfl⟩,q⟩) hz
end
end L2
namespace My
open PySem L2 OF
noncomputable def lG(w:Nat):List Nat:=if w=0 then [97,110,100]else if w=1 then [111,114]else [120,111,114]
noncomputable def dz(l:List Nat):List Nat :=
 if [110,111,116,32] <+: l then [110,111,116,32]else if [32,97,110,100,32] <+: l then [32,97,110,100,32]else if [32,111,114,32] <+: l then [32,111,114,32]else if [32,120,111,114,32] <+: l then [32,120,111,114,32]else l.take 1
def eP:List (List Nat)->List Nat->Prop
 |[],_=>True
 |t::ts,r=>t≠[]/\dz (t++(ts.flatten++r))=t/\eP ts r
def zbS(r:List Nat):dz ([110,111,116,32]++r)=[110,111,116,32]:=ax (vw _ _)
def ZF(hw:w<3)(r:List Nat):dz (([32]++lG w++[32])++r)=[32]++lG w++[32]:=by
 rcases (show w=0\/w=1\/w=2 by lia)with rfl|rfl|rfl
 ·rfl
 ·rfl
 ·rfl
def rX:("not " : Str)=S [110,111,116,32]:=by decide+kernel
def xh:("(" : Str)=S [40]:=by decide+kernel
def sX:(")" : Str)=S [41]:=by decide+kernel
def Lg(w:Nat):(lG w).length<=3:=by unfold lG;split<;>(try split)<;>simp
def gf(h:n<=40000):n<=sizeLine:=bp h (by decide)
open PySem L2 OF
def zaI(l t:List Nat)(k:Nat)(h:k<=l.length):(decide (k+(S t).length<=(S l).length)&&Builtin.Str.subAt (S l) (S t) k)=decide (t <+: l.drop k):=by
 rw[DG,gx,gx,aN,aN];by_cases z:t <+: l.drop k
 ·rw[aC z];obtain⟨r,hr⟩:=z;have hl:t.length<=(l.drop k).length:=by rw[<-hr,aS];lia
  rw[fL]at hl;rw[aC (by lia),oB,<-hr,List.take_left];simp
 ·rw[aL z]
  have:((l.drop k).take t.length == t)=false:=by
   refine oW.mpr λy=>z ⟨(l.drop k).drop t.length,?_⟩
   conv=>lhs;rw[<-y]
   have e:((l.drop k).take t.length).length=t.length:=by rw[y]
   rw[e];exact tF _ _
  rw[this,iG]
def QY:(" and " : Str)=S [32,97,110,100,32]:=by decide+kernel
def Tg:(" or " : Str)=S [32,111,114,32]:=by decide+kernel
def To:(" xor " : Str)=S [32,120,111,114,32]:=by decide+kernel
noncomputable def lj:List (List Nat):=[[110,111,116,32],[32,97,110,100,32],[32,111,114,32],[32,120,111,114,32]]
def XD:[V.str "not ",V.str " and ",V.str " or ",V.str " xor "]=lj.map λt=>V.str (S t):=by
 rw[rX,QY,Tg,To];rfl
def W2{l t:List Nat}{i:Nat}(ht:lj[i]?=some t)(hb:∀j t',j<i->lj[j]?=some t'->¬t' <+: l)(h:t <+: l):dz l=t:=by
 unfold dz
 match i,ht with
 |0,ht=>cases ht;exact ax h
 |1,ht=>cases ht;rw[aq (hb 0 _ (by decide) rfl)];exact ax h
 |2,ht=>cases ht;rw[aq (hb 0 _ (by decide) rfl),aq (hb 1 _ (by decide) rfl)];exact ax h
 |3,ht=>cases ht;rw[aq (hb 0 _ (by decide) rfl),aq (hb 1 _ (by decide) rfl),aq (hb 2 _ (by decide) rfl)];exact ax h
 |i+4,ht=>simp[lj]at ht
def VC(hb:∀j t',j<4->lj[j]?=some t'->¬t' <+: l):dz l=l.take 1:=by
 unfold dz;rw[aq (hb 0 _ (by decide) rfl),aq (hb 1 _ (by decide) rfl),aq (hb 2 _ (by decide) rfl),aq (hb 3 _ (by decide) rfl)]
theorem Qo:∀{ts:List (List Nat)}{r:List Nat}{i:Nat}{t:List Nat},eP ts r->ts[i]?=some t->t≠[]/\dz ((ts.drop i).flatten++r)=t
 |[],_,_,_,_,e=>by simp at e
 |u::ts,r,0,t,h,e=>by
  have:u=t:=by simpa using e
  subst this;exists h.1,?_;rw[mZ,mV,iT];exact h.2.1
 |u::ts,r,i+1,t,h,e=>by
  rw[Bz];exact Qo h.2.2 (by simpa using e)
theorem HG:∀(ts:List (List Nat)) (i:Nat),ts.flatten.drop (ts.take i).flatten.length=(ts.drop i).flatten
 |[],i=>by simp
 |t::ts,0=>rfl
 |t::ts,i+1=>by
  rw[List.take_succ_cons,mV,mV,aS,Bz,<-HG ts i,<-KS,yQ]
theorem Fc:∀{ts:List (List Nat)}{r:List Nat},eP ts r->ts.length<=ts.flatten.length
 |[],_,_=>aJ _
 |t::ts,r,h=>by
  have h1:=Fc h.2.2;have h2:0<t.length:=Bj.mpr h.1;rw[mV,aS,aW];lia
theorem zK:∀w:Nat,iz (V.str (wd w)) [V.str "and",V.str "or",V.str "xor"]=true
 |0=>by decide
 |1=>by decide
 |_+2=>by show iz (V.str "xor") _=true;decide
open PySem L2 OF
inductive Itm where
 |nt|op|jn (w:Nat) (s:Sm)
def Itm.d:Itm->D
 |.nt=>.tup [.str "not"]
 |.op=>.tup [.str "("]
 |.jn w s=>.tup [.str (wd w),s.d]
noncomputable def kE:Nat->Sm->Sm
 |0,s=>s
 |k+1,s=>kE k (.no s)
def f9(p:Itm->Prop)(af:List Itm):Prop:=∀it,af.getLast?=some it->¬p it
def jo:Itm->Prop
 |.nt=>True
 |_=>False
def xF:Itm->Prop
 |.jn _ _=>True
 |_=>False
abbrev iU:=Option Sm×List Itm
inductive oQ:iU->List Nat->iU->Prop
 |no (af:List Itm):oQ (none,af) [110,111,116,32] (none,af++[.nt])
 |op (af:List Itm):oQ (none,af) [40] (none,af++[.op])
 |bit (af:List Itm) (k j:Nat) (h:f9 jo af) (hj:j<16):oQ (none,af++List.replicate k .nt) [97+j] (some (kE k (.bit j)),af)
 |fix (af:List Itm) (k:Nat) (b:Int) (h:f9 jo af) (hb:b=0\/b=1):oQ (none,af++List.replicate k .nt) [48+b.toNat] (some (kE k (.fix b)),af)
 |jn (af:List Itm) (s:Sm) (w:Nat) (h:f9 xF af) (hw:w<3):oQ (some s,af) ([32]++lG w++[32]) (none,af++[.jn w s])
 |cl (af:List Itm) (k w:Nat) (s t:Sm) (h:f9 jo af) (hw:w<3):oQ (some t,af++List.replicate k .nt++[.op,.jn w s]) [41] (some (kE k (.two w s t)),af)
def xn(af:List Itm)(it:Itm):(af++[it]).getLast?=some it:=by simp
def F4(h:¬p it):f9 p (af++[it]):=λx hx=>by
 rw[xn]at hx;cases hx;exact h
def D5(af:List Itm)(k:Nat):af++List.replicate k Itm.nt++[.nt]=af++List.replicate (k+1) .nt:=by
 rw[iT,<-Mb]
def lF(H:Hp)(v:V)(it:Itm):Prop:=Is H v it.d
def eh(H:Hp)(b:Addr)(af:List Itm):Prop:=∃xs:List V,H b=some (.lst xs)/\Paired (lF H) xs af
def Qi(h:Is H v (.tup [d])):∃p x,v=.ref p/\H p=some (.tup [x])/\Is H x d:=by
 unfold Is at h;obtain⟨p,xs,rfl,h1,h2⟩:=h;unfold a8 at h2;obtain⟨x,r,rfl,h3,h4⟩:=h2;unfold a8 at h4;subst h4;nomatch p,x,rfl,h1,h3
def wb(h:H p=some (.tup [x]))(h1:Is H x d):Is H (.ref p) (.tup [d]):=by
 unfold Is;exists p,_,rfl,h,?_;unfold a8;exists _,_,rfl,h1,?_;unfold a8;rfl
def zP(h:lF H v .nt):∃p,v=.ref p/\H p=some (.tup [.str "not"]):=by
 obtain⟨p,x,rfl,h1,h2⟩:=Qi (show Is H v (.tup [.str "not"]) from h);rw[cX]at h2;subst h2;nomatch p,rfl,h1
def yR(h:lF H v .op):∃p,v=.ref p/\H p=some (.tup [.str "("]):=by
 obtain⟨p,x,rfl,h1,h2⟩:=Qi (show Is H v (.tup [.str "("]) from h);rw[cX]at h2;subst h2;nomatch p,rfl,h1
def zF(h:lF H v (.jn w s)):∃p x,v=.ref p/\H p=some (.tup [.str (wd w),x])/\Is H x s.d:=by
 obtain⟨p,x,y,rfl,h1,h2,h3⟩:=xc (show Is H v (.tup [.str (wd w),s.d]) from h);rw[cX]at h2;subst h2;nomatch p,y,rfl,h1,h3
def zcd(k:∀p xs,H p=some (.tup xs)->H' p=some (.tup xs)):∀{it:Itm}{v:V},lF H v it->lF H' v it
 |.nt,v,h=>by obtain⟨p,rfl,h1⟩:=zP h;exact wb (k _ _ h1) (cX.mpr rfl)
 |.op,v,h=>by obtain⟨p,rfl,h1⟩:=yR h;exact wb (k _ _ h1) (cX.mpr rfl)
 |.jn w s,v,h=>by obtain⟨p,x,rfl,h1,h2⟩:=zF h;exact mm (k _ _ h1) (cX.mpr rfl) (jK k h2)
def aV(b:Addr)(H H':Hp):Prop:=∀p o,p≠b->H p=some o->H' p=some o
def aV.refl(b:Addr)(H:Hp):aV b H H:=λ_ _ _ e=>e
def aV.trans(h:aV b H H')(h':aV b H' H''):aV b H H'':=λp o n e=>h' p o n (h p o n e)
def aV.of(h:ag H H'):aV b H H':=λp o _ e=>h p o e
def aV.upd:aV b H (L2.upd H b o):=λp o' n e=>by rw[aO n];exact e
def aV.tups(h:aV b H H')(hb:H b=some (.lst ys)):∀p xs,H p=some (.tup xs)->H' p=some (.tup xs):=λp xs e=>h p _ (λz=>by rw[z,hb]at e;cases e) e
open PySem L2 OF
def lS(xs:List α)(y:α):ef (xs++[y]) (-1)=some y:=by
 have e:kc (xs++[y]).length (-1)=some xs.length:=by
  unfold kc;rw[aS];simp;lia
 unfold ef;rw[e];simp
theorem Pa:∀{zs:List α}{af:List β}{it:β},Paired R zs (af++[it])->∃xs y,zs=xs++[y]/\Paired R xs af/\R y it
 |_,[],it,h=>by
  cases h with
  |cons r q=>cases q;nomatch [],_,rfl,.nil,r
 |_,i::af,it,h=>by
  cases h with
  |cons r q =>
   obtain⟨xs,y,e,p,r'⟩:=Pa q;nomatch _::xs,y,by rw[e];rfl,.cons r p,r'
def eh.last(h:eh H b (af++[it])):∃xs y,H b=some (.lst (xs++[y]))/\Paired (lF H) xs af/\lF H y it:=by
 obtain⟨zs,h1,h2⟩:=h;obtain⟨xs,y,rfl,p,r⟩:=Pa h2;nomatch xs,y,h1,p,r
def oE(k:∀p xs,H p=some (.tup xs)->H' p=some (.tup xs))(h:Paired (lF H) xs af):Paired (lF H') xs af:=Paired.mapP h λ_ _ e=>zcd k e
def eh.nil(h:eh H b []):H b=some (.lst []):=by
 obtain⟨xs,h1,h2⟩:=h;cases h2;exact h1
def E9(l:List α):l=[]\/∃r x,l=r++[x]:=by
 rcases Al l with h|⟨r,x,h⟩
 ·exact .inl h
 ·exact .inr ⟨r,x,by rw[h,t5]⟩
def eh.keep(h:eh H b af)(s:ag H H'):eh H' b af:=by
 obtain⟨xs,h1,h2⟩:=h;nomatch xs,s _ _ h1,oE (λp ys e=>s p _ e) h2
open PySem L2 OF
def zbV(h:oQ a t b):b.2.length<=a.2.length+1:=by
 cases h<;>simp<;>lia
def aV.same(h:ag H H')(k:aV b H' H'')(hb:H b=none):ag H H'':=λp o e=>k p o (λz=>by rw[z,hb]at e;cases e) (h p o e)
open PySem L2 OF
def GY:∀{s:Sm},Is H v s.d->v≠.non
 |.bit _,h=>by obtain⟨p,rfl,_⟩:=tN h;exact λz=>nomatch z
 |.fix _,h=>by obtain⟨p,rfl,_⟩:=vv h;exact λz=>nomatch z
 |.no _,h=>by obtain⟨p,x,rfl,_⟩:=sV h;exact λz=>nomatch z
 |.two _ _ _,h=>by obtain⟨p,x,y,rfl,_⟩:=sM h;exact λz=>nomatch z
end My
namespace L2
open PySem PySem.Spec PyProof.Rows
def HE{l:List Nat}{g:TG}{tc:TT}{te:TE}{σ:St}{H:Hp}{R:List V->Hp->Addr->Prop}(Pv:Nat->List V->St->Hp->Prop)(h0:Pv 0 [] σ H)(hl:∀i ys σ H,Pv i ys σ H->ys.length<=i)(hz:l.length<=sizeLine)
  (hs:∀i c ys σ H,l[i]?=some c->Pv i ys σ H->g (.str (My.S [c])) σ H λσ2 H2=>tc σ2 H2 λb H3=>if b=true then te σ2 H3 λy H4=>Pv (i+1) (ys++[y]) σ2 H4 else Pv (i+1) ys σ2 H3)
  (hd:∀ys σ H,Pv l.length ys σ H->∀D,H D=none->R ys H D) :
  ∃W:Nat->Nat->List V->St->Hp->Prop,(∃m,W 0 m [] σ H)/\∀i m ys σ H,W i m ys σ H ->
   ((nJ (My.S l)).stop i H/\∀D,H D=none->R ys H D) \/
   ((nJ (My.S l)).go i H/\ys.length<sizeLine/\∃ N:List V->St->Hp->Prop,(∀ cH σ' H',N cH σ' H'->∃ m',m'<m/\W (i+1) m' cH σ' H') /\ ∀x H',(nJ (My.S l)).yld i H x H'->g x σ H' λσ2 H2=>tc σ2 H2 λb H3=>if b=true then te σ2 H3 λy H4=>N (ys++[y]) σ2 H4 else N ys σ2 H3):=by
 exists λi m ys σ H=>m=l.length-i/\i<=l.length/\Pv i ys σ H,⟨l.length,by simp,cb _,h0⟩,?_;rintro i m ys σ H ⟨rfl,hi,p⟩;have q:=hl i ys σ H p;by_cases bE:i<l.length
 ·refine .inr ⟨bE,(by lia),Pv (i+1),λcH σ' H' p'=>⟨l.length-(i+1),by lia,rfl,bE,p'⟩,λx H' y=>?_⟩;obtain⟨rfl,c,hc,rfl⟩:=y;exact hs i c ys σ _ (by simpa [My.S] using hc) p
 ·have e:i=l.length:=by lia
  subst e;exact .inl ⟨aJ _,hd ys σ H p⟩
end L2
namespace My
open PySem L2 OF
noncomputable def qV(c:Nat):Bool:=decide (48<=c/\c<=57)
noncomputable def kW(c:Nat):Int:=if 97<=c/\c<113 then (c:Int)-97 else -1
def Df:∀c:Nat,c<128->Txt.find (S kZ) (S [c])=kW c:=by decide+kernel
def lh:List Nat->Int->Nat->Option Nat
 |[],_,m=>some m
 |c::r,la,m=>if kW c<=la then none else lh r (kW c) (m+2^(kW c).toNat)
def kL(fs ls:List Nat):Option Nat :=
 if fs=[]/\ls≠[]then some 1 else if fs=[]\/fs.head?=some 48\/(fs=[49]/\ls≠[])then none else some (digitsVal fs)
def lH(w:List Nat):List Nat:=w.takeWhile qV
def fA(w:List Nat):List Nat:=w.dropWhile qV
def N9(w:List Nat):w=lH w++fA w:=(List.takeWhile_append_dropWhile).symm
def zh(w:List Nat):∀c∈lH w,48<=c/\c<=57:=λc hc=>by
 have:=List.all_takeWhile (p:=qV) (l:=w)
 exact br (gz.mp this c hc)
def zbk{w:List Nat}:∀c r,fA w=c::r->¬(48<=c/\c<=57):=λc r e=>by
 have h:(w.dropWhile qV).head?=some c:=by show (fA w).head?=_;rw[e];rfl
 have:=List.head?_dropWhile_not qV w
 rw[h]at this;simpa [qV] using this
def k8(sg w:List Nat):Option (Int×Int) :=
 if sg=[43]\/sg=[45]then
  match kL (lH w) (fA w),lh (fA w) (-1) 0 with
  |some n,some m=>some ((m:Int),if sg=[45]then -(n:Int)else (n:Int))
  |_,_=>none
 else none
noncomputable def jR:av->Int->Bool
 |[],_=>true
 |t::r,la=>if t.1<=la\/t.2=0 then false else jR r t.1
noncomputable def aX:List Nat->List (List Nat)
 |[]=>[[]]
 |c::r=>if c=32 then []::aX r else match aX r with
  |[]=>[[c]]
  |w::ws=>(c::w)::ws
theorem gT:∀l,aX l≠[]
 |[]=>by unfold aX;simp
 |c::r=>by
  unfold aX;split
  ·simp
  ·split<;>simp
set_option tactic.hygienic true in
theorem nF:∀l,∀w∈aX l,32∉w
 |[],w,h=>by unfold aX at h;rw[bh.mp h];simp
 |c::r,w,h=>by
  have ih:=nF r;unfold aX at h;split at h
  ·rcases ba.mp h with z|z
   ·rw[z];simp
   ·exact ih w z
  ·rename_i hc;split at h
   ·rw[bh.mp h];simpa using λz=>hc z.symm
   ·rename_i w0 ws e;rcases ba.mp h with z|z
    ·rw[z];intro y;rcases ba.mp y with y|y
     ·exact hc y.symm
     ·exact ih w0 (by rw[e];simp) y
    ·exact ih w (by rw[e];simp[z])
set_option tactic.hygienic true in
theorem n6:∀l,bM 32 (aX l)=l
 |[]=>rfl
 |c::r=>by
  have ih:=n6 r;unfold aX;split
  ·rename_i hc;cases e:aX r with
   |nil=>exact absurd e (gT r)
   |cons w ws =>
    rw[e]at ih;show []++32::bM 32 (w::ws)=c::r;rw[ih,hc];rfl
  ·split
   ·rename_i e;exact absurd e (gT r)
   ·rename_i w ws e;rw[e]at ih;cases ws with
    |nil=>show c::w=c::r;rw[show w=r from ih]
    |cons x xs=>show (c::w)++32::bM 32 (x::xs)=c::r;rw[<-ih];rfl
set_option tactic.hygienic true in
theorem rj:∀l,∀w∈aX l,∀c∈w,c∈l
 |[],w,h,c,hc=>by unfold aX at h;rw[bh.mp h]at hc;cases hc
 |a::r,w,h,c,hc=>by
  have ih:=rj r;unfold aX at h;split at h
  ·rcases ba.mp h with z|z
   ·rw[z]at hc;cases hc
   ·exact cq _ (ih w z c hc)
  ·split at h
   ·rw[bh.mp h]at hc;rw[bh.mp hc];simp
   ·rename_i w0 ws e;rcases ba.mp h with z|z
    ·rw[z]at hc;rcases ba.mp hc with y|y
     ·rw[y];simp
     ·exact cq _ (ih w0 (by rw[e];simp) c y)
    ·exact cq _ (ih w (by rw[e];simp[z]) c hc)
set_option tactic.hygienic true in
theorem pI:∀l,(aX l).length<=l.length+1/\∀w∈aX l,w.length<=l.length
 |[]=>by unfold aX;exact⟨by decide,λw h=>by rw[bh.mp h];exact aJ _⟩
 |a::r=>by
  obtain⟨h1,h2⟩:=pI r;unfold aX;split
  ·exact⟨by rw[aW,aW];lia,λw h=>by
    rcases ba.mp h with z|z
    ·rw[z];simp
    ·have:=h2 w z;rw[aW];lia⟩
  ·split
   ·exact⟨by simp,λw h=>by rw[bh.mp h];simp⟩
   ·rename_i w0 ws e;rw[e]at h1 h2;exists by rw[aW]at h1 ⊢;rw[aW];lia,λw h=>?_;rcases ba.mp h with z|z
    ·rw[z,aW,aW];have:=h2 w0 (by simp);lia
    ·have:=h2 w (by simp[z]);rw[aW];lia
def gj(l:List Nat):List (List Nat):=if l.head?=some 45 then [45]::(match aX l with|[]=>[]|w::r=>w.drop 1::r)else [43]::aX l
def iK:List (List Nat)->Option av
 |[]=>some []
 |[_]=>none
 |sg::w::r=>match k8 sg w,iK r with
  |some t,some f=>some (t::f)
  |_,_=>none
def gP(l:List Nat):Option av:=if l=[48]then some []else match iK (gj l)with
 |some f=>if jR f (-1)=true then some f else none
 |none=>none
def zcG{l:List Nat}{c:Nat}(h:l.head?=some c)(hc:c≠32){w0:List Nat}{wr:List (List Nat)}(e:aX l=w0::wr):∃w',w0=c::w':=by
 cases l with
 |nil=>cases h
 |cons a r =>
  have:a=c:=by simpa using h
  subst this;unfold aX at e;rw[aq hc]at e;split at e
  ·cases e;nomatch [],rfl
  ·cases e;nomatch _,rfl
set_option tactic.hygienic true in
def Gk(l:List Nat):2<=(gj l).length/\(gj l).length<=l.length+2/\∀w∈gj l,(∀c∈w,c∈l\/c=43)/\w.length<=l.length+1:=by
 obtain⟨w0,wr,ew⟩:∃w0 wr,aX l=w0::wr:=by
  cases e:aX l with
  |nil=>exact absurd e (gT l)
  |cons a b=>nomatch a,b,rfl
 obtain⟨h1,h2⟩:=pI l;have h3:=rj l;rw[ew]at h1 h2 h3;rw[aW]at h1;unfold gj;rw[ew];split
 ·rename_i pJ;have VD:45∈l:=List.mem_of_mem_head? (by rw[pJ];rfl);exists by simp,by simp;lia,λw hw=>?_;rcases ba.mp hw with z|z
  ·rw[z];exact⟨λc hc=>.inl (by rw[bh.mp hc];exact VD),by simp⟩
  ·rcases ba.mp z with z|z
   ·rw[z];exact⟨λc hc=>.inl (h3 w0 (by simp) c (oM hc)),by rw[fL];have:=h2 w0 (by simp);lia⟩
   ·exact⟨λc hc=>.inl (h3 w (by simp[z]) c hc),by have:=h2 w (by simp[z]);lia⟩
 ·exists by simp,by simp;omega,λw hw=>?_;rcases ba.mp hw with z|z
  ·rw[z];exact⟨λc hc=>.inr (bh.mp hc),by simp⟩
  ·exact⟨λc hc=>.inl (h3 w z c hc),by have:=h2 w z;omega⟩
theorem GA:∀{ws:List (List Nat)},¬ws.length%2=0->iK ws=none
 |[],h=>absurd rfl h
 |[_],_=>rfl
 |a::b::r,h=>by
  have ih:=GA (ws:=r) (by rw[aW,aW]at h;lia);unfold iK;rw[ih];cases k8 a b<;>rfl
theorem PU:∀{ws:List (List Nat)},ws.length%2=0->∃pp:List (List Nat×List Nat),ws=pp.flatMap λt=>[t.1,t.2]
 |[],_=>⟨[],rfl⟩
 |[_],h=>by simp at h
 |a::b::r,h=>by
  obtain⟨pp,hp⟩:=PU (ws:=r) (by rw[aW,aW]at h;lia);exact⟨(a,b)::pp,by rw[jd,<-hp];rfl⟩
def Vy(pp:List (List Nat×List Nat)):(pp.flatMap λt=>[t.1,t.2]).length=2*pp.length:=by
 induction pp with
 |nil=>rfl
 |cons t r ih=>rw[jd,aS,ih];show 2+_=2*(r.length+1);lia
def jw:List (List Nat×List Nat)->Option av
 |[]=>some []
 |p::r=>match k8 p.1 p.2,jw r with
  |some t,some f=>some (t::f)
  |_,_=>none
theorem GW:∀pp:List (List Nat×List Nat),iK (pp.flatMap λt=>[t.1,t.2])=jw pp
 |[]=>rfl
 |p::r=>by
  have ih:=GW r;show iK (p.1::p.2::r.flatMap λt=>[t.1,t.2])=jw (p::r);unfold iK jw;rw[ih]
def N2(l:List Nat):Txt.startswith (S l) (S [45])=decide (l.head?=some 45):=by
 rw[zcE];cases l with
 |nil=>rfl
 |cons c r =>
  show (c == 45)=decide (some c=some 45);by_cases h:c=45
  ·subst h;rfl
  ·rw[aL (λz=>h (cD z))];simpa using h
def nY(l:List Nat):(V.str (S l)=V.str (ofString ""))↔l=[]:=⟨λz=>by
 injection z with z
 rw[jT]at z;exact d0 z,λz=>by rw[z,jT]⟩
def Wb:∀{fs:List Nat},(∀c∈fs,48<=c/\c<=57)->fs≠[]->fs.head?≠some 48->0<digitsVal fs:=by
 intro fs
 suffices H:∀(r:List Nat) (c:Nat),48<c->0<digitsVal (c::r) by
  intro hd h0 h1;cases fs with
  |nil=>exact absurd rfl h0
  |cons c r =>
   have:=hd c (by simp)
   exact H r c (by
    rcases kb 48 c with z|z
    ·exact z
    ·exact absurd (by show some c=some 48;congr 1;lia) h1)
 intro r
 suffices H2:∀(n:Nat) (r:List Nat),r.length=n->∀c,48<c->0<digitsVal (c::r) from H2 _ r rfl
 intro n;induction n with
 |zero =>
  intro r hr c hc
  have:r=[]:=CY.mp hr
  subst this
  have:=zG [] c
  rw[Cp]at this;rw[this];lia
 |succ n ih =>
  intro r hr c hc;rcases Al r with e|⟨q,d,e⟩
  ·rw[e]at hr;cases hr
  ·rw[e,t5,<-ug,zG]
   have:=ih q (by rw[e,t5,aS]at hr;simpa using hr) c hc
   lia
def Gu(x:V)(r:List V):ff (x::r) (some 1) none=r:=by
 unfold ff;rw[HT.sIx_none,show (1:Int)=((1:Nat):Int) from rfl,HT.sIx_nat];have e:min 1 (x::r).length=1:=by rw[aW];lia
 rw[e];show (r.take ((x::r).length-1))=r;rw[aW,Pk,dH]
theorem Pe:∀l:List Nat,((l.map λc=>S [c]).map (·.length)).sum=l.length
 |[]=>rfl
 |c::l=>by rw[bw,bw,gh,Pe l,aW,aN];simp;lia
def Zz(l:List Nat):(l.map λc=>[c]).flatten=l:=by
 induction l with
 |nil=>rfl
 |cons c l ih=>rw[bw,mV,ih];rfl
def zbw(l:List Nat):Txt.join (S []) (l.map λc=>S [c])=S l:=by
 have:=Ox (l.map λc=>[c])
 rw[ft,Zz]at this;exact this
def Zc(K:Frag):Sp:=λvs H Q _=>∃(a:Addr) (f:av),vs=[.ref a]/\a7 H a f/\(∀t∈f,zD t)/\f.length<=64/\∀H',ag H H'->Q (.str (S (IQ f))) H'
def Bu{n:Nat}(h:n<10^63):(n:Int).natAbs.log2<1920:=by
 rw[Mw];by_cases h0:n=0
 ·subst h0;decide
 ·exact (tW h0).mpr (cy h (by decide+kernel))
open PySem L2 OF
noncomputable def dO:List Nat:=[110,111,116,32]
def jW(w:Nat):List Nat:=[32]++lG w++[32]
def WM(l:List Nat):Prop:=∀c r,l=c::r->c≠40/\c≠48/\c≠49/\¬(97<=c/\c<113)
inductive Rd:Bool->List Nat->Option Sm->List Nat->Prop
 |no {l r:List Nat}{o:Option Sm}:Rd false l o r->Rd false (dO++l) (o.map .no) r
 |opN {l r:List Nat}:Rd true l none r->Rd false (40::l) none r
 |opC {l r:List Nat}{s:Sm}:Rd true l (some s) r->¬ [41] <+: r->Rd false (40::l) none r
 |opY {l r:List Nat}{s:Sm}:Rd true l (some s) (41::r)->Rd false (40::l) (some s) r
 |fix {l:List Nat}{b:Int}:(b=0\/b=1)->Rd false ((48+b.toNat)::l) (some (.fix b)) l
 |bit {l:List Nat}{j:Nat}:j<16->¬dO <+: (97+j)::l->Rd false ((97+j)::l) (some (.bit j)) l
 |non {l:List Nat}:¬dO <+: l->WM l->Rd false l none l
 |allN {l r:List Nat}:Rd false l none r->Rd true l none r
 |allJ {l r r':List Nat}{s:Sm}{w:Nat}{o:Option Sm}:Rd false l (some s) (jW w++r)->w<3->Rd false r o r'->Rd true l (o.map (.two w s)) r'
 |allE {l r:List Nat}{s:Sm}:Rd false l (some s) r->(∀w,w<3->¬jW w <+: r)->Rd true l (some s) r
def Rd.len{b:Bool}{l r:List Nat}{o:Option Sm}(h:Rd b l o r):r.length<=l.length:=by
 induction h with
 |no _ ih=>rw[aS];lia
 |opN _ ih=>rw[aW];lia
 |opC _ _ ih=>rw[aW];omega
 |opY _ ih=>rw[aW]at *;lia
 |fix _=>rw[aW];lia
 |bit _ _=>rw[aW];lia
 |non _ _=>exact aJ _
 |allN _ ih=>exact ih
 |allJ _ _ _ mO nB=>rw[aS]at mO;lia
 |allE _ _ ih=>exact ih
def JB(w:Nat):4<=(jW w).length:=by
 unfold jW lG;split<;>(try split)<;>simp
def Rd.ok{b:Bool}{l r:List Nat}{o:Option Sm}(h:Rd b l o r):∀s,o=some s->s.ok (λk=>k<16):=by
 induction h with
 |@no l r o _ ih =>
  intro s e;cases o with
  |none=>cases e
  |some t=>cases e;exact ih t rfl
 |opN _ ih=>intro s e;cases e
 |opC _ _ ih=>intro s e;cases e
 |opY _ ih=>exact ih
 |fix hb=>intro s e;cases e;exact hb
 |bit hj _=>intro s e;cases e;exact hj
 |non _ _=>intro s e;cases e
 |allN _ ih=>exact ih
 |@allJ l r r' t w o h1 hw h2 mO nB =>
  intro s e;cases o with
  |none=>cases e
  |some u=>cases e;nomatch hw,mO t rfl,nB u rfl
 |allE _ _ ih=>exact ih
set_option tactic.hygienic true in
def QO(l:List Nat):∃r,l=dz l++r:=by
 unfold dz;split
 ·rename_i h;nomatch _,h.choose_spec.symm
 split
 ·rename_i h;nomatch _,h.choose_spec.symm
 split
 ·rename_i h;nomatch _,h.choose_spec.symm
 split
 ·rename_i h;nomatch _,h.choose_spec.symm
 nomatch _,(tF 1 l).symm
def Xj{l:List Nat}(h:l≠[]):dz l≠[]:=by
 unfold dz;split
 ·simp
 split
 ·simp
 split
 ·simp
 split
 ·simp
 cases l with
 |nil=>exact absurd rfl h
 |cons a r=>simp
theorem JO:∀(n:Nat) (l:List Nat),l.length<=n->∃ts:List (List Nat),ts.flatten=l/\eP ts []
 |n,[],_=>⟨[],rfl,trivial⟩
 |0,_::_,h=>absurd h (Nat.not_succ_le_zero _)
 |n+1,c::l,h=>by
  obtain⟨r,hr⟩:=QO (c::l);have hn:=Xj (l:=c::l) (by simp);have hp:=Bj.mpr hn;have hl:=congrArg List.length hr;rw[aS]at hl;obtain⟨ts,h1,h2⟩:=JO n r (by rw[aW]at h hl;lia);exists dz (c::l)::ts,by rw[mV,h1];exact hr.symm,hn,?_,h2;rw[h1,fc];exact congrArg dz hr.symm
def ki{ts:List (List Nat)}{l:List Nat}(h:eP ts [])(e:ts.flatten=l)(hl:l≠[]):∃us,ts=dz l::us/\eP us []/\dz l++us.flatten=l:=by
 cases ts with
 |nil=>exact absurd e.symm hl
 |cons t us =>
  obtain⟨h1,h2,h3⟩:=h;rw[fc]at h2;have e':t++us.flatten=l:=by rw[<-e,mV]
  rw[e']at h2;rw[h2];nomatch us,rfl,h3,e'
def EU{ts:List (List Nat)}(h:eP ts [])(e:ts.flatten=[]):ts=[]:=by
 cases ts with
 |nil=>rfl
 |cons t us =>
  rw[mV]at e;exact absurd (Ni.mp e).1 h.1
inductive qm:iU->List Nat->iU->Prop
 |of {a b:iU}{t:List Nat}:oQ a t b->qm a t b
 |cl0 (af:List Itm) (k:Nat) (t:Sm) (h:f9 jo af):qm (some t,af++List.replicate k .nt++[.op]) [41] (some (kE k t),af)
inductive jk:iU->List Nat->Prop
 |jn (af:List Itm) (w:Nat) (hw:w<3):jk (none,af) (jW w)
 |frm (af:List Itm) (c:Nat) (hc:c<128) (h:c≠40/\c≠48/\c≠49/\¬(97<=c/\c<113)):jk (none,af) [c]
 |jj (af:List Itm) (w w':Nat) (s a:Sm) (hw:w<3):jk (some s,af++[.jn w' a]) (jW w)
 |not (af:List Itm) (s:Sm):jk (some s,af) dO
 |sgn (af:List Itm) (s:Sm) (c:Nat) (hc:c<128) (h:c≠41):jk (some s,af) [c]
 |cl (s:Sm):jk (some s,[]) [41]
 |cl1 (s a:Sm) (w:Nat):jk (some s,[.jn w a]) [41]
inductive eO:iU->List (List Nat)->Option Sm->Prop
 |non (af:List Itm):eO (none,af) [] none
 |one (s:Sm):eO (some s,[]) [] (some s)
 |two (s a:Sm) (w:Nat):eO (some s,[.jn w a]) [] (some (.two w a s))
 |op (af:List Itm) (s:Sm):eO (some s,af++[.op]) [] none
 |opj (af:List Itm) (s a:Sm) (w:Nat):eO (some s,af++[.op]++[.jn w a]) [] none
 |bad {st:iU}{t:List Nat}{ts:List (List Nat)}:jk st t->eO st (t::ts) none
 |step {st bU:iU}{t:List Nat}{ts:List (List Nat)}{x:Option Sm}:qm st t bU->eO bU ts x->eO st (t::ts) x
def OW{a b:iU}{t:List Nat}(h:qm a t b):b.2.length<=a.2.length+1:=by
 cases h with
 |of h=>exact zbV h
 |cl0 af k t h=>simp;lia
def lE{c:Nat}{l:List Nat}(h:c≠110):¬dO <+: c::l:=λz=>by
 obtain⟨t,ht⟩:=z
 have:=congrArg List.head? ht
 simp[dO]at this;exact h this.symm
def TB{c w:Nat}{l:List Nat}(h:c≠32):¬jW w <+: c::l:=λz=>by
 obtain⟨t,ht⟩:=z
 have:=congrArg List.head? ht
 simp[jW]at this;exact h this.symm
set_option tactic.hygienic true in
def yp(c:Nat)(r:List Nat):(dz (c::r)=dO/\dO <+: c::r)\/(∃w,w<3/\dz (c::r)=jW w/\jW w <+: c::r)\/dz (c::r)=[c]:=by
 unfold dz;split
 ·rename_i h;exact .inl ⟨rfl,h⟩
 split
 ·rename_i h;exact .inr (.inl ⟨0,by decide,rfl,h⟩)
 split
 ·rename_i h;exact .inr (.inl ⟨1,by decide,rfl,h⟩)
 split
 ·rename_i h;exact .inr (.inl ⟨2,by decide,rfl,h⟩)
 exact .inr (.inr rfl)
def rE{c:Nat}{r:List Nat}(h:c≠32)(hn:¬dO <+: c::r):dz (c::r)=[c]:=by
 rcases yp c r with ⟨_,z⟩|⟨w,_,_,z⟩|z
 ·exact absurd z hn
 ·exact absurd z (TB h)
 ·exact z
def Si{w:Nat}(hw:w<3)(r:List Nat):dz (jW w++r)=jW w:=ZF hw r
def SQ:Bool->List Nat->Option Sm->List Nat->Prop
 |false,l,some s,r=>∀ts,eP ts []->ts.flatten=l->∃us,eP us []/\us.flatten=r/\∀af k,f9 jo af->∀x,eO (some (kE k s),af) us x->eO (none,af++List.replicate k .nt) ts x
 |false,l,none,r=>∀ts,eP ts []->ts.flatten=l->∀af k,f9 jo af->eO (none,af++List.replicate k .nt) ts none
 |true,l,some s,r=>∀ts,eP ts []->ts.flatten=l->∃us,eP us []/\us.flatten=r/\∀af,f9 jo af->f9 xF af->∃e its',((its'=af/\e=s/\∀w,w<3->¬jW w <+: r)\/∃w a,w<3/\its'=af++[.jn w a]/\s=.two w a e)/\∀x,eO (some e,its') us x->eO (none,af) ts x
 |true,l,none,r=>∀ts,eP ts []->ts.flatten=l->∀af,f9 jo af->f9 xF af->eO (none,af) ts none
def rb{p:Itm->Prop}(h:¬p .op)(af:List Itm):f9 p (af++[.op]):=F4 h
set_option tactic.hygienic true in
def Rd.run{b:Bool}{l r:List Nat}{o:Option Sm}(h:Rd b l o r):(∀c∈l,c<128)->SQ b l o r/\∀c∈r,c<128:=by
 induction h with
 |@no l r o _ ih =>
  intro ha;obtain⟨h1,h2⟩:=ih λc hc=>ha c (cx _ hc)
  exists ?_,h2;have hd:∀ts:List (List Nat),eP ts []->ts.flatten=dO++l->∃us,ts=dO::us/\eP us []/\us.flatten=l:=λts hc he=>by
   obtain⟨us,e1,e2,e3⟩:=ki hc he (by simp[dO]);rw[show dz (dO++l)=dO from zbS l]at e1 e3;nomatch us,e1,e2,Jy e3
  cases o with
  |none =>
   intro ts hc he af k hn;obtain⟨us,rfl,e2,e3⟩:=hd ts hc he;refine .step (.of (.no _)) ?_;rw[D5];exact h1 us e2 e3 af (k+1) hn
  |some s =>
   intro ts hc he;obtain⟨us,rfl,e2,e3⟩:=hd ts hc he;obtain⟨vs,f1,f2,f3⟩:=h1 us e2 e3;exists vs,f1,f2,λaf k hn x hx=>.step (.of (.no _)) ?_;rw[D5];exact f3 af (k+1) hn x hx
 |@opN l r _ ih =>
  intro ha;obtain⟨h1,h2⟩:=ih λc hc=>ha c (cq _ hc)
  exists λts hc he af k hn=>?_,h2;obtain⟨us,e1,e2,e3⟩:=ki hc he (by simp);rw[rE (by decide) (lE (by decide))]at e1 e3;subst e1;refine .step (.of (.op _)) ?_;exact h1 us e2 (kf e3).2 _ (rb (λz=>nomatch z) _) (rb (λz=>nomatch z) _)
 |@opC l r s _ hr ih =>
  intro ha;obtain⟨h1,h2⟩:=ih λc hc=>ha c (cq _ hc)
  exists λts hc he af k hn=>?_,h2;obtain⟨us,e1,e2,e3⟩:=ki hc he (by simp);rw[rE (by decide) (lE (by decide))]at e1 e3;subst e1;refine .step (.of (.op _)) ?_;obtain⟨vs,f1,f2,f3⟩:=h1 us e2 (kf e3).2;obtain⟨e,its',g1,g2⟩:=f3 _ (rb (λz=>nomatch z) (af++List.replicate k .nt)) (rb (λz=>nomatch z) _);refine g2 _ ?_;cases r with
  |nil =>
   rw[EU f1 f2];rcases g1 with ⟨rfl,_⟩|⟨w,a,hw,rfl,_⟩
   ·exact .op _ _
   ·exact .opj _ _ _ _
  |cons c r' =>
   obtain⟨ws,k1,_,_⟩:=ki f1 f2 (by simp);rw[k1];refine .bad ?_;rcases yp c r' with ⟨z,_⟩|⟨w,hw,z,z2⟩|z
   ·rw[z];exact .not _ _
   ·rw[z];rcases g1 with ⟨rfl,_,y⟩|⟨w,a,KN,rfl,_⟩
    ·exact absurd z2 (y w hw)
    ·exact .jj _ _ _ _ _ hw
   ·rw[z];exact .sgn _ _ _ (h2 c (by simp)) (λy=>hr (by rw[y];nomatch r',rfl))
 |@opY l r s _ ih =>
  intro ha;obtain⟨h1,h2⟩:=ih λc hc=>ha c (cq _ hc)
  exists λts hc he=>?_,λc hc=>h2 c (cq _ hc);obtain⟨us,e1,e2,e3⟩:=ki hc he (by simp);rw[rE (by decide) (lE (by decide))]at e1 e3;subst e1;obtain⟨vs,f1,f2,f3⟩:=h1 us e2 (kf e3).2;obtain⟨ws,k1,k2,k3⟩:=ki f1 f2 (by simp);rw[rE (by decide) (lE (by decide))]at k1 k3;exists ws,k2,(kf k3).2,λaf k hn x hx=>.step (.of (.op _)) ?_;obtain⟨e,its',g1,g2⟩:=f3 _ (rb (λz=>nomatch z) (af++List.replicate k .nt)) (rb (λz=>nomatch z) _);refine g2 _ ?_;rw[k1];rcases g1 with ⟨rfl,rfl,_⟩|⟨w,a,hw,rfl,rfl⟩
  ·exact .step (.cl0 af k _ hn) hx
  ·rw[iT (af++List.replicate k Itm.nt) [Itm.op] [Itm.jn w a]];exact .step (.of (.cl af k w a e hn hw)) hx
 |@fix l b hb =>
  intro ha;exists λts hc he=>?_,λc hc=>ha c (cq _ hc);obtain⟨us,e1,e2,e3⟩:=ki hc he (by simp);rw[rE (by lia) (lE (by omega))]at e1 e3;subst e1;nomatch us,e2,(kf e3).2,λaf k hn x hx=>.step (.of (.fix af k b hn hb)) hx
 |@bit l j hj pW =>
  intro ha;exists λts hc he=>?_,λc hc=>ha c (cq _ hc);obtain⟨us,e1,e2,e3⟩:=ki hc he (by simp);rw[rE (by lia) pW]at e1 e3;subst e1;nomatch us,e2,(kf e3).2,λaf k hn x hx=>.step (.of (.bit af k j hn hj)) hx
 |@non l pW hp =>
  intro ha;exists λts hc he af k hn=>?_,ha;cases l with
  |nil=>rw[EU hc he];exact .non _
  |cons c r =>
   obtain⟨us,e1,e2,e3⟩:=ki hc he (by simp);rw[e1];refine .bad ?_;rcases yp c r with ⟨_,z⟩|⟨w,hw,z,_⟩|z
   ·exact absurd z pW
   ·rw[z];exact .jn _ _ hw
   ·rw[z];exact .frm _ _ (ha c (by simp)) (hp c r rfl)
 |@allN l r _ ih =>
  intro ha;obtain⟨h1,h2⟩:=ih ha;exists λts hc he af hn _=>?_,h2
  have:=h1 ts hc he af 0 hn
  rwa [qF,fc]at this
 |@allJ l r r' s w o _ hw _ mO nB =>
  intro ha;obtain⟨h1,h2⟩:=mO ha;obtain⟨h3,h4⟩:=nB λc hc=>h2 c (cx _ hc)
  exists ?_,h4;have hd:∀ts:List (List Nat),eP ts []->ts.flatten=l->∃us,eP us []/\us.flatten=r/\∀af,f9 jo af->f9 xF af->∀x,eO (none,af++[.jn w s]) us x->eO (none,af) ts x:=λts hc he=>by
   obtain⟨us,f1,f2,f3⟩:=h1 ts hc he;obtain⟨ws,k1,k2,k3⟩:=ki f1 f2 (by simp[jW]);rw[Si hw]at k1 k3;exists ws,k2,Jy k3,λaf hn hj x hx=>?_
   have:=f3 af 0 hn x
   rw[qF,fc]at this;refine this ?_;rw[k1];exact .step (.of (.jn af s w hj hw)) hx
  cases o with
  |none =>
   intro ts hc he af hn hj;obtain⟨us,f1,f2,f3⟩:=hd ts hc he;refine f3 af hn hj none ?_
   have:=h3 us f1 f2 (af++[.jn w s]) 0 (F4 (p:=jo) (it:=.jn w s) (λz=>nomatch z))
   rwa [qF,fc]at this
  |some t =>
   intro ts hc he;obtain⟨us,f1,f2,f3⟩:=hd ts hc he;obtain⟨vs,g1,g2,g3⟩:=h3 us f1 f2;exists vs,g1,g2,λaf hn hj=>⟨t,af++[.jn w s],.inr ⟨w,s,hw,rfl,rfl⟩,λx hx=>f3 af hn hj x ?_⟩
   have:=g3 (af++[.jn w s]) 0 (F4 (p:=jo) (it:=.jn w s) (λz=>nomatch z)) x hx
   rwa [qF,fc]at this
 |@allE l r s _ uk ih =>
  intro ha;obtain⟨h1,h2⟩:=ih ha;exists λts hc he=>?_,h2;obtain⟨us,f1,f2,f3⟩:=h1 ts hc he;exists us,f1,f2,λaf hn _=>⟨s,af,.inl ⟨rfl,rfl,uk⟩,λx hx=>?_⟩
  have:=f3 af 0 hn x hx
  rwa [qF,fc]at this
def Rd.out{l r:List Nat}{o:Option Sm}(h:Rd true l o r)(ha:∀c∈l,c<128):∃ts,eP ts []/\ts.flatten=l/\eO (none,[]) ts (if r=[]then o else none):=by
 obtain⟨ts,he,hc⟩:=JO l.length l (aJ _);exists ts,hc,he,?_;have hn:∀p,f9 p ([]:List Itm):=λp it z=>by simp at z
 obtain⟨h1,h2⟩:=h.run ha;cases o with
 |none =>
  have:=h1 ts hc he [] (hn _) (hn _)
  rwa [show (if r=[]then (none:Option Sm)else none)=none by split<;>rfl]
 |some s =>
  obtain⟨us,f1,f2,f3⟩:=h1 ts hc he;obtain⟨e,its',g1,g2⟩:=f3 [] (hn _) (hn _);refine g2 _ ?_;cases r with
  |nil =>
   rw[EU f1 f2,ax rfl];rcases g1 with ⟨rfl,rfl,_⟩|⟨w,a,hw,rfl,rfl⟩
   ·exact .one _
   ·exact .two _ _ _
  |cons c r' =>
   rw[aq (by simp)];obtain⟨ws,k1,_,_⟩:=ki f1 f2 (by simp);rw[k1];refine .bad ?_;rcases yp c r' with ⟨z,_⟩|⟨w,hw,z,z2⟩|z
   ·rw[z];exact .not _ _
   ·rw[z];rcases g1 with ⟨rfl,_,y⟩|⟨w,a,KN,rfl,_⟩
    ·exact absurd z2 (y w hw)
    ·exact .jj _ _ _ _ _ hw
   ·rw[z];by_cases hc41:c=41
    ·rw[hc41];rcases g1 with ⟨rfl,_,_⟩|⟨w,a,KN,rfl,_⟩
     ·exact .cl _
     ·exact .cl1 _ _ _
    ·exact .sgn _ _ _ (h2 c (by simp)) hc41
def CT(H:Hp)(v:V):Option Sm->Prop
 |none=>v=.non
 |some s=>Is H v s.d
noncomputable def ka:Sm->Nat
 |.bit _=>1
 |.fix _=>1
 |.no s=>ka s+1
 |.two _ s t=>ka s+ka t+1
theorem zH:∀s:Sm,s.dp+1<=ka s
 |.bit _=>aJ _
 |.fix _=>aJ _
 |.no s=>by have:=zH s;show s.dp+1+1<=ka s+1;lia
 |.two _ s t=>by have:=zH s;have:=zH t;show max s.dp t.dp+1+1<=ka s+ka t+1;lia
def Hy(a b n:Nat):Builtin.Str.strSliceIndices (some (a:Int)) (some (b:Int)) 1 n=Builtin.Str.strSliceIndices (some ((min a n:Nat):Int)) (some ((min b n:Nat):Int)) 1 n:=by
 have h:∀c:Nat,¬((c:Int)<0):=λc=>by lia
 have e:∀c:Nat,max (0:Int) (min (c:Int) (n:Int))=max 0 (min ((min c n:Nat):Int) (n:Int)):=λc=>by lia
 simp only[Builtin.Str.strSliceIndices,h,l7];rw[ax (show (1:Int)>0 by decide),ax (show (1:Int)>0 by decide),ax (show (1:Int)>0 by decide),ax (show (1:Int)>0 by decide),e a,e b]
def Fb(l:List Nat){a b:Nat}(h:a<=b):Txt.slice (S l) (some (a:Int)) (some (b:Int))=S ((l.drop a).take (b-a)):=by
 have e:Txt.slice (S l) (some (a:Int)) (some (b:Int))=StrLaws.sliceText (S l) (some ((min a l.length:Nat):Int)) (some ((min b l.length:Nat):Int)):=by
  show StrLaws.sliceText (S l) _ _=_;unfold StrLaws.sliceText;rw[aN,Hy a b]
 rw[e,StrLaws.sliceText_nat (S l) (show min a l.length<=min b l.length by lia) (by rw[aN];lia)];refine rH ?_;show (l.drop (min a l.length)).take (min b l.length-min a l.length)=(l.drop a).take (b-a);by_cases h1:a<=l.length
 ·rw[se h1];by_cases h2:b<=l.length
  ·rw[se h2]
  ·rw[qS (by lia),mG (by rw[fL];lia),mG (by rw[fL];omega)]
 ·rw[qS (show l.length<=a by lia),qS (show l.length<=b by lia),Di (aJ _),Di (show l.length<=a by omega)];simp
def wV(l:List Nat)(a:Nat):Txt.slice (S l) (some (a:Int)) none=S (l.drop a):=by
 have e:Txt.slice (S l) (some (a:Int)) none=Txt.slice (S l) (some (a:Int)) (some (l.length:Int)):=by
  show StrLaws.sliceText (S l) _ _=StrLaws.sliceText (S l) _ _;unfold StrLaws.sliceText;rw[aN,StrLaws.sliceIdx_none_hi]
 rw[e];by_cases h:a<=l.length
 ·rw[Fb l h,mG (by rw[fL];lia)]
 ·have e2:Txt.slice (S l) (some (a:Int)) (some (l.length:Int))=Txt.slice (S l) (some (l.length:Int)) (some (l.length:Int)):=by
   show StrLaws.sliceText (S l) _ _=StrLaws.sliceText (S l) _ _;unfold StrLaws.sliceText;rw[aN,Hy a l.length,qS (show l.length<=a by lia),Bv]
  rw[e2,Fb l (aJ _),Di (show l.length<=a by omega)];simp
def B0(l:List Nat)(a:Nat):Txt.slice (S l) none (some (a:Int))=S (l.take a):=by
 have e:Txt.slice (S l) none (some (a:Int))=Txt.slice (S l) (some ((0:Nat):Int)) (some (a:Int)):=by
  show StrLaws.sliceText (S l) _ _=StrLaws.sliceText (S l) _ _;unfold StrLaws.sliceText;rw[aN,StrLaws.sliceIdx_none_lo];rfl
 rw[e,Fb l (cb _)];rfl
def LB:∀c:Nat,c<128->(!(Builtin.Str.occurrences (S kZ) (S [c]) 0 (S kZ).length 1).isEmpty)=decide (97<=c/\c<113):=by decide+kernel
def zcJ:∀c:Nat,c<128->iz (V.str (Txt.strip (S [c]))) [V.str "and",V.str "or",V.str "xor"]=false:=by decide+kernel
def zce:∀w:Nat,w<3->Txt.find (S kZ) (S (jW w)) = -1:=by decide+kernel
def rdF:Nat->Bool->List Nat->Option Sm×List Nat
 |0,_,l=>(none,l)
 |d+1,false,l =>
  if dO <+: l then ((rdF d false (l.drop 4)).1.map .no,(rdF d false (l.drop 4)).2)
  else match l with
   |[]=>(none,[])
   |c::r =>
    if c=40 then (match rdF d true r with
     |(none,e)=>(none,e)
     |(some s,41::e)=>(some s,e)
     |(some _,e)=>(none,e))
    else if c=48 then (some (.fix 0),r)
    else if c=49 then (some (.fix 1),r)
    else if 97<=c/\c<113 then (some (.bit (c-97)),r)
    else (none,c::r)
 |d+1,true,l=>match rdF d false l with
  |(none,e)=>(none,e)
  |(some s,e) =>
   if jW 0 <+: e then ((rdF d false (e.drop (jW 0).length)).1.map (.two 0 s),(rdF d false (e.drop (jW 0).length)).2)
   else if jW 1 <+: e then ((rdF d false (e.drop (jW 1).length)).1.map (.two 1 s),(rdF d false (e.drop (jW 1).length)).2)
   else if jW 2 <+: e then ((rdF d false (e.drop (jW 2).length)).1.map (.two 2 s),(rdF d false (e.drop (jW 2).length)).2)
   else (some s,e)
def Ay{w v:Nat}(hw:w<3)(hv:v<3)(h:w≠v)(r:List Nat):¬jW w <+: jW v++r:=λz=>by
 obtain⟨t,ht⟩:=z;have h2:=congrArg (λl:List Nat=>l[1]?) ht;rcases (show w=0\/w=1\/w=2 by lia)with rfl|rfl|rfl<;>rcases (show v=0\/v=1\/v=2 by lia)with rfl|rfl|rfl<;>first|exact absurd rfl h|(simp[jW,lG]at h2)
def mh:Bool.toNat false=0:=rfl
def ui:Bool.toNat true=1:=rfl
set_option tactic.hygienic true in
def Rd.rdF{b:Bool}{l r:List Nat}{o:Option Sm}(h:Rd b l o r):∀d,2*l.length+b.toNat+2<d->rdF d b l=(o,r):=by
 induction h with
 |@no l r o _ ih =>
  intro d hd;cases d with
  |zero=>exact absurd hd (j7 _)
  |succ d =>
   have hl:(dO++l).length=4+l.length:=by rw[aS];rfl
   have e:=ih d (by rw[hl,mh]at hd;rw[mh];lia);unfold My.rdF;rw[ax (vw _ _),show (dO++l).drop 4=l from rfl,e]
 |@opN l r _ ih =>
  intro d hd;cases d with
  |zero=>exact absurd hd (j7 _)
  |succ d =>
   have e:=ih d (by rw[aW]at hd;rw[mh]at hd;rw[ui];lia);unfold My.rdF;rw[aq (lE (by decide))];simp only[gM,e]
 |@opC l r s _ hr ih =>
  intro d hd;cases d with
  |zero=>exact absurd hd (j7 _)
  |succ d =>
   have e:=ih d (by rw[aW]at hd;rw[mh]at hd;rw[ui];omega);unfold My.rdF;rw[aq (lE (by decide))];simp only[gM,e];cases r with
   |nil=>rfl
   |cons c r =>
    have hc:c≠41:=λz=>hr (by rw[z];nomatch r,rfl)
    split
    ·rename_i z;cases z
    ·rename_i z;cases z;exact absurd rfl hc
    ·rename_i z;cases z;rfl
 |@opY l r s _ ih =>
  intro d hd;cases d with
  |zero=>exact absurd hd (j7 _)
  |succ d =>
   have e:=ih d (by rw[aW]at hd;rw[mh]at hd;rw[ui];omega);unfold My.rdF;rw[aq (lE (by decide))];simp only[gM,e]
 |@fix l b hb =>
  intro d hd;cases d with
  |zero=>exact absurd hd (j7 _)
  |succ d =>
   unfold My.rdF;rcases hb with rfl|rfl
   ·rw[aq (lE (by decide))];rfl
   ·rw[aq (lE (by decide))];rfl
 |@bit l j hj pW =>
  intro d hd;cases d with
  |zero=>exact absurd hd (j7 _)
  |succ d =>
   unfold My.rdF;rw[aq pW];simp only;rw[aq (by lia),aq (by lia),aq (by lia),ax (by lia),A1]
 |@non l pW hp =>
  intro d hd;cases d with
  |zero=>exact absurd hd (j7 _)
  |succ d =>
   unfold My.rdF;rw[aq pW];cases l with
   |nil=>rfl
   |cons c r =>
    obtain⟨p1,p2,p3,p4⟩:=hp c r rfl;simp only;rw[aq p1,aq p2,aq p3,aq p4]
 |@allN l r _ ih =>
  intro d hd;cases d with
  |zero=>exact absurd hd (j7 _)
  |succ d =>
   have e:=ih d (by rw[ui]at hd;rw[mh];lia);unfold My.rdF;rw[e]
 |@allJ l r r' s w o h1 hw _ mO nB =>
  intro d hd;cases d with
  |zero=>exact absurd hd (j7 _)
  |succ d =>
   have rk:2*l.length+1+2<d+1:=hd;have e1:=mO d (by rw[mh];lia);have hl:=h1.len;have hj:=JB w;rw[aS]at hl;have e2:=nB d (by rw[mh];lia);unfold My.rdF;rw[e1];simp only;have qU:(jW w++r).drop (jW w).length=r:=yQ ..;rcases (show w=0\/w=1\/w=2 by lia)with rfl|rfl|rfl
   ·rw[ax (vw _ _),qU,e2]
   ·rw[aq (Ay (by decide) (by decide) (by decide) _),ax (vw _ _),qU,e2]
   ·rw[aq (Ay (by decide) (by decide) (by decide) _),aq (Ay (by decide) (by decide) (by decide) _),ax (vw _ _),qU,e2]
 |@allE l r s _ uk ih =>
  intro d hd;cases d with
  |zero=>exact absurd hd (j7 _)
  |succ d =>
   have e:=ih d (by rw[ui]at hd;rw[mh];omega);unfold My.rdF;rw[e];simp only;rw[aq (uk 0 (by decide)),aq (uk 1 (by decide)),aq (uk 2 (by decide))]
def AW{m l:List Nat}(h:m <+: l):l=m++l.drop m.length:=by
 obtain⟨r,rfl⟩:=h;rw[yQ]
def Rd.ex:∀(n:Nat) (l:List Nat),l.length<=n->(∃o r,Rd false l o r)/\∃o r,Rd true l o r:=by
 intro n;induction n with
 |zero =>
  intro l hl;cases pN (Nat.le_zero.mp hl);have h:Rd false [] none []:=.non (λz=>by obtain⟨t,ht⟩:=z;simp[dO]at ht) (λc r z=>by cases z);nomatch ⟨_,_,h⟩,_,_,.allN h
 |succ n ih =>
  intro l hl;have part:∃o r,Rd false l o r:=by
   by_cases z1:dO <+: l
   ·have e:=AW z1;have qr:=congrArg List.length e;rw[aS]at qr;have h4:dO.length=4:=rfl;obtain⟨⟨o,r,h⟩,_⟩:=ih (l.drop dO.length) (by lia);exact⟨_,_,by rw[e];exact .no h⟩
   cases l with
   |nil=>nomatch _,_,.non z1 (λc r z=>by cases z)
   |cons c r =>
    rw[aW]at hl;by_cases c1:c=40
    ·subst c1;obtain⟨_,o,e,h⟩:=ih r (by lia);cases o with
     |none=>nomatch _,_,.opN h
     |some s =>
      by_cases z:[41] <+: e
      ·have ee:=AW z;rw[ee]at h;nomatch _,_,.opY h
      ·nomatch _,_,.opC h z
    by_cases c2:c=48
    ·subst c2;nomatch _,_,.fix (b:=0) (.inl rfl)
    by_cases c3:c=49
    ·subst c3;nomatch _,_,.fix (b:=1) (.inr rfl)
    by_cases c4:97<=c/\c<113
    ·obtain⟨j,rfl⟩:∃j,c=97+j:=⟨c-97,by lia⟩;nomatch _,_,.bit (by lia) z1
    ·nomatch _,_,.non z1 (λc' r' z=>by cases z;exact⟨c1,c2,c3,c4⟩)
  exists part,?_;obtain⟨o,r,h⟩:=part;cases o with
  |none=>nomatch _,_,.allN h
  |some s =>
   by_cases z:∃w,w<3/\jW w <+: r
   ·obtain⟨w,hw,hz⟩:=z;have e:=AW hz;have qr:=congrArg List.length e;have h1:=h.len;have h2:=JB w;rw[aS]at qr;obtain⟨⟨o',r',h'⟩,_⟩:=ih (r.drop (jW w).length) (by lia);rw[e]at h;nomatch _,_,.allJ h hw h'
   ·nomatch _,_,.allE h (λw hw hz=>z ⟨w,hw,hz⟩)
end My
namespace L2
open PySem PySem.Spec PyProof.Rows
def mY(w:World)(K:Frag)(a:Addr)(kvs:List (Str×Addr)):Prop :=
 (a == sysModules)=false/\∀(P:Program) (h:Heap),K.In h->h.DictOf (eJ P w) a (kvs.map λp=>(Sum.inr p.1,Value.ref p.2))
def mY.of{w:World}{K:Frag}{a:Addr}{kvs:List (Str×Addr)}{ts:List Tok}{n:Nat}(hs:(a == sysModules)=false)(hl:kvs.length=ts.length)(hn:(kvs.map (·.1)).Nodup)
  (e:K.lookup a=some ⟨.type "dict",none,.dict ((kvs.zip ts).map λp=>⟨PyData.keyHash w.params p.1.1,.str p.1.1 p.2,.ref p.1.2⟩).toArray n,#[]⟩):mY w K a kvs:=by
 exists hs,λP h X=>⟨_,_,_,X _ _ e,⟨rfl,rfl,rfl⟩,rfl,λx hx=>?_,?_,?_⟩
 ·obtain⟨p,_,rfl⟩:=bV.mp (List.mem_toArray.mp hx);nomatch Sum.inr p.1.1,qB P w p.1.1 p.2,rfl
 ·clear e hn;show Pairs _ ((kvs.zip ts).map _) _;induction kvs generalizing ts with
  |nil=>exact .nil
  |cons p r ih =>
   cases ts with
   |nil=>cases hl
   |cons t ts=>exact .cons (qB P w p.1 t) rfl (ih (by simpa using hl))
 ·rw[ft]
  have:((λx:bO×Value=>x.1) ∘ λp:Str×Addr=>(Sum.inr p.1,Value.ref p.2))=(λx:Str=>(Sum.inr x:bO)) ∘ (λp:Str×Addr=>p.1):=rfl
  rw[this,<-ft];exact PF _ (λx y h z=>h (Ak z)) hn
noncomputable def k9(kvs:List (Str×Addr))(x:Str):Option Addr:=(kvs.find? λp=>decide (p.1=x)).map (·.2)
def Cw(kvs:List (Str×Addr))(x:Str):valueAt (kvs.map λp=>((Sum.inr p.1:bO),Value.ref p.2)) (Sum.inr x)=(k9 kvs x).map Value.ref:=by
 unfold valueAt k9;induction kvs with
 |nil=>rfl
 |cons p r ih =>
  rw[bw,fV,fV];by_cases z:p.1=x
  ·rw[aC z,aC (show (Sum.inr p.1:bO)=Sum.inr x by rw[z])];rfl
  ·rw[aL z,aL (λy=>z (Ak y))];exact ih
def zcS(w:World)(K:Frag)(ty td:TE):TE:=λσ H Q=>ty σ H λy H1=>td σ H1 λx H2=>∃a kvs k,x=.ref a/\mY w K a kvs/\y=.str k/\Q (.bl (k9 kvs k).isSome) H2
def YX(w:World)(K:Frag)(td ty:TE):TE:=λσ H Q=>td σ H λx H1=>ty σ H1 λy H2=>∃a kvs k b,x=.ref a/\mY w K a kvs/\y=.str k/\k9 kvs k=some b/\Q (.ref b) H2
def TF(w:World)(K:Frag)(td ty:TE):TE:=λσ H Q=>td σ H λx H1=>∃a kvs,x=.ref a/\mY w K a kvs/\ty σ H1 λy H2=>∃k,y=.str k/\Q (match k9 kvs k with|some b=>.ref b|none=>.non) H2
section
variable{X:Cx}{o i e:Expr}{td ty:TE}{pos c9 bN:Pos}
def Wy(hu:X.A.units+1<cLine)(hi:PE X i ty)(ho:PE X o td):PC X .In i o (zcS X.w X.K ty td):=by
 intro aa s σ H Q I h;refine aI (hi aa s σ H _ I h) λiv s1 ⟨y,H1,I1,ry,q1⟩=>aI (ho aa s1 σ H1 _ I1 q1) λu s2 ⟨x,H2,I2,rx,a,kvs,k,ex,D,ey,q2⟩=>?_
 subst ex ey;obtain rfl:u=Value.ref a:=rx;obtain⟨t,rfl⟩:=ry;have dd:=D.2 X.prog _ I2.kIn;refine wpAny_in_of (qB X.prog X.w k t) D.1 dd.mapOf ?_;rw[Cw,xQ];nomatch .bl _,H2,I2.tok _,rfl,q2
def Zr(hu:X.A.units+1<cLine)(ho:PE X o td)(hi:PE X i ty)(hs:yV i):PE X (.Subscript o i pos) (YX X.w X.K td ty):=by
 intro aa s σ H Q I h;refine ND PySem.F.slot_dict_getitem.lookup hs (aI (ho aa s σ H _ I h) λu s1 ⟨x,H1,I1,rx,q1⟩=>aI (hi aa s1 σ H1 _ I1 q1) λiv s2 ⟨y,H2,I2,ry,a,kvs,k,b,ex,D,ey,hk,q2⟩=>?_);subst ex ey;obtain rfl:u=Value.ref a:=rx;obtain⟨t,rfl⟩:=ry;have dd:=D.2 X.prog _ I2.kIn;exists dd.typeIs,wpAny_getItem_of (qB X.prog X.w k t) dd.mapOf (by rw[Cw,hk];rfl) ⟨.ref b,H2,I2.tok _,rfl,q2⟩
def ZG(hu:X.A.units+1<cLine)(ho:PE X o td)(he:PE X e ty)(m:M1 X o "get" c9 e bN):PE X (.Call (.Attribute o "get" c9) [e] [] bN) (TF X.w X.K td ty):=by
 intro aa s σ H Q I h;refine wpAny_Call_method m.base m.few m.line PQ vE IW (aI (ho aa s σ H _ I h) λu s1 ⟨x,H1,I1,rx,a,kvs,ex,D,q1⟩=>?_);subst ex;obtain rfl:u=Value.ref a:=rx;have dd:=D.2 X.prog _ I1.kIn;exists dd.typeIs,λb q=>?_,?_
 ·cases q;obtain⟨ob,_,_,h1,h2,_⟩:=dd;nomatch ob,h1,h2.2.1
 rw[m.trees];refine xI rfl (zr (xg (aI (he aa s1 σ H1 _ I1 q1) λiv s2 ⟨y,H2,I2,ry,k,ey,q2⟩=>EK ?_)));subst ey;obtain⟨t,rfl⟩:=ry;have om:=D.2 X.prog _ I2.kIn;refine call_meetsIn vE om.typeIs FQ (PySem.F.args_dict_get_2 _ _) (meets_dict_get (eJ X.prog X.w) a (qB X.prog X.w k t) D.1) ⟨_,om.mapOf,?_⟩;rw[Cw];cases hk:k9 kvs k with
 |none=>rw[hk]at q2;nomatch .non,H2,I2.tok _,rfl,q2
 |some b=>rw[hk]at q2;nomatch .ref b,H2,I2.tok _,rfl,q2
end
section
variable{X:Cx}{aa:List (Addr×Obj)}{σ:St}{H:Hp}{s:Shared}
set_option tactic.hygienic true in
def Ri(O:fN X)(ho:PE X.nox o ta)(c:jV X.K C)(hm:tJ X.K C m f)(F:gW X.prog X.w X.K X.mg X.base (fB X.prog X.w) k f fd ps sp)(hr:cz k X.A)
  (hb:Binds X.K fd ps []) (ha:PA X.nox (e::es) t) (he:starEach (e::es) X.env=(false,eval e X.env)::starEach es X.env) (dE:(backTo pos (starEach es X.env)).any (·.1)=false)
  (ht:eval (.Call (.Attribute o m c9) (e :: es) [] pos) X.env=(do
   let ov <-eval o X.env
   standAt c9.atName
   let (f,first) <-holding [ov] (getMethod ov m pl)
   callWith pos f first (backTo pos (starEach (e::es) X.env)) (backToKw pos (keywordEach [] X.env))))
  (I:Inv X aa σ H s) (h:ta σ H λx H1=>∃a dx fs,x=.ref a/\H1 a=some (.ins C dx fs)/\fs.lookup m=none/\t σ H1 λvs H2=>sp (x::vs) H2 Q E) :
  wpAny (model X.prog X.w) X.A (eval (.Call (.Attribute o m c9) (e::es) [] pos) X.env) (EP X aa σ Q) (XP X aa σ E) s:=by
 refine KI (pl:=pl) (bA (ho aa s σ H _ (I.wish _) h) (λu s1 ⟨x,H1,I1,rx,a,dx,fs,ex,ea,l,q⟩=>?_) λ_ _ z=>False.elim z) ht;subst ex;obtain rfl:u=Value.ref a:=rx;refine NK I1.unwish ea c hm l ?_;refine AE (first:=[.ref a]) (h₀:=X.base) I.ok.mod.kin hm.kp (bA (ha pos aa s1 σ H1 _ I1 q) (λus s2 ⟨vs,H2,I2,r,q2⟩=>⟨I2.kIn,?_⟩) λ_ _ z=>False.elim z) he dE;have J:=I2.unwish;have r2:Vals (.ref a::vs) (.ref a::us):=.cons rfl r;have hl:(Value.ref a::us).length=ps.length:=by rw[<-r2.length];exact F.len _ _ _ _ q2
 have e8:BindsTo s2 fd ⟨Value.ref a::us,[]⟩ (ps.zip (Value.ref a::us)):=by
  have:=hb s2 (Value.ref a::us) J.kIn (by rw[fc];exact hl)
  rw[fc]at this;exact this
 refine wpAny_call (qq (F.run X.A X.stack s2 H2 ⟨Value.ref a::us,[]⟩ (Value.ref a::us) (.ref a::vs) Q E hr J.env0 e8 r2 q2) λr s' hq=>?_);cases r with
 |error e=>exact XP.of O J hq
 |ok fl =>
  cases fl with
  |ret u=>exact J.after hq
  |next=>exact False.elim hq
  |brk=>exact False.elim hq
  |cont=>exact False.elim hq
def zaA(K:Frag)(B C:Addr)(m:Str)(i j l:Nat)(sp:Sp)(ta:TE)(t:TA):TS:=λD σ H=>ta σ H λx H1=>∃a dx fs,x=.ref a/\H1 a=some (.ins C dx fs)/\fs.lookup m=none/\t σ H1 λvs H2=>sp (x::vs) H2 (λv H3=>D.nx (σ.set l (some v)) H3) (zag K B i j D σ)
def Wc{pl:Sem Bool}{k:Nat}{f C:Addr}{fd:FuncData}{ps:List Str}{sp:Sp}{m:Str}{o:Expr}{ta:TE}{c9 bN ep pos:Pos}{e:Expr}{es:List Expr}{t:TA}{B:Addr}{sA:List Value}{x n y v:Str}{i j l:Nat}{np py pn pa hp pv:Pos}
  (O:fN X) (ho:PE X.nox o ta) (c:jV X.K C) (hm:tJ X.K C m f) (F:gW X.prog X.w X.K X.mg X.base (fB X.prog X.w) k f fd ps sp) (hr:cz k X.A) (hb:Binds X.K fd ps []) (ha:PA X.nox (e::es) t)
  (hN:X.N.Nodup) (hi:X.N[i]?=some n) (hj:X.N[j]?=some y) (hl:X.N[l]?=some v) (Ep:i≠j) (TK:X.mg x=some (.ref B)) (eB:gd X.K B sA=true)
  (nc:∀x,X.env.cells.lookup x=none:=by exact λ_=>rfl) (hn:X.env.scope.names.lookup n=some .local:=by rfl) (hy:X.env.scope.names.lookup y=some .local:=by rfl) (hv:X.env.scope.names.lookup v=some .local:=by rfl) (hgB:Gl X x:=by rfl) (hd:(x == ("__debug__" : Str))=false:=by decide)
  (hd2:(n == ("__debug__" : Str))=false:=by decide) (Dt:(n == ("__classdict__" : Str))=false:=by decide) (pP:swapsWith (.Name n pn) (some (.Name y py)) pa.line X.env=pure false:=by rfl) (hs:swapsWith (.Call (.Attribute o m c9) (e::es) [] bN) (some (.Name v pv)) ep.line X.env=pure false:=by rfl)
  (he:starEach (e::es) X.env=(false,eval e X.env)::starEach es X.env:=by rfl) (dE:(backTo bN (starEach es X.env)).any (·.1)=false:=by rfl)
  (ht:eval (.Call (.Attribute o m c9) (e :: es) [] bN) X.env=(do
   let ov <-eval o X.env
   standAt c9.atName
   let (f,first) <-holding [ov] (getMethod ov m pl)
   callWith bN f first (backTo bN (starEach (e::es) X.env)) (backToKw bN (keywordEach [] X.env))):=by rfl) :
  PS X (.Try [.Assign [.Name v pv] (.Call (.Attribute o m c9) (e::es) [] bN) ep] [.ExceptHandler (some (.Name x np)) (some n) [.Assign [.Name y py] (.Name n pn) pa] hp] [] [] pos) (zaA X.K B C m i j l sp ta t):=by
 intro aa s σ H D I h;refine wpAny_Try_except (CP (wpAny_Assign_Name (bA (Ri O ho c hm F hr hb ha he dE ht I h) (λu s1 ⟨v',H1,I1,r,q⟩=>?_) λe' s1 z=>?_) hs))
 ·exact um I1 hN hl (.inl hv) r (λs2 I2=>rT (rT ⟨_,H1,I2,q⟩)) (.inr hv)
 ·exact Ry O nc hN hi hj Ep hn hy hgB TK eB hd hd2 Dt pP (λC H' z=>z) z
end
open PySem PySem.Spec PyProof.Rows
section
variable{prog:Program}{w:World}{A:Around}{E:Value->Shared->Prop}{s:Shared}
def IE(t:Addr):¬(Value.ref t == Value.none)=true:=cQ
def Zf(hp:s.heap.IsTupleIter p t k)(ht:s.heap.IsTuple t af)(hx:af[k]?=some x)
  (q:∀g,g.IsTupleIter p t (k+1)->Heap.SameBut p s.heap g->Q x {s with heap:=g}):wpAny (model prog w) A (Builtin.SmallTypes.nextOf (.ref p)) Q E s:=by
 obtain⟨op,e1,e2,e3⟩:=id hp;obtain⟨ot,e4,_,nt,e5⟩:=ht;unfold Builtin.SmallTypes.nextOf;refine aA (uD (name:=ofString "__next__") hp.typeIs yu (pB yu hp.typeIs Qm ?_ (O8 _)));show wpAny _ _ (field (.ref p) 0 >>= _) _ _ s;refine aA (gb e1 e3 (x:=.ref t) rfl ?_);show wpAny _ _ (if (Value.ref t == Value.none)=true then _ else _) _ _ s;rw[aq (IE t)];show wpAny _ _ (field (.ref p) 1 >>= _) _ _ s;refine aA (gb e1 e3 (x:=.int k 0) rfl ?_);show wpAny _ _ (seqItems? (.ref t) >>= _) _ _ s;refine aA (nq e4 e5 ?_);simp only[oJ,hx];refine aA (Ei e1 e3 (by simp) (bg ⟨x,rfl,bg (q _ ⟨_,FZ _ e1 (Obj.isFreed_of_fields (JD e3 _)),(Obj.cls_mapFields ..).trans e2,?_⟩ (K3 ..))⟩));rw[JD e3];simp[rawInt]
def YD(hh:A.handled=none)(hp:s.heap.IsTupleIter p t k)(ht:s.heap.IsTuple t af)(hx:af[k]?=none)
  (q:∀g e,Heap.ExtBut p s.heap g->(∃o,g.get? e=some o/\o.cls=.type "StopIteration")->E (.ref e) {s with heap:=g}):wpAny (model prog w) A (Builtin.SmallTypes.nextOf (.ref p)) Q E s:=by
 obtain⟨op,e1,e2,e3⟩:=id hp;obtain⟨ot,e4,_,nt,e5⟩:=ht;unfold Builtin.SmallTypes.nextOf;refine aA (uD (name:=ofString "__next__") hp.typeIs yu (pB yu hp.typeIs Qm ?_ (O8 _)));show wpAny _ _ (field (.ref p) 0 >>= _) _ _ s;refine aA (gb e1 e3 (x:=.ref t) rfl ?_);show wpAny _ _ (if (Value.ref t == Value.none)=true then _ else _) _ _ s;rw[aq (IE t)];show wpAny _ _ (field (.ref p) 1 >>= _) _ _ s;refine aA (gb e1 e3 (x:=.int k 0) rfl ?_);show wpAny _ _ (seqItems? (.ref t) >>= _) _ _ s;refine aA (nq e4 e5 ?_);simp only[oJ,hx];refine aA (zR (aA (Ei e1 e3 (by simp) ?_)));show wpAny _ _ (newExc (.type "StopIteration") [] >>= _) _ _ _;refine aA ?_;simp only[newExc,newTuple];refine aA (nP ?_ (by size_fits));refine aA (m:=firstArgMember _ _) (wpAny_of_eq (a:=Value.none) (by first|rfl|(simp only[firstArgMember];rfl)) ?_);refine nP ?_ (by size_fits);simp only[raiseNew];refine aA (wpAny_handled ?_);first|rw[show A.in1.handled=none from hh]|rw[hh]
 exact aA (bg (wpAny_throw (q _ _ (((K3 ..).extBut.push _).push _) ⟨_,c8 _ rfl,rfl⟩)))
def zal{z TI TO p r t l:Addr}{k:Nat}{xs ys:Array Value}{x y a b:Value}{Q:Value->Shared->Prop}(D:ZipApart z TI TO p r t l)
  (hz:IsZip s.heap z TI TO .none) (hI:IsPair s.heap TI (.ref p) (.ref r)) (hO:IsPair s.heap TO a b) (h1:s.heap.IsTupleIter p t k) (h2:s.heap.IsListIter r l k) (ht:s.heap.IsTuple t xs) (hl:s.heap.IsList l ys) (hx:xs[k]?=some x) (hy:ys[k]?=some y)
  (q:∀ g,IsZip g z TI TO (rawInt s.heap.objs.size)->IsPair g TO x y->g.IsTupleIter p t (k+1)->g.IsListIter r l (k+1)->IsPair g s.heap.objs.size x y -> (∀c o,c≠z->c≠TO->c≠p->c≠r->s.heap.get? c=some o->g.get? c=some o)->Q (.ref s.heap.objs.size) {s with heap:=g}) :
  wpAny (model prog w) A (Builtin.«zip.__next__» ⟨[.ref z],[]⟩) (λfin s'=>∃v,fin=.done (.ret v)/\Q v s') E s:=by
 show wpAny _ _ (field (.ref z) 2 >>= _) _ _ _;refine aA (gb hz rfl (x:=.bool false) rfl ?_);show wpAny _ _ (field (.ref z) 3 >>= _) _ _ _;refine aA (gb hz rfl (x:=.ref TI) rfl (aA (nq hI rfl ?_)));show wpAny _ _ (Builtin.SmallTypes.ownedTupleIsFree (.ref z) >>= _) _ _ _;refine aA ?_;unfold Builtin.SmallTypes.ownedTupleIsFree;refine aA (gb hz rfl (x:=.none) rfl (bg ?_));simp only[gM];refine aA (zR (aA (gb hz rfl (x:=.ref TO) rfl (aA (uJ hz (by simp) λg1 jx b1=>?_)))))
 replace jx:IsZip g1 z TI TO .ellipsis:=jx
 refine aA ?_;simp only[Kv,KR,xm,IJ];refine aA (aA (xZ ?_));show wpAny _ _ (Builtin.SmallTypes.nextOf (.ref p) >>= _) _ _ _;refine aA (Zf (h1.extBut b1.extBut D.i1z) (ht.extBut b1.extBut D.l1z) hx λg2 p2 b2=>bg ?_);have o2:IsPair g2 TO a b:=b2.extBut _ _ D.TOi1 (b1.extBut _ _ D.TOz hO);refine aA (nq o2 rfl (aA (wpAny_updateSeq_pair o2 λg3 o3 b3=>?_)))
 replace o3:IsPair g3 TO x b:=o3
 refine aA (wpAny_letGo (bg (aA (aA (xZ ?_)))));show wpAny _ _ (Builtin.SmallTypes.nextOf (.ref r) >>= _) _ _ _;refine aA (wpAny_nextOf_list_item (((h2.extBut b1.extBut D.i2z).extBut b2.extBut D.i12.symm).extBut b3.extBut D.TOi2.symm) (((hl.extBut b1.extBut D.l2z).extBut b2.extBut D.l2i1).extBut b3.extBut D.l2TO) hy λg4 r4 b4=>bg ?_);have o4:IsPair g4 TO x b:=b4.extBut _ _ D.TOi2 o3;refine aA (nq o4 rfl (aA (wpAny_updateSeq_pair o4 λg5 o5 b5=>?_)))
 replace o5:IsPair g5 TO x y:=o5
 refine aA (wpAny_letGo (bg (bg (aA (nq o5 rfl (aA (wpAny_newTuple ?_)))))));have n5:g5.objs.size=s.heap.objs.size:=by rw[b5.1,b4.1,b3.1,b2.1,b1.1]
 have z5:IsZip g5 z TI TO .ellipsis:=b5.extBut _ _ D.TOz.symm (b4.extBut _ _ D.i2z.symm (b3.extBut _ _ D.TOz.symm (b2.extBut _ _ D.i1z.symm jx)));have k5:∀c o,c≠z->c≠TO->c≠p->c≠r->s.heap.get? c=some o->g5.get? c=some o:=λc o c1 c2 c3 c4 e=>b5.extBut _ _ c2 (b4.extBut _ _ c4 (b3.extBut _ _ c2 (b2.extBut _ _ c3 (b1.extBut _ _ c1 e))))
 have p5:g5.IsTupleIter p t (k+1):=((p2.extBut b3.extBut D.TOi1.symm).extBut b4.extBut D.i12).extBut b5.extBut D.TOi1.symm;have r5:g5.IsListIter r l (k+1):=r4.extBut b5.extBut D.TOi2.symm;have lz:z<g5.objs.size:=bo z5;show wpAny _ _ (Builtin.SmallTypes.ownedTupleHandOut (.ref z) (.ref g5.objs.size) >>= _) _ _ _;refine aA ?_;unfold Builtin.SmallTypes.ownedTupleHandOut;have z6:IsZip (g5.push {cls:=.type "tuple",data:=.seq #[x,y]}) z TI TO .ellipsis:=cv _ z5;refine aA (uJ z6 (by simp) λg7 z7 b7=>?_)
 replace z7:IsZip g7 z TI TO (rawInt g5.objs.size):=z7
 refine uJ z7 (by simp) λg8 z8 b8=>?_
 replace z8:IsZip g8 z TI TO (rawInt g5.objs.size):=z8
 have up:∀c o,c≠z->g5.get? c=some o->g8.get? c=some o:=λc o c1 e=>b8.extBut _ _ c1 (b7.extBut _ _ c1 (cv _ e))
 have T8:IsPair g8 g5.objs.size x y:=b8.extBut _ _ (qW lz) (b7.extBut _ _ (qW lz) (c8 _ rfl));rw[n5]at z8 T8;refine bg ⟨_,rfl,?_⟩;show Q (.ref g5.objs.size) _;rw[n5];refine q g8 z8 (up _ _ D.TOz o5) ?_ (r5.at λo e=>up _ o D.i2z e) T8 λc o c1 c2 c3 c4 e=>up c o c1 (k5 c o c1 c2 c3 c4 e)
 obtain⟨o,e,rest⟩:=p5;nomatch o,up _ o D.i1z e,rest
def U4{z TI TO p r t l:Addr}{k:Nat}{xs:Array Value}{a b:Value}{Q:Fin->Shared->Prop}(hh:A.handled=none)(D:ZipApart z TI TO p r t l)
  (hz:IsZip s.heap z TI TO .none) (hI:IsPair s.heap TI (.ref p) (.ref r)) (hO:IsPair s.heap TO a b) (h1:s.heap.IsTupleIter p t k) (ht:s.heap.IsTuple t xs) (hx:xs[k]?=none)
  (q:∀g e,(∀c o,c≠z->c≠TO->c≠p->c≠r->s.heap.get? c=some o->g.get? c=some o)->(∃o,g.get? e=some o/\o.cls=.type "StopIteration")->E (.ref e) {s with heap:=g}) :
  wpAny (model prog w) A (Builtin.«zip.__next__» ⟨[.ref z],[]⟩) Q E s:=by
 show wpAny _ _ (field (.ref z) 2 >>= _) _ _ _;refine aA (gb hz rfl (x:=.bool false) rfl ?_);show wpAny _ _ (field (.ref z) 3 >>= _) _ _ _;refine aA (gb hz rfl (x:=.ref TI) rfl (aA (nq hI rfl ?_)));show wpAny _ _ (Builtin.SmallTypes.ownedTupleIsFree (.ref z) >>= _) _ _ _;refine aA ?_;unfold Builtin.SmallTypes.ownedTupleIsFree;refine aA (gb hz rfl (x:=.none) rfl (bg ?_));simp only[gM];refine aA (zR (aA (gb hz rfl (x:=.ref TO) rfl (aA (uJ hz (by simp) λg1 jx b1=>?_)))))
 replace jx:IsZip g1 z TI TO .ellipsis:=jx
 refine aA ?_;simp only[Kv,KR,xm,IJ];refine aA (aA (xZ ?_));show wpAny _ _ (Builtin.SmallTypes.nextOf (.ref p) >>= _) _ _ _;refine aA (YD hh (h1.extBut b1.extBut D.i1z) (ht.extBut b1.extBut D.l1z) hx λg2 e b2 he=>?_);obtain⟨oe,e1,e2⟩:=he;have z2:IsZip g2 z TI TO .ellipsis:=b2 _ _ D.i1z.symm jx;have ne:e≠z:=λw=>by subst w;rw[z2]at e1;cases e1;simp at e2
 exact uJ z2 (by simp) λg3 _ b3=>q g3 e (λc o c1 _ c3 _ w=>b3.extBut _ _ c1 (b2 _ _ c3 (b1.extBut _ _ c1 w))) ⟨oe,b3.extBut _ _ ne e1,e2⟩
noncomputable abbrev Ae(h:Heap)(t:Addr):Heap:=h.push {cls:=.type "tuple_iterator",data:=.fields #[.ref t,.int 0 0]}
abbrev zb(h:Heap)(t l:Addr):Heap:=(Ae h t).push {cls:=.type "list_iterator",data:=.fields #[.ref l,.int 0 0]}
abbrev wc(h:Heap)(t l:Addr):Heap:=(zb h t l).push {cls:=.type "tuple",data:=.seq #[.ref h.objs.size,.ref (Ae h t).objs.size]}
abbrev yL(h:Heap)(t l:Addr):Heap:=(wc h t l).push {cls:=.type "tuple",data:=.seq #[.none,.none]}
abbrev sy(h:Heap)(t l:Addr):Heap:=(yL h t l).push {cls:=.type "zip",data:=.fields #[.none,.bool false,.bool false,.ref (zb h t l).objs.size,.ref (wc h t l).objs.size]}
def Wk(t l:Addr)(xs ys:Array Value):Meets (Builtin.«zip.__new__» ⟨[.type "zip",.ref t,.ref l],[]⟩) (λ_ R s=>s.heap.IsTuple t xs/\s.heap.IsList l ys/\R (.ok (.ret (.ref (yL s.heap t l).objs.size))) {s with heap:=sy s.heap t l}) :=
 .of_wp λprog w A R s h=>by
  obtain⟨hp,g,d,tk,os⟩:=s;obtain⟨h1,h2,h3⟩:=h;have hsub:=sub_zip;have a1:Heap.IsTuple (Shared.heap ⟨hp,g,d,tk,os⟩) t xs:=h1;have a2:Heap.IsList (Shared.heap ⟨hp.push {cls:=.type "tuple_iterator",data:=.fields #[.ref t,.int 0 0]},g,d,tk,os⟩) l ys:=jhE h2 _
  wp_walk using wpAny_pyIter_tuple a1,tq a2
  nomatch _,rfl,h3
def zbr(h1:s.heap.IsTuple t xs)(h2:s.heap.IsList l ys)
  (q:∀ g,IsZip g (s.heap.objs.size+4) (s.heap.objs.size+2) (s.heap.objs.size+3) .none->IsPair g (s.heap.objs.size+2) (.ref s.heap.objs.size) (.ref (s.heap.objs.size+1))->IsPair g (s.heap.objs.size+3) .none .none->g.IsTupleIter s.heap.objs.size t 0->g.IsListIter (s.heap.objs.size+1) l 0 -> (∀c o,s.heap.get? c=some o->g.get? c=some o)->Q (.ref (s.heap.objs.size+4)) {s with heap:=g}):wpAny (model prog w) A (call (.type "zip") [.ref t,.ref l]) Q E s:=by
 refine callType_new F.called_zip (by decide) (F.typeCall_zip_2 _ _) (F.newCall_zip_2 _ _) (λobj=>F.args_object_init_3 obj _ _) F.entry_zip_new (Wk t l xs ys) ⟨h1,h2,?_⟩;have n1:(Ae s.heap t).objs.size=s.heap.objs.size+1:=nM ..;have n2:(zb s.heap t l).objs.size=s.heap.objs.size+2:=by rw[nM,n1]
 have n3:(wc s.heap t l).objs.size=s.heap.objs.size+3:=by rw[nM,n2]
 have n4:(yL s.heap t l).objs.size=s.heap.objs.size+4:=by rw[nM,n3]
 have u:∀{h:Heap}{o:Obj}{c:Addr}{v:Obj},h.get? c=some v->(h.push o).get? c=some v:=λe=>cv _ e
 have m5:(sy s.heap t l).get? (yL s.heap t l).objs.size=some _:=c8 _ rfl;have m4:(sy s.heap t l).get? (wc s.heap t l).objs.size=some _:=u (c8 _ rfl);have m3:(sy s.heap t l).get? (zb s.heap t l).objs.size=some _:=u (u (c8 _ rfl));have m2:(sy s.heap t l).get? (Ae s.heap t).objs.size=some _:=u (u (u (c8 _ rfl)));have m1:(sy s.heap t l).get? s.heap.objs.size=some _:=u (u (u (u (c8 _ rfl))));show _/\_;rw[n2,n3,n4]at m5;rw[n1,n2]at m3;rw[n3]at m4;rw[n1]at m2;rw[n4];nomatch ⟨_,m5,rfl⟩,q _ m5 m3 m4 ⟨_,m1,rfl,rfl⟩ ⟨_,m2,rfl,rfl⟩ λc o e=>u (u (u (u (u e))))
def zaq{z TI TO p r t l:Addr}{k:Nat}{xs ys:Array Value}{x y a b:Value}{Q:Option Value->Shared->Prop}(D:ZipApart z TI TO p r t l)
  (hz:IsZip s.heap z TI TO .none) (hI:IsPair s.heap TI (.ref p) (.ref r)) (hO:IsPair s.heap TO a b) (h1:s.heap.IsTupleIter p t k) (h2:s.heap.IsListIter r l k) (ht:s.heap.IsTuple t xs) (hl:s.heap.IsList l ys) (hx:xs[k]?=some x) (hy:ys[k]?=some y)
  (q:∀ g,IsZip g z TI TO (rawInt s.heap.objs.size)->IsPair g TO x y->g.IsTupleIter p t (k+1)->g.IsListIter r l (k+1)->IsPair g s.heap.objs.size x y -> (∀c o,c≠z->c≠TO->c≠p->c≠r->s.heap.get? c=some o->g.get? c=some o)->Q (some (.ref s.heap.objs.size)) {s with heap:=g}):wpAny (model prog w) A (pyNext (.ref z)) Q E s:=by
 have hT:s.TypeIs (.ref z) "zip" := ⟨_,hz,rfl⟩;unfold pyNext;exact aA (wpAny_attempt (uD (name:=ofString "__next__") hT wm (pB wm hT G6 (zal D hz hI hO h1 h2 ht hl hx hy λg a1 a2 a3 a4 a5 a6=>bg (q g a1 a2 a3 a4 a5 a6)) (KG _))))
def zcn{z TI TO p r t l:Addr}{k:Nat}{xs:Array Value}{a b:Value}{Q:Option Value->Shared->Prop}(hh:A.handled=none)(D:ZipApart z TI TO p r t l)
  (hz:IsZip s.heap z TI TO .none) (hI:IsPair s.heap TI (.ref p) (.ref r)) (hO:IsPair s.heap TO a b) (h1:s.heap.IsTupleIter p t k) (ht:s.heap.IsTuple t xs) (hx:xs[k]?=none)
  (q:∀g,(∀c o,c≠z->c≠TO->c≠p->c≠r->s.heap.get? c=some o->g.get? c=some o)->Q none {s with heap:=g}):wpAny (model prog w) A (pyNext (.ref z)) Q E s:=by
 have hT:s.TypeIs (.ref z) "zip" := ⟨_,hz,rfl⟩;unfold pyNext;refine aA (wpAny_attempt (uD (name:=ofString "__next__") hT wm (pB wm hT G6 (U4 hh D hz hI hO h1 ht hx λg e hk he=>?_) (KG _))));obtain⟨o,ho,hc⟩:=he;exact aA (wpAny_isInstance (T := "StopIteration") (b:=true) ⟨o,ho,hc⟩ isSubtype_stop (bg (q _ hk)))
end
def vf(K:Frag)(a b:Addr):It :=
 ⟨λi H=>∃xs ys x y,aG K H a xs/\ai K H b ys/\xs[i]?=some x/\ys[i]?=some y,λi H v H'=>∃T x y,H T=none/\v=.ref T/\H'=upd H T (.tup [x,y])/\(∀xs,aG K H a xs->xs[i]?=some x)/\∀ys,ai K H b ys->ys[i]?=some y,λi H=>∃xs,aG K H a xs/\xs.length<=i⟩
def Vu{P:Program}{w:World}{K:Frag}{elts:List Expr}{x1:Nat}{pos:Pos}(a b z TI TO i1 i2:Addr)(D:ZipApart z TI TO i1 i2 a b) :
  kA P w K (.Tuple elts x1 pos) (vf K a b) [z,TI,TO,i1,i2] z (λi h=>IsZip h z TI TO .none/\IsPair h TI (.ref i1) (.ref i2)/\(∃u v,IsPair h TO u v)/\h.IsTupleIter i1 a i/\h.IsListIter i2 b i) where
 mem:=by simp
 obj:=λi h st c hc=>by
  obtain⟨hz,dY,⟨u,v,eM⟩,⟨o1,e1,c1,d1⟩,⟨o2,e2,c2,d2⟩⟩:=st;simp only[ba,ia,ib]at hc;rcases hc with rfl|rfl|rfl|rfl|rfl
  ·exact⟨_,hz,λv z=>by cases z⟩
  ·exact⟨_,dY,λv z=>by cases z⟩
  ·exact⟨_,eM,λv z=>by cases z⟩
  ·exact⟨o1,e1,λv z=>by rw[d1]at z;cases z⟩
  ·exact⟨o2,e2,λv z=>by rw[d2]at z;cases z⟩
 keep:=λi h h' st k=>by
  obtain⟨hz,dY,⟨u,v,eM⟩,h1,h2⟩:=st;nomatch k z (by simp) _ hz,k TI (by simp) _ dY,⟨u,v,k TO (by simp) _ eM⟩,h1.at λo q=>k i1 (by simp) o q,h2.at λo q=>k i2 (by simp) o q
 item:=by
  intro X hP hw hK hc i aa s σ H E I hf st hg;subst hP hw hK;obtain⟨hz,dY,⟨u,v,eM⟩,h1,h2⟩:=st;obtain⟨xs,ys,x,y,hq,gq,hx,hy⟩:=hg;obtain⟨af,rv,p,hsz⟩:=I.tuple hq;obtain⟨its',tR,p',LF⟩:=I.list gq;obtain⟨ux,hu,ru⟩:=rv.get hx;obtain⟨uy,vb,tM⟩:=tR.get hy;refine zaq D hz dY eM h1 h2 (show s.heap.IsTuple a af.toArray from p) p'.isList (x:=ux) (y:=uy) (by simpa using hu) (by simpa using vb) λhV jx ES rq Dl hT k1=>⟨_,rfl,?_⟩
  refine Mf jx λiq pK sb=>?_
  have lz:z<s.heap.objs.size:=bo hz;have DD:s.heap.objs.size≠z:=qW lz;have kk:∀c o,c∉[z,TI,TO,i1,i2]->s.heap.get? c=some o->iq.get? c=some o:=λc o hc q=>by
   simp only[ba,ia,ib,not_or]at hc;exact (sb.2 c hc.1).trans (k1 c o hc.1 hc.2.2.1 hc.2.2.2.1 hc.2.2.2.2 q)
  have b9:IsPair iq s.heap.objs.size ux uy:=(sb.2 _ DD).trans hT;have Ef:IsPair iq TI (.ref i1) (.ref i2):=(sb.2 _ D.TIz).trans (k1 _ _ D.TIz D.TITO D.TIi1 D.TIi2 dY);exists .ref s.heap.objs.size,upd H s.heap.objs.size (.tup [x,y]),I.turnedL (t':=s.toks) _ kk hf (aJ _) ⟨by show 2<=sizeLine;decide,[ux,uy],.cons ru (.cons tM .nil),?_⟩,rfl,⟨_,x,y,I.hok.fresh (aJ _),rfl,rfl,λzs h=>by rw[I.tuple_inj h hq];exact hx,λzs h=>by rw[I.list_inj h gq];exact hy⟩,⟨pK,Ef,⟨ux,uy,(sb.2 _ D.TOz).trans ES⟩,?_,?_⟩,λc hc=>?_
  ·nomatch _,b9,rfl,0,rfl
  ·exact rq.at λo q=>(sb.2 _ D.i1z).trans q
  ·exact Dl.at λo q=>(sb.2 _ D.i2z).trans q
  ·have gE:c<s.heap.objs.size:=by
    simp only[ba,ia,ib]at hc;rcases hc with rfl|rfl|rfl|rfl|rfl
    ·exact lz
    ·exact bo dY
    ·exact bo eM
    ·obtain⟨o,q,_⟩:=h1;exact bo q
    ·obtain⟨o,q,_⟩:=h2;exact bo q
   rw[aO (dB gE)];exact (hf c hc).1
 done:=by
  intro X hP hw hK hc i aa s σ H E I hf st hg;subst hP hw hK;obtain⟨hz,dY,⟨u,v,eM⟩,h1,h2⟩:=st;obtain⟨xs,hq,hx⟩:=hg;obtain⟨af,rv,p,hsz⟩:=I.tuple hq;have hl:=rv.length;refine zcn (I.ok.hd hc) D hz dY eM h1 (show s.heap.IsTuple a af.toArray from p) (by simp;lia) λh' kk=>⟨rfl,I.turnedN (t':=s.toks) [z,TI,TO,i1,i2] (λc o hc q=>?_) hf⟩
  simp only[ba,ia,ib,not_or]at hc;exact kk c o hc.1 hc.2.2.1 hc.2.2.2.1 hc.2.2.2.2 q
 self:=λ_ _ _ _ _ st h=>yB st.1 h
def zbO(K:Frag)(ta:TA):TI:=λσ H R=>ta σ H λvs H1=>∃a b,vs=[.ref a,.ref b]/\(∃xs,aG K H1 a xs)/\(∃ys,ai K H1 b ys)/\R (vf K a b) H1
def Ze{X:Cx}{elts:List Expr}{x1:Nat}{p0 p pos:Pos}{a b:Expr}{ta:TA}(hg:Gl X "zip")(hm:X.mg "zip" = none)(ha:PA X [a,b] ta)(hs:starEach [a,b] X.env=(false,eval a X.env)::starEach [b] X.env:=by rfl)(mH:(backTo pos (starEach [b] X.env)).any (·.1)=false:=by rfl) :
  PI X (.Tuple elts x1 p0) (.Call (.Name "zip" p) [a,b] [] pos) (zbO X.K ta):=by
 intro aa s σ H R I h;refine Call_ (nX I hg hm OT (sS (aI (ha pos aa s σ H _ I h) λus s1 ⟨vs,H1,I1,r1,q1⟩=>?_) hs mH));obtain⟨l1,l2,rfl,⟨xs,hq⟩,⟨ys,gq⟩,q⟩:=q1;obtain⟨u,v,rfl,ru,rv⟩:=qO r1;cases (show u=Value.ref l1 from ru);cases (show v=Value.ref l2 from rv);obtain⟨af,rx,p,hz⟩:=I1.tuple hq;obtain⟨its',rx',p',DP⟩:=I1.list gq;have n1:l1<s1.heap.objs.size:=by obtain⟨o,q,_⟩:=p;exact bo q
 have n2:l2<s1.heap.objs.size:=by obtain⟨o,q,_⟩:=p'.isList;exact bo q
 refine zbr (show s1.heap.IsTuple l1 af.toArray from p) p'.isList λh' hz dY eM h1 h2 k=>yB hz ?_
 have I2:Inv X aa σ H1 {s1 with heap:=h'}:=I1.kept (t':=s1.toks) k;exists _,_,_,_,H1,rfl,I2,Vu l1 l2 _ _ _ _ _ (zipApart_new n1 n2),⟨hz,dY,⟨_,_,eM⟩,h1,h2⟩,λc hc=>?_,q;have fr:∀c,s1.heap.objs.size<=c->eo X aa H1 c:=λc hc=>I1.fpOk hc (I1.hok.fresh hc)
 simp only[ba,ia,ib]at hc;rcases hc with rfl|rfl|rfl|rfl|rfl<;>exact fr _ (by lia)
def zbM{K:Frag}{a b:Addr}{xs ys:List V}{g:TG}{tc:TT}{te:TE}{σ:St}{H:Hp}{R:List V->Hp->Addr->Prop}(EV:xs.length=ys.length)(Pv:Nat->List V->St->Hp->Prop)(h0:Pv 0 [] σ H)
  (hl:∀i zs σ H,i<=xs.length->Pv i zs σ H->aG K H a xs/\ai K H b ys/\zs.length<=i) (hz:xs.length<=sizeLine)
  (hs:∀i x y zs σ H T,xs[i]?=some x->ys[i]?=some y->Pv i zs σ H->H T=none->g (.ref T) σ (upd H T (.tup [x,y])) λσ2 H2=>tc σ2 H2 λb H3=>if b=true then te σ2 H3 λy H4=>Pv (i+1) (zs++[y]) σ2 H4 else Pv (i+1) zs σ2 H3)
  (hd:∀zs σ H,Pv xs.length zs σ H->∀D,H D=none->R zs H D) :
  ∃W:Nat->Nat->List V->St->Hp->Prop,(∃m,W 0 m [] σ H)/\∀i m zs σ H,W i m zs σ H ->
   ((vf K a b).stop i H/\∀D,H D=none->R zs H D) \/
   ((vf K a b).go i H/\zs.length<sizeLine/\∃ N:List V->St->Hp->Prop,(∀ vF σ' H',N vF σ' H'->∃ m',m'<m/\W (i+1) m' vF σ' H') /\ ∀x H',(vf K a b).yld i H x H'->g x σ H' λσ2 H2=>tc σ2 H2 λb H3=>if b=true then te σ2 H3 λy H4=>N (zs++[y]) σ2 H4 else N zs σ2 H3):=by
 exists λi m zs σ H=>m=xs.length-i/\i<=xs.length/\Pv i zs σ H,⟨xs.length,by simp,cb _,h0⟩,?_;rintro i m zs σ H ⟨rfl,hi,p⟩;obtain⟨q1,q2,q3⟩:=hl i zs σ H hi p;by_cases bE:i<xs.length
 ·have Eb:i<ys.length:=by lia
  refine .inr ⟨⟨xs,ys,xs[i],ys[i],q1,q2,by simp[bE],by simp[Eb]⟩,(by lia),Pv (i+1),λcH σ' H' p'=>⟨xs.length-(i+1),by lia,rfl,bE,p'⟩,λx H' y=>?_⟩;obtain⟨T,u,v,hT,rfl,rfl,y1,y2⟩:=y;exact hs i u v zs σ _ T (y1 xs q1) (y2 ys q2) p hT
 ·have e:i=xs.length:=by lia
  subst e;exact .inl ⟨⟨xs,q1,aJ _⟩,hd zs σ H p⟩
open PySem PySem.Spec PyProof.Rows
section
variable{X:Cx}
def Z0(i j:Int):Prop:=0<=j/\(intBits i:Int)*j<=2^27
def zaM:bH X (binaryOp .Pow) (rI Z0 λi j=>.int (i^j.toNat)):=tX λ_ _ _ _ _ _ _ hc q=>pow_int hc.1 hc.2 q
def Ul(hc:X.calm=true):gH X (.builtin "any") (λxs H Q=>∃(a:Addr) (bs:List Bool),xs=[.ref a]/\ai X.K H a (bs.map V.bl)/\Q (.bl (bs.any id)) H):=by
 intro aa s σ H xs us Q I r h;obtain⟨a,bs,rfl,hq,q⟩:=h;obtain⟨u,rfl,ru⟩:=ix r;cases (show u=Value.ref a from ru);obtain⟨af,rv,p,hz⟩:=I.list hq;have hl:=p.isList;have bE:a<s.heap.objs.size:=by obtain⟨_,e,_⟩:=hl;exact bo e
 refine call_any_walk (tq hl ?_);refine⟨s.heap.objs.size,[s.heap.objs.size,a],[s.heap.objs.size],af.toArray.size,_,_,λi=>(bs[i]?).getD false,rfl,LX (A:=X.A.in1) (I.ok.hd hc) _ a (dB bE) af.toArray,⟨⟨_,c8 _ rfl,rfl,rfl⟩,hl.push _⟩,λi v s' Q' E' hP hQ=>?_,λh' tk hk=>?_⟩
 ·obtain⟨b,e,rfl⟩:=Fj rv i v (by simpa using hP);simp only[e,yM]at hQ;exact kG hQ
 ·have e:((List.range af.toArray.size).any λi=>(bs[i]?).getD false)=bs.any id:=by
   have h1:=rv.length;rw[ay]at h1;rw[bJ,<-h1,rN,yb,yb];constructor
   ·rintro⟨i,hi,z⟩;have mL:=kO.mp hi;simp only[dD mL,yM]at z;nomatch _,nV mL,z
   ·rintro⟨b,hb,z⟩;obtain⟨i,hi,rfl⟩:=LY hb;exact⟨i,kO.mpr hi,by simpa [dD hi] using z⟩
  rw[e];exists .bl (bs.any id),H,I.kept (t':=tk) (λb o e=>hk b o (λhm=>?_) (cv _ e)),rfl,q;rw[bh.mp hm]at e;exact oN _ (bo e)
def XM:fI X "list.index" (λx vs H Q=>∃(l:Addr) (xs:List V) (y:V) (j:Nat),x=.ref l/\vs=[y]/\H l=some (.lst xs)/\lA y=true/\xs.all lA=true/\(∃z,xs[j]?=some z/\jm z y=true)/\(∀m z,m<j->xs[m]?=some z->jm z y=false)/\Q (.int (j:Int)) H):=by
 intro aa s σ H x vs v us Q I rx rv h;obtain⟨l,xs,y,j,rfl,rfl,hH,fy,fs,⟨z,hz,ez⟩,Cj,q⟩:=h;cases rx;obtain⟨u,rfl,ru⟩:=rv.one;obtain⟨sz,af,n,r,e⟩:=(show cn X.prog X.w H s.heap l (.lst xs) from I.hok l _ hH);have hn:=r.length;have hj:j<xs.length:=(d6.mp hz).1;have at_:∀m (hm:m<af.length) w,xs[m]?=some w->i9 y af[m]=jm w y:=λm hm w hw=>by
  obtain⟨u',vb,tM⟩:=r.get hw
  have:af[m]=u':=by
   have:=dD hm
   rw[vb]at this;exact (cD this).symm
  rw[this];exact BA tM (gz.mp fs w (cM hw))
 have nR:(j:Int)<2^63-1:=by
  have:j<sizeLine:=cy hj sz
  have h2:(sizeLine:Nat)<2^62:=by decide
  lia
 refine ke IX ⟨_,e,rfl⟩ JM (L9 _ _)
  (Qy l af.toArray n none #[] u (i9 y) j (by rw[bJ];lia) nR ?_ ?_) ⟨e,λw hw=>yf ru fy r fs w (by simpa using hw),⟨.int _,H,I.tok _,⟨_,rfl⟩,q⟩⟩
 ·show i9 y af[j]=true;rw[at_ j (by omega) z hz];exact ez
 ·intro m hm bE;have OI:m<xs.length:=by lia
  show i9 y af[m]=false;rw[at_ m (by assumption) _ (dD OI)];exact Cj m _ bE (dD OI)
end
end L2
namespace My
open PySem L2 OF
noncomputable def Ej:List Nat:=[97,98,99,100,101,102,103,104,105,106,107,108,109,110,111,112,113,114,115,116,117,118,119,120,121,122]
def Nc:("abcdefghijklmnopqrstuvwxyz" : Str)=S Ej:=by decide+kernel
def Kb:∀c:Nat,c<128->(!(Builtin.Str.occurrences (S Ej) (S [c]) 0 (S Ej).length 1).isEmpty)=decide (97<=c/\c<123):=by decide+kernel
def Jp:∀c:Nat,c<128->(!(Builtin.Str.occurrences (S jP) (S [c]) 0 (S jP).length 1).isEmpty)=decide (48<=c/\c<58):=by decide+kernel
noncomputable def aP(w:List Nat):Bool:=decide (1<=w.length)&&(decide (w.length<=8)&&w.all λc=>decide (97<=c/\c<123))
noncomputable def cf(w:List Nat):Bool:=if w.head?=some 48 then decide (w=[48])else decide (1<=w.length)&&(decide (w.length<=18)&&w.all λc=>decide (48<=c/\c<58))
inductive Kd where
 |name|letter|bit|number|divisor
noncomputable def Kd.s:Kd->Str
 |.name => "name" |.letter => "letter" |.bit => "bit" |.number => "number" |.divisor => "divisor"
def bI:Kd->List Nat->Bool
 |.name,w=>aP w
 |.letter,w=>decide (w.length=1)&&w.all λc=>decide (97<=c/\c<113)
 |.bit,w=>decide (w=[48]) || decide (w=[49])
 |.number,w=>cf w
 |.divisor,w=>cf w && !decide (w=[48])
def il:Kd->List Nat->V
 |.name,w=>.str (S w)
 |.letter,w=>.int (Txt.find (S kZ) (S w))
 |_,w=>.int ((digitsVal w:Nat):Int)
def gB(ks:List Kd)(ws:List (List Nat)):Option (List V) :=
 if ks.length=ws.length/\(ks.zip ws).all (λp=>bI p.1 p.2)=true then some ((ks.zip ws).map λp=>il p.1 p.2)else none
def d9(ks:Option (List Kd))(ws:List (List Nat)):Option (List V):=match ks with|none=>none|some l=>gB l ws
def DN(K:Frag)(kv:V):Option (List Kd)->Prop
 |none=>kv=.non
 |some l=>∃a,kv=.ref a/\l.length<=100/\∀G:Hp,aG K G a (l.map λk=>V.str k.s)
def FV(K:Frag)(p:Str×Addr)(q:Str×List Kd):Prop:=p.1=q.1/\q.2.length<=100/\∀G:Hp,aG K G p.2 (q.2.map λk=>V.str k.s)
def cG(t:List (Str×List Kd))(w:List Nat):Option (List Kd):=(t.find? λp=>decide (p.1=S w)).map (·.2)
noncomputable def iH:List (Str×List Kd):=[("show",[.name]),("worth",[.name,.number]),("alike",[.name,.name]),("rest",[.name,.name,.divisor]),("least",[.name]),("ways",[.name]),("unknowns",[.name])]
noncomputable def f7:List (Str×List Kd):=[("plus",[.name,.name]),("less",[.name,.name]),("times",[.name,.name]),("fixed",[.name,.letter,.bit]),("put",[.name,.letter,.name])]
def Li{K:Frag}{kvs:List (Str×Addr)}{t:List (Str×List Kd)}(h:Paired (FV K) kvs t)(w:List Nat) :
  (∃b l,k9 kvs (S w)=some b/\cG t w=some l/\DN K (.ref b) (some l))\/(k9 kvs (S w)=none/\cG t w=none):=by
 induction h with
 |nil=>exact .inr ⟨rfl,rfl⟩
 |@cons p r ps rs Rq _ ih =>
  obtain⟨e,e1,e2⟩:=Rq;unfold k9 cG;rw[fV,fV,<-e];by_cases z:p.1=S w
  ·rw[aC z];exact .inl ⟨_,_,rfl,rfl,_,rfl,e1,e2⟩
  ·rw[aL z];exact ih
def BC:Option (List Nat)->V
 |none=>.non
 |some n=>.str (S n)
def jy(n sg t:List Nat):Option (Option (List Nat)×List Nat×List V) :=
 if sg=[61]/\(cG f7 ((aX t).headD [])).isSome=true then (d9 (cG f7 ((aX t).headD [])) (aX t).tail).map λvs=>(some n,(aX t).headD [],vs)else some (some n,sg,[.str (S t)])
def eX(l:List Nat):Option (Option (List Nat)×List Nat×List V) :=
 if 2<(aX l).length/\((aX l).getD 1 []=[61]\/(aX l).getD 1 []=[58,61])/\aP ((aX l).headD [])=true then jy ((aX l).headD []) ((aX l).getD 1 []) (l.drop (((aX l).headD []).length+((aX l).getD 1 []).length+2))
 else (d9 (cG iH ((aX l).headD [])) (aX l).tail).map λvs=>(none,(aX l).headD [],vs)
open PySem L2 OF
def K5(ls:List Nat)(l:av):Prop:=∀t∈l,0<=t.1/\∀j,t.1.toNat.testBit j=true->j∈ls
def eZ(l:av):Prop:=∃ls:List Nat,ls.length<=5/\K5 ls l
def K5.app(h:K5 ls a)(k:K5 ls b):K5 ls (a++b):=λt ht=>(bW.mp ht).elim (h t) (k t)
def K5.sub(h:K5 ls b)(k:∀t∈a,t.1∈b.map (·.1)):K5 ls a:=λt ht=>by
 obtain⟨u,hu,e⟩:=bV.mp (k t ht);rw[<-e];exact h u hu
def K5.of(h:K5 ls l)(k:bx f l):K5 ls f:=h.sub k.src
def K5.map(h:K5 ls l)(g:Int×Int->Int):K5 ls (l.map λt=>(t.1,g t)):=λt ht=>by
 obtain⟨u,hu,rfl⟩:=bV.mp ht;exact h u hu
def K5.prod(h:K5 ls a)(k:K5 ls b):K5 ls (bF a b):=λx hx=>by
 obtain⟨t,ht,u,hu,rfl⟩:=PD hx;obtain⟨t0,t1⟩:=h t ht;obtain⟨u0,u1⟩:=k u hu;obtain⟨m,hm⟩:=mf t0;obtain⟨n,hn⟩:=mf u0;rw[hm]at t1;rw[hn]at u1;have e:Builtin.bitOr t.1 u.1=((m|||n:Nat):Int):=by rw[hm,hn];exact Bk _ _
 exists by show 0<=Builtin.bitOr t.1 u.1;rw[e];exact iW _,λj hj=>?_;have j5:(m|||n).testBit j=true:=by
  have:(Builtin.bitOr t.1 u.1).toNat=m|||n:=by rw[e];rfl
  rw[<-this];exact hj
 rw[sO,wk]at j5;exact j5.elim (t1 j) (u1 j)
def K5.out(h:K5 ls l)(k:Nat):K5 ls (iE k l):=λt ht=>h t (BY ht).1
def K5.off(h:K5 ls l)(k:Nat):K5 ls (fM k l):=λt ht=>by
 obtain⟨t0,u,hu,_,e,hb⟩:=O7 (λt ht=>(h t ht).1) ht;exists t0,λj hj=>(h u hu).2 j ?_;obtain⟨m,hm⟩:=mf (h u hu).1;have e8:m.testBit k=true:=by
  have:u.1.toNat=m:=by rw[hm];rfl
  unfold ij at hb;rw[this]at hb;exact hb
 have hle:2^k<=m:=zU e8;have et:t.1.toNat=m-2^k:=by
  rw[e,hm]
  have:((2:Int)^k)=((2^k:Nat):Int):=by norm_cast
  rw[this];lia
 rw[et]at hj;rw[hm];show m.testBit j=true;have hx:m-2^k=we m k false:=by unfold we;rw[aq (by decide),ax e8]
 rw[hx,Rk]at hj;by_cases hjk:j=k
 ·rw[hjk];exact e8
 ·rw[aq hjk]at hj;exact hj
def K5.keys{ls:List Nat}{ks:List Int}(hn:ks.Nodup)(h:∀k∈ks,0<=k/\∀j,k.toNat.testBit j=true->j∈ls):ks.length<=2^ls.length:=by
 have:=B5 ls (ks.map Int.toNat) (PF _ (λx y EV=>EV) ((Jn.mpr fun {a b} hab=>?_))) λk hk j hj=>?_
 ·rw[ay]at this;exact this
 ·have ha:=h a (hab.subset (by simp));have hb:=h b (hab.subset (by simp));have cY:=(Jn.mp hn) hab;exact λz=>cY (by have:=ha.1;have:=hb.1;lia)
 ·obtain⟨x,hx,rfl⟩:=bV.mp hk;exact (h x hx).2 j hj
def LR{d l:av}(h:DictOf d l)(hf:eZ l):d.length<64:=by
 obtain⟨ls,h5,k⟩:=hf
 have:=K5.keys (ls:=ls) h.nd λx hx=>by
  obtain⟨t,ht,rfl⟩:=bV.mp (h.src x hx);exact k t ht
 rw[ay]at this;exact je (bp this (dm (by decide:2>0) h5:2^ls.length<=2^5)) (by decide)
def zb0(h:eZ (a++b)):eZ b:=let ⟨ls,h5,k⟩:=h; ⟨ls,h5,λt ht=>k t (cx _ ht)⟩
def zco(h:eZ b)(k:∀t∈a,t.1∈b.map (·.1)):eZ a:=let ⟨ls,h5,z⟩:=h; ⟨ls,h5,z.sub k⟩
def zbd(h:eZ l)(g:Int×Int->Int):eZ (l.map λt=>(t.1,g t)):=let ⟨ls,h5,k⟩:=h; ⟨ls,h5,k.map g⟩
def Zp(K:Frag):Sp:=λvs H Q _=>∃(a:Addr) (l:av),vs=[.ref a]/\TL K H a l/\l.length<=100000/\eZ l /\
 ∀(b:Addr) (f:av) (H':Hp),H b=none->a7 H' b f->bx f l->f.length<=l.length->ag H H'->Q (.ref b) H'
def Sm.ln:Sm->Nat
 |.bit _=>1
 |.fix _=>1
 |.no s=>Sm.ln s+1
 |.two _ s t=>Sm.ln s+Sm.ln t
theorem Sm.ln_pre:∀{s p:Sm},p∈s.pre->p.ln<=s.ln
 |.bit k,p,hp=>by rw[bh.mp hp];exact aJ _
 |.fix b,p,hp=>by rw[bh.mp hp];exact aJ _
 |.no s,p,hp=>by
  rcases ba.mp hp with rfl|z
  ·exact aJ _
  ·exact O9 (Sm.ln_pre (s:=s) z)
 |.two w s t,p,hp=>by
  rcases ba.mp hp with rfl|z
  ·exact aJ _
  ·show _<=s.ln+t.ln;rcases bW.mp z with z|z
   ·have:=Sm.ln_pre (s:=t) z;lia
   ·have:=Sm.ln_pre (s:=s) z;lia
theorem wZ:∀s:Sm,ka s+1<=2*s.ln
 |.bit _=>aJ _
 |.fix _=>aJ _
 |.no s=>by have:=wZ s;show ka s+1+1<=2*(s.ln+1);lia
 |.two _ s t=>by have:=wZ s;have:=wZ t;show ka s+ka t+1+1<=2*(s.ln+t.ln);lia
def Ym(hx:x<2^a)(hy:y<2^c)(h5:a+c<=5)(SX:x<=2^n)(YZ:y<=2^n):x*y<=(n+1)*2^n:=by
 match n,SX,YZ with
 |0,h,k=>exact kd h k
 |1,h,k=>exact kd h k
 |2,h,k =>
  by_cases z:x<=3
  ·exact kd z k
  ·have ha:2<a:=by
    rcases kb 2 a with y|y
    ·exact y
    ·have:=dm (show 2>0 by decide) y;lia
   have hc:=dm (show 2>0 by decide) (show c<=2 by lia);rw[C2];exact kd (show y<=3 by lia) h
 |n+3,_,_ =>
  have h1:x*y<=2^a*2^c:=kd (dq hx) (dq hy);rw[<-yU]at h1;have h2:=dm (show 2>0 by decide) h5;have h3:4*2^3<=(n+3+1)*2^(n+3):=kd (by lia) (dm (by decide) (by lia));exact bp h1 (bp h2 h3)
def zcH(hx:x<2^a)(hy:y<2^c)(hm:m<=x+y+x*y):m<2^(a+c):=by
 have h:(x+1)*(y+1)<=2^a*2^c:=kd hx hy;rw[<-yU,FP,xS]at h;lia
def bx.cnt(h:bx f l):f.length<=l.length:=by
 have:=uQ (xD h.toIsForm) (B:=l.map (·.1)) λx hx=>by
  obtain⟨t,ht,rfl⟩:=bV.mp hx;exact h.src t ht
 simpa using this
def uC(hI:IsForm f)(h:∀k,aK f k=aK L k):bx f L:=⟨hI,h,λp hp=>by
 by_cases z:p.1∈L.map (·.1)
 ·exact z
 ·have h1:=CH hI p hp;rw[h,si L p.1 λq hq e=>z (bV.mpr ⟨q,hq,e⟩)]at h1;exact absurd h1.symm (hI.nz p hp)⟩
def Sm.tl:Sm->av
 |.bit k=>[((2:Int)^k,1)]
 |.fix b=>[(0,b)]
 |.no s=>vj (Sm.tl s)
 |.two w s t=>gD w (Sm.tl s) (Sm.tl t)
def zan(w:Nat)(l o:av):(gD w l o).length<=l.length+o.length+l.length*o.length:=by
 unfold gD;split
 ·rw[uA];lia
 ·rw[aS,aS,ay,uA];lia
theorem sI:∀s:Sm,s.tl.length<2^s.ln
 |.bit _=>by show 1<2^1;decide
 |.fix _=>by show 1<2^1;decide
 |.no s=>by
  have:=sI s
  show (vj s.tl).length<2^(s.ln+1);unfold vj;rw[aS,ay,kN];show 1+_<_;lia
 |.two w s t=>zcH (sI s) (sI t) (zan w s.tl t.tl)
def BN(b:Int):K5 ls [(0,b)]:=λt ht=>by rw[bh.mp ht];exact⟨JS _,λj hj=>by simp at hj⟩
def K5.word(w:Nat)(h:K5 ls l)(k:K5 ls o):K5 ls (gD w l o):=by
 unfold gD;split
 ·exact h.prod k
 ·exact (h.app k).app ((h.prod k).map _)
theorem xu:∀{s:Sm},s.ok (λk=>k∈ls)->K5 ls s.tl
 |.bit k,h=>λt ht=>by
  rw[bh.mp ht];exists by rw[EX];exact iW _,λj hj=>?_;rw[EX,oJ,uZ]at hj;rw[<-br hj];exact h
 |.fix b,h=>BN b
 |.no s,h=>(BN 1).app ((xu (s:=s) h).map _)
 |.two w s t,h=>K5.word w (xu h.2.1) (xu h.2.2)
theorem yk:∀{s:Sm},s.ok p->∀t∈s.tl,4*t.2.natAbs<=4^s.ln
 |.bit k,h,t,ht=>by rw[bh.mp ht];exact aJ _
 |.fix b,h,t,ht=>by
  rw[bh.mp ht];rcases (show b=0\/b=1 from h)with rfl|rfl<;>decide
 |.no s,h,t,ht=>by
  show _<=4^(s.ln+1);rw[kN];rcases bW.mp ht with z|z
  ·rw[bh.mp z]
   have:=Dq (n:=s.ln) (show 0<4 by decide)
   show 4*1<=_;lia
  ·obtain⟨u,hu,rfl⟩:=bV.mp z
   have:=yk (s:=s) h u hu
   rw[Int.natAbs_neg];lia
 |.two w s t,h,x,hx=>by
  show _<=4^(s.ln+t.ln);have p1:∀u∈s.tl,4*u.2.natAbs<=4^s.ln:=yk h.2.1;have p2:∀u∈t.tl,4*u.2.natAbs<=4^t.ln:=yk h.2.2;rw[yU];have q1:=Dq (n:=s.ln) (show 0<4 by decide);have q2:=Dq (n:=t.ln) (show 0<4 by decide);have pr:∀u∈bF s.tl t.tl,16*u.2.natAbs<=4^s.ln*4^t.ln:=λu hu=>by
   obtain⟨y,hy,v,hv,rfl⟩:=PD hu
   have:=kd (p1 y hy) (p2 v hv)
   show 16*(y.2*v.2).natAbs<=_;rw[Fu];have e:4*y.2.natAbs*(4*v.2.natAbs)=16*(y.2.natAbs*v.2.natAbs):=by rw[Nat.mul_mul_mul_comm]
   lia
  have up:∀{a b c:Nat},a<=b->0<c->a<=b*c:=fun {a b c} h k=>bp h (Nat.le_mul_of_pos_right _ k)
  have cw:x∈gD w s.tl t.tl:=hx;unfold gD at cw;split at cw
  ·have:=pr x cw;lia
  ·rcases bW.mp cw with z|z
   ·rcases bW.mp z with y|y
    ·exact up (p1 x y) q2
    ·rw[C2 (4^s.ln)];exact up (p2 x y) q1
   ·obtain⟨u,hu,rfl⟩:=bV.mp z
    have:=pr u hu
    show 4*(u.2*_).natAbs<=_;rw[Fu];split
    ·show 4*(u.2.natAbs*1)<=_;lia
    ·show 4*(u.2.natAbs*2)<=_;lia
def YI(ha:bx l a)(hb:bx o b)(h:bx f (gD w l o)):bx f (gD w a b):=uC h.toIsForm λk=>by
 have e:∀k,aK (bF l o) k=aK (bF a b) k:=λk=>by rw[CZ hb.val,L6,CZ ha.val,L6]
 rw[h.val];unfold gD;split
 ·exact e k
 ·rw[eE,eE,eE,eE,ha.val,hb.val];congr 1;have m:∀(n:Int) (x:av),aK (x.map λt=>(t.1,t.2*n)) k=aK x k*n:=λn x=>by rw[zA,zA,A4]
  rw[m,m,e]
def zcm(ha:bx l a)(hi:IsForm f)(h:∀k,aK f k=aK [(0,1)] k-aK l k):bx f (vj a):=uC hi λk=>by
 unfold vj;rw[h,eE,oX,ha.val];lia
def K5.low(h:K5 ls f)(yl:∀x∈ls,x<16):∀t∈f,0<=t.1/\t.1<2^16:=λt ht=>by
 obtain⟨h0,hb⟩:=h t ht;have h1:t.1.toNat<2^16:=Bg _ λj hj=>by
  cases z:t.1.toNat.testBit j
  ·rfl
  ·have:=yl j (hb j z);lia
 lia
def SA:Sm->Str->List av->Prop
 |.no s,w,fs=>w = "not" /\ ∃f,fs=[f]/\bx f s.tl
 |.two j s t,w,fs=>w=wd j/\j<3/\∃f g,fs=[f,g]/\bx f s.tl/\bx g t.tl
 |_,_,_=>False
def xU(s:Sm)(f:av):Prop:=bx f s.tl
def KP(h:b≠0):bx [(a,b)] [(a,b)]:=bx.self ⟨Og ..,λp hp=>by rw[bh.mp hp];exact h⟩
open PySem L2 OF
abbrev eQ:=List (List Nat×av)
def kC(H:Hp)(kv:bO×V)(nf:List Nat×av):Prop:=kv.1=Sum.inr (S nf.1)/\∃a,kv.2=.ref a/\a7 H a nf.2
def pO(H:Hp)(d:Addr)(st:eQ):Prop:=∃kvs,H d=some (.dK kvs)/\Paired (kC H) kvs st
noncomputable def eY(st:eQ)(n:List Nat):Option av:=(st.find? λp=>decide (p.1=n)).map (·.2)
noncomputable def t9(st:eQ)(n:List Nat)(f:av):eQ:=if (st.any λp=>decide (p.1=n))=true then st.map (λp=>if p.1=n then (p.1,f)else p)else st++[(n,f)]
def yD:(Sum.inr (S a):bO)=Sum.inr (S b)↔a=b:=⟨λz=>d0 (Ak z),λz=>by rw[z]⟩
def zbI(h:Paired (kC H) kvs st)(n:List Nat) :
  (gO kvs (Sum.inr (S n))=none/\eY st n=none)\/∃a f,gO kvs (Sum.inr (S n))=some (.ref a)/\eY st n=some f/\a7 H a f:=by
 induction h with
 |nil=>exact .inl ⟨rfl,rfl⟩
 |@cons p q ps qs kD _ ih =>
  obtain⟨e,a,ea,hT⟩:=kD;by_cases z:q.1=n
  ·refine .inr ⟨a,q.2,?_,?_,hT⟩
   ·rw[vq (by rw[e,z]),ea]
   ·unfold eY;rw[fV,aC z];rfl
  ·have e1:gO (p::ps) (Sum.inr (S n))=gO ps (Sum.inr (S n)):=uF (by rw[e];exact λy=>z (yD.mp y));have e2:eY (q::qs) n=eY qs n:=by unfold eY;rw[fV,aL z]
   rw[e1,e2];exact ih
def zcg(h:Paired (kC H) kvs st)(n:List Nat):(kvs.any λkv=>decide (kv.1=Sum.inr (S n)))=st.any λp=>decide (p.1=n):=by
 induction h with
 |nil=>rfl
 |@cons p q ps qs kD _ ih =>
  rw[ju,ju,ih,kD.1];congr 1;by_cases z:q.1=n
  ·rw[aC z,aC (yD.mpr z)]
  ·rw[aL z,aL λy=>z (yD.mp y)]
def YR(hT:a7 H a f)(h:Paired (kC H) kvs st):Paired (kC H) (kvs.map λkv=>if kv.1=Sum.inr (S n)then (kv.1,V.ref a)else kv) (st.map λp=>if p.1=n then (p.1,f)else p):=by
 induction h with
 |nil=>exact .nil
 |@cons p q ps qs kD _ ih =>
  refine .cons ?_ ih;show kC H (if p.1=Sum.inr (S n)then (p.1,V.ref a)else p) (if q.1=n then (q.1,f)else q);by_cases z:q.1=n
  ·rw[ax (by rw[kD.1,z]),ax z];nomatch kD.1,a,rfl,hT
  ·rw[aq (by rw[kD.1];exact λy=>z (yD.mp y)),aq z];exact kD
def Vk(h:Paired (kC H) kvs st)(hT:a7 H a f):Paired (kC H) (fH kvs (Sum.inr (S n)) (.ref a)) (t9 st n f):=by
 unfold fH t9;rw[zcg h n];split
 ·exact YR hT h
 ·exact rM h ⟨rfl,a,rfl,hT⟩
def a7.keepD(h:a7 H a l)(k:aV b H H')(hb:H b=some (.dK kvs)):a7 H' a l:=by
 obtain⟨ps,h1,h2⟩:=h;nomatch ps,k _ _ (λz=>by rw[z,hb]at h1;cases h1) h1,h2.keep λp xs e=>k p _ (λz=>by rw[z,hb]at e;cases e) e
def R4(k:aV b H H')(hb:H b=some (.dK kv0))(h:Paired (kC H) kvs st):Paired (kC H') kvs st :=
 Paired.mapP h λp q ⟨e,a,ea,hT⟩=>⟨e,a,ea,a7.keepD hT k hb⟩
def pO.keep(h:pO H d st)(s:ag H H'):pO H' d st :=
 let ⟨kvs,h1,h2⟩:=h; ⟨kvs,s _ _ h1,Paired.mapP h2 λp q ⟨e,a,ea,hT⟩=>⟨e,a,ea,hT.keep s⟩⟩
def pO.put(h1:H d=some (.dK kvs))(h2:Paired (kC H) kvs st)(hT:a7 H a f):pO (upd H d (.dK (fH kvs (Sum.inr (S n)) (.ref a)))) d (t9 st n f) :=
 ⟨_,au,Vk (R4 aV.upd h1 h2) (a7.keepD hT aV.upd h1)⟩
structure iB(C:Addr)(H:Hp)(p d:Addr)(st:eQ):Prop where
 ob:∃dx,H p=some (.ins C dx [("forms",.ref d)])
 dc:pO H d st
def iB.keep(h:iB C H p d st)(s:ag H H'):iB C H' p d st :=
 ⟨let ⟨dx,e⟩:=h.ob; ⟨dx,s _ _ e⟩,h.dc.keep s⟩
def DI(l:av):Prop:=∃f,bx f (bF l l)/\f=l
noncomputable def mU(w:Nat):Str:=if w=0 then "plus" else if w=1 then "less" else "times"
def EH(w:Nat)(l m:av):av:=if w=0 then l++m else if w=1 then l++m.map (λt=>(t.1,-t.2))else bF l m
def zbf(h:w<3):decide (V.str (mU w)=V.str "=")=false/\decide (V.str (mU w)=V.str ":=")=false/\decide (V.str (mU w)=V.str "fixed")=false/\decide (V.str (mU w)=V.str "put")=false:=by
 obtain rfl|rfl|rfl:w=0\/w=1\/w=2:=by lia
 ·exact⟨by decide,by decide,by decide,by decide⟩
 ·exact⟨by decide,by decide,by decide,by decide⟩
 ·exact⟨by decide,by decide,by decide,by decide⟩
inductive uf where
 |form (n t:List Nat)|stat (n:List Nat) (s:Sm)|fixd (n a:List Nat) (k:Nat) (b:Int)|put (n a:List Nat) (k:Nat) (b:List Nat)|two (w:Nat) (n a b:List Nat)
def uf.wd:uf->Str
 |.form _ _ => "=" |.stat _ _ => ":=" |.fixd _ _ _ _ => "fixed" |.put _ _ _ _ => "put" |.two w _ _ _=>mU w
set_option tactic.hygienic true in
def OV(ha:a.natAbs<10^60)(hb:b.natAbs<10^60):IntMulOk a b:=by
 have key:∀x:Int,x.natAbs<10^60->intBits x<=200:=λx hx=>by
  unfold intBits;split
  ·exact cb _
  ·rename_i h;have h0:x.natAbs≠0:=λz=>h (by simp;lia)
   have:x.natAbs.log2<200:=(tW h0).mpr (FI hx (by decide+kernel))
   assumption
 have h1:=key a ha;have h2:=key b hb;unfold IntMulOk;intro z;rw[eL,eL]at z;have z2:=z.2;unfold Builtin.Int.intTooBig at z2
 have:(intBits a:Int)+(intBits b:Int)>bitsLine:=by simpa using z2
 have N4:(400:Int)<=bitsLine:=by decide
 lia
noncomputable def eI(w:Nat):List Nat:=if w=0 then [112,108,117,115]else if w=1 then [108,101,115,115]else [116,105,109,101,115]
def uf.wl:uf->List Nat
 |.form _ _=>[61]|.stat _ _=>[58,61]|.fixd _ _ _ _=>[102,105,120,101,100]|.put _ _ _ _=>[112,117,116]|.two w _ _ _=>eI w
def wl_S(c:uf):S c.wl=c.wd:=by
 cases c with
 |form _ _=>show S [61]=ofString "=";decide+kernel
 |stat _ _=>show S [58,61]=ofString ":=";decide+kernel
 |fixd _ _ _ _=>show S [102,105,120,101,100]=ofString "fixed";decide+kernel
 |put _ _ _ _=>show S [112,117,116]=ofString "put";decide+kernel
 |two w _ _ _ =>
  show S (eI w)=mU w;unfold eI mU;split
  ·decide+kernel
  split
  ·decide+kernel
  ·decide+kernel
open PySem L2 OF
def zb6(h0:ws≠[])(h:∀w∈ws,32∉w):aX (bM 32 ws)=ws:=B6 (gT _) h0 (nF _) h (n6 _)
noncomputable def gi:List Nat:=[102,105,120,101,100]
noncomputable def ji:List Nat:=[112,117,116]
def nE:("plus" : Str)=S [112,108,117,115]/\("less" : Str)=S [108,101,115,115]/\("times" : Str)=S [116,105,109,101,115]/\("fixed" : Str)=S [102,105,120,101,100]/\("put" : Str)=S [112,117,116]:=by decide+kernel
theorem LU:∀{l:av},(∀t∈l,t.2.natAbs<=B)->∀k,(aK l k).natAbs<=l.length*B
 |[],_,k=>by simp[aK]
 |t::r,h,k=>by
  have ih:=LU (l:=r) (λu hu=>h u (by simp[hu])) k;have h1:=h t (by simp);rw[aW,Kc];unfold aK;split<;>lia
def Hd(hF:bx f l)(hl:l.length<=n)(h:∀t∈l,t.2.natAbs<=B)(hC:n*B<C):∀t∈f,t.2.natAbs<C:=λt ht=>by
 have h1:=LU h t.1;rw[<-hF.val,CH hF.toIsForm t ht]at h1;exact je (bp h1 (AD _ hl)) hC
def TZ(h:∀t∈l,t.2.natAbs<=A)(h':∀t∈m,t.2.natAbs<=B):∀t∈bF l m,t.2.natAbs<=A*B:=λt ht=>by
 obtain⟨u,hu,z⟩:=Cs.mp ht;obtain⟨v,hv,rfl⟩:=bV.mp z;show (u.2*v.2).natAbs<=_;rw[Fu];exact kd (h u hu) (h' v hv)
theorem F1:∀ws:List (List Nat),(∀w∈ws,∀c∈w,c<128)->∀c∈bM 32 ws,c<128
 |[],_,c,hc=>by cases hc
 |[w],h,c,hc=>h w (by simp) c hc
 |w::v::r,h,c,hc=>by
  have ih:=F1 (v::r) λx hx=>h x (by simp[ba.mp hx])
  have nW:c∈w++32::bM 32 (v::r):=hc;rcases bW.mp nW with z|z
  ·exact h w (by simp) c z
  ·rcases ba.mp z with rfl|z
   ·decide
   ·exact ih c z
def Aq{p:Nat->Prop}{s:Sm}{f:av}(ho:s.ok p)(hl:s.ln<=5)(hF:bx f s.tl):∀t∈f,t.2.natAbs<10^60:=by
 have h1:=sI s;have h2:=dm (show 2>0 by decide) hl;have h3:=dm (show 4>0 by decide) hl;refine Hd (n:=32) (B:=1024) hF (by lia) (λt ht=>?_) (by decide+kernel)
 have:=yk ho t ht
 lia
def cu(h:H e=some (.lst [.str x])):Is H (.ref e) (.lst [.str x]):=Ss h (by
 unfold a8;exact⟨_,[],rfl,cX.mpr rfl,by unfold a8;rfl⟩)
end My
namespace L2
open PySem PySem.Spec PyProof.Rows
def WG(ta tb:TE):TE:=λσ H Q=>ta σ H λx H1=>∃i:Str,x=.str i/\i.length<=sizeLine/\if i.length=0 then tb σ H1 Q else Q (.str i) H1
def SH(ha:PE X a ta)(hb:PE X (.BoolOp .Or (b::rest) pos) tb):PE X (.BoolOp .Or (a::b::rest) pos) (WG ta tb):=by
 intro aa s σ H Q I h;refine BoolOp_or (aI (ha aa s σ H _ I h) λv s1 ⟨x,H1,I1,r1,q1⟩=>?_);obtain⟨i,rfl,hz,q1⟩:=q1;obtain⟨t,rfl⟩:=r1;have h2:(sizeLine:Int)<2^63:=by decide
 refine Kx (by lia) ?_;by_cases z:i.length=0
 ·rw[ax z]at q1;rw[show ((i.length:Int) != 0)=false by rw[z];rfl];exact hb aa _ σ H1 Q (I1.tok _) q1
 ·rw[aq z]at q1;rw[show ((i.length:Int) != 0)=true by simpa using z];nomatch .str i,H1,I1.tok _,⟨_,rfl⟩,q1
end L2
namespace My
open PySem L2 OF
noncomputable def Txt.num(i:Int):Str:=ofString (toString i)
noncomputable def cF(l:av):av:=Classical.choose (Pj l)
def zaW(l:av):bx (cF l) l:=Classical.choose_spec (Pj l)
def OB(h:bx f l):f=cF l:=bx.unique h (zaW l) λ_=>rfl
def Yc:av->Str
 |[] => "yes"
 |t::_=>Txt.num t.1
def uB(l o:av):av:=cF (l++o.map λt=>(t.1,-t.2))
def qf(l:av):Nat:=intBits ((c5 l 0:Nat):Int)
noncomputable def fq(l:List Nat):Nat:=l.countP λc=>decide (c=32\/c=116)
def kF(a b:List Nat):fq (a++b)=fq a+fq b:=List.countP_append
def nZ(c:Nat)(r:List Nat):fq (c::r)=fq r+if c=32\/c=116 then 1 else 0:=by
 unfold fq;rw[List.countP_cons];simp
def WO(h:w<3):fq (jW w)=2:=by
 obtain rfl|rfl|rfl:w=0\/w=1\/w=2:=by lia
 all_goals decide
def Rd.ln(h:Rd b l o r):∀s,o=some s->2*s.ln+fq r<=fq l+2:=by
 induction h with
 |@no l r o _ ih =>
  intro s e;cases o with
  |none=>cases e
  |some t =>
   cases e
   have:=ih t rfl
   rw[kF,show fq dO=2 from by decide];show 2*(t.ln+1)+_<=_;lia
 |opN _ ih=>intro s e;cases e
 |opC _ _ ih=>intro s e;cases e
 |opY _ ih =>
  intro s e
  have:=ih s e
  rw[nZ]at this ⊢;rw[aq (by decide)]at this;assumption
 |fix _=>intro s e;cases e;rw[nZ];show 2*1+_<=_;lia
 |bit _ _=>intro s e;cases e;rw[nZ];show 2*1+_<=_;lia
 |non _ _=>intro s e;cases e
 |allN _ ih=>intro s e;cases e
 |@allJ l r r' t w o h1 hw h2 mO nB =>
  intro s e;cases o with
  |none=>cases e
  |some u =>
   cases e;have i1:=mO t rfl;have i2:=nB u rfl;rw[kF,WO hw]at i1;show 2*(t.ln+u.ln)+_<=_;lia
 |allE _ _ ih=>exact ih
def kH(l:List Nat):Option Sm:=if (rdF (2*l.length+4) true l).2=[]then (rdF (2*l.length+4) true l).1 else none
def ZI(ha:∀c∈l,c<128):∃ts,eP ts []/\ts.flatten=l/\eO (none,[]) ts (kH l)/\∀s,kH l=some s->s.ok (λk=>k<16)/\2*s.ln<=fq l+2:=by
 obtain⟨_,o,r,hR⟩:=Rd.ex l.length l (aJ _);obtain⟨ts,h1,h2,h3⟩:=hR.out ha;have e:=hR.rdF (2*l.length+4) (by show 2*l.length+1+2<_;lia);have es:kH l=if r=[]then o else none:=by unfold kH;rw[e]
 rw[es];exists ts,h1,h2,h3,λs hs=>?_;by_cases z:r=[]
 ·rw[ax z]at hs
  have:=hR.ln s hs
  rw[z]at this;nomatch hR.ok s hs,this
 ·rw[aq z]at hs;cases hs
def Sm.lt:Sm->List Nat
 |.bit k=>[k]
 |.fix _=>[]
 |.no s=>Sm.lt s
 |.two _ s t=>Sm.lt s++Sm.lt t
theorem zg:∀s:Sm,s.lt.length<=s.ln
 |.bit _=>aJ _
 |.fix _=>cb _
 |.no s=>O9 (zg s)
 |.two _ s t=>by have:=zg s;have:=zg t;show (s.lt++t.lt).length<=s.ln+t.ln;rw[aS];lia
theorem Sm.ok_or:∀{s:Sm}{ls:List Nat},s.ok p->(∀x∈s.lt,x∈ls)->s.ok (λk=>k∈ls)
 |.bit k,ls,_,h=>h k (by simp[Sm.lt])
 |.fix b,ls,h,_=>h
 |.no s,ls,h,k=>Sm.ok_or (s:=s) h k
 |.two w s t,ls,h,k=>⟨h.1,Sm.ok_or h.2.1 λx hx=>k x (i8 _ hx),Sm.ok_or h.2.2 λx hx=>k x (cx _ hx)⟩
theorem yP:∀{s:Sm},s.ok p->∀x∈s.lt,p x
 |.bit k,h,x,hx=>by rw[bh.mp hx];exact h
 |.fix b,h,x,hx=>by cases hx
 |.no s,h,x,hx=>yP (s:=s) h x hx
 |.two w s t,h,x,hx=>(bW.mp hx).elim (yP h.2.1 x) (yP h.2.2 x)
def Yy:∀(n:Nat) {fs:List Nat},fs.length=n->(∀c∈fs,48<=c/\c<=57)->digitsVal fs<10^n:=by
 intro n;induction n with
 |zero=>intro fs h _;rw[CY.mp h];decide
 |succ n ih =>
  intro fs h hd;rcases Al fs with e|⟨q,d,e⟩
  ·rw[e]at h;cases h
  ·rw[t5]at e;rw[e]at h hd ⊢;rw[zG];have h1:=ih (fs:=q) (by simpa using h) λc hc=>hd c (i8 _ hc)
   have h2:=hd d (by simp);rw[kN];lia
set_option tactic.hygienic true in
def U0(h:k8 sg w=some t):t.2.natAbs<10^(w.length+1):=by
 unfold k8 at h;split at h
 ·split at h
  ·rename_i n m e1 e2;cases h;have hn:n<10^(w.length+1):=by
    unfold kL at e1;split at e1
    ·cases e1;exact Nat.one_lt_pow (by lia) (by decide)
    ·split at e1
     ·cases e1
     ·cases e1
      have:=Yy _ rfl (zh w)
      refine cy this (dm (by decide) ?_)
      have:=congrArg List.length (N9 w)
      rw[aS]at this;lia
   show (if sg=[45]then -(n:Int)else (n:Int)).natAbs<_;split<;>omega
  ·cases h
 ·cases h
theorem Oh:∀{ws:List (List Nat)}{f:av},iK ws=some f->(∀w∈ws,w.length<=k)->f.length<=ws.length/\∀t∈f,t.2.natAbs<10^(k+1)
 |[],f,h,_=>by cases h;exact⟨aJ _,λt ht=>by cases ht⟩
 |[_],f,h,_=>by cases h
 |sg::w::r,f,h,hk=>by
  unfold iK at h;cases e1:k8 sg w with
  |none=>rw[e1]at h;cases h
  |some t =>
   cases e2:iK r with
   |none=>rw[e1,e2]at h;cases h
   |some g =>
    rw[e1,e2]at h;cases h;obtain⟨i1,i2⟩:=Oh e2 λw' hw=>hk w' (by simp[hw])
    exists by simp;lia,λu hu=>?_;rcases ba.mp hu with z|z
    ·rw[z];exact cy (U0 e1) (dm (by decide) (by have:=hk w (by simp);lia))
    ·exact i2 u z
def X7(h:gP l=some f)(hl:l.length<=90):f.length<=300/\∀t∈f,t.2.natAbs<10^100:=by
 unfold gP at h;split at h
 ·cases h;exact⟨by decide,λt ht=>by cases ht⟩
 ·cases e:iK (gj l)with
  |none=>rw[e]at h;cases h
  |some g =>
   rw[e]at h;dsimp only at h;split at h
   ·cases h;obtain⟨_,w1,w2⟩:=Gk l;obtain⟨i1,i2⟩:=Oh e λw hw=>(w2 w hw).2
    nomatch by lia,λt ht=>cy (i2 t ht) (dm (by decide) (by lia))
   ·cases h
open PySem L2 OF
noncomputable def mE:List Nat:=[104,101,114,101]
noncomputable def AF:av:=[(1,1)]
def bu:eQ:=[(mE,AF)]
noncomputable def lr:List Nat:=[119,111,114,116,104]
noncomputable def lu:List Nat:=[97,108,105,107,101]
noncomputable def lO:List Nat:=[114,101,115,116]
inductive W1 where
 |shw|lea|way|unk
noncomputable def W1.wl:W1->List Nat
 |.shw=>[115,104,111,119]|.lea=>[108,101,97,115,116]|.way=>[119,97,121,115]|.unk=>[117,110,107,110,111,119,110,115]
noncomputable def W1.wd:W1->Str
 |.shw => "show" |.lea => "least" |.way => "ways" |.unk => "unknowns"
def W1.wl_S(w:W1):S w.wl=w.wd:=by cases w<;>(unfold W1.wl W1.wd;decide+kernel)
inductive Rs where
 |line|name|form|stat|ok|text
noncomputable def l9:List V->List Nat
 |[.str x]=>x.cps.toList
 |_=>[]
def bZ(st:eQ)(vs:List V):Bool:=vs.all λv=>match v with
 |.str x=>(eY st x.cps.toList).isSome
 |_=>true
def dg(st:eQ)(l:List Nat):Rs:=match eX l with
 |none=>.line
 |some (none,_,vs)=>if bZ st vs=true then .text else .name
 |some (some _,wo,vs)=>if wo=[61]then (if (gP (l9 vs)).isSome=true then .ok else .form)else if wo=[58,61]then (if (kH (l9 vs)).isSome=true then .ok else .stat)else if bZ st vs=true then .ok else .name
inductive Ln (l:List Nat):Option (List Nat)->List Nat->List V->Prop
 |form (n w t:List Nat):l=n++32::(w++32::t)->32∉n->Ln l (some n) [61] [.str (S t)]
 |stat (n w t:List Nat):l=n++32::(w++32::t)->32∉n->Ln l (some n) [58,61] [.str (S t)]
 |two (w:Nat) (n a b:List Nat):w<3->Ln l (some n) (eI w) [.str (S a),.str (S b)]
 |fixd (n a:List Nat) (k:Nat) (b:Int):k<16->b=0\/b=1->Ln l (some n) gi [.str (S a),.int (k:Int),.int b]
 |put (n a:List Nat) (k:Nat) (b:List Nat):k<16->Ln l (some n) ji [.str (S a),.int (k:Int),.str (S b)]
 |one (w:W1) (a:List Nat):Ln l none w.wl [.str (S a)]
 |wor (a:List Nat) (g:Nat):Ln l none lr [.str (S a),.int (g:Int)]
 |ali (a b:List Nat):Ln l none lu [.str (S a),.str (S b)]
 |rst (a b:List Nat) (m:Nat):0<m->Ln l none lO [.str (S a),.str (S b),.int (m:Int)]
def rQ:("show" : Str)=S W1.shw.wl/\("worth" : Str)=S lr/\("alike" : Str)=S lu/\("rest" : Str)=S lO/\("least" : Str)=S W1.lea.wl/\("ways" : Str)=S W1.way.wl/\("unknowns" : Str)=S W1.unk.wl:=by decide+kernel
def xX(a b:List Nat):decide (S a=S b)=decide (b=a):=by
 by_cases z:b=a
 ·rw[z,aC rfl,aC rfl]
 ·rw[aL z,aL λy=>z (d0 y).symm]
def Kh(h:cG iH w=some ks):(∃q:W1,w=q.wl/\ks=[.name])\/(w=lr/\ks=[.name,.number])\/(w=lu/\ks=[.name,.name])\/(w=lO/\ks=[.name,.name,.divisor]):=by
 obtain⟨e1,e2,e3,e4,e5,e6,e7⟩:=rQ;unfold cG iH at h;rw[e1,e2,e3,e4,e5,e6,e7]at h;simp only[fV,xX]at h;by_cases z1:w=W1.shw.wl
 ·rw[aC z1]at h;cases h;exact .inl ⟨_,z1,rfl⟩
 rw[aL z1]at h;by_cases z2:w=lr
 ·rw[aC z2]at h;cases h;exact .inr (.inl ⟨z2,rfl⟩)
 rw[aL z2]at h;by_cases z3:w=lu
 ·rw[aC z3]at h;cases h;exact .inr (.inr (.inl ⟨z3,rfl⟩))
 rw[aL z3]at h;by_cases z4:w=lO
 ·rw[aC z4]at h;cases h;exact .inr (.inr (.inr ⟨z4,rfl⟩))
 rw[aL z4]at h;by_cases z5:w=W1.lea.wl
 ·rw[aC z5]at h;cases h;exact .inl ⟨_,z5,rfl⟩
 rw[aL z5]at h;by_cases z6:w=W1.way.wl
 ·rw[aC z6]at h;cases h;exact .inl ⟨_,z6,rfl⟩
 rw[aL z6]at h;by_cases z7:w=W1.unk.wl
 ·rw[aC z7]at h;cases h;exact .inl ⟨_,z7,rfl⟩
 rw[aL z7]at h;cases h
def SG(h:cG f7 w=some ks):(∃j,j<3/\w=eI j/\ks=[.name,.name])\/(w=gi/\ks=[.name,.letter,.bit])\/(w=ji/\ks=[.name,.letter,.name]):=by
 obtain⟨e1,e2,e3,e4,e5⟩:=nE;unfold cG f7 at h;rw[e1,e2,e3,e4,e5]at h;simp only[fV,xX]at h;by_cases z1:w=eI 0
 ·rw[aC (show w=[112,108,117,115] from z1)]at h;cases h;exact .inl ⟨0,by decide,z1,rfl⟩
 rw[aL (show ¬w=[112,108,117,115] from z1)]at h;by_cases z2:w=eI 1
 ·rw[aC (show w=[108,101,115,115] from z2)]at h;cases h;exact .inl ⟨1,by decide,z2,rfl⟩
 rw[aL (show ¬w=[108,101,115,115] from z2)]at h;by_cases z3:w=eI 2
 ·rw[aC (show w=[116,105,109,101,115] from z3)]at h;cases h;exact .inl ⟨2,by decide,z3,rfl⟩
 rw[aL (show ¬w=[116,105,109,101,115] from z3)]at h;by_cases z4:w=gi
 ·rw[aC (show w=[102,105,120,101,100] from z4)]at h;cases h;exact .inr (.inl ⟨z4,rfl⟩)
 rw[aL (show ¬w=[102,105,120,101,100] from z4)]at h;by_cases z5:w=ji
 ·rw[aC (show w=[112,117,116] from z5)]at h;cases h;exact .inr (.inr ⟨z5,rfl⟩)
 rw[aL (show ¬w=[112,117,116] from z5)]at h;cases h
set_option tactic.hygienic true in
def Y2(h:gB [a] ws=some vs):∃x,ws=[x]/\bI a x=true/\vs=[il a x]:=by
 unfold gB at h;split at h
 ·rename_i z;obtain⟨x,rfl⟩:=qX.mp z.1.symm;cases h;nomatch x,rfl,by simpa using z.2,rfl
 ·cases h
set_option tactic.hygienic true in
def AJ(h:gB [a,b] ws=some vs):∃x y,ws=[x,y]/\bI a x=true/\bI b y=true/\vs=[il a x,il b y]:=by
 unfold gB at h;split at h
 ·rename_i z;obtain⟨x,y,rfl⟩:∃x y,ws=[x,y]:=by
   match ws,z.1 with
   |[x,y],_=>nomatch x,y,rfl
  cases h
  have:=z.2
  simp only[K8,Lq,rP,Qw,gS,eL]at this;nomatch x,y,rfl,this.1,this.2,rfl
 ·cases h
set_option tactic.hygienic true in
def Ek(h:gB [a,b,c] ws=some vs):∃x y u,ws=[x,y,u]/\bI a x=true/\bI b y=true/\bI c u=true/\vs=[il a x,il b y,il c u]:=by
 unfold gB at h;split at h
 ·rename_i z;obtain⟨x,y,u,rfl⟩:∃x y u,ws=[x,y,u]:=by
   match ws,z.1 with
   |[x,y,u],_=>nomatch x,y,u,rfl
  cases h
  have:=z.2
  simp only[K8,Lq,rP,Qw,gS,eL]at this;nomatch x,y,u,rfl,this.1,this.2.1,this.2.2,rfl
 ·cases h
def JF(h:bI .letter w=true):∃k:Nat,k<16/\il .letter w=.int (k:Int):=by
 have h':(decide (w.length=1)&&w.all λc=>decide (97<=c/\c<113))=true:=h;rw[eL,mj]at h';obtain⟨c,rfl⟩:=qX.mp h'.1;have hc:97<=c/\c<113:=by simpa using h'.2
 exists c-97,by omega,?_;show V.int (Txt.find (S kZ) (S [c]))=_;rw[Df c (by lia)];unfold kW;rw[ax hc];congr 1;omega
def Z5(h:bI .bit w=true):∃b:Int,(b=0\/b=1)/\il .bit w=.int b:=by
 have h':(decide (w=[48]) || decide (w=[49]))=true:=h;rw[wk,mj,mj]at h';rcases h' with rfl|rfl
 ·nomatch 0,.inl rfl,rfl
 ·nomatch 1,.inr rfl,rfl
set_option tactic.hygienic true in
def zay(h:bI .divisor w=true):∃m:Nat,0<m/\il .divisor w=.int (m:Int):=by
 have h':(cf w && !decide (w=[48]))=true:=h;rw[eL]at h';exists _,?_,rfl;have hn:=h'.1;unfold cf at hn;split at hn
 ·rw[hn]at h';simp at h'
 ·rename_i z;simp only[eL,mj]at hn;exact Wb (λc hc=>by have:=br (gz.mp hn.2.2 c hc);lia) (λy=>by rw[y]at hn;simp at hn) z
def NU(h:aX l=w0::w1::w2::r):l=w0++32::(w1++32::l.drop (w0.length+w1.length+2))/\aX (l.drop (w0.length+w1.length+2))=w2::r/\32∉w0:=by
 have hj:=n6 l;have hn:=nF l;rw[h]at hj hn;have e:l=(w0++[32]++w1++[32])++bM 32 (w2::r):=by
  rw[<-hj];simp[bM]
 have ed:l.drop (w0.length+w1.length+2)=bM 32 (w2::r):=by
  rw[e];exact List.drop_left' (by simp;lia)
 rw[ed];nomatch by rw[e];simp,zb6 (ws:=w2::r) (by simp) λw hw=>hn w (cq _ (cq _ hw)),hn w0 (by simp)
set_option tactic.hygienic true in
def N3(h:eX l=some (o,wo,vs)):Ln l o wo vs:=by
 obtain⟨w0,wr,ew⟩:∃w0 wr,aX l=w0::wr:=by
  cases e:aX l with
  |nil=>exact absurd e (gT l)
  |cons a b=>nomatch a,b,rfl
 unfold eX at h;rw[ew]at h;split at h
 ·rename_i z;obtain⟨z1,z2,z3⟩:=z
  match wr,z1 with
  |w1::w2::r,_ =>
   obtain⟨s1,s2,s3⟩:=NU ew;have h':jy w0 w1 (l.drop (w0.length+w1.length+2))=some (o,wo,vs):=h;unfold jy at h';rw[s2]at h';split at h'
   ·cases hk:cG f7 w2 with
    |none=>rw[show ((w2::r).headD []:List Nat)=w2 from rfl,hk]at h';cases h'
    |some ks =>
     rw[show ((w2::r).headD []:List Nat)=w2 from rfl,hk]at h';cases ht:gB ks r with
     |none=>rw[show d9 (some ks) (w2::r).tail=gB ks r from rfl,ht]at h';cases h'
     |some us =>
      rw[show d9 (some ks) (w2::r).tail=gB ks r from rfl,ht]at h';cases h';rcases SG hk with ⟨j,hj,rfl,rfl⟩|⟨rfl,rfl⟩|⟨rfl,rfl⟩
      ·obtain⟨x,y,rfl,_,_,rfl⟩:=AJ ht;exact .two j w0 x y hj
      ·obtain⟨x,y,u,rfl,_,hy,hu,rfl⟩:=Ek ht;obtain⟨k,qd,ek⟩:=JF hy;obtain⟨b,hb,eb⟩:=Z5 hu;rw[ek,eb];exact .fixd w0 x k b qd hb
      ·obtain⟨x,y,u,rfl,_,hy,_,rfl⟩:=Ek ht;obtain⟨k,qd,ek⟩:=JF hy;rw[ek];exact .put w0 x k u qd
   ·rcases (show w1=[61]\/w1=[58,61] from z2)with rfl|rfl
    ·cases h';exact .form w0 _ _ s1 s3
    ·cases h';exact .stat w0 _ _ s1 s3
  |[],z=>exact absurd z (by simp)
  |[_],z=>exact absurd z (by simp)
 ·cases hk:cG iH w0 with
  |none=>rw[show ((w0::wr).headD []:List Nat)=w0 from rfl,hk]at h;cases h
  |some ks =>
   rw[show ((w0::wr).headD []:List Nat)=w0 from rfl,hk]at h;cases ht:gB ks wr with
   |none=>rw[show d9 (some ks) (w0::wr).tail=gB ks wr from rfl,ht]at h;cases h
   |some us =>
    rw[show d9 (some ks) (w0::wr).tail=gB ks wr from rfl,ht]at h;cases h;rcases Kh hk with ⟨q,rfl,rfl⟩|⟨rfl,rfl⟩|⟨rfl,rfl⟩|⟨rfl,rfl⟩
    ·obtain⟨x,rfl,_,rfl⟩:=Y2 ht;exact .one q x
    ·obtain⟨x,y,rfl,_,_,rfl⟩:=AJ ht;exact .wor x _
    ·obtain⟨x,y,rfl,_,_,rfl⟩:=AJ ht;exact .ali x y
    ·obtain⟨x,y,u,rfl,_,_,hu,rfl⟩:=Ek ht;obtain⟨m,hm,em⟩:=zay hu;rw[em];exact .rst x y m hm
def pA(l:List Nat):Prop:=∃a b,l=a++b/\32∉a/\fq b<=11
def pA.text(h:pA l)(e:l=n++32::(w++32::t))(hn:32∉n):fq t<=9:=by
 obtain⟨a,b,h1,h2,h3⟩:=h;have key:fq (32::(w++32::t))<=fq b:=by
  rw[e]at h1;rcases List.append_eq_append_iff.mp h1 with ⟨c,e1,e2⟩|⟨c,e1,e2⟩
  ·cases c with
   |nil=>rw[Cp]at e2;rw[e2];exact aJ _
   |cons x r =>
    have:x=32:=(kf e2).1.symm
    exact absurd (by rw[e1,this];simp) h2
  ·rw[e2,kF];lia
 rw[nZ,kF,nZ,ax (.inl rfl)]at key;lia
open PySem L2 OF
inductive Du where
 |line|name|text|fs
def q9(w:List Nat):Bool:=decide (w=W1.shw.wl\/w=W1.lea.wl\/w=W1.way.wl\/w=W1.unk.wl)
def tL(w:List Nat)(r:List (List Nat)):Bool :=
 if q9 w=true then decide (r.length=0)else if w=lr then decide (r.length=1)&&cf (r.getD 0 [])else if w=lu then decide (r.length=1)&&aP (r.getD 0 [])else
 decide (w=lO)&&(decide (r.length=2)&&(aP (r.getD 0 [])&&(cf (r.getD 1 []) && !decide (r.getD 1 []=[48]))))
def qx(w:List Nat)(r:List (List Nat)):Bool:=decide (r.length≠0)&&(aP (r.headD [])&&tL w r.tail)
def kz(w:List Nat):Bool:=decide (w=eI 0\/w=eI 1\/w=eI 2\/w=gi\/w=ji)
def km(w:List Nat)(r:List (List Nat)):Bool :=
 if w=gi\/w=ji then decide (r.length=3)&&(aP (r.getD 0 [])&&(bI .letter (r.getD 1 [])&&if w=gi then bI .bit (r.getD 2 [])else aP (r.getD 2 [])))else decide (r.length=2)&&(aP (r.getD 0 [])&&aP (r.getD 1 []))
def lK(w:List Nat)(r:List (List Nat)):List (List Nat):=if w=gi then [r.getD 0 []]else [r.getD 0 [],r.getLastD []]
def bG(w:List Nat):Bool := !decide (w=mE)
def g9(ws:List (List Nat)):Du :=
 if ws.length<3\/(ws.getD 1 []≠[61]/\ws.getD 1 []≠[58,61])then
  (if qx (ws.headD []) ws.tail=true then (if (ws.tail.filter λw=>aP w&&bG w).length>0 then .name else .text)else .line)
 else if aP (ws.headD [])=true then
  (if ws.getD 1 []=[61]/\kz (ws.getD 2 [])=true then (if km (ws.getD 2 []) (ws.drop 3)=true then (if ((lK (ws.getD 2 []) (ws.drop 3)).filter bG).length>0 then .name else .text)else .line)else .fs)
 else .line
def Ro(w:List Nat):cG iH w=if q9 w=true then some [.name]else if w=lr then some [.name,.number]else if w=lu then some [.name,.name]else if w=lO then some [.name,.name,.divisor]else none:=by
 obtain⟨e1,e2,e3,e4,e5,e6,e7⟩:=rQ;unfold cG iH q9;rw[e1,e2,e3,e4,e5,e6,e7];simp only[fV,xX];by_cases z1:w=W1.shw.wl
 ·rw[z1];rfl
 by_cases z2:w=lr
 ·rw[z2];rfl
 by_cases z3:w=lu
 ·rw[z3];rfl
 by_cases z4:w=lO
 ·rw[z4];rfl
 by_cases z5:w=W1.lea.wl
 ·rw[z5];rfl
 by_cases z6:w=W1.way.wl
 ·rw[z6];rfl
 by_cases z7:w=W1.unk.wl
 ·rw[z7];rfl
 simp[z1,z2,z3,z4,z5,z6,z7]
def LJ(w:List Nat):cG f7 w=if kz w=true then (if w=gi then some [.name,.letter,.bit]else if w=ji then some [.name,.letter,.name]else some [.name,.name])else none:=by
 obtain⟨e1,e2,e3,e4,e5⟩:=nE;unfold cG f7 kz;rw[e1,e2,e3,e4,e5];simp only[fV,xX];by_cases z1:w=eI 0
 ·rw[z1];rfl
 by_cases z2:w=eI 1
 ·rw[z2];rfl
 by_cases z3:w=eI 2
 ·rw[z3];rfl
 by_cases z4:w=gi
 ·rw[z4];rfl
 by_cases z5:w=ji
 ·rw[z5];rfl
 have n1:¬w=[112,108,117,115]:=z1;have n2:¬w=[108,101,115,115]:=z2;have n3:¬w=[116,105,109,101,115]:=z3;have n4:¬w=[102,105,120,101,100]:=z4;have n5:¬w=[112,117,116]:=z5;simp[z1,z2,z3,z4,z5,n1,n2,n3,n4,n5]
def JR(h:cf w=true):aP w=false:=by
 cases w with
 |nil=>rfl
 |cons c r =>
  have hc:c<58:=by
   unfold cf at h;split at h
   ·have:=(kf (br h)).1;omega
   ·simp only[eL,mj]at h
    have:=br (gz.mp h.2.2 c (by simp));lia
  unfold aP
  have:((c::r).all λc=>decide (97<=c/\c<123))=false:=by
   rw[rP,aL (by lia)];rfl
  rw[this,iG,iG]
def Xn(a:List Nat):(eY bu (S a).cps.toList).isSome = !bG a:=by
 show (eY bu a).isSome=_;unfold eY bu bG;rw[fV];by_cases z:a=mE
 ·rw[z];rfl
 ·rw[aL λy=>z y.symm,aL z];rfl
def kj(a:List Nat)(r:List V):bZ bu (.str (S a)::r)=(!bG a&&bZ bu r):=by
 show ((eY bu (S a).cps.toList).isSome&&bZ bu r)=_;rw[Xn]
def vi(a:Int)(r:List V):bZ bu (.int a::r)=bZ bu r:=by
 rfl
def e9(h:ks.length≠ws.length):d9 (some ks) ws=none:=aq λz=>h z.1
def qu(h:(ks.zip ws).all (λp=>bI p.1 p.2)=false):d9 (some ks) ws=none:=aq λz=>by rw[h]at z;cases z.2
def qh(hl:ks.length=ws.length)(h:(ks.zip ws).all (λp=>bI p.1 p.2)=true):d9 (some ks) ws=some ((ks.zip ws).map λp=>il p.1 p.2):=ax ⟨hl,h⟩
def fj(b:Bool):b=false\/b=true:=by cases b<;>simp
def qo:bZ bu []=true:=rfl
theorem zcw(w:List Nat)(r:List (List Nat)):match d9 (cG iH w) r with
  |none=>qx w r=false
  |some vs=>qx w r=true/\bZ bu vs = !decide ((r.filter λx=>aP x&&bG x).length>0):=by
 rw[Ro];cases r with
 |nil =>
  have e:∀ks,ks=none\/(∃l:List Kd,ks=some l/\l≠[])->d9 ks []=none:=λks h=>by
   rcases h with rfl|⟨l,rfl,h⟩
   ·rfl
   ·exact e9 λz=>h (CY.mp z)
  rw[e]
  ·rfl
  ·repeat' split
   all_goals first|exact .inl rfl|exact .inr ⟨_,rfl,by simp⟩
 |cons a r =>
  have ea:qx w (a::r)=(aP a&&tL w r):=rfl;rw[ea];unfold tL;by_cases z1:q9 w=true
  ·rw[ax z1,ax z1];cases r with
   |cons b r=>rw[e9 (by simp)];simp
   |nil =>
    rcases fj (aP a)with hz|hz
    ·rw[qu (by show (aP a&&true)=false;rw[hz];rfl)];show (aP a&&true)=false;rw[hz];rfl
    ·rw[qh rfl (by show (aP a&&true)=true;rw[hz];rfl)];exists by show (aP a&&true)=true;rw[hz];rfl,?_;show bZ bu [.str (S a)]=_;rw[kj,qo,dZ,hz];cases bG a<;>rfl
  rw[aq z1,aq z1];by_cases z2:w=lr
  ·rw[ax z2,ax z2]
   match r with
   |[]=>rw[e9 (by simp)];simp
   |b::c::r=>rw[e9 (by simp)];simp
   |[b] =>
    rcases fj (aP a&&cf b)with hz|hz
    ·rw[qu (by show (aP a&&(cf b&&true))=false;rw[gS];exact hz)];exact hz
    ·rw[qh rfl (by show (aP a&&(cf b&&true))=true;rw[gS];exact hz)];exists hz,?_;rw[eL]at hz;show bZ bu [.str (S a),.int _]=_;rw[kj,vi,qo,dZ,dZ,hz.1,JR hz.2];cases bG a<;>rfl
  rw[aq z2,aq z2];by_cases z3:w=lu
  ·rw[ax z3,ax z3]
   match r with
   |[]=>rw[e9 (by simp)];simp
   |b::c::r=>rw[e9 (by simp)];simp
   |[b] =>
    rcases fj (aP a&&aP b)with hz|hz
    ·rw[qu (by show (aP a&&(aP b&&true))=false;rw[gS];exact hz)];exact hz
    ·rw[qh rfl (by show (aP a&&(aP b&&true))=true;rw[gS];exact hz)];exists hz,?_;rw[eL]at hz;show bZ bu [.str (S a),.str (S b)]=_;rw[kj,kj,qo,dZ,dZ,hz.1,hz.2];cases bG a<;>cases bG b<;>rfl
  rw[aq z3,aq z3];by_cases z4:w=lO
  rotate_left
  ·rw[aq z4,aL z4,ql,iG];rfl
  rw[ax z4,aC z4]
  match r with
  |[]=>rw[e9 (by simp)];simp
  |[b]=>rw[e9 (by simp)];simp
  |b::c::d::r=>rw[e9 (by simp)];simp
  |[b,c] =>
   rcases fj (aP a&&(aP b&&bI .divisor c))with hz|hz
   ·rw[qu (by show (aP a&&(aP b&&(bI .divisor c&&true)))=false;rw[gS];exact hz)];exact hz
   ·rw[qh rfl (by show (aP a&&(aP b&&(bI .divisor c&&true)))=true;rw[gS];exact hz)];exists hz,?_;rw[eL,eL]at hz;have hc:(cf c && !decide (c=[48]))=true:=hz.2.2;rw[eL]at hc;show bZ bu [.str (S a),.str (S b),.int _]=_;rw[kj,kj,vi,qo,dZ,dZ,dZ,hz.1,hz.2.1,JR hc.1];cases bG a<;>cases bG b<;>rfl
theorem zaP(h5:kz w=true)(r:List (List Nat)):match d9 (cG f7 w) r with
  |none=>km w r=false
  |some vs=>km w r=true/\bZ bu vs = !decide (((lK w r).filter bG).length>0):=by
 rw[LJ,ax h5];unfold km lK;by_cases z1:w=gi
 ·rw[ax z1,ax (.inl z1),ax z1,ax z1]
  match r with
  |[]=>rw[e9 (by simp)];rfl
  |[_]=>rw[e9 (by simp)];rfl
  |[_,_]=>rw[e9 (by simp)];rfl
  |a::b::c::d::r=>rw[e9 (by simp)];simp
  |[a,b,c] =>
   rcases fj (aP a&&(bI .letter b&&bI .bit c))with hz|hz
   ·rw[qu (by show (aP a&&(bI .letter b&&(bI .bit c&&true)))=false;rw[gS];exact hz)];exact hz
   ·rw[qh rfl (by show (aP a&&(bI .letter b&&(bI .bit c&&true)))=true;rw[gS];exact hz)];exists hz,?_;show bZ bu [.str (S a),.int _,.int _] = !decide (([a].filter bG).length>0);rw[kj,vi,vi,qo,dZ];cases bG a<;>rfl
 rw[aq z1,aq z1,aq z1];by_cases z2:w=ji
 ·rw[ax z2,ax (.inr z2)]
  match r with
  |[]=>rw[e9 (by simp)];rfl
  |[_]=>rw[e9 (by simp)];rfl
  |[_,_]=>rw[e9 (by simp)];rfl
  |a::b::c::d::r=>rw[e9 (by simp)];simp
  |[a,b,c] =>
   rcases fj (aP a&&(bI .letter b&&aP c))with hz|hz
   ·rw[qu (by show (aP a&&(bI .letter b&&(aP c&&true)))=false;rw[gS];exact hz)];exact hz
   ·rw[qh rfl (by show (aP a&&(bI .letter b&&(aP c&&true)))=true;rw[gS];exact hz)];exists hz,?_;show bZ bu [.str (S a),.int _,.str (S c)] = !decide (([a,c].filter bG).length>0);rw[kj,vi,kj,qo,dZ,dZ];cases bG a<;>cases bG c<;>rfl
 rw[aq z2,aq (λz=>z.elim z1 z2)]
 match r with
 |[]=>rw[e9 (by simp)];rfl
 |[_]=>rw[e9 (by simp)];rfl
 |a::b::c::r=>rw[e9 (by simp)];simp
 |[a,b] =>
  rcases fj (aP a&&aP b)with hz|hz
  ·rw[qu (by show (aP a&&(aP b&&true))=false;rw[gS];exact hz)];exact hz
  ·rw[qh rfl (by show (aP a&&(aP b&&true))=true;rw[gS];exact hz)];exists hz,?_;show bZ bu [.str (S a),.str (S b)] = !decide (([a,b].filter bG).length>0);rw[kj,kj,qo,dZ,dZ];cases bG a<;>cases bG b<;>rfl
def D2(sg:List Nat):Du->Rs->Prop
 |.line,r=>r=.line
 |.name,r=>r=.name
 |.text,r=>r=.text\/r=.ok
 |.fs,r=>r=.ok\/(sg=[61]/\r=.form)\/(sg=[58,61]/\r=.stat)
def zcP(l:List Nat):D2 ((aX l).getD 1 []) (g9 (aX l)) (dg bu l):=by
 obtain⟨w0,wr,ew⟩:∃w0 wr,aX l=w0::wr:=by
  cases e:aX l with
  |nil=>exact absurd e (gT l)
  |cons a b=>nomatch a,b,rfl
 have Va:∀ks,ks=d9 (cG iH w0) wr->eX l=ks.map (λvs=>(none,w0,vs))->D2 ((w0::wr).getD 1 []) (if qx w0 wr=true then (if (wr.filter λw=>aP w&&bG w).length>0 then .name else .text)else .line) (dg bu l):=λks e1 e2=>by
  have:=zcw w0 wr
  rw[<-e1]at this;cases ks with
  |none=>rw[aq (by rw[this];decide)];unfold dg;rw[e2];rfl
  |some vs =>
   obtain⟨h1,h2⟩:=this;have er:dg bu l=if bZ bu vs=true then .text else .name:=by unfold dg;rw[e2];rfl
   rw[ax h1,er,h2];by_cases z:(wr.filter λw=>aP w&&bG w).length>0
   ·rw[ax z,aC z];rfl
   ·rw[aq z,aL z];exact .inl rfl
 rw[ew];unfold g9;by_cases z:(w0::wr).length<3\/((w0::wr).getD 1 []≠[61]/\(w0::wr).getD 1 []≠[58,61])
 ·rw[ax z];refine Va _ rfl ?_;unfold eX;rw[ew,aq λy=>z.elim (λq=>by lia) λq=>y.2.1.elim q.1 q.2];rfl
 rw[aq z];have hs:(w0::wr).getD 1 []=[61]\/(w0::wr).getD 1 []=[58,61]:=by
  rcases GN ((w0::wr).getD 1 []=[61])with y|y
  ·exact .inl y
  ·exact .inr (HM λq=>z (.inr ⟨y,q⟩))
 have h3:2<(w0::wr).length:=by
  rcases kb 2 (w0::wr).length with y|y
  ·exact y
  ·exact absurd (.inl (by omega)) z
 by_cases hn:aP w0=true
 rotate_left
 ·rw[show ((w0::wr).headD []:List Nat)=w0 from rfl,aq hn];have hk:cG iH w0=none:=by
   cases hk:cG iH w0 with
   |none=>rfl
   |some ks =>
    exfalso;apply hn;rcases Kh hk with ⟨q,rfl,_⟩|⟨rfl,_⟩|⟨rfl,_⟩|⟨rfl,_⟩
    ·cases q<;>decide
    all_goals decide
  show dg bu l=.line;unfold dg eX;rw[ew,aq λy=>hn y.2.2,show ((w0::wr).headD []:List Nat)=w0 from rfl,hk];rfl
 rw[show ((w0::wr).headD []:List Nat)=w0 from rfl,ax hn]
 match wr,h3,ew,hs with
 |w1::w2::r,_,ew,hs =>
  obtain⟨s1,s2,s3⟩:=NU ew;have hl:eX l=jy w0 w1 (l.drop (w0.length+w1.length+2)):=by
   unfold eX;rw[ew,ax ⟨by simp,hs,hn⟩];rfl
  show D2 w1 (if w1=[61]/\kz w2=true then (if km w2 r=true then (if ((lK w2 r).filter bG).length>0 then .name else .text)else .line)else .fs) _;have JC:(cG f7 w2).isSome=kz w2:=by
   rw[LJ];cases kz w2 with
   |false=>rfl
   |true =>
    rw[ax rfl]
    repeat' split
    all_goals rfl
  by_cases y:w1=[61]/\kz w2=true
  ·rw[ax y];have da:eX l=(d9 (cG f7 w2) r).map λvs=>(some w0,w2,vs):=by
    rw[hl];unfold jy;rw[s2,ax ⟨y.1,by show (cG f7 w2).isSome=true;rw[JC];exact y.2⟩];rfl
   have h2:¬w2=[61]/\¬w2=[58,61]:=⟨λq=>by rw[q]at y;exact absurd y.2 (by decide),λq=>by rw[q]at y;exact absurd y.2 (by decide)⟩
   have:=zaP y.2 r
   cases hk:d9 (cG f7 w2) r with
   |none =>
    rw[hk]at this da;rw[aq (by rw[this];decide)];unfold dg;rw[da];rfl
   |some vs =>
    rw[hk]at this da;obtain⟨g1,g2⟩:=this;have er:dg bu l=if bZ bu vs=true then .ok else .name:=by unfold dg;rw[da];show (if w2=[61]then _ else if w2=[58,61]then _ else _)=_;rw[aq h2.1,aq h2.2]
    rw[ax g1,er,g2];by_cases q:((lK w2 r).filter bG).length>0
    ·rw[ax q,aC q];rfl
    ·rw[aq q,aL q];exact .inr rfl
  ·rw[aq y];have da:eX l=some (some w0,w1,[.str (S (l.drop (w0.length+w1.length+2)))]):=by
    rw[hl];unfold jy;rw[s2,aq λq=>y ⟨q.1,by rw[<-JC];exact q.2⟩]
   rcases (show w1=[61]\/w1=[58,61] from hs)with rfl|rfl
   ·have er:dg bu l=if (gP (l9 [.str (S (l.drop (w0.length+[61].length+2)))])).isSome=true then .ok else .form:=by unfold dg;rw[da];rfl
    rw[er];split
    ·exact .inl rfl
    ·exact .inr (.inl ⟨rfl,rfl⟩)
   ·have er:dg bu l=if (kH (l9 [.str (S (l.drop (w0.length+[58,61].length+2)))])).isSome=true then .ok else .stat:=by unfold dg;rw[da];rfl
    rw[er];split
    ·exact .inl rfl
    ·exact .inr (.inr ⟨rfl,rfl⟩)
 |[],h,_,_=>exact absurd h (by simp)
 |[_],h,_,_=>exact absurd h (by simp)
open PySem L2 OF
def Hm:IsForm AF:=⟨Og ..,λp hp=>by rw[bh.mp hp];decide⟩
def j2:K5 [0] AF:=λt ht=>by
 rw[bh.mp ht];exists by decide,λj hj=>?_
 have:Nat.testBit 1 j=true:=hj
 rw[Nat.testBit_one_eq_true_iff_self_eq_zero]at this;rw[this];simp
def BZ:eZ AF:=⟨[0],by decide,j2⟩
def t6:∀t∈AF,t.2.natAbs<=1:=λt ht=>by rw[bh.mp ht];decide
def zv:∀t∈AF,∀u∈AF,IntMulOk t.2 u.2:=λt ht u hu=>by rw[bh.mp ht,bh.mp hu];exact OV (by decide) (by decide)
def IY:DI AF:=⟨AF,KP (by decide),rfl⟩
def Xs(k:Nat)(b:Int):(qJ k b AF).length<=2/\∀t∈qJ k b AF,t.2.natAbs<=1:=by
 unfold qJ;have h1:(iE k AF).length<=1/\∀t∈iE k AF,t.2.natAbs<=1:=⟨gI _ AF,λt ht=>t6 t (BY ht).1⟩;have h2:(fM k AF).length<=1/\∀t∈fM k AF,t.2.natAbs<=1:=⟨by unfold fM;rw[ay];exact gI _ AF,λt ht=>by
  obtain⟨u,hu,rfl⟩:=bV.mp ht;exact t6 u (iJ.mp hu).1⟩
 split
 ·rw[fc];nomatch by lia,h1.2
 ·nomatch by rw[aS];lia,λt ht=>(bW.mp ht).elim (h1.2 t) (h2.2 t)
def zai(l m:av):(bF l m).length=l.length*m.length:=by
 unfold bF dA;induction l with
 |nil=>simp
 |cons t r ih=>rw[jd,aS,ih,ay,aW,FP];lia
def Vl(k:Nat):(rV k AF AF).length<=2/\∀t∈rV k AF AF,t.2.natAbs<=1:=by
 unfold rV;have h1:(iE k AF).length<=1/\∀t∈iE k AF,t.2.natAbs<=1:=⟨gI _ AF,λt ht=>t6 t (BY ht).1⟩;have h2:(fM k AF).length<=1/\∀t∈fM k AF,t.2.natAbs<=1:=⟨by unfold fM;rw[ay];exact gI _ AF,λt ht=>by
  obtain⟨u,hu,rfl⟩:=bV.mp ht;exact t6 u (iJ.mp hu).1⟩
 exists ?_,λt ht=>(bW.mp ht).elim (h1.2 t) (TZ h2.2 t6 t);rw[aS,zai];show _+_*1<=_;lia
def Q0(h:w<3):(EH w AF AF).length<=2/\∀t∈EH w AF AF,t.2.natAbs<=1:=by
 obtain rfl|rfl|rfl:w=0\/w=1\/w=2:=by lia
 all_goals decide
def yd(f:av):Prop:=f.length<=300/\∀t∈f,t.2.natAbs<10^100
def B9(h:bx f l)(k:l.length<=2/\∀t∈l,t.2.natAbs<=1):yd f:=⟨by have:=bx.cnt h;lia,Hd h k.1 k.2 (by decide+kernel)⟩
def UW{p:Nat->Prop}{s:Sm}{f:av}(ho:s.ok p)(hl:s.ln<=5)(hF:bx f s.tl):yd f:=by
 exists ?_,λt ht=>FI (Aq ho hl hF t ht) (by decide+kernel);have h1:=bx.cnt hF;have h2:=sI s;have h3:2^s.ln<=2^5:=dm (by decide) hl;lia
def zq(st:eQ)(a:List Nat)(r:List V):bZ st (.str (S a)::r)=((eY st a).isSome&&bZ st r):=rfl
def OJ(st:eQ)(a:Int)(r:List V):bZ st (.int a::r)=bZ st r:=rfl
def rn(st:eQ):Prop:=∀n f,eY st n=some f->f=AF
def jU(st:eQ)(wo:List Nat)(vs:List V):Rs:=if wo=[61]then (if (gP (l9 vs)).isSome=true then .ok else .form)else if wo=[58,61]then (if (kH (l9 vs)).isSome=true then .ok else .stat)else if bZ st vs=true then .ok else .name
def zbL(h:eX l=none):dg st l=.line:=by unfold dg;rw[h]
def VF(h:eX l=some (none,wo,vs)):dg st l=if bZ st vs=true then .text else .name:=by unfold dg;rw[h]
def UM(h:eX l=some (some n,wo,vs)):dg st l=jU st wo vs:=by unfold dg;rw[h];rfl
def R7(C NL NN NF NS:Addr)(p d:Addr)(st:eQ)(l:List Nat)(H:Hp)(Q:VK)(E:XK):Rs->Prop
 |.line=>∀H',ag H H'->E (.ref NL) none H'
 |.name=>∀H',ag H H'->E (.ref NN) none H'
 |.form=>∀H',ag H H'->E (.ref NF) none H'
 |.stat=>∀H',ag H H'->E (.ref NS) none H'
 |.text=>∀x H',ag H H'->Q (.str x) H'
 |.ok=>∀n wo us f H',eX l=some (some n,wo,us)->(wo=[61]->gP (l9 us)=some f)->iB C H' p d (t9 st n f)->aV d H H'->Q (.str "ok") H'
open PySem L2 OF
def OP:uB AF AF=[]:=by
 refine (OB (f:=[]) (uC ⟨List.Pairwise.nil,λp hp=>by cases hp⟩ λk=>?_)).symm;show 0=aK (AF++AF.map λt=>(t.1,-t.2)) k;rw[eE,oX];lia
def Mh(st:eQ)(wo:List Nat)(vs:List V):jU st wo vs≠.line/\jU st wo vs≠.text:=by
 unfold jU;constructor<;>(repeat' split)<;>exact λz=>nomatch z
open PySem L2 OF
def cV(n k:Nat)(w:List Nat):Prop:=(∀c∈w,c<128)/\w.length<=n/\fq w<=k
noncomputable instance(n k:Nat)(w:List Nat):Decidable (cV n k w):=by unfold cV;infer_instance
def o7{xs:List Str}{i:Int}(h0:0<=i)(h1:i<xs.length):∃x∈xs,ef (xs.map V.str) i=some (V.str x):=by
 obtain⟨k,rfl⟩:=mf h0;have hk:k<xs.length:=by lia
 nomatch xs[k],nV hk,aZ (by rw[bY,dD hk];rfl)
structure jE(ws:List (List Nat)):Prop where
 asc:∀w∈ws,∀c∈w,c<128
 len:(ws.map λw=>w.length).sum+ws.length<=50
 each:∀w∈ws,w.length<=19
 ne:2<=ws.length
 le:ws.length<=6
 tot:(ws.map fq).sum+ws.length<=10
 dup:(∀w∈ws,fq w<=1)\/∃a b t,ws=[a,b,t]/\32∉a/\fq a<=1/\fq b=0/\fq t<=4
theorem qK:∀{ws:List (List Nat)},ws≠[]->fq (bM 32 ws)+1=(ws.map fq).sum+ws.length
 |[],h=>absurd rfl h
 |[x],_=>by simp[bM]
 |x::y::r,_=>by
  have ih:=qK (ws:=y::r) (by simp);show fq (x++32::bM 32 (y::r))+1=_;rw[kF,nZ,ax (.inl rfl),bw,gh,aW];lia
theorem zT:∀{ws:List (List Nat)},ws≠[]->(bM 32 ws).length+1=(ws.map λw=>w.length).sum+ws.length
 |[],h=>absurd rfl h
 |[x],_=>by simp[bM]
 |x::y::r,_=>by
  have ih:=zT (ws:=y::r) (by simp);show (x++32::bM 32 (y::r)).length+1=_;rw[aS,aW,bw,gh,aW];lia
def lW(l:List Nat):Prop:=(∀c∈l,c<128)/\l.length<=90/\pA l
def tm(h:fq l<=11):pA l:=⟨[],l,rfl,by simp,h⟩
def wj(h0:ws≠[])(h1:∀w∈ws,∀c∈w,c<128)(h2:(ws.map λw=>w.length).sum+ws.length<=91)(h3:(ws.map fq).sum+ws.length<=12):lW (bM 32 ws) :=
 ⟨F1 ws h1,by have:=zT h0;lia,tm (by have:=qK h0;lia)⟩
def jE.line(h:jE ws):lW (bM 32 ws)/\(bM 32 ws).length<=49/\fq (bM 32 ws)<=9:=by
 have h0:ws≠[]:=λz=>by have:=h.ne;rw[z]at this;simp at this
 have h1:=h.len;have h2:=h.tot;have h3:=zT h0;have h4:=qK h0;exact⟨wj h0 h.asc (by lia) (by lia),by lia,by lia⟩
def CA(h:i<ws.length):ws=ws.take i++(ws[i]::ws.drop (i+1)):=by
 rw[Ih,tF]
def jE.del(h:jE ws)(hi:i<ws.length):lW (bM 32 (ws.take i++ws.drop (i+1))):=by
 have e:=CA hi;have h1:=h.len;have h2:=h.tot;have h5:=h.ne;rw[e]at h1 h2;simp only[aQ,bw,gZ,gh,aS,aW]at h1 h2;refine wj (λz=>?_) (λw hw=>?_) ?_ ?_
 ·have:=congrArg List.length z
  simp only[aS,c7,fL,mC]at this;lia
 ·rcases bW.mp hw with y|y
  ·exact h.asc w (vA y)
  ·exact h.asc w (oM y)
 ·simp only[aQ,gZ,aS];lia
 ·simp only[aQ,gZ,aS];lia
def jE.odd(h:jE ws)(hi:i<ws.length)(ho:cV 19 1 o):lW (bM 32 (ws.take i++[o]++ws.drop (i+1))):=by
 have e:=CA hi;have h1:=h.len;have h2:=h.tot;obtain⟨o1,o2,o3⟩:=ho;rw[e]at h1 h2;simp only[aQ,bw,gZ,gh,aS,aW]at h1 h2;refine wj (by simp) (λw hw=>?_) ?_ ?_
 ·rcases bW.mp hw with y|y
  ·rcases bW.mp y with y|y
   ·exact h.asc w (vA y)
   ·rw[bh.mp y];exact o1
  ·exact h.asc w (oM y)
 ·simp only[aQ,gZ,aS,bw,iA,gh,rL,aW,mC];lia
 ·simp only[aQ,gZ,aS,bw,iA,gh,rL,aW,mC];lia
def jE.two(h:jE ws)(hi:i<ws.length):lW (bM 32 (ws.take i++[ws[i]]++ws.drop i)):=by
 have e:ws.drop i=ws[i]::ws.drop (i+1):=(Ih hi).symm;have h1:=h.len;have h2:=h.tot;have h3:=h.each _ (nV hi);have e2:=CA hi;have hV:=h1;have iq:=h2;rw[e2]at hV iq;simp only[aQ,bw,gZ,gh,aS,aW]at hV iq;have ha:∀w∈ws.take i++[ws[i]]++ws.drop i,∀c∈w,c<128:=λw hw=>by
  rcases bW.mp hw with y|y
  ·rcases bW.mp y with y|y
   ·exact h.asc w (vA y)
   ·rw[bh.mp y];exact h.asc _ (nV hi)
  ·exact h.asc w (oM y)
 have hl:((ws.take i++[ws[i]]++ws.drop i).map λw=>w.length).sum+(ws.take i++[ws[i]]++ws.drop i).length<=91:=by
  rw[e];simp only[aQ,gZ,aS,bw,iA,gh,rL,aW,mC];lia
 rcases h.dup with hd|⟨a,b,t,rfl,d1,d2,d3,d4⟩
 ·refine wj (λz=>by simp only[Ni]at z;exact absurd z.1.2 (List.cons_ne_nil _ _)) ha hl ?_
  have:=hd _ (nV hi)
  rw[e];simp only[aQ,gZ,aS,bw,iA,gh,rL,aW,mC];lia
 ·exists F1 _ ha,by have:=zT (ws:=[a,b,t].take i++[[a,b,t][i]]++[a,b,t].drop i) (by simp);lia,?_
  match i,hi with
  |0,_ =>
   refine tm ?_
   have:=qK (ws:=[a,a,b,t]) (by simp)
   simp at this;show fq (bM 32 [a,a,b,t])<=11;lia
  |1,_ =>
   refine tm ?_
   have:=qK (ws:=[a,b,b,t]) (by simp)
   simp at this;show fq (bM 32 [a,b,b,t])<=11;lia
  |2,_ =>
   exists a,32::bM 32 [b,t,t],rfl,d1,?_
   have:=qK (ws:=[b,t,t]) (by simp)
   rw[nZ,ax (.inl rfl)];simp at this;lia
  |k+3,hi=>exact absurd hi (by show ¬k+3<3;lia)
open PySem L2 OF
def zbs(h:m<10^19):cV 19 0 (gL m):=by
 exists λc hc=>by have:=Jt hc;lia,zN (k:=18) h,?_;unfold fq;rw[List.countP_eq_zero.mpr λc hc=>by have:=Jt hc;simp;lia];exact aJ _
def F3{i:Int}(h0:0<=i)(h:i<10^19):∃w,ofString (toString i)=S w/\cV 19 0 w:=by
 obtain⟨m,rfl⟩:=mf h0;nomatch gL m,Ga m,zbs (by lia)
def CI{i:Int}(h0:0<=i)(h:i<10^19):i.natAbs.log2<1920:=by
 obtain⟨m,rfl⟩:=mf h0;exact Bu (cy (show m<10^19 by omega) (by decide))
def Ll(x:Str):x=S x.cps.toList:=rfl
end My
namespace L2
open PySem PySem.Spec PyProof PyProof.Rows OF My
section
variable{X:Cx}
open Classical in
def pj(H:Hp)(e:D):Value->Bool
 |.ref a=>decide (∃d,Is H (.ref a) d/\cC d e=true)
 |_=>false
def Ku(h:Is H (.ref a) d):pj H e (.ref a)=cC d e:=by
 unfold pj;cases hd:cC d e
 ·refine @aL _ (_) λ⟨d',h1,h2⟩=>?_
  rw[Is.inj h1 h,hd]at h2;cases h2
 ·exact @aC _ (_) ⟨d,h,hd⟩
theorem Nm(I:Inv X aa σ H s)(rx:RelV x v)(hx:Is H x e)(hu:X.A.units+60<cLine):∀(bs:List Addr) {af:List Value}{es:List D},Vals (bs.map V.ref) af->a8 H (bs.map V.ref) es->(∀d∈es,ja d<=50)->(∀w∈af,SeqAt.EqAt X.A.in1 s w v (pj H e w))/\af.any (pj H e)=es.any λd=>cC d e
 |[],af,es,r,h,_=>by
  cases es with
  |nil=>cases r;nomatch (λw hw=>by cases hw),rfl
  |cons d es=>unfold a8 at h;obtain⟨_,_,z,_⟩:=h;cases z
 |a::bs,af,es,r,h,hd=>by
  cases es with
  |nil=>unfold a8 at h;cases h
  |cons d es =>
   unfold a8 at h;obtain⟨_,_,z,h1,h2⟩:=h;cases z;cases r with
   |cons r1 r2 =>
    obtain⟨g1,g2⟩:=Nm I rx hx hu bs r2 h2 λd rk=>hd d (by simp[rk])
    have k:=(D3 I 50 d e X.A.in1 (hd d (by simp)) (by show X.A.units+1+50<cLine;lia) (ly I h1 r1) (ly I hx rx)).2;cases r1;rw[<-Ku (e:=e) h1]at k;refine⟨λw hw=>?_,by rw[ju,ju,g2,Ku h1]⟩;rcases ba.mp hw with rfl|z
    ·exact k
    ·exact g1 w z
def Wv(hu:X.A.units+60<cLine):bH X (compareOp .NotIn) (λx y H Q=>∃(p:Addr) (as:List Addr) (ds:List D) (e:D),y=.ref p/\H p=some (.lst (as.map V.ref))/\a8 H (as.map V.ref) ds/\Is H x e/\(∀d∈ds,ja d<=50)/\Q (.bl (!(ds.any λd=>cC d e))) H):=by
 intro aa s σ H x y v u Q I rx ry h;obtain⟨p,as,ds,e,rfl,hq,lZ,hx,yj,q⟩:=h;cases ry;obtain⟨af,r,pl,hz⟩:=I.list (ai.of hq);obtain⟨g1,g2⟩:=Nm I rx hx hu as r lZ yj;refine SeqAt.notIn_listAt (pj H e) pl.isList (λw hw=>g1 w (by simpa using hw)) ⟨.bl _,H,I,rfl,?_⟩;rw[show af.toArray.any (pj H e)=af.any (pj H e) by simp,g2];exact q
end
end L2
namespace My
open PySem L2 OF
def zj(ws:List (List Nat))(k:Nat):ff (ws.map λw=>V.str (S w)) none (some (k:Int))=(ws.take k).map λw=>V.str (S w):=by
 unfold ff;rw[HT.sIx_none,HT.sIx_nat,ay,mZ,MD,<-Jz];congr 1;rw[List.take_eq_take_iff];lia
def sx(ws:List (List Nat))(k:Nat):ff (ws.map λw=>V.str (S w)) (some (k:Int)) none=(ws.drop k).map λw=>V.str (S w):=by
 unfold ff;rw[HT.sIx_none,HT.sIx_nat,ay,<-Kq,mG (by rw[ay,fL];lia)];congr 1;by_cases z:k<=ws.length
 ·rw[se z]
 ·rw[qS (by lia),uR,FN (by omega)]
theorem Hj(n:Nat):∀ws:List (List Nat),(∀w∈ws,w.length<=n)->((ws.map S).map (·.length)).sum<=n*ws.length
 |[],_=>aJ _
 |w::r,h=>by
  have ih:=Hj n r λx hx=>h x (by simp[hx])
  have:=h w (by simp)
  rw[bw,bw,gh,aN,aW,Qu,Fg];exact E4 ih this
def Bm(us:List (List Nat)):Txt.join (ofString " ") (us.map S)=S (bM 32 us):=by rw[jQ];exact Y1 32 us
def CO{us:List (List Nat)}(h:∀w∈us,w.length<=1000)(hl:us.length<=1000):((us.map S).map (·.length)).sum+(us.map S).length*(ofString " ").length<=16777216:=by
 have h1:=Hj 1000 us h;rw[jQ,aN,ay];show _+us.length*1<=_;lia
def uY(us:List (List Nat)):(us.map S).map V.str=us.map λw=>V.str (S w):=by rw[ft];rfl
open PySem L2 OF PyProof.Rows
def d5:1<=sizeLine:=by decide
def dw:2<=sizeLine:=by decide
def j1:3<=sizeLine:=by decide
def O1:4<=sizeLine:=by decide
def Ii:6<=sizeLine:=by decide
namespace Rw
def scOk(r:Rw):Bool :=
 (match (cL r.s).kind with|.function=>true|_=>false) && !(cL r.s).isCoroutine && !(cL r.s).isGenerator&&decide r.N.Nodup&&decide (r.N.take r.ps.length=r.ps)&&decide (∀x∈r.ps,(cL r.s).names.lookup x=some .local\/(cL r.s).names.lookup x=some .cell)&&decide (∀y∈(cL r.s).names,y.2≠.free)
def sc{r:Rw}(h:r.scOk=true):mR r.N r.ps (cL r.s):=by
 unfold scOk at h;simp only[eL,mj,OX]at h;obtain⟨⟨⟨⟨⟨⟨h1,h2⟩,h3⟩,h4⟩,h5⟩,h6⟩,h7⟩:=h;exists ?_,h2,h3,h4,h5,h6,h7;cases e:(cL r.s).kind with
 |function=>rfl
 |_=>rw[e]at h1;cases h1
end Rw
section
variable{P:Program}{w:World}{K:Frag}{mg:Str->Option Value}{base:Heap}{r:Rw}{C:Addr}
structure Def(K:Frag)(mg:Str->Option Value)(r:Rw):Prop where
 F:lI K r.n r.q r.s r.a r.fd
 m:mg r.n=some (.ref r.a)
 b:Binds K r.fd r.ps []
 S:mR r.N r.ps (cL r.s)
structure nN(K:Frag)(C:Addr)(r:Rw):Prop where
 F:lI K r.n r.q r.s r.a r.fd
 m:tJ K C r.n r.a
 b:Binds K r.fd r.ps []
 S:mR r.N r.ps (cL r.s)
def rO(h:us.length=n+1):∃a v,us=a::v/\v.length=n:=by
 cases us with
 |nil=>cases h
 |cons a v=>nomatch a,v,rfl,BW h
def NQ{fd:FuncData}{ps:List Str}(h:∀a,bindArgs fd ⟨[a],[]⟩=pure (ps.zip [a]))(us:List Value)(hl:us.length=1):bindArgs fd ⟨us,[]⟩=pure (ps.zip us):=by
 obtain⟨a,v0,rfl,h0⟩:=rO hl;cases pN h0;exact h a
def HP{fd:FuncData}{ps:List Str}(h:∀a b,bindArgs fd ⟨[a,b],[]⟩=pure (ps.zip [a,b]))(us:List Value)(hl:us.length=2):bindArgs fd ⟨us,[]⟩=pure (ps.zip us):=by
 obtain⟨a,v0,rfl,h0⟩:=rO hl;obtain⟨b,v1,rfl,h1⟩:=rO h0;cases pN h1;exact h a b
def Gp{fd:FuncData}{ps:List Str}(h:∀a b c,bindArgs fd ⟨[a,b,c],[]⟩=pure (ps.zip [a,b,c]))(us:List Value)(hl:us.length=3):bindArgs fd ⟨us,[]⟩=pure (ps.zip us):=by
 obtain⟨a,v0,rfl,h0⟩:=rO hl;obtain⟨b,v1,rfl,h1⟩:=rO h0;obtain⟨c,v2,rfl,h2⟩:=rO h1;cases pN h2;exact h a b c
def Rw.fun(l:K.lookup r.a=some (⟨.type "function",none,.func r.fd,#[]⟩))(c:PySem.W.codeIn K (.ref (r.a-1)) r.q=true)(k:PySem.W.keepIn K (.ref r.a)=true):lI K r.n r.q r.s r.a r.fd:=WV l c k
def Def.of(X:K.In h)(G:h.Ns mainGlobals mg)(u:∀us:List Value,us.length=r.ps.length->bindArgs r.fd ⟨us,[]⟩=pure (r.ps.zip us))(a:PySem.W.nsIn K mainGlobals r.n=some (some (.ref r.a)))
  (l:K.lookup r.a=some (⟨.type "function",none,.func r.fd,#[]⟩)) (c:PySem.W.codeIn K (.ref (r.a-1)) r.q=true) (k:PySem.W.keepIn K (.ref r.a)=true) (s:r.scOk=true):Def K mg r :=
 ⟨Rw.fun l c k,Iz X G a,.all u,Rw.sc s⟩
def nN.of(u:∀us:List Value,us.length=r.ps.length->bindArgs r.fd ⟨us,[]⟩=pure (r.ps.zip us))(a:PySem.W.findIn K (.ref C) r.n=some (some (.ref r.a)))
  (l:K.lookup r.a=some (⟨.type "function",none,.func r.fd,#[]⟩)) (c:PySem.W.codeIn K (.ref (r.a-1)) r.q=true) (k:PySem.W.keepIn K (.ref r.a)=true) (s:r.scOk=true) (y:PySem.W.isFn K (.ref r.a)=true):nN K C r :=
 ⟨Rw.fun l c k,⟨a,y,k⟩,.all u,Rw.sc s⟩
def iC(xs:List Str)(ts:List Tok)(hl:xs.length=ts.length)(hs:ts.length<=sizeLine)(h:K.lookup a=some ⟨.type "tuple",none,.seq ((xs.zip ts).map λp=>.str p.1 p.2).toArray 0,#[]⟩)(H:Hp):aG K H a (xs.map V.str):=by
 refine .inr ⟨_,_,_,h,rfl,rfl,?_,?_⟩
 ·rw[bJ,ay,Ng,hl,Bv];exact hs
 ·show Vals _ ((xs.zip ts).map _);clear h hs;induction xs generalizing ts with
  |nil=>exact .nil
  |cons x xs ih =>
   cases ts with
   |nil=>cases hl
   |cons t ts=>exact .cons ⟨_,rfl⟩ (ih ts (BW hl))
abbrev Rw.Ok(r:Rw)(P:Program)(w:World)(K:Frag)(mg:Str->Option Value)(base:Heap)(k:Nat)(sp:Sp):Prop:=gW P w K mg base pM k r.a r.fd r.ps sp
abbrev Rw.OkE(r:Rw)(P:Program)(w:World)(K:Frag)(mg:Str->Option Value)(base:Heap)(k:Nat)(sp:Sp):Prop:=gW P w K mg base (fB P w) k r.a r.fd r.ps sp
def Rw.ok{k:Nat}{sp:Sp}(F:lI K r.n r.q r.s r.a r.fd)(S:mR r.N r.ps (cL r.s))
  (h:∀ vs H Q E,sp vs H Q E->vs.length=r.ps.length/\∀ (bX:Value) (A:Around) (outer:List Env) (s:Shared),cz k (A.deeper (envOfC r.q (cL r.s) s.heap.objs.size r.a bX))->(A.deeper (envOfC r.q (cL r.s) s.heap.objs.size r.a bX)).units+1<cLine->r.N.Nodup -> ∃t,eC (kM pM P w K mg base r.N r.q (cL r.s) r.a bX A outer s H E).nox (ni r.s) t/\t {nx:=λ_ H'=>Q .non H',rt:=Q} (start r.N vs) H):r.Ok P w K mg base (k+1) sp :=
 F.ok S (λvs H Q E z=>(h vs H Q E z).1) λbX A outer s H vs Q E hr z=>(h vs H Q E z).2 bX A outer s hr (PM hr) S.nd
def Rw.okE{k:Nat}{sp:Sp}(F:lI K r.n r.q r.s r.a r.fd)(S:mR r.N r.ps (cL r.s))
  (h:∀ vs H Q E,sp vs H Q E->vs.length=r.ps.length/\∀ (bX:Value) (A:Around) (outer:List Env) (s:Shared),cz k (A.deeper (envOfC r.q (cL r.s) s.heap.objs.size r.a bX))->(A.deeper (envOfC r.q (cL r.s) s.heap.objs.size r.a bX)).units+1<cLine->r.N.Nodup -> ∃t,eC (kM (fB P w) P w K mg base r.N r.q (cL r.s) r.a bX A outer s H E) (ni r.s) t/\t {nx:=λ_ H'=>Q .non H',rt:=Q} (start r.N vs) H):r.OkE P w K mg base (k+1) sp :=
 F.okE S (λvs H Q E z=>(h vs H Q E z).1) λbX A outer s H vs Q E hr z=>(h vs H Q E z).2 bX A outer s hr (PM hr) S.nd
end
section
variable{X:Cx}{r:Rw}{k:Nat}{sp:Sp}{e:Expr}{es:List Expr}{t:TA}{p pos:Pos}{E:XK}
def aB(D:Def X.K X.mg r)(F:gW X.prog X.w X.K X.mg X.base pM k r.a r.fd r.ps sp)(hr:cz k X.A)(ha:PA X (e::es) t)(hx:r.n=x:=by rfl)(hg:Gl X x:=by rfl)(mQ:(x == ("__debug__" : Str))=false:=by decide)
  (he:starEach (e::es) X.env=(false,eval e X.env)::starEach es X.env:=by rfl) (dE:(backTo pos (starEach es X.env)).any (·.1)=false:=by rfl):PE X (.Call (.Name x p) (e::es) [] pos) (Jx sp [] E0 t):=by
 subst hx;exact fh F hr hg D.m D.F.kp D.b .nil AU ha mQ he dE
def aH(i:Nat)(hN:X.N.Nodup)(he:PE X e te)(hi:X.N[i]?=some x:=by rfl)(hx:oR X.env.scope x:=by first|exact Or.inl rfl|exact Or.inr rfl)(hs:swapsWith e (some (.Name x pos')) pos.line X.env=pure false:=by rfl)
  (hf:X.fn x=true\/X.env.scope.names.lookup x=some .local:=by first|exact .inl rfl|exact .inr rfl|assumption):PS X (.Assign [.Name x pos'] e pos) (ny te (a9 i)):=Nt hN hi hx he hs hf
def bf(i:Nat)(hN:X.N.Nodup)(hi:X.N[i]?=some x:=by rfl)(hx:oR X.env.scope x:=by first|exact Or.inl rfl|exact Or.inr rfl)(hf:X.fn x=true\/X.env.scope.names.lookup x=some .local:=by first|exact .inl rfl|exact .inr rfl|assumption):PG X (.Name x pos) (a9 i):=BQ hN hi hx hf
def d7(r:Rw)(h1:X.env.scope=cL r.s:=by rfl)(h2:X.N=r.N:=by rfl)(hk:scope.kind=.function:=by rfl)
  (j3:(scope.names.all λy=>y.2 != .cell&&(y.2 != .local || scope.names.lookup y.1 == some .local)&&(y.2 != .free || (cL r.s).names.lookup y.1 == some .cell))=true:=by decide+kernel)
  (aT:N'.length=nT+js.length:=by rfl) (hf:(js.map λj=>r.N[j]?)=(N'.drop nT).map some:=by decide+kernel) (hv:((N'.drop nT).all λx=>scope.names.lookup x == some .free)=true:=by decide+kernel):lJ X scope N' nT js :=
 lJ.of _ _ h1 h2 hk j3 aT hf hv
end
def nw(e:upd H p o=B)(h:H p=none):ag H B/\B p=some o:=by subst e;nomatch ag.upd h,au
end My
namespace L2
open PySem PySem.Spec PyProof.Rows
section
variable{X:Cx}
def PE.to(h:PE X e t)(m:∀σ H Q,u σ H Q->t σ H Q):PE X e u:=λaa s σ H Q I q=>h aa s σ H Q I (m _ _ _ q)
def bH.to(h:bH X f r)(m:∀x y H Q,u x y H Q->r x y H Q):bH X f u:=λaa s σ H x y v w Q I r1 r2 q=>h aa s σ H x y v w Q I r1 r2 (m _ _ _ _ q)
def lx.to(h:lx X r)(m:∀x y H Q,u x y H Q->r x y H Q):lx X u:=λa b aa s σ H x y v w Q I r1 r2 q=>h a b aa s σ H x y v w Q I r1 r2 (m _ _ _ _ q)
def tV(i:Nat):TE:=λσ H Q=>match σ[i]? with|some (some v)=>Q v H|_=>False
set_option tactic.hygienic true in
def Xr:∀σ H Q,tV i σ H Q->jA i σ H Q:=λσ H Q h=>by
 unfold tV at h;split at h
 ·rename_i v e;nomatch v,e,h
 ·exact h.elim
def vI(x:V)(k:Int->Prop):Prop:=match x with|.int i=>k i|_=>False
def K6(x:V)(k:Bool->Prop):Prop:=match x with|.bl i=>k i|_=>False
def vR(x:V)(k:Addr->Prop):Prop:=match x with|.ref i=>k i|_=>False
def qk(h:vI x k):∃i,x=.int i/\k i:=by cases x<;>first|exact h.elim|nomatch _,rfl,h
def Uu(h:K6 x k):∃i,x=.bl i/\k i:=by cases x<;>first|exact h.elim|nomatch _,rfl,h
def sY(h:vR x k):∃i,x=.ref i/\k i:=by cases x<;>first|exact h.elim|nomatch _,rfl,h
def tT(t:TE):TT:=λσ H Q=>t σ H λx H1=>K6 x λc=>Q c H1
def Y8(C:Int->Int->Prop)(g:Int->Int->V):R2:=λx y H Q=>vI x λi=>vI y λj=>C i j/\Q (g i j) H
def RC(g:Int->Int->V):R2:=λx y H Q=>vI x λi=>vI y λj=>Q (g i j) H
def xo(f:Bool->Bool):R2:=λx y H Q=>match uI x y with|true=>Q (.bl (f (decide (x=y)))) H|false=>False
inductive Ix (S:List V->Prop) (i:Int) (Q:V->Prop):Prop
 |mk {xs:List V} (v:V) (h:S xs) (e:ef xs i=some v) (k:Q v)
def JI(K:Frag):R2:=λx y H Q=>vR x λp=>vI y λi=>Ix (ai K H p) i λv=>Q v H
def Qq(K:Frag):R2:=λx y H Q=>vR x λp=>vI y λi=>Ix (aG K H p) i λv=>Q v H
def bH.c(h:bH X f (rI C g)):bH X f (Y8 C g):=h.to λx y H Q q=>by
 obtain⟨i,rfl,q1⟩:=qk q;obtain⟨j,rfl,q2⟩:=qk q1;nomatch i,j,rfl,rfl,q2
theorem bH.j(h:bH X f (jB g)):bH X f (RC g):=h.to λx y H Q q=>by
 obtain⟨i,rfl,q1⟩:=qk q;obtain⟨j,rfl,q2⟩:=qk q1;nomatch i,j,rfl,rfl,q2
def Ik(h:xo f x y H Q):uI x y=true/\Q (.bl (f (decide (x=y)))) H:=by
 unfold xo at h;cases e:uI x y<;>rw[e]at h
 ·exact h.elim
 ·nomatch rfl,h
def aY:bH X (compareOp .Eq) (xo id):=oO.to λx y H Q q=>Ik q
def fP:bH X (compareOp .NotEq) (xo not):=wN.to λx y H Q q=>Ik q
def xl:lx X (JI X.K):=Je.to λx y H Q q=>by
 obtain⟨p,rfl,q1⟩:=sY q;obtain⟨i,rfl,v,h1,h2,q2⟩:=qk q1;nomatch p,_,i,v,rfl,rfl,h1,h2,q2
def xt:lx X (Qq X.K):=QG.to λx y H Q q=>by
 obtain⟨p,rfl,q1⟩:=sY q;obtain⟨i,rfl,v,h1,h2,q2⟩:=qk q1;nomatch p,_,i,v,rfl,rfl,h1,h2,q2
variable{a b:Expr}{ta tb:TE}{pos:Pos}
def bD(ho:bH X (compareOp op) r)(ha:PE X a ta)(hb:PE X b tb)(g:op≠.In:=by decide)(g2:op≠.NotIn:=by decide):PT X (.Compare a [op] [b] pos) (tT (i0 r ta tb)):=by
 intro aa s σ H Q I h;refine CQ (aI (ha aa s σ H _ I h) λv s1 ⟨x,H1,I1,r1,q1⟩=>aI (hb aa s1 σ H1 _ I1 q1) λu s2 ⟨y,H2,I2,r2,q2⟩ =>
  aI (ho aa s2 σ H2 x y v u _ I2 r1 r2 q2) λc s3 ⟨z,H3,I3,r3,q3⟩=>?_) (Fz _ g g2)
 obtain⟨k,rfl,q3⟩:=Uu q3;cases r3;exact kG ⟨H3,I3,q3⟩
def pV(i:Nat)(hN:X.N[i]?=some x:=by rfl)(hv:vZ X.env.scope x:=by first|exact Or.inl rfl|exact Or.inr (Or.inl rfl)|exact Or.inr (Or.inr rfl))(hd:(x == ("__debug__" : Str))=false:=by decide)
  (iN:(x == ("__classdict__" : Str))=false:=by decide):PE X (.Name x pos) (tV i):=(pv i hN hv hd iN).to Xr
def xL(ha:PE X a ta)(hb:PE X b tb)(hs:uw b:=by exact λ_ _=>rfl):PE X (.Subscript a b pos) (i0 (JI X.K) ta tb):=yE xl ha hb hs
def xT(ha:PE X a ta)(hb:PE X b tb)(hs:uw b:=by exact λ_ _=>rfl):PE X (.Subscript a b pos) (i0 (Qq X.K) ta tb):=yE xt ha hb hs
def PG.to(h:PG X e t)(m:∀v σ H Q,u v σ H Q->t v σ H Q):PG X e u:=λaa s σ H v w Q I r q=>h aa s σ H v w Q I r (m _ _ _ _ q)
def kK.to(h:kK X es t)(m:∀v σ H Q,u v σ H Q->t v σ H Q):kK X es u:=λaa s σ H v w Q I r q=>h aa s σ H v w Q I r (m _ _ _ _ q)
def gTc(K:Frag)(n:Nat)(t:mW):TG:=λv σ H Q=>vR v λa=>∃xs,aG K H a xs/\xs.length=n/\t xs σ H Q
def Sk(t:TG)(u:mW):mW:=λvs σ H Q=>match vs with|v::r=>t v σ H λσ' H'=>u r σ' H' Q|[]=>False
def QP:mW:=λvs σ H Q=>match vs with|[]=>Q σ H|_::_=>False
def su(hc:X.calm=true)(h:kK X es t)
  (hn:(assignEach es X.env).length=n:=by rfl) (cW:(assignEach es X.env).findIdx? (·.1)=none:=by rfl):PG X (.Tuple es k pos) (gTc X.K n t):=(hZ hc h hn cW).to λv σ H Q q=>let ⟨a,e,xs,r⟩:=sY q; ⟨a,xs,e,r⟩
def iX(h1:PG X e t)(h2:kK X es u)
  (hs:(assignEach (e::es) X.env).map (·.2)=assign e X.env::(assignEach es X.env).map (·.2):=by rfl):kK X (e::es) (Sk t u):=(cS h1 h2 hs).to λv σ H Q q=>by
 cases v with
 |nil=>exact q.elim
 |cons v r=>nomatch v,r,rfl,q
def sU:kK X [] QP:=gR.to λv σ H Q q=>by
 cases v with
 |nil=>nomatch rfl,q
 |cons v r=>exact q.elim
def fI.to{id:String}{r u:V->List V->Hp->VK->Prop}(h:fI X id r)(m:∀x v H Q,u x v H Q->r x v H Q):fI X id u:=λaa s σ H x xs v us Q I r1 r2 q=>h aa s σ H x xs v us Q I r1 r2 (m _ _ _ _ q)
inductive Ap (o:Option HO) (Q:List V->Prop):Prop
 |mk (xs:List V) (h:o=some (.lst xs)) (e:xs.length<sizeLine) (k:Q xs)
def zcD:V->List V->Hp->VK->Prop:=λx vs H Q=>vR x λl=>match vs with|[y]=>Ap (H l) λxs=>Q .non (upd H l (.lst (xs++[y])))|_=>False
def jS:fI X "list.append" zcD:=RX.to λx vs H Q q=>by
 obtain⟨l,rfl,q1⟩:=sY q;cases vs with
 |nil=>exact q1.elim
 |cons y r =>
  cases r with
  |nil=>obtain⟨xs,h1,h2,h3⟩:=q1;nomatch l,xs,y,rfl,rfl,h1,h2,h3
  |cons _ _=>exact q1.elim
def cl(t:TE):TE:=λσ H Q=>∃R:VK,(∀v H,R v H->Q v H)/\t σ H R
def PE.cl(h:PE X e t):PE X e (cl t):=λaa s σ H Q I ⟨R,m,q⟩=>aI (h aa s σ H R I q) λv s1 ⟨x,H1,I1,r1,q1⟩=>⟨x,H1,I1,r1,m _ _ q1⟩
def YT(t:TE):TO:=λσ H Q=>t σ H λx H1=>vI x λi=>Q (some i) H1
def iLc(K:Frag)(tl:TE):TI:=λσ H R=>tl σ H λx H1=>vR x λa=>(∃xs,ai K H1 a xs)/\R (gV K a) H1
inductive Dg (H:Hp) (a:Addr) (y:V) (Q:V->Prop):Prop
 |mk (v:V) (h:gG H a y (some v)) (k:Q v)
def YU(td ty:TE):TE:=λσ H Q=>td σ H λx H1=>ty σ H1 λy H2=>vR x λa=>Dg H2 a y λv=>Q v H2
def cJ(h:PE X e te):PO X (some e) (YT te):=λaa s σ H Q I q=>PK h.cl aa s σ H Q I ⟨_,λv H1 z=>qk z,q⟩
def dM(hl:PE X l tl):PI X tg l (iLc X.K tl):=λaa s σ H R I q=>Hv hl.cl aa s σ H R I ⟨_,λv H1 z=>sY z,q⟩
def DQ(hu:X.A.units+1<cLine)(ho:PE X o td)(hi:PE X i ty)(hs:yV i:=by exact λ_ _=>rfl):PE X (.Subscript o i pos) (YU td ty):=λaa s σ H Q I q=>V4 hu ho.cl hi.cl hs aa s σ H Q I ⟨λx H1=>ty σ H1 λy H2=>vR x λa=>Dg H2 a y λv=>Q v H2,λx H1 z=>⟨λy H2=>vR x λa=>Dg H2 a y λv=>Q v H2,λy H2 w=>by obtain⟨a,e,v,g,q⟩:=sY w;exact⟨a,v,e,g,q⟩,z⟩,q⟩
def QU(t:TT):TT:=λσ H Q=>∃R:Bool->Hp->Prop,(∀v H,R v H->Q v H)/\t σ H R
def PT.cl(h:PT X e t):PT X e (QU t):=λaa s σ H Q I ⟨R,m,q⟩=>aI (h aa s σ H R I q) λv s1 ⟨H1,I1,q1⟩=>⟨H1,I1,m _ _ q1⟩
inductive ou (b:Bool) (A B:Prop):Prop
 |t (h:b=true) (k:A)
 |f (h:b=false) (k:B)
def ou.ite{b:Bool}{A B:Prop}(h:ou b A B):if b=true then A else B:=by
 cases h with
 |t h k=>rw[ax h];exact k
 |f h k=>rw[aq (by rw[h];exact cQ)];exact k
def vN{b:Bool}{A B:Prop}(h:¬b=true)(k:B):ou b A B:=.f (sJ.mpr h) k
def vY{b:Bool}{A B:Prop}(h:b=true)(k:A):ou b A B:=.t h k
def vn{b:Bool}{A B:Prop}(k:B)(h:b=false:=by decide):ou b A B:=.f h k
def vy{b:Bool}{A B:Prop}(k:A)(h:b=true:=by decide):ou b A B:=.t h k
def v2{b:Bool}{A B:Prop}(h:b=true->A)(k:¬b=true->B):ou b A B:=by
 by_cases z:b=true
 ·exact .t z (h z)
 ·exact vN z (k z)
def zbK(c:TT)(t u:TS):TS:=λD σ H=>c σ H λb H1=>ou b (t D σ H1) (u D σ H1)
def bB{c:Expr}{a b:List Stmt}{tc:TT}{t u:TS}(hc:PT X c tc)(ha:eC X a t)(hb:eC X b u):PS X (.If c a b pos) (zbK tc t u):=λaa s σ H D I q=>bt hc.cl ha hb aa s σ H D I ⟨_,λb H1 z=>z.ite,q⟩
def cz.m(r:cz k A)(h:j<=k:=by decide):cz j A:=r.mono h
def pD(hr:lx X r)(ha:PE X a ta)(hb:PE X b tb)(hs:uw b:=by exact λ_ _=>rfl):PE X (.Subscript a b pos) (i0 r ta tb):=yE hr ha hb hs
def Fy(ha:PE X a ta)(hb:PE X b tb)(hs:uw b:=by exact λ_ _=>rfl):PE X (.Subscript a b pos) (i0 (Ia X.K) ta tb):=yE Je ha hb hs
def bb(ho:bH X (compareOp op) r)(ha:PE X a ta)(hb:PE X b tb)(h:op≠.In:=by decide)(h2:op≠.NotIn:=by decide):PT X (.Compare a [op] [b] pos) (O6 (i0 r ta tb)):=jZ ho ha hb (Fz _ h h2)
def cO(ho:bH X (compareOp op) r)(ha:PE X a ta)(hb:PE X b tb)(h:op≠.In:=by decide)(h2:op≠.NotIn:=by decide):PE X (.Compare a [op] [b] pos) (i0 r ta tb):=wO ho ha hb (Fz _ h h2)
end
def jN{b:Bool}{A B:Bool->Prop}(k:B b)(h:¬b=true:=by decide):∃k,V.bl b=V.bl k/\if k=true then A k else B k:=⟨b,rfl,by rw[aq h];exact k⟩
def jY{b:Bool}{A B:Bool->Prop}(k:A b)(h:b=true:=by decide):∃k,V.bl b=V.bl k/\if k=true then A k else B k:=⟨b,rfl,by rw[ax h];exact k⟩
end L2
namespace My
open PySem L2 OF
noncomputable abbrev zp:Addr:=435
noncomputable abbrev zI:Addr:=436
noncomputable abbrev xA:Addr:=437
noncomputable abbrev zL:Addr:=438
noncomputable abbrev yo:Addr:=439
noncomputable abbrev yq:Addr:=440
noncomputable abbrev yO:Addr:=441
noncomputable abbrev wU:Addr:=442
noncomputable abbrev eF:Addr:=543
noncomputable abbrev oU:Addr:=150
noncomputable abbrev dW:Addr:=313
noncomputable abbrev sf:Addr:=443
noncomputable abbrev DL:Addr:=444
noncomputable abbrev Ds:Addr:=445
noncomputable abbrev B2:Addr:=446
noncomputable abbrev Eu:Addr:=447
noncomputable abbrev Dj:Addr:=448
noncomputable abbrev du:Addr:=187
noncomputable abbrev dG:Addr:=199
noncomputable abbrev dS:Addr:=211
noncomputable abbrev oh:Addr:=175
noncomputable abbrev df:Addr:=163
noncomputable abbrev lM:Addr:=223
noncomputable abbrev sR:Addr:=314
noncomputable abbrev lQ:Addr:=235
set_option genInjectivity false
structure Txt(w:World)(K:Frag)(mg:Str->Option Value):Prop where
 d_Z21:Def K mg xv
 d_Z22:Def K mg zZ
 d_Z23:Def K mg Fq
 d_Z67:Def K mg BE
 d_Z68:Def K mg y0
 d_Z26:Def K mg Be
 d_Z47:Def K mg Eh
 d_Desk_kept:nN K eF BO
 d_Z9:Def K mg Af
 d_Z69:Def K mg AZ
 d_Z49:Def K mg E7
 d_Z55:Def K mg FG
 d_Z62:Def K mg zV
 d_Z46:Def K mg Cy
 d_Z3:Def K mg BM
 d_Z58:Def K mg Dr
 d_Z4:Def K mg Dh
 d_Z59:Def K mg CV
 d_Z60:Def K mg Fo
 d_Z20:Def K mg Bi
 d_Z14:Def K mg yI
 d_Z70:Def K mg Ez
 d_Z71:Def K mg Ed
 d_Z79:Def K mg CN
 d_Z80:Def K mg Bn
 d_Z53:Def K mg A6
 d_Z52:Def K mg Fs
 d_Z57:Def K mg AR
 d_Z54:Def K mg Dp
 d_Z74:Def K mg Et
 d_Z50:Def K mg BX
 d_Z25:Def K mg C5
 d_Z13:Def K mg A2
 d_Z11:Def K mg CM
 d_Z1:Def K mg FW
 d_Z12:Def K mg Bs
 d_Z81:Def K mg yz
 d_Z16:Def K mg yJ
 d_Z7:Def K mg FT
 d_Z56:Def K mg AY
 d_Z24:Def K mg EI
 d_Z83:Def K mg A3
 d_Desk_form_for:nN K eF AG
 d_Z61:Def K mg yY
 d_Z17:Def K mg yX
 d_Z66:Def K mg yZ
 d_Z8:Def K mg xx
 d_Z51:Def K mg DF
 d_Z45:Def K mg xY
 d_Z64:Def K mg Bh
 d_Z2:Def K mg Gf
 d_Z48:Def K mg zu
 d_Z63:Def K mg xq
 d_Z65:Def K mg DC
 d_Z15:Def K mg xW
 d_Z5:Def K mg D6
 d_Z19:Def K mg DM
 d_Z78:Def K mg xR
 d_Z77:Def K mg BS
 d_Z72:Def K mg CB
 d_Z73:Def K mg Fv
 d_Z82:Def K mg wG
 d_Z6:Def K mg Bq
 d_Z75:Def K mg Fi
 d_Z76:Def K mg ya
 d_Desk_answer:nN K eF Ee
 d_Desk_say:nN K eF DJ
 d_Z39:Def K mg Ag
 d_Z38:Def K mg Ft
 d_Z35:Def K mg Cc
 d_Z36:Def K mg Fd
 d_Z44:Def K mg E8
 d_Z40:Def K mg Eo
 d_Z37:Def K mg Br
 d_Z41:Def K mg DU
 d_Z32:Def K mg D8
 d_Z30:Def K mg AB
 d_Z31:Def K mg Co
 d_Z27:Def K mg Au
 d_Z33:Def K mg AI
 d_Z28:Def K mg uT
 d_Desk_init:nN K eF xH
 d_Z34:Def K mg C9
 d_Z42:Def K mg BP
 d_Z43:Def K mg DH
 d_Z29:Def K mg Cz
 d_law:Def K mg oS
 g_Desk:mg "Desk" = some (.ref eF)
 cl_Desk:jV K eF
 nf_Desk_forms:o9 K eF "forms"
 mk_Desk:Mk K eF xH.a
 n_ValueError:mg "ValueError" = none
 n_abs:mg "abs" = none
 n_all:mg "all" = none
 n_any:mg "any" = none
 n_dict:mg "dict" = none
 n_enumerate:mg "enumerate" = none
 n_int:mg "int" = none
 n_isinstance:mg "isinstance" = none
 n_len:mg "len" = none
 n_min:mg "min" = none
 n_range:mg "range" = none
 n_reversed:mg "reversed" = none
 n_sorted:mg "sorted" = none
 n_str:mg "str" = none
 n_sum:mg "sum" = none
 n_zip:mg "zip" = none
 g_SMALL_LETTERS:mg "SMALL_LETTERS" = some (.str "abcdefghijklmnopqrstuvwxyz" 764)
 g_FIGURES:mg "FIGURES" = some (.str "0123456789" 696)
 g_LETTERS:mg "LETTERS" = some (.str "abcdefghijklmnop" 589)
 g_MADE:mg "MADE" = some (.ref sf)
 q_MADE_0:∀H:Hp,aG K H DL [.str "name",.str "name"]
 q_MADE_1:∀H:Hp,aG K H Ds [.str "name",.str "name"]
 q_MADE_2:∀H:Hp,aG K H B2 [.str "name",.str "name"]
 q_MADE_3:∀H:Hp,aG K H Eu [.str "name",.str "letter",.str "bit"]
 q_MADE_4:∀H:Hp,aG K H Dj [.str "name",.str "letter",.str "name"]
 q_MADE:mY w K sf [("plus",DL),("less",Ds),("times",B2),("fixed",Eu),("put",Dj)]
 g_ASKED:mg "ASKED" = some (.ref zp)
 q_ASKED_0:∀H:Hp,aG K H zI [.str "name"]
 q_ASKED_1:∀H:Hp,aG K H xA [.str "name",.str "number"]
 q_ASKED_2:∀H:Hp,aG K H zL [.str "name",.str "name"]
 q_ASKED_3:∀H:Hp,aG K H yo [.str "name",.str "name",.str "divisor"]
 q_ASKED_4:∀H:Hp,aG K H yq [.str "name"]
 q_ASKED_5:∀H:Hp,aG K H yO [.str "name"]
 q_ASKED_6:∀H:Hp,aG K H wU [.str "name"]
 q_ASKED:mY w K zp [("show",zI),("worth",xA),("alike",zL),("rest",yo),("least",yq),("ways",yO),("unknowns",wU)]
 g_SPACED:mg "SPACED" = some (.ref sR)
 q_SPACED:∀H:Hp,aG K H sR [.str "not ",.str " and ",.str " or ",.str " xor "]
 g_JOINING:mg "JOINING" = some (.ref dW)
 q_JOINING:∀H:Hp,aG K H dW [.str "and",.str "or",.str "xor"]
 g_NoLine:mg "NoLine" = some (.ref dG)
 x_NoLine:gd K dG (.ref oU::vB)=true
 g_FormError:mg "FormError" = some (.ref oU)
 x_FormError:gd K oU vB=true
 g_NoName:mg "NoName" = some (.ref dS)
 x_NoName:gd K dS (.ref oU::vB)=true
 g_NoForm:mg "NoForm" = some (.ref du)
 x_NoForm:gd K du (.ref oU::vB)=true
 g_NoStatement:mg "NoStatement" = some (.ref df)
 x_NoStatement:gd K df (.ref oU::vB)=true
 g_TooMany:mg "TooMany" = some (.ref lQ)
 x_TooMany:gd K lQ (.ref oU::vB)=true
 g_NoYesNo:mg "NoYesNo" = some (.ref lM)
 x_NoYesNo:gd K lM (.ref oU::vB)=true
 g_NoPull:mg "NoPull" = some (.ref oh)
 i_NoLine_NoLine:kitOne K (.ref dG) (.ref dG)=some true
 i_NoLine_NoName:kitOne K (.ref dG) (.ref dS)=some false
 i_NoLine_NoForm:kitOne K (.ref dG) (.ref du)=some false
 i_NoLine_NoStatement:kitOne K (.ref dG) (.ref df)=some false
 i_NoLine_TooMany:kitOne K (.ref dG) (.ref lQ)=some false
 i_NoLine_NoYesNo:kitOne K (.ref dG) (.ref lM)=some false
 i_NoLine_NoPull:kitOne K (.ref dG) (.ref oh)=some false
 v_NoLine:kitOne K (.ref dG) (.type "ValueError")=some true
 i_NoName_NoLine:kitOne K (.ref dS) (.ref dG)=some false
 i_NoName_NoName:kitOne K (.ref dS) (.ref dS)=some true
 i_NoName_NoForm:kitOne K (.ref dS) (.ref du)=some false
 i_NoName_NoStatement:kitOne K (.ref dS) (.ref df)=some false
 i_NoName_TooMany:kitOne K (.ref dS) (.ref lQ)=some false
 i_NoName_NoYesNo:kitOne K (.ref dS) (.ref lM)=some false
 i_NoName_NoPull:kitOne K (.ref dS) (.ref oh)=some false
 v_NoName:kitOne K (.ref dS) (.type "ValueError")=some true
 i_NoForm_NoLine:kitOne K (.ref du) (.ref dG)=some false
 i_NoForm_NoName:kitOne K (.ref du) (.ref dS)=some false
 i_NoForm_NoForm:kitOne K (.ref du) (.ref du)=some true
 i_NoForm_NoStatement:kitOne K (.ref du) (.ref df)=some false
 i_NoForm_TooMany:kitOne K (.ref du) (.ref lQ)=some false
 i_NoForm_NoYesNo:kitOne K (.ref du) (.ref lM)=some false
 i_NoForm_NoPull:kitOne K (.ref du) (.ref oh)=some false
 v_NoForm:kitOne K (.ref du) (.type "ValueError")=some true
 i_NoStatement_NoLine:kitOne K (.ref df) (.ref dG)=some false
 i_NoStatement_NoName:kitOne K (.ref df) (.ref dS)=some false
 i_NoStatement_NoForm:kitOne K (.ref df) (.ref du)=some false
 i_NoStatement_NoStatement:kitOne K (.ref df) (.ref df)=some true
 i_NoStatement_TooMany:kitOne K (.ref df) (.ref lQ)=some false
 i_NoStatement_NoYesNo:kitOne K (.ref df) (.ref lM)=some false
 i_NoStatement_NoPull:kitOne K (.ref df) (.ref oh)=some false
 v_NoStatement:kitOne K (.ref df) (.type "ValueError")=some true
set_option genInjectivity true
def wX:PS X st (λ_ _ _=>False):=λ_ _ _ _ _ _ h=>h.elim
seal L2.PS L2.eC L2.PE L2.PT L2.PA L2.PI L2.PG L2.PW L2.PO L2.lb
section
variable{P:Program}{w:World}{K:Frag}{mg:Str->Option Value}{base:Heap}
def Y9:Sp:=λvs H Q _=>∃w:List Nat,vs=[.str (S w)]/\(∀c∈w,c<128)/\w.length<=10000/\∀H',ag H H'->Q (.bl (aP w)) H'
def ZO:(["letter"]:List Str).Nodup:=by decide+kernel
def Pm(T:Txt w K mg):xv.Ok P w K mg base 1 Y9:=by
  refine Rw.ok T.d_Z21.F T.d_Z21.S ?_;rintro vs H Q E ⟨wo,rfl,ha,hl,q⟩;refine⟨rfl,fun _ _ _ _ hr hu nd=>⟨_,(ao (az (fX (HN pS.j pS.j aj (bj gp (by rfl) T.n_len bS (ae (pV 0) ah)) aj) (fR (bj (Ho rfl) (by rfl) T.n_all LZ (ae (gn (g:=(a9 0)) ["letter"] 1 [] rfl (d7 xv) (sr (pV 0))
    (λcl C s₀ H₀ fp=>(bf 0 ZO)) (λcl C s₀ H₀ fp=>lL) (λcl C s₀ H₀ fp=>(wO CC (pV 0) (dX (v:=.str "abcdefghijklmnopqrstuvwxyz") (by rfl) T.g_SMALL_LETTERS ⟨_,rfl⟩) rfl))) ah)))))),?_⟩⟩
  have hz:(S wo).length<=sizeLine:=by rw[aN];exact gf (by lia)
  exists _,rfl,hz,_,rfl,?_;by_cases h1:1<=wo.length
  rotate_left
  ·refine aF (λy=>h1 (by have:=br y;rw[aN]at this;lia)) ⟨_,rfl,aF (by decide) ?_⟩;have e:aP wo=false:=by unfold aP;rw[aL h1];rfl
   rw[e]at q;exact q H (ag.refl _)
  refine aU (aC (by rw[aN];lia)) ⟨_,rfl,?_⟩;by_cases h2:wo.length<=8
  rotate_left
  ·refine aF (λy=>h2 (by have:=br y;rw[aN]at this;lia)) ?_;have e:aP wo=false:=by unfold aP;rw[aL h2,ql,iG]
   rw[e]at q;exact q H (ag.refl _)
  refine aU (aC (by rw[aN];lia)) ?_;have e:aP wo=(wo.map λc=>decide (97<=c/\c<123)).all id:=by unfold aP;rw[aC h1,aC h2,oB,oB,E3];rfl
  rw[e]at q;exists _,rfl,qT ha,?_;refine HE (l:=wo) (λi ys σ G=>∃v0:Option V,σ=[v0]/\ys=((wo.take i).map λc=>decide (97<=c/\c<123)).map V.bl/\G=H)
   ⟨none,rfl,rfl,rfl⟩ (λi ys σ G ⟨_,_,e1,_⟩=>by rw[e1];simp;lia) (by rw[<-aN];exact hz) ?_ ?_
  ·rintro i c ys σ G hc ⟨v0,rfl,rfl,rfl⟩;have bz:wo.take (i+1)=wo.take i++[c]:=by rw[dR,hc];rfl
   unfold a9;refine tt ?_;exists _,_,rfl,rfl,?_;rw[Nc,Kb c (ha c (cM hc))];exists _,rfl,?_,rfl;rw[bz,aQ,aQ];rfl
  ·rintro ys σ G ⟨v0,rfl,rfl,rfl⟩ D hD;rw[dH];nomatch D,_,rfl,ai.of au,q _ (ag.upd hD)
def VN:Sp:=λvs H Q _=>∃w:List Nat,vs=[.str (S w)]/\(∀c∈w,c<128)/\w.length<=10000/\∀H',ag H H'->Q (.bl (cf w)) H'
def UH(l:List Nat):Txt.startswith (S l) (S [48])=decide (l.head?=some 48):=by
 unfold Txt.startswith;rw[DG,gx,gx,aN,aN];cases l with
 |nil=>rfl
 |cons c r =>
  by_cases z:c=48
  ·subst z;simp
  ·simp[z]
def zbc:(["figure"]:List Str).Nodup:=by decide+kernel
def zaV(T:Txt w K mg):zZ.Ok P w K mg base 1 VN:=by
  refine Rw.ok T.d_Z22.F T.d_Z22.S ?_;rintro vs H Q E ⟨wo,rfl,ha,hl,q⟩;refine⟨rfl,fun _ _ _ _ hr hu nd=>⟨_,(ar (bt (fJ (ck eV E6 EO Hz (pV 0) (ae ak ah))) (ao (az (cO aY (pV 0) ak))) aM)
   (ao (az (fX (HN pS.j pS.j aj (bj gp (by rfl) T.n_len bS (ae (pV 0) ah)) aj) (fR (bj (Ho rfl) (by rfl) T.n_all LZ (ae (gn (g:=(a9 0)) ["figure"] 1 [] rfl (d7 zZ) (sr (pV 0))
    (λcl C s₀ H₀ fp=>(bf 0 zbc)) (λcl C s₀ H₀ fp=>lL) (λcl C s₀ H₀ fp=>(wO CC (pV 0) (dX (v:=.str "0123456789") (by rfl) T.g_FIGURES ⟨_,rfl⟩) rfl))) ah))))))),?_⟩⟩
  have hz:(S wo).length<=sizeLine:=by rw[aN];exact gf (by omega)
  exists rfl,_,_,rfl,rfl,_,rfl,?_;rw[fz,UH];by_cases h0:wo.head?=some 48
  ·refine aU (aC h0) ?_;have e:cf wo=decide (V.str (S wo)=V.str (ofString "0")):=by
    unfold cf;rw[ax h0,fz];by_cases z:wo=[48]
    ·rw[z,aC rfl,aC rfl]
    ·rw[aL z,aL (λy=>z (by injection y with y;exact d0 y))]
   rw[e]at q;exact q H (ag.refl _)
  refine aF (λy=>h0 (br y)) ?_;exists _,rfl,hz,_,rfl,?_;by_cases h1:1<=wo.length
  rotate_left
  ·refine aF (λy=>h1 (by have:=br y;rw[aN]at this;omega)) ⟨_,rfl,aF (by decide) ?_⟩;have e:cf wo=false:=by unfold cf;rw[aq h0,aL h1];rfl
   rw[e]at q;exact q H (ag.refl _)
  refine aU (aC (by rw[aN];omega)) ⟨_,rfl,?_⟩;by_cases h2:wo.length<=18
  rotate_left
  ·refine aF (λy=>h2 (by have:=br y;rw[aN]at this;lia)) ?_;have e:cf wo=false:=by unfold cf;rw[aq h0,aL h2,ql,iG]
   rw[e]at q;exact q H (ag.refl _)
  refine aU (aC (by rw[aN];lia)) ?_;have e:cf wo=(wo.map λc=>decide (48<=c/\c<58)).all id:=by unfold cf;rw[aq h0,aC h1,aC h2,oB,oB,E3];rfl
  rw[e]at q;exists _,rfl,qT ha,?_;refine HE (l:=wo) (λi ys σ G=>∃v0:Option V,σ=[v0]/\ys=((wo.take i).map λc=>decide (48<=c/\c<58)).map V.bl/\G=H)
   ⟨none,rfl,rfl,rfl⟩ (λi ys σ G ⟨_,_,e1,_⟩=>by rw[e1];simp;omega) (by rw[<-aN];exact hz) ?_ ?_
  ·rintro i c ys σ G hc ⟨v0,rfl,rfl,rfl⟩;have bz:wo.take (i+1)=wo.take i++[c]:=by rw[dR,hc];rfl
   unfold a9;refine tt ?_;exists _,_,rfl,rfl,?_;rw[AS,Jp c (ha c (cM hc))];exists _,rfl,?_,rfl;rw[bz,aQ,aQ];rfl
  ·rintro ys σ G ⟨v0,rfl,rfl,rfl⟩ D hD;rw[dH];nomatch D,_,rfl,ai.of au,q _ (ag.upd hD)
def BB(w:List Nat):bI .letter w=(decide (w.length=1)&&w.all λc=>decide (97<=c/\c<113)):=rfl
def Gb(w:List Nat):bI .bit w=(decide (w=[48]) || decide (w=[49])):=rfl
def Cb(w:List Nat):bI .divisor w=(cf w && !decide (w=[48])):=rfl
def Pl{w:List Nat}(h:cf w=true):NumText.AllDigits w/\w≠[]/\w.length<=18:=by
 unfold cf at h;split at h
 ·rw[br h];exact⟨λc hc=>by rw[bh.mp hc];decide,by simp,by simp⟩
 ·simp only[eL,mj]at h;nomatch λc hc=>by have:=br (gz.mp h.2.2 c hc);lia,λz=>by rw[z]at h;simp at h,h.2.1
def U3{w:List Nat}(h:NumText.AllDigits w)(h1:w≠[])(h2:w.length<=18):intText? (S w)=some ((digitsVal w:Nat):Int):=intText_digits (x:=S w) h h1 (by rw[aN];lia)
def UL:Sp:=λvs H Q _=>∃(k:Kd) (w:List Nat),vs=[.str k.s,.str (S w)]/\(∀c∈w,c<128)/\w.length<=10000/\∀H',ag H H'->Q (.bl (bI k w)) H'
def RG(T:Txt w K mg):Fq.Ok P w K mg base 2 UL:=by
  refine Rw.ok T.d_Z23.F T.d_Z23.S ?_;rintro vs H Q E ⟨k,wo,rfl,ha,hl,q⟩;refine⟨rfl,fun _ _ _ _ hr hu nd=>⟨_,(ar (bB (bD aY (pV 0) ak) (ao (az (aB T.d_Z21 (Pm T) hr (ae (pV 1) ah)))) aM) (ar (bB (bD aY (pV 0) ak) (ao (az (fX (cO aY (bj gp (by rfl) T.n_len bS (ae (pV 1) ah)) aj) (fR (wO CC (pV 1) (dX (v:=.str "abcdefghijklmnop") (by rfl) T.g_LETTERS ⟨_,rfl⟩) rfl))))) aM)
   (ar (bB (bD aY (pV 0) ak) (ao (az (yr (cO aY (pV 1) ak) (fR (cO aY (pV 1) ak))))) aM) (ao (az (fX (aB T.d_Z22 (zaV T) hr (ae (pV 1) ah)) (fR (za0 (fX (cO aY (pV 0) ak) (fR (cO aY (pV 1) ak))))))))))),?_⟩⟩
  have hz:(S wo).length<=sizeLine:=by rw[aN];exact gf (by omega)
  cases k with
  |name =>
   refine vy ?_;nomatch wo,rfl,ha,hl,λH1 s1=>q H1 s1
  |letter =>
   refine vn ?_;refine vy ?_;exists _,rfl,hz,_,rfl,?_;by_cases h1:wo.length=1
   ·obtain⟨c,rfl⟩:=qX.mp h1;refine aU (by rw[aN];exact aC rfl) ?_;exists _,_,rfl,rfl,?_;rw[nQ,LB c (ha c (by simp))];have e:bI .letter [c]=decide (97<=c/\c<113):=by unfold bI;simp
    rw[e]at q;exact q H (ag.refl _)
   ·refine aF (by rw[aN];exact λy=>h1 (by have:=br y;injection this with this;lia)) ?_;have e:bI .letter wo=false:=by rw[BB];rw[aL h1];rfl
    rw[e]at q;exact q H (ag.refl _)
  |bit =>
   refine vn ?_;refine vn ?_;refine vy ?_;exists _,rfl,?_;by_cases h1:wo=[48]
   ·refine aU (aC (by rw[h1,fz])) ?_;have e:bI .bit wo=true:=by rw[Gb];rw[aC h1];rfl
    rw[e]at q;exact q H (ag.refl _)
   ·refine aF (λy=>h1 (by have:=br y;injection this with this;rw[fz]at this;exact d0 this)) ?_;have e:bI .bit wo=decide (V.str (S wo)=V.str (ofString "1")):=by
     rw[Gb,aL h1,L7,pY];by_cases z:wo=[49]
     ·rw[z,aC rfl,aC rfl]
     ·rw[aL z,aL (λy=>z (by injection y with y;exact d0 y))]
    rw[e]at q;exact q H (ag.refl _)
  |number =>
   refine vn ?_;refine vn ?_;refine vn ?_;exists wo,rfl,ha,hl,λH1 s1=>⟨_,rfl,?_⟩;cases hn:cf wo with
   |false =>
    have e:bI .number wo=false:=hn;rw[e]at q;exact aF (by decide) (q H1 s1)
   |true =>
    have e:bI .number wo=true:=hn;rw[e]at q;refine aU rfl ?_;refine jN ?_;nomatch _,rfl,q H1 s1
  |divisor =>
   refine vn ?_;refine vn ?_;refine vn ?_;exists wo,rfl,ha,hl,λH1 s1=>⟨_,rfl,?_⟩;cases hn:cf wo with
   |false =>
    have e:bI .divisor wo=false:=by rw[Cb];rw[hn];rfl
    rw[e]at q;exact aF (by decide) (q H1 s1)
   |true =>
    refine aU rfl ?_;refine jY ?_;exists _,rfl,?_;have e:bI .divisor wo = !decide (V.str (S wo)=V.str (ofString "0")):=by
     rw[Cb,hn,oB,fz];congr 1;by_cases z:wo=[48]
     ·rw[z,aC rfl,aC rfl]
     ·rw[aL z,aL (λy=>z (by injection y with y;exact d0 y))]
    rw[e]at q;exact q H1 s1
def RJ(NL:Addr):Sp:=λvs H Q E=>∃(k:Kd) (w:List Nat),vs=[.str k.s,.str (S w)]/\(∀c∈w,c<128)/\w.length<=10000/\(∀H',ag H H'->bI k w=true->Q (il k w) H')/\(∀H',ag H H'->bI k w=false->E (.ref NL) none H')
def Tb(T:Txt w K mg):BE.OkE P w K mg base 3 (RJ dG):=by
  refine Rw.okE T.d_Z67.F T.d_Z67.S ?_;rintro vs H Q E ⟨k,wo,rfl,ha,hl,q,e⟩;refine⟨rfl,fun _ _ _ _ hr hu nd=>⟨_,(ar (bt (iO (fJ (aB T.d_Z23 (RG T) hr (ae (pv 0) (ae (pv 1) ah))))) (ao (fG bK rfl (by rfl) T.g_NoLine T.x_NoLine)) aM)
   (ar (PS.nox (bt (bb oO (pv 0) ak) (ao (az (pv 1))) aM)) (ar (PS.nox (bt (bb oO (pv 0) ak) (ao (az (ck eV Bp Cm Bo (dX (v:=.str "abcdefghijklmnop") (by rfl) T.g_LETTERS ⟨_,rfl⟩) (ae (pv 1) ah)))) aM))
   (ao (PS.nox (az (gY Ce rfl T.n_int vX (ae (pv 1) ah)))))))),?_⟩⟩
  exists _,rfl,_,rfl,k,wo,rfl,ha,hl,λH1 s1=>?_;cases hb:bI k wo with
  |false =>
   exists _,rfl,bP ?_;exact e H1 s1 hb
  |true =>
   exists _,rfl,bL ?_;have dig:NumText.AllDigits wo->wo≠[]->wo.length<=18->∀x,x=V.int ((digitsVal wo:Nat):Int)->il k wo=x->(zy (wY (λxs H Q=>∃x n,xs=[V.str x]/\intText? x=some n/\x.length<=640/\Q (V.int n) H) (nA (jA 1) pU))) {nx:=λx H'=>Q V.non H',rt:=Q} [some (.str k.s),some (.str (S wo))] H1:=λh1 h2 h3 x hx hk=>by
    exists _,rfl,_,_,rfl,U3 h1 h2 h3,(by rw[aN];lia),?_
    have:=q H1 s1 hb
    rw[hk,hx]at this;exact this
   cases k with
   |name =>
    exists _,rfl,rfl,_,rfl,aU (by decide) ?_;nomatch _,rfl,q H1 s1 hb
   |letter =>
    exists _,rfl,rfl,_,rfl,aF (by decide) ?_;exists _,rfl,rfl,_,rfl,aU (by decide) ?_;exists rfl,_,rfl,_,_,rfl,rfl,?_;rw[nQ];exact q H1 s1 hb
   |bit =>
    exists _,rfl,rfl,_,rfl,aF (by decide) ?_;exists _,rfl,rfl,_,rfl,aF (by decide) ?_;rw[Gb,wk,mj,mj]at hb;rcases hb with z|z
    ·exact dig (by rw[z];intro c hc;rw[bh.mp hc];decide) (by rw[z];simp) (by rw[z];simp) _ rfl rfl
    ·exact dig (by rw[z];intro c hc;rw[bh.mp hc];decide) (by rw[z];simp) (by rw[z];simp) _ rfl rfl
   |number =>
    exists _,rfl,rfl,_,rfl,aF (by decide) ?_;exists _,rfl,rfl,_,rfl,aF (by decide) ?_;obtain⟨d1,d2,d3⟩:=Pl (show cf wo=true from hb);exact dig d1 d2 d3 _ rfl rfl
   |divisor =>
    exists _,rfl,rfl,_,rfl,aF (by decide) ?_;exists _,rfl,rfl,_,rfl,aF (by decide) ?_;rw[Cb,eL]at hb;obtain⟨d1,d2,d3⟩:=Pl hb.1;exact dig d1 d2 d3 _ rfl rfl
def UO(K:Frag)(NL:Addr):Sp:=λvs H Q E=>∃(kv:V) (b:Addr) (ks:Option (List Kd)) (ws:List (List Nat)),vs=[kv,.ref b]/\H b=some (.lst (ws.map λw=>V.str (S w))) /\
 DN K kv ks/\(∀w∈ws,w.length<=10000/\∀c∈w,c<128)/\ws.length<=10000 /\
 (∀vs H' c,H c=none->d9 ks ws=some vs->H' c=some (.lst vs)->ag H H'->Q (.ref c) H')/\(∀H',d9 ks ws=none->ag H H'->E (.ref NL) none H')
def Oy:(["kind","word"]:List Str).Nodup:=by decide+kernel
def Ld(T:Txt w K mg):y0.OkE P w K mg base 4 (UO K dG):=by
  refine Rw.okE T.d_Z68.F T.d_Z68.S ?_;rintro vs H Q E ⟨kv,b,ks,ws,rfl,hb,hk,ha,hl,q,e⟩;refine⟨rfl,fun _ _ _ _ hr hu nd=>⟨_,(ar (bt (PW.pt (gv (bb pT (pV 0) gX) (jg (bb fP (bj dJ (by rfl) T.n_len bS (ae (pV 0) ah)) (bj dJ (by rfl) T.n_len bS (ae (pV 1) ah)))))) (ao (fG bK rfl (by rfl) T.g_NoLine T.x_NoLine)) aM)
   (ao (az (QL bK (g:=(gm K 2 (cB (a9 0) (cB (a9 1) fW)))) 2 rfl (d7 y0) (by decide +kernel) (Ze rfl T.n_zip (ae (pV 0) (ae (pV 1) ah)))
    (λC s₀ H₀ fp=>(hZ (n:=2) rfl (cS (bf 0 Oy) (cS (bf 1 Oy) gR)))) (λC s₀ H₀ fp=>lL) (λC s₀ H₀ fp=>(fh (Tb T) hr (by rfl) T.d_Z67.m T.d_Z67.F.kp T.d_Z67.b .nil LA (ae (pV 0) (ae (pV 1) ah)))))))),?_⟩⟩
  cases ks with
  |none =>
   cases (show kv=.non from hk);exists rfl,_,rfl,aU (by decide) ?_;refine bP ?_;exact e H rfl (ag.refl _)
  |some ks =>
   obtain⟨a,rfl,hk1,my⟩:=hk;exists rfl,_,rfl,aF (by simp) ?_;exists a,_,rfl,.inr (my _),b,_,rfl,.inl (ai.of hb),_,rfl,?_;rw[ay,ay];by_cases aT:ks.length=ws.length
   rotate_left
   ·refine aU (by rw[aL (λy=>aT (by injection y with y;lia))];rfl) ?_;exact e H (by unfold d9 gB;exact aq λz=>aT z.1) (ag.refl _)
   refine aF (by rw[aT,aC rfl];decide) ?_;have NT:(ks.zip ws).length=ks.length:=by rw[Ng];lia
   exists a,b,rfl,⟨_,my _⟩,⟨_,ai.of hb⟩,?_;refine zbM (K:=K) (a:=a) (b:=b) (xs:=ks.map λk=>V.str k.s) (ys:=ws.map λw=>V.str (S w)) (by rw[ay,ay];exact aT)
    (λi zs σ G=>∃v0 v1:Option V,σ=[v0,v1]/\zs=((ks.zip ws).take i).map (λp=>il p.1 p.2)/\((ks.zip ws).take i).all (λp=>bI p.1 p.2)=true/\ag H G)
    ⟨none,none,rfl,rfl,rfl,ag.refl _⟩ (λi zs σ G hi ⟨_,_,_,e1,_,e3⟩=>⟨my _,ai.of (e3 _ _ hb),by rw[e1,ay,c7];lia⟩) (by rw[ay];exact dq (cP (by lia))) ?_ ?_
   ·rintro i x y zs σ G T' hx hy ⟨v0,v1,rfl,rfl,g1,g2⟩ mT;rw[bY]at hx hy;obtain⟨k,zx,rfl⟩:∃k,ks[i]?=some k/\V.str k.s=x:=by
     cases e:ks[i]? with
     |none=>rw[e]at hx;cases hx
     |some t=>rw[e]at hx;nomatch t,rfl,cD hx
    obtain⟨wo,Mt,rfl⟩:∃wo,ws[i]?=some wo/\V.str (S wo)=y:=by
     cases e:ws[i]? with
     |none=>rw[e]at hy;cases hy
     |some t=>rw[e]at hy;nomatch t,rfl,cD hy
    have L8:(ks.zip ws)[i]?=some (k,wo):=by rw[List.getElem?_zip_eq_some];nomatch zx,Mt
    have bz:(ks.zip ws).take (i+1)=(ks.zip ws).take i++[(k,wo)]:=by rw[dR,L8];rfl
    have c1:ag G (upd G T' (.tup [V.str k.s,V.str (S wo)])):=ag.upd mT;obtain⟨a1,a2⟩:=ha wo (cM Mt);exists T',_,rfl,aG.of au,rfl,_,_,rfl,_,_,rfl,rfl,?_;refine tt ?_;exists k,wo,rfl,a2,a1,λH2 s2 hy=>?_,λH2 s2 hn=>?_
    ·exists _,_,rfl,(by rw[bz,aQ];rfl),?_,g2.trans (c1.trans s2);rw[bz,List.all_append,g1];simp[hy]
    ·refine e H2 ?_ (g2.trans (c1.trans s2));unfold d9 gB;refine aq λz=>?_
     have:=gz.mp z.2 (k,wo) (cM L8)
     rw[hn]at this;cases this
   ·rintro zs σ G ⟨v0,v1,rfl,rfl,g1,g2⟩ D hD;rw[ay,<-NT,dH]at g1;rw[ay,<-NT,dH];refine q _ _ D (g2.free hD) ?_ au (g2.trans (ag.upd hD));unfold d9 gB;exact ax ⟨aT,g1⟩
def mF:("=" : Str)=S [61]:=by decide+kernel
def Ab:(":=" : Str)=S [58,61]:=by decide+kernel
def RM(K:Frag)(NL:Addr):Sp:=λvs H Q E=>∃n sg l:List Nat,vs=[.str (S n),.str (S sg),.str (S l)]/\(∀c∈l,c<128)/\l.length<=9000 /\
 (∀o wo vs p c H',jy n sg l=some (o,wo,vs)->H' p=some (.tup [BC o,.str (S wo),.ref c])->H' c=some (.lst vs)->ag H H'->Q (.ref p) H')/\(∀H',jy n sg l=none->ag H H'->E (.ref NL) none H')
def zcQ(T:Txt w K mg):Be.OkE P w K mg base 5 (RM K dG):=by
  refine Rw.okE T.d_Z26.F T.d_Z26.S ?_;rintro vs H Q E ⟨n,sg,l,rfl,ha,hl,q,e⟩;refine⟨rfl,fun _ _ _ _ hr hu nd=>⟨_,(ar (PS.nox (aH 3 nd (ck eV vC uP vm (pv 2) (ae ak ah)))) (ar (bt (PW.pt (iD (bb oO (pv 1) ak) (iM (K0 (Wy hu (Fy (pv 3) aj) (dX (v:=.ref sf) (by rfl) T.g_MADE rfl)))))) (ao (az (eK (ae (pv 0) (ae (Fy (pv 3) aj) (ae (fh (Ld T) hr (by rfl) T.d_Z68.m T.d_Z68.F.kp T.d_Z68.b .nil (dv bK) (ae (Zr hu (dX (v:=.ref sf) (by rfl) T.g_MADE rfl) (Fy (pv 3) aj) (λ_ _=>rfl)) (ae (dj ik (pv 3) (PK aj) di) ah))) ah)))))) aM)
   (ao (PS.nox (az (eK (ae (pv 0) (ae (pv 1) (ae (bc (ae (pv 2) ah)) ah))))))))),?_⟩⟩
  have eR:Txt.split (S l) (S [32])=(aX l).map S:=by
   have:=uS (c:=32) (gT l) (nF l)
   rwa [n6 l]at this
  have lP:(S l).length<=sizeLine:=by rw[aN];exact gf (by lia)
  have A5:Paired (FV K) [(ofString "plus",DL),(ofString "less",Ds),(ofString "times",B2),(ofString "fixed",Eu),(ofString "put",Dj)] f7 :=
   .cons ⟨rfl,by decide,T.q_MADE_0⟩ (.cons ⟨rfl,by decide,T.q_MADE_1⟩ (.cons ⟨rfl,by decide,T.q_MADE_2⟩ (.cons ⟨rfl,by decide,T.q_MADE_3⟩ (.cons ⟨rfl,by decide,T.q_MADE_4⟩ .nil))))
  exists _,rfl,rfl,_,_,rfl,rfl,(by rw[jQ];rfl),(by rw[aN];exact je hl (by decide)),λW hW=>?_;rw[jQ,eR];obtain⟨w0,wr,ew⟩:∃w0 wr,aX l=w0::wr:=by
   cases e:aX l with
   |nil=>exact absurd e (gT l)
   |cons a b=>nomatch a,b,rfl
  have fF:=pI l;have iP:=rj l;rw[ew]at fF iP;generalize eU:upd H W _=H1;have s1:=(nw eU hW).1;have w1:H1 W=some (.lst (((w0::wr).map S).map V.str)):=by rw[(nw eU hW).2,ew]
  have fin:(∀o wo vs,jy n sg l=some (o,wo,vs)->o=some n->wo=sg->vs=[V.str (S l)]->∀c,H1 c=none->∀p,upd H1 c (.lst [V.str (S l)]) p=none->Q (.ref p) (upd (upd H1 c (.lst [V.str (S l)])) p (.tup [.str (S n),.str (S sg),.ref c]))):=λo wo vs hk h1 h2 h3 c hc p hp=>by
   subst h1 h2 h3;refine q _ _ _ p c _ hk au ?_ (s1.trans ((ag.upd hc).trans (ag.upd hp)));rw[aO (λz=>by rw[z,au]at hp;cases hp)];exact au
  have tQ:jy n sg l=if sg=[61]/\(cG f7 w0).isSome=true then (d9 (cG f7 w0) wr).map λvs=>(some n,w0,vs)else some (some n,sg,[.str (S l)]):=by
   unfold jy;rw[ew];rfl
  have d8:(((w0::wr).map S).map V.str)=(w0::wr).map λw=>V.str (S w):=by rw[ft];rfl
  have rA:wr.length<=9000:=by have:=fF.1;rw[aW]at this;lia
  have last:¬(sg=[61]/\(cG f7 w0).isSome=true)->(zy (Ji (nA (jA 0) (nA (jA 1) (nA (Hi (nA (jA 2) pU)) pU))))) {nx:=λx H'=>Q V.non H',rt:=Q} [some (.str (S n)),some (.str (S sg)),some (.str (S l)),some (.ref W)] H1:=λhn=>by
   rw[aq hn]at tQ;nomatch _,rfl,_,rfl,_,rfl,d5,λc hc=>⟨j1,λp hp=>fin _ _ _ tQ rfl rfl rfl c hc p hp⟩
  exists _,rfl,rfl,_,rfl,?_;by_cases hs:sg=[61]
  rotate_left
  ·refine aF (λy=>hs (by have:=br y;injection this with this;rw[mF]at this;exact d0 this)) ?_;refine bL ?_;exact last λz=>hs z.1
  refine aU (aC (by rw[hs,mF])) ?_;exists _,rfl,W,_,_,V.str (S w0),rfl,rfl,ai.of w1,(aZ (j:=0) rfl),sf,_,_,rfl,T.q_MADE,rfl,_,rfl,?_;rcases Li A5 w0 with ⟨b,kl,hb,iw,uN⟩|⟨hb,iw⟩
  rotate_left
  ·refine aF (by rw[hb];decide) ?_;exact last λz=>by rw[iw]at z;exact absurd z.2 (by decide)
  refine aU (by rw[hb];rfl) ?_;have zS:sg=[61]/\(cG f7 w0).isSome=true:=⟨hs,by rw[iw];rfl⟩;rw[ax zS,iw]at tQ;exists _,rfl,_,rfl,W,_,_,V.str (S w0),rfl,rfl,ai.of w1,(aZ (j:=0) rfl),_,rfl,W,_,_,V.str (S w0),rfl,rfl,ai.of w1,(aZ (j:=0) rfl),sf,_,_,b,rfl,T.q_MADE,rfl,hb,?_;exists _,rfl,_,rfl,W,_,rfl,ai.of w1,λV1 Cq=>?_;have ec:ff (((w0::wr).map S).map V.str) (some 1) none=wr.map λw=>V.str (S w):=by rw[d8];exact Gu _ _
  rw[ec];have s2:ag H1 (upd H1 V1 (.lst (wr.map λw=>V.str (S w)))):=ag.upd Cq;exists .ref b,V1,some kl,wr,rfl,au,uN,(λw hw=>⟨?_,λc hc=>?_⟩),by lia,λvs H2 c hc FK gE s3=>?_,λH2 hn s3=>?_
  ·have:=fF.2 w (cq _ hw);lia
  ·exact ha c (iP w (cq _ hw) c hc)
  ·exists j1,λp hp=>?_;have s4:ag H2 (upd H2 p (.tup [.str (S n),.str (S w0),.ref c])):=ag.upd hp;exact q _ _ _ p c _ (by rw[tQ,FK];rfl) au (s4 _ _ gE) (s1.trans (s2.trans (s3.trans s4)))
  ·exact e H2 (by rw[tQ,hn];rfl) (s1.trans (s2.trans s3))
def zbt(K:Frag)(NL:Addr):Sp:=λvs H Q E=>∃l:List Nat,vs=[.str (S l)]/\(∀c∈l,c<128)/\l.length<=9000 /\
 (∀o wo vs p c H',eX l=some (o,wo,vs)->H' p=some (.tup [BC o,.str (S wo),.ref c])->H' c=some (.lst vs)->ag H H'->Q (.ref p) H')/\(∀H',eX l=none->ag H H'->E (.ref NL) none H')
def zaJ(T:Txt w K mg):Eh.OkE P w K mg base 6 (zbt K dG):=by
  refine Rw.okE T.d_Z47.F T.d_Z47.S ?_;rintro vs H Q E ⟨l,rfl,ha,hl,q,e⟩;refine⟨rfl,fun _ _ _ _ hr hu nd=>⟨_,(ar (PS.nox (aH 1 nd (ck eV vC uP vm (pV 0) (ae ak ah)))) (ar (ur (bt (PW.pt (iD (bb qp.j (bj dJ (by rfl) T.n_len bS (ae (pV 1) ah)) aj) (iD (jZ pF (xL (pV 1) aj) (eK (ae ak (ae ak ah))) rfl) (iM (fJ (aB T.d_Z21 (Pm T) hr.m (ae (xL (pV 1) aj) ah))))))) (ao (az (fh (zcQ T) hr (by rfl) T.d_Z26.m T.d_Z26.F.kp T.d_Z26.b .nil (dv bK) (ae (xL (pV 1) aj) (ae (xL (pV 1) aj) (ae (dj lN (pV 0) (cJ (aD fg.j (aD fg.j (bj gp (by rfl) T.n_len bS (ae (xL (pV 1) aj) ah)) (bj gp (by rfl) T.n_len bS (ae (xL (pV 1) aj) ah))) aj)) di) ah)))))) aM))
   (ao (az (eK (ae gX (ae (xL (pV 1) aj) (ae (fh (Ld T) hr.m (by rfl) T.d_Z68.m T.d_Z68.F.kp T.d_Z68.b .nil (dv bK) (ae (ZG hu (dX (v:=.ref zp) (by rfl) T.g_ASKED rfl) (xL (pV 1) aj) ⟨rfl,rfl,rfl,rfl⟩) (ae (dj ik (pV 1) (cJ aj) di) ah))) ah)))))))),?_⟩⟩
  have eR:Txt.split (S l) (S [32])=(aX l).map S:=by
   have:=uS (c:=32) (gT l) (nF l)
   rwa [n6 l]at this
  have lP:(S l).length<=sizeLine:=by rw[aN];exact gf (by omega)
  have A5:Paired (FV K) [(ofString "show",zI),(ofString "worth",xA),(ofString "alike",zL),(ofString "rest",yo),(ofString "least",yq),(ofString "ways",yO),(ofString "unknowns",wU)] iH :=
   .cons ⟨rfl,by decide,T.q_ASKED_0⟩ (.cons ⟨rfl,by decide,T.q_ASKED_1⟩ (.cons ⟨rfl,by decide,T.q_ASKED_2⟩ (.cons ⟨rfl,by decide,T.q_ASKED_3⟩ (.cons ⟨rfl,by decide,T.q_ASKED_4⟩ (.cons ⟨rfl,by decide,T.q_ASKED_5⟩ (.cons ⟨rfl,by decide,T.q_ASKED_6⟩ .nil))))))
  exists rfl,_,_,rfl,rfl,(by rw[jQ];rfl),(by rw[aN];exact je hl (by decide)),λW hW=>?_;rw[jQ,eR];obtain⟨w0,wr,ew⟩:∃w0 wr,aX l=w0::wr:=by
   cases e:aX l with
   |nil=>exact absurd e (gT l)
   |cons a b=>nomatch a,b,rfl
  have fF:=pI l;have iP:=rj l;rw[ew]at fF iP;generalize eU:upd H W _=H1;have s1:=(nw eU hW).1;have w1:H1 W=some (.lst (((w0::wr).map S).map V.str)):=by rw[(nw eU hW).2,ew]
  have d8:(((w0::wr).map S).map V.str)=(w0::wr).map λw=>V.str (S w):=by rw[ft];rfl
  have rA:wr.length<=9000:=by have:=fF.1;rw[aW]at this;omega
  have kQ:eX l=if 2<(w0::wr).length/\((w0::wr).getD 1 []=[61]\/(w0::wr).getD 1 []=[58,61])/\aP w0=true then jy w0 ((w0::wr).getD 1 []) (l.drop (w0.length+((w0::wr).getD 1 []).length+2))else (d9 (cG iH w0) wr).map λvs=>(none,w0,vs):=by
   unfold eX;rw[ew];rfl
  have SI:∀x:List Nat,iz (V.str (S x)) [V.str (ofString "="),V.str (ofString ":=")]=decide (x=[61]\/x=[58,61]):=λx=>by
   rw[mF,Ab];show (S [61] == S x || (S [58,61] == S x || false))=_;have e1:∀b:List Nat,(S b == S x)=decide (x=b):=λb=>by
    by_cases z:x=b
    ·rw[z,aC rfl];simp
    ·rw[aL z];exact sJ.mpr λy=>z (d0 (kP.mp y)).symm
   rw[e1,e1,qG,<-oj]
  exists λσ' G'=>σ'=[some (.str (S l)),some (.ref W)]/\ag H1 G'/\¬(2<(w0::wr).length/\((w0::wr).getD 1 []=[61]\/(w0::wr).getD 1 []=[58,61])/\aP w0=true),?_,?_
  ·exists W,_,rfl,.inl (ai.of w1),_,rfl,?_;by_cases h2:2<(w0::wr).length
   rotate_left
   ·refine aF (λy=>h2 (by have:=br y;rw[ay,ay]at this;lia)) ?_;refine bL ?_;nomatch rfl,ag.refl _,λz=>h2 z.1
   refine aU (aC (by rw[ay,ay];lia)) ?_;obtain⟨x1,xr,rfl⟩:∃x1 xr,wr=x1::xr:=by
    cases wr with
    |nil=>simp at h2
    |cons a b=>nomatch a,b,rfl
   exists V.str (S x1),ai.of w1,aZ (j:=1) rfl,dw,λtp zY=>?_;have s2:ag H1 (upd H1 tp (.tup [V.str (ofString "="),V.str (ofString ":=")])):=ag.upd zY;exists tp,_,rfl,.inr (aG.of au),rfl,rfl,_,rfl,?_;rw[show (if false=true then !iz (V.str (S x1)) [V.str (ofString "="),V.str (ofString ":=")]else iz (V.str (S x1)) [V.str (ofString "="),V.str (ofString ":=")])=decide (x1=[61]\/x1=[58,61]) from SI x1];by_cases h3:x1=[61]\/x1=[58,61]
   rotate_left
   ·refine aF (λy=>h3 (br y)) ?_;refine bL ?_;nomatch rfl,s2,λz=>h3 z.2.1
   refine aU (aC h3) ?_;have a0:=fF.2 w0 (by simp);have a1:=fF.2 x1 (by simp);exists V.str (S w0),ai.of (s2 _ _ w1),aZ (j:=0) rfl,w0,rfl,(λc hc=>ha c (iP w0 (by simp) c hc)),by lia,λH2 s3=>⟨_,rfl,?_⟩;cases h4:aP w0 with
   |false =>
    refine aF (by decide) ?_;nomatch rfl,s2.trans s3,λz=>absurd z.2.2 (by decide)
   |true =>
    refine aU rfl ?_;rw[ax ⟨h2,h3,h4⟩]at kQ;have w2:=(s2.trans s3) _ _ w1;have S2:=s1.trans (s2.trans s3);exists V.str (S w0),ai.of w2,aZ (j:=0) rfl,V.str (S x1),ai.of w2,aZ (j:=1) rfl,V.str (S w0),ai.of w2,aZ (j:=0) rfl,_,rfl,(by rw[aN];exact gf (by lia)),V.str (S x1),ai.of w2,aZ (j:=1) rfl,_,rfl,(by rw[aN];exact gf (by lia)),_,rfl,lP,?_;have ei:((S w0).length:Int)+((S x1).length:Int)+2=((w0.length+x1.length+2:Nat):Int):=by rw[aN,aN];lia
    rw[ei,wV];exists w0,x1,l.drop (w0.length+x1.length+2),rfl,(λc hc=>ha c (oM hc)),(by rw[fL];lia),λo wo vs p c H3 hk hp hc s4=>?_,λH3 hk s4=>?_
    ·exact q o wo vs p c H3 (by rw[kQ];exact hk) hp hc (S2.trans s4)
    ·exact e H3 (by rw[kQ];exact hk) (S2.trans s4)
  ·rintro σ' G' ⟨rfl,s2,hn⟩;rw[aq hn]at kQ;have w2:=s2 _ _ w1;exists V.str (S w0),ai.of w2,aZ (j:=0) rfl,zp,_,rfl,T.q_ASKED,V.str (S w0),ai.of w2,aZ (j:=0) rfl,_,rfl,?_;exists W,_,rfl,ai.of w2,λV1 Cq=>?_;have ec:ff (((w0::wr).map S).map V.str) (some 1) none=wr.map λw=>V.str (S w):=by rw[d8];exact Gu _ _
   rw[ec];have s3:ag G' (upd G' V1 (.lst (wr.map λw=>V.str (S w)))):=ag.upd Cq;have S3:=s1.trans (s2.trans s3);have uN:DN K (match k9 [(ofString "show",zI),(ofString "worth",xA),(ofString "alike",zL),(ofString "rest",yo),(ofString "least",yq),(ofString "ways",yO),(ofString "unknowns",wU)] (S w0)with|some b=>V.ref b|none=>V.non) (cG iH w0):=by
    rcases Li A5 w0 with ⟨b,kl,hb,iw,uN⟩|⟨hb,iw⟩
    ·rw[hb,iw];exact uN
    ·rw[hb,iw];rfl
   exists _,V1,cG iH w0,wr,rfl,au,uN,(λw hw=>⟨?_,λc hc=>?_⟩),by omega,λvs H2 c hc FK gE s4=>?_,λH2 hn s4=>?_
   ·have:=fF.2 w (cq _ hw);omega
   ·exact ha c (iP w (cq _ hw) c hc)
   ·exists j1,λp hp=>?_;have s5:ag H2 (upd H2 p (.tup [.non,.str (S w0),.ref c])):=ag.upd hp;exact q _ _ _ p c _ (by rw[kQ,FK];rfl) au (s5 _ _ gE) (S3.trans (s4.trans s5))
   ·exact e H2 (by rw[kQ,hn];rfl) (S3.trans s4)
def Tr(C NN:Addr):Sp:=λvs H Q E=>∃(p d:Addr) (st:eQ) (n:List Nat),vs=[.ref p,.str (S n)]/\iB C H p d st/\(∀a f,eY st n=some f->a7 H a f->Q (.ref a) H)/\(eY st n=none->E (.ref NN) none H)
def A7(d:Addr):([(("forms" : Str),V.ref d)]:List (Str×V)).lookup ("forms" : Str)=some (.ref d):=by
 rw[rW];simp
def iI(d:Addr){m:Str}(h:¬m = "forms"):([(("forms" : Str),V.ref d)]:List (Str×V)).lookup m=none:=by
 rw[rW]
 have:(m == ("forms" : Str))=false:=oW.mpr h
 rw[this];rfl
def qI(T:Txt w K mg):BO.OkE P w K mg base 1 (Tr eF dS):=by
  refine Rw.okE T.d_Desk_kept.F T.d_Desk_kept.S ?_;rintro vs H Q E ⟨p,d,st,n,rfl,hD,q,e⟩;refine⟨rfl,fun _ _ _ _ hr hu nd=>⟨_,(ar (bt (K0 (YN hu (pV 1) (CW (pV 0) rfl))) (ao (fG bK rfl (by rfl) T.g_NoName T.x_NoName)) aM)
   (ao (PS.nox (az (DQ hu (CW (pV 0) rfl) (pV 1)))))),?_⟩⟩
  obtain⟨⟨dx,ho⟩,kvs,hd,hk⟩:=id hD;have hg:=gG.k (k:=Sum.inr (S n)) hd;exists p,_,dx,_,_,rfl,ho,T.cl_Desk,T.nf_Desk_forms,A7 d,d,_,rfl,hg,_,rfl,?_;rcases zbI hk n with ⟨h1,h2⟩|⟨a,f,h1,h2,h3⟩
  ·refine aU (by rw[h1];rfl) ?_;exact e h2
  ·refine aF (by rw[h1];simp) ?_;rw[h1]at hg;nomatch p,_,dx,_,_,rfl,ho,T.cl_Desk,T.nf_Desk_forms,A7 d,_,hg,q a f h2 h3
def QF:Sp:=λvs H Q _=>∃(d:Addr) (dd:av),vs=[.ref d]/\H d=some (.dK (dd.map cR))/\(dd.map (·.1)).Nodup/\dd.length<64 /\
 ∀(b:Addr) (ks:List Int) (H':Hp),H b=none->a7 H' b (dU dd ks)->ks.Perm (dd.map (·.1))->ks.Pairwise (· <= ·)->ag H H'->Q (.ref b) H'
def Uq:(["members","numbers"]:List Str).Nodup:=by decide+kernel
def Jj(T:Txt w K mg):Af.Ok P w K mg base 1 QF:=by
  refine Rw.ok T.d_Z9.F T.d_Z9.S ?_;rintro vs H Q E ⟨d,dd,rfl,hd,hnd,aT,q⟩;refine⟨rfl,fun _ _ _ _ hr hu nd=>⟨_,(ao (az (gn (g:=(a9 0)) ["members", "numbers"] 1 [0] rfl (d7 Af) (dM (bj (Px rfl) (by rfl) T.n_sorted GS (ae (pV 0) ah)))
    (λcl C s₀ H₀ fp=>(bf 0 Uq)) (λcl C s₀ H₀ fp=>(jM (bb fP (DQ hu (pV 1) (pV 0)) aj))) (λcl C s₀ H₀ fp=>(eK (ae (pV 0) (ae (DQ hu (pV 1) (pV 0)) ah))))))),?_⟩⟩
  exists d,_,dd.map (·.1),rfl,hd,zbB dd,(by rw[ay];exact aT),λe ks he j8 tj=>?_;have hed:d≠e:=cE hd he;exists ⟨_,ai.of au⟩,?_;have iw:ks.length<=100000:=by have:=j8.length_eq;rw[ay]at this;lia
  refine jI (K:=K) (a:=e) (xs:=ks.map V.int) (λi ys σ H2=>∃(v0:Option V) (qs:List Addr),σ=[v0,some (.ref d)]/\ys=qs.map V.ref/\cj H2 qs (dU dd (ks.take i))/\H2 d=some (.dK (dd.map cR))/\H2 e=some (.lst (ks.map V.int))/\ag H H2)
   ⟨none,[],rfl,rfl,.nil,(by rw[aO hed];exact hd),au,ag.upd he⟩ (λi ys σ H2 hi ⟨_,qs,_,e1,e2,_,e4,_⟩=>⟨ai.of e4,by
    rw[e1,ay,e2.length]
    have:=Bb dd (ks.take i)
    rw[c7]at this;lia⟩) (by rw[ay];exact dq (cP (by lia))) ?_ ?_
  ·rintro i y ys σ H2 hi ⟨v0,qs,rfl,rfl,g2,g3,g4,g5⟩;obtain⟨k,zx,rfl⟩:=A0 hi;have Wi:k∈dd.map (·.1):=j8.mem_iff.mp (cM zx);obtain⟨v,hv⟩:∃v,look dd k=some v:=by
    cases e:look dd k with
    |none=>exact absurd e (Aj.mpr Wi)
    |some v=>nomatch v,rfl
   have Ju:dh dd k=v:=by unfold dh;rw[hv];rfl
   have bz:ks.take (i+1)=ks.take i++[k]:=by rw[dR,zx];rfl
   have Jg:∀{H3:Hp},H3 d=some (.dK (dd.map cR))->gG H3 d (.int k) (some (.int v)):=fun {H3} z=>by
    have:=gG.k (k:=Sum.inl k) z
    rw[qQ,hv]at this;exact this
   exists _,Jg g3,_,rfl,?_;by_cases hv0:v=0
   ·subst hv0;refine Sd rfl ⟨_,qs,rfl,rfl,?_,g3,g4,g5⟩
    have:dU dd (ks.take (i+1))=dU dd (ks.take i):=by
     rw[bz];unfold dU;rw[fS,aQ];simp[Ju]
    rw[this];exact g2
   ·have cY:¬(V.int v=V.int 0):=λz=>hv0 (by injection z)
    rw[aL cY];refine bP ?_;exists _,Jg g3,dw,λt ht=>?_;have s3:ag H2 (upd H2 t (.tup [.int k,.int v])):=ag.upd ht;exists _,qs++[t],rfl,(by rw[aQ];rfl),?_,s3 _ _ g3,s3 _ _ g4,g5.trans s3
    have:dU dd (ks.take (i+1))=dU dd (ks.take i)++[(k,v)]:=by
     rw[bz];unfold dU;rw[fS,aQ];simp[Ju,hv0]
    rw[this];exact cj.snoc (g2.keep λb xs z=>s3 b _ z) au
  ·rintro ys σ H2 ⟨v0,qs,rfl,rfl,g2,g3,g4,g5⟩ D hD;rw[ay,dH]at g2;have s3:ag H2 (upd H2 D (.lst (qs.map V.ref))):=ag.upd hD;exact q D ks _ (g5.free hD) ⟨qs,au,g2.keep λb xs z=>s3 b _ z⟩ j8 tj (g5.trans s3)
def zaU(K:Frag):Sp:=λvs H Q _=>∃(a b:Addr) (l m:av),vs=[.ref a,.ref b]/\TL K H a l/\TL K H b m/\l.length*m.length<=100000/\eZ (bF l m)/\(∀t∈l,∀u∈m,IntMulOk t.2 u.2) /\
 ∀(c:Addr) (f:av) (H':Hp),H c=none->a7 H' c f->bx f (bF l m)->f.length<=l.length*m.length->ag H H'->Q (.ref c) H'
def zi(T:Txt w K mg):AZ.Ok P w K mg base 2 (zaU K):=by
  refine Rw.ok T.d_Z69.F T.d_Z69.S ?_;rintro vs H Q E ⟨a,b,l,m,rfl,⟨ps,hS,hT⟩,⟨qs,Hu,b9⟩,aT,h5,iQ,q⟩;refine⟨rfl,fun _ _ _ _ hr hu nd=>⟨_,(ar (aH 2 nd yW) (ar (eN dQ rfl (dM (pV 0)) (su (n:=2) rfl (iX (bf 3 nd) (iX (bf 4 nd) sU))) (ao (eN dQ rfl (dM (pV 1)) (su (n:=2) rfl (iX (bf 5 nd) (iX (bf 6 nd) sU))) (ar (aH 7 nd (aD D4.j (pV 3) (pV 5))) (ao (zt hu (pV 2) (pV 7) (aD fg.j (Ar hu (pV 2) (pV 7) aj ⟨rfl,rfl,rfl,rfl⟩) (aD gC.c (pV 4) (pV 6))) rfl)))))) (ao (az (aB T.d_Z9 (Jj T) hr (ae (pV 2) ah)))))),?_⟩⟩
  intro d hd;have s0:∀o,ag H (upd H d o):=λo=>ag.upd hd
  exists ⟨_,(s0 _).seq hS⟩,?_;refine mB (K:=K) (a:=a) (xs:=ps.map V.ref) (λi σ H2=>∃(dd:av) (v3 v4 v5 v6 v7:Option V),σ=[some (.ref a),some (.ref b),some (.ref d),v3,v4,v5,v6,v7]/\H2=upd H d (.dK (dd.map cR))/\DictOf dd (bF (l.take i) m))
   ⟨[],none,none,none,none,none,rfl,rfl,DS⟩ (λi σ H2 _ ⟨_,_,_,_,_,_,_,e,_⟩=>by rw[e];exact (s0 _).seq hS) ?_ ?_
  ·rintro i y σ H2 hi ⟨dd,v3,v4,v5,v6,v7,rfl,rfl,cN⟩;obtain⟨p,gr,rfl⟩:=jH hi;obtain⟨t,bQ,dk⟩:=hT.at' gr;have eA:i<l.length:=(d6.mp bQ).1;have bz:l.take (i+1)=l.take i++[t]:=by rw[dR,bQ];rfl
   exists _,aG.of (s0 _ _ _ dk),rfl,?_;exists ⟨_,(s0 _).seq Hu⟩,?_;refine mB (K:=K) (a:=b) (xs:=qs.map V.ref) (λj σ H2=>∃(dd:av) (v5 v6 v7:Option V),σ=[some (.ref a),some (.ref b),some (.ref d),some (.int t.1),some (.int t.2),v5,v6,v7]/\H2=upd H d (.dK (dd.map cR))/\DictOf dd (bF (l.take i) m++dA t (m.take j)))
    ⟨dd,v5,v6,v7,rfl,rfl,by rw[List.take_zero];exact (fc _).symm ▸ cN⟩ (λi σ H2 _ ⟨_,_,_,_,_,e,_⟩=>by rw[e];exact (s0 _).seq Hu) ?_ ?_
   ·rintro j z σ H2 hj ⟨dd,v5,v6,v7,rfl,rfl,cN⟩;obtain⟨p',hpj,rfl⟩:=jH hj;obtain⟨u,rJ,hu2⟩:=b9.at' hpj;have nR:j<m.length:=(d6.mp rJ).1;have huk:m.take (j+1)=m.take j++[u]:=by rw[dR,rJ];rfl
    exists _,aG.of (s0 _ _ _ hu2),rfl,?_;have u7:=cN.snoc (Builtin.bitOr t.1 u.1,t.2*u.2);rw[iT,<-VR,<-huk]at u7;have uK:=cN.len;have h9:=uA (l.take i) m;rw[aS,IT,h9,c7,c7,se (dq eA),se (dq nR)]at uK;have ra:i*m.length+m.length<=l.length*m.length:=by rw[<-Kc];exact AD _ eA
    exists d,rfl,.inl ⟨_,.inl au⟩,_,gG.k (k:=Sum.inl (Builtin.bitOr t.1 u.1)) au,?_;rw[qQ];have eg:((look dd (Builtin.bitOr t.1 u.1)).map V.int).getD (V.int 0)=V.int (dh dd (Builtin.bitOr t.1 u.1)):=by
     unfold dh;cases look dd (Builtin.bitOr t.1 u.1)<;>rfl
    rw[eg];exists iQ t (cM bQ) u (cM rJ),d,_,rfl,ox.k (k:=Sum.inl (Builtin.bitOr t.1 u.1)) au ?_,fY dd (Builtin.bitOr t.1 u.1) (dh dd (Builtin.bitOr t.1 u.1)+t.2*u.2),_,_,_,rfl,?_,u7
    ·rw[ay];exact cP (by lia)
    ·rw[zX,C0]
   ·rintro σ H2 ⟨dd,v5,v6,v7,rfl,rfl,cN⟩;have pL:m.take (qs.map V.ref).length=m:=by rw[ay,b9.length,dH]
    rw[pL,<-YB,<-bz]at cN;nomatch dd,_,_,_,_,_,rfl,rfl,cN
  ·rintro σ H2 ⟨dd,v3,v4,v5,v6,v7,rfl,rfl,cN⟩;have pL:l.take (ps.map V.ref).length=l:=by rw[ay,hT.length,dH]
   rw[pL]at cN;have uK:=cN.len;rw[uA]at uK;exists d,dd,rfl,au,cN.nd,LR cN h5,λc ks H3 hc j4 j8 tj s3=>?_;refine q c (dU dd ks) H3 ((s0 _).free hc) j4 (Dx cN j8 tj) ?_ ((s0 _).trans s3);have h1:=Bb dd ks;have h2:=j8.length_eq;rw[ay]at h2;lia
def FY(T:Txt w K mg):E7.Ok P w K mg base 2 (Zp K):=by
  refine Rw.ok T.d_Z49.F T.d_Z49.S ?_;rintro vs H Q E ⟨a,l,rfl,⟨ps,hS,hT⟩,aT,lU,q⟩;refine⟨rfl,fun _ _ _ _ hr hu nd=>⟨_,(ar (aH 1 nd yW) (ar (eN dQ rfl (dM (pV 0)) (su (n:=2) rfl (iX (bf 2 nd) (iX (bf 3 nd) sU))) (ao (zt hu (pV 1) (pV 2) (aD fg.j (Ar hu (pV 1) (pV 2) aj ⟨rfl,rfl,rfl,rfl⟩) (pV 3)) rfl))) (ao (az (aB T.d_Z9 (Jj T) hr (ae (pV 1) ah)))))),?_⟩⟩
  intro d hd;have s0:ag H (upd H d (.dK [])):=ag.upd hd;exists ⟨_,s0.seq hS⟩,?_;refine mB (K:=K) (a:=a) (xs:=ps.map V.ref) (λi σ H2=>∃(dd:av) (v2 v3:Option V),σ=[some (.ref a),some (.ref d),v2,v3]/\H2=upd H d (.dK (dd.map cR))/\DictOf dd (l.take i))
   ⟨[],none,none,rfl,rfl,DS⟩ (λi σ H2 _ ⟨_,_,_,_,e,_⟩=>by rw[e];exact (ag.upd hd).seq hS) ?_ ?_
  ·rintro i y σ H2 hi ⟨dd,v2,v3,rfl,rfl,cN⟩;obtain⟨p,gr,rfl⟩:=jH hi;obtain⟨t,bQ,dk⟩:=hT.at' gr;have bz:l.take (i+1)=l.take i++[t]:=by rw[dR,bQ];rfl
   have eA:i<l.length:=(d6.mp bQ).1;have uK:dd.length<=i:=bp cN.len (by rw[c7];lia);have u7:=cN.snoc t;rw[<-bz]at u7;exists _,aG.of ((ag.upd hd) _ _ dk),rfl,?_;exists d,rfl,.inl ⟨_,.inl au⟩,_,gG.k (k:=Sum.inl t.1) au,?_;rw[qQ];have eg:((look dd t.1).map V.int).getD (V.int 0)=V.int (dh dd t.1):=by
    unfold dh;cases look dd t.1<;>rfl
   rw[eg];exists d,_,rfl,ox.k (k:=Sum.inl t.1) au ?_,fY dd t.1 (dh dd t.1+t.2),_,_,rfl,?_,u7
   ·rw[ay];exact cP (by lia)
   ·rw[zX,C0]
  ·rintro σ H2 ⟨dd,v2,v3,rfl,rfl,cN⟩;have pL:l.take (ps.map V.ref).length=l:=by rw[ay,hT.length,dH]
   rw[pL]at cN;exists d,dd,rfl,au,cN.nd,LR cN lU,λb ks H3 hb j4 j8 tj s3=>?_;have ZE:b≠d:=by intro z;subst z;rw[au]at hb;cases hb
   have YY:H b=none:=by have:=hb;rw[aO ZE]at this;exact this
   refine q b (dU dd ks) H3 YY j4 (Dx cN j8 tj) ?_ ((ag.upd hd).trans s3);have h1:=Bb dd ks;have h2:=j8.length_eq;rw[ay]at h2;have h3:=cN.len;lia
def SM:Sp:=λvs H Q _=>∃(a b:Addr) (l m:av),vs=[.ref a,.ref b]/\a7 H a l/\a7 H b m/\l.length+m.length<=100000/\eZ (l++m) /\
 ∀(c:Addr) (f:av) (H':Hp),H c=none->a7 H' c f->bx f (l++m)->f.length<=l.length+m.length->ag H H'->Q (.ref c) H'
def qN(T:Txt w K mg):FG.Ok P w K mg base 3 SM:=by
  refine Rw.ok T.d_Z55.F T.d_Z55.S ?_;rintro vs H Q E ⟨a,b,l,m,rfl,iF,pR,aT,h5,q⟩;exists rfl,λ_ _ _ _ hr hu nd=>⟨_,(ao (az (aB T.d_Z49 (FY T) hr (ae (aD lB (pV 0) (pV 1)) ah)))),?_⟩;obtain⟨ps,ha,hp⟩:=id iF;obtain⟨qs,hb,hq⟩:=id pR;have n1:=hp.length;have n2:=hq.length;exists a,b,_,_,rfl,rfl,ha,hb,(by rw[ay,ay];exact dq (cP (by lia))),λc hc=>?_;have s1:ag H (upd H c (.lst (ps.map V.ref++qs.map V.ref))):=ag.upd hc;exists c,l++m,rfl,(a7.cat (a:=a) (b:=b) hp hq s1 au).tl,(by rw[aS];exact aT),h5,λd f H' hd hT hF hl s2=>?_;rw[aS]at hl;exact q d f H' (s1.free hd) hT hF hl (s1.trans s2)
def UN(K:Frag):Sp:=λvs H Q _=>∃(a:Addr) (l:av) (n:Int),vs=[.ref a,.int n]/\TL K H a l/\l.length<=100000/\eZ l/\(∀t∈l,IntMulOk t.2 n) /\
 ∀(b:Addr) (f:av) (H':Hp),H b=none->a7 H' b f->bx f (l.map λt=>(t.1,t.2*n))->f.length<=l.length->ag H H'->Q (.ref b) H'
def IF:(["members","own","number"]:List Str).Nodup:=by decide+kernel
def Lu(T:Txt w K mg):zV.Ok P w K mg base 3 (UN K):=by
  refine Rw.ok T.d_Z62.F T.d_Z62.S ?_;rintro vs H Q E ⟨a,l,n,rfl,hT,aT,h5,iQ,q⟩;refine⟨rfl,fun _ _ _ _ hr hu nd=>⟨_,(ao (az (aB T.d_Z49 (FY T) hr (ae (gn (g:=(gm K 2 (cB (a9 0) (cB (a9 1) fW)))) ["members", "own", "number"] 2 [1] rfl (d7 zV) (dM (pV 0)) (λcl C s₀ H₀ fp=>(hZ (n:=2) rfl (cS (bf 0 IF) (cS (bf 1 IF) gR)))) (λcl C s₀ H₀ fp=>lL) (λcl C s₀ H₀ fp=>(eK (ae (pV 0) (ae (aD gC.c (pV 1) (pV 2)) ah))))) ah)))),?_⟩⟩
  exists hT.seq,?_;refine T9 (λt=>(t.1,t.2*n)) hT (by lia) [some (.int n)] rfl (λt ht H2 R s2 k=>?_) λD ys H2 hD dy s1=>?_
  ·nomatch iQ t ht,dw,k
  ·exists D,_,rfl,dy.tl,(by rw[ay];exact aT),zbd h5 _,λb f H' hb mT hF hl s'=>?_;rw[ay]at hl;exact q b f H' (s1.free hb) mT hF hl (s1.trans s')
def ZR:Sp:=λvs H Q _=>∃(a b:Addr) (l m:av),vs=[.ref a,.ref b]/\a7 H a l/\a7 H b m/\l.length+m.length<=100000/\eZ (l++m) /\
 ∀(c:Addr) (f:av) (H':Hp),H c=none->a7 H' c f->IsForm f->(∀k,aK f k=aK l k-aK m k)->f.length<=l.length+m.length->ag H H'->Q (.ref c) H'
def za(T:Txt w K mg):Cy.Ok P w K mg base 4 ZR:=by
  refine Rw.ok T.d_Z46.F T.d_Z46.S ?_;rintro vs H Q E ⟨a,b,l,m,rfl,iF,pR,aT,h5,q⟩;exists rfl,λ_ _ _ _ hr hu nd=>⟨_,(ao (az (aB T.d_Z55 (qN T) hr (ae (pV 0) (ae (aB T.d_Z62 (Lu T) hr (ae (pV 1) (ae (kX kR aj) ah))) ah))))),?_⟩;exists _,rfl,b,m,-1,rfl,pR.tl,by lia,zb0 h5,λt _=>ku (by decide) (by decide),λd g H1 hd dy gJ lR s1=>?_;exists a,d,l,g,rfl,iF.keep s1,dy,by lia,zco h5 (λt ht=>?_),λc f H2 hc b9 jX da s2=>?_
  ·rw[aQ,bW];rcases bW.mp ht with z|z
   ·exact .inl (bV.mpr ⟨t,z,rfl⟩)
   ·have:=gJ.src t z
    rw[ft]at this;exact .inr this
  refine q c f H2 (s1.free hc) b9 jX.toIsForm (λk=>?_) (by lia) (s1.trans s2);rw[jX.val,eE,gJ.val];have e:(m.map λt=>(t.1,t.2 * -1))=m.map λt=>(t.1,-t.2):=nS λt _=>by rw[show t.2 * -1 = -t.2 by lia]
  rw[e,oX];lia
def SW(K:Frag):Sp:=λvs H Q _=>∃(w:Nat) (a b:Addr) (l m:av),vs=[.str (mU w),.ref a,.ref b]/\w<3/\a7 H a l/\a7 H b m/\(l.length<=64/\m.length<=64)/\(∃ls,ls.length<=5/\K5 ls l/\K5 ls m)/\(w=2->∀t∈l,∀u∈m,IntMulOk t.2 u.2) /\
 ∀(c:Addr) (f:av) (H':Hp),H c=none->a7 H' c f->bx f (EH w l m)->ag H H'->Q (.ref c) H'
def zbo(T:Txt w K mg):BM.Ok P w K mg base 5 (SW K):=by
  refine Rw.ok T.d_Z3.F T.d_Z3.S ?_;rintro vs H Q E ⟨wo,a,b,l,m,rfl,hw,iF,pR,aT,h5,iQ,q⟩;refine⟨rfl,fun _ _ _ _ hr hu nd=>⟨_,(ar (bB (bD aY (pV 0) ak) (ao (az (aB T.d_Z55 (qN T) hr.m (ae (pV 1) (ae (pV 2) ah))))) aM) (ar (bB (bD aY (pV 0) ak) (ao (az (aB T.d_Z46 (za T) hr (ae (pV 1) (ae (pV 2) ah))))) aM) (ao (az (aB T.d_Z69 (zi T) hr.m (ae (pV 1) (ae (pV 2) ah))))))),?_⟩⟩
  obtain⟨ls,z5,zl,zm⟩:=h5;have qA:l.length*m.length<=64*64:=kd aT.1 aT.2;obtain rfl|rfl|rfl:wo=0\/wo=1\/wo=2:=by lia
  ·refine vy ?_;nomatch a,b,l,m,rfl,iF,pR,by lia,⟨ls,z5,zl.app zm⟩,λc f H1 hc hT hF hl s1=>q c f H1 hc hT hF s1
  ·refine vn ?_;refine vy ?_;exists a,b,l,m,rfl,iF,pR,by omega,⟨ls,z5,zl.app zm⟩,λc f H1 hc hT hI hv hl s1=>?_;refine q c f H1 hc hT (uC hI λk=>?_) s1;show _=aK (l++m.map λt=>(t.1,-t.2)) k;rw[hv,eE,oX];lia
  ·refine vn ?_;refine vn ?_;nomatch a,b,l,m,rfl,iF.tl,pR.tl,by lia,⟨ls,z5,zl.prod zm⟩,iQ rfl,λc f H1 hc hT hF hl s1=>q c f H1 hc hT hF s1
def Yt(NF:Addr):Sp:=λvs H Q E=>∃fs ls:List Nat,vs=[.str (S fs),.str (S ls)]/\(∀c∈fs,48<=c/\c<=57)/\fs.length<=1000/\(∀n:Nat,kL fs ls=some n->Q (.int (n:Int)) H)/\(kL fs ls=none->E (.ref NF) none H)
def Q8(T:Txt w K mg):Dr.OkE P w K mg base 1 (Yt du):=by
  refine Rw.okE T.d_Z58.F T.d_Z58.S ?_;rintro vs H Q E ⟨fs,ls,rfl,hd,aT,q,e⟩;refine⟨rfl,fun _ _ _ _ hr hu nd=>⟨_,(ar (PS.nox (bt (PW.pt (iD (bb oO (pv 0) ak) (iM (bb wN (pv 1) ak)))) (ao (az aj)) aM)) (ar (bt (PW.pt (gv (bb oO (pv 0) ak) (gv (bb oO (pD p9 (pv 0) aj) ak) (jg (PW.pt (iD (bb oO (pv 0) ak) (iM (bb wN (pv 1) ak)))))))) (ao (fG bK rfl (by rfl) T.g_NoForm T.x_NoForm)) aM)
   (ar (PS.nox (aH 2 nd aj)) (ar (PS.nox (eN dQ rfl (sr (pv 0)) (bf 3 nd) (ao (aH 2 nd (aD fg (aD gC (pv 2) aj) (gY Ce rfl T.n_int vX (ae (pv 3) ah))))))) (ao (PS.nox (az (pv 2)))))))),?_⟩⟩
  have run:∀n:Nat,digitsVal fs=n->Q (.int (n:Int)) H->Gd (ny (tC (V.int 0)) (a9 2)) (Gd (Hh (LD (jA 0)) (a9 3) (ny (i0 (jB λi j=>V.int (i+j)) (i0 (rI IntMulOk λi j=>V.int (i*j)) (jA 2) (tC (V.int 10))) (wY (λxs H Q=>∃x n,xs=[V.str x]/\intText? x=some n/\x.length<=640/\Q (V.int n) H) (nA (jA 3) pU))) (a9 2))) (zy (jA 2))) {nx:=λx H'=>Q V.non H',rt:=Q} [some (V.str (S (fs))),some (V.str (S (ls))),none,none] H:=by
   intro n hn hq;exists _,rfl,_,rfl,qT (λc hc=>by have:=hd c hc;lia),?_;refine zc (l:=fs) (λi σ G=>∃v3:Option V,σ=[some (.str (S fs)),some (.str (S ls)),some (.int ((digitsVal (fs.take i):Nat):Int)),v3]/\G=H)
    ⟨none,rfl,rfl⟩ ?_ ?_
   ·rintro i c σ G hc ⟨v3,rfl,rfl⟩;have iN:=hd c (cM hc);obtain⟨d,rfl⟩:∃d,c=48+d:=⟨c-48,by lia⟩;have bz:fs.take (i+1)=fs.take i++[48+d]:=by rw[dR,hc];rfl
    unfold a9;exists _,rfl,_,_,rfl,rfl,ku (by decide) (by decide),_,rfl,_,_,rfl,DV d (by lia),(by show 1<=640;decide),_,_,rfl,rfl,?_;exists some (.str (S [48+d])),?_,rfl;rw[bz,zG];have e:((digitsVal (fs.take i)*10+(48+d-48):Nat):Int)=((digitsVal (fs.take i):Nat):Int)*10+(d:Int):=by lia
    rw[e];rfl
   ·rintro σ G ⟨v3,rfl,rfl⟩;exists _,rfl,?_;rw[dH,hn];exact hq
  exists _,rfl,rfl,_,rfl,?_;by_cases h1:fs=[]
  ·refine aU (aC ((nY _).mpr h1)) ?_;exists _,rfl,rfl,_,rfl,?_;by_cases h2:ls=[]
   ·refine aF (by rw[aC ((nY _).mpr h2)];decide) ?_;exists _,rfl,rfl,_,rfl,aU (aC ((nY _).mpr h1)) ?_;exact e (by unfold kL;rw[aq (λz=>z.2 h2),ax (.inl h1)])
   ·refine aU (by rw[aL (λy=>h2 ((nY _).mp y))];rfl) ?_;exact q 1 (by unfold kL;rw[ax ⟨h1,h2⟩])
  ·refine aF (λy=>h1 ((nY _).mp (br y))) ?_;exists _,rfl,rfl,_,rfl,aF (λy=>h1 ((nY _).mp (br y))) ?_;obtain⟨c,r,EC⟩:∃c r,fs=c::r:=by
    cases fs with
    |nil=>exact absurd rfl h1
    |cons c r=>nomatch c,r,rfl
   have hz:(S fs).length<=sizeLine:=by rw[aN];exact bp aT (by decide)
   have gK:ef (S fs).cps.toList 0=some c:=by rw[gx,EC];exact aZ (j:=0) rfl
   exists _,rfl,_,_,_,rfl,rfl,hz,gK,rfl,_,rfl,?_;by_cases h3:c=48
   ·refine aU (aC (by rw[h3,fz];rfl)) ?_;exact e (by unfold kL;rw[aq (λz=>h1 z.1),ax (.inr (.inl (by rw[EC,h3];rfl)))])
   ·refine aF (λy=>h3 (by
     have:=br y
     injection this with this
     rw[fz]at this
     have:=d0 (a:=[c]) this
     simpa using this)) ?_
    have oV:¬fs.head?=some 48:=by rw[EC];simpa using h3
    exists _,rfl,rfl,_,rfl,?_;by_cases h4:fs=[49]
    ·refine aU (aC (by rw[h4,pY])) ?_;exists _,rfl,rfl,_,rfl,?_;by_cases h2:ls=[]
     ·refine aF (by rw[aC ((nY _).mpr h2)];decide) ?_;exact run _ rfl (q _ (by unfold kL;rw[aq (λz=>h1 z.1),aq (λz=>by
       rcases z with z|z|z
       ·exact h1 z
       ·exact oV z
       ·exact z.2 h2)]))
     ·refine aU (by rw[aL (λy=>h2 ((nY _).mp y))];rfl) ?_;exact e (by unfold kL;rw[aq (λz=>h1 z.1),ax (.inr (.inr ⟨h4,h2⟩))])
    ·refine aF (λw=>h4 (by
      have:=br w
      injection this with this
      rw[pY]at this;exact d0 this)) ?_
     exact run _ rfl (q _ (by unfold kL;rw[aq (λz=>h1 z.1),aq (λz=>by
      rcases z with z|z|z
      ·exact h1 z
      ·exact oV z
      ·exact h4 z.1)]))
def WR:Sp:=λvs H Q _=>∃m:Nat,vs=[.int (m:Int)]/\m<=100/\Q (.int (2^m)) H
def nk(T:Txt w K mg):Dh.Ok P w K mg base 1 WR:=by
  refine Rw.ok T.d_Z4.F T.d_Z4.S ?_;rintro vs H Q E ⟨m,rfl,hm,q⟩;refine⟨rfl,fun _ _ _ _ hr hu nd=>⟨_,(ar (aH 1 nd aj) (ar (eN dQ rfl (pd rfl T.n_range (ae (pV 0) ah)) (bf 2 nd) (ao (aH 1 nd (aD gC.c (pV 1) aj)))) (ao (az (pV 1))))),?_⟩⟩
  exists (m:Int),rfl,by lia,by lia,qL (n:=m) (λi σ H2=>∃v2:Option V,σ=[some (.int (m:Int)),some (.int (2^i)),v2]/\H2=H) ⟨none,rfl,rfl⟩ ?_ ?_
  ·rintro i σ H2 hi ⟨v2,rfl,rfl⟩;exists ku (by decide) (by decide),some (.int (0+(i:Int))),?_,rfl;rw[Ol];rfl
  ·rintro σ H2 ⟨v2,rfl,rfl⟩;exact q
def zbN(NF:Addr):Sp:=λvs H Q E=>∃l:List Nat,vs=[.str (S l)]/\(∀c∈l,c<128)/\(∀m:Nat,lh l (-1) 0=some m->Q (.int (m:Int)) H)/\(lh l (-1) 0=none->E (.ref NF) none H)
def Su(T:Txt w K mg):CV.OkE P w K mg base 2 (zbN du):=by
  refine Rw.okE T.d_Z59.F T.d_Z59.S ?_;rintro vs H Q E ⟨l,rfl,ha,q,e⟩;refine⟨rfl,fun _ _ _ _ hr hu nd=>⟨_,(ar (PS.nox (aH 1 nd aj)) (ar (PS.nox (aH 2 nd (kX kR aj))) (ar (eN Po rfl (sr (pV 0)) (bf 3 nd) (ar (PS.nox (aH 4 nd (ck eV Bp Cm Bo (dX (v:=.str "abcdefghijklmnop") (by rfl) T.g_LETTERS ⟨_,rfl⟩) (ae (pV 3) ah))))
   (ar (bB (bD pS.j (pV 4) (pV 2)) (ao (fG bK rfl (by rfl) T.g_NoForm T.x_NoForm)) aM)
   (ar (PS.nox (aH 1 nd (aD fg.j (pV 1) (aB T.d_Z4 (nk T) hr (ae (pV 4) ah))))) (ao (PS.nox (aH 2 nd (pV 4))))))))
   (ao (PS.nox (az (pV 1))))))),?_⟩⟩
  exists _,rfl,_,rfl,qT ha,?_;refine zc (l:=l) (λi σ G=>∃(v3 v4:Option V) (la:Int) (m:Nat),σ=[some (.str (S l)),some (.int (m:Int)),some (.int la),v3,v4] /\ -1<=la/\lh l (-1) 0=lh (l.drop i) la m/\G=H)
   ⟨none,none,-1,0,rfl,by lia,by rw[mZ],rfl⟩ ?_ ?_
  ·rintro i c σ G hc ⟨v3,v4,la,m,rfl,m9,hr,rfl⟩;have eA:=(d6.mp hc).1;have ed:l.drop i=c::l.drop (i+1):=by
    rw[sP eA];congr 1;exact (d6.mp hc).2
   have hc128:=ha c (cM hc);rw[ed]at hr;unfold a9;exists rfl,_,_,rfl,rfl,?_;rw[nQ,Df c hc128];refine v2 (λz=>?_) (λz=>?_)
   ·have z':=br z;exact e (by rw[hr];unfold lh;rw[ax z'])
   ·have z':¬kW c<=la:=λy=>z (aC y)
    obtain⟨k,hk⟩:∃k:Nat,kW c=(k:Int):=⟨(kW c).toNat,by lia⟩;have qd:k<16:=by
     unfold kW at hk;split at hk<;>lia
    rw[hk];exists k,rfl,by lia,?_;exists some (.str (S [c])),some (.int (k:Int)),(k:Int),m+2^k,?_,by lia,?_,rfl
    ·rw[show ((m+2^k:Nat):Int)=(m:Int)+2^k by rw[EX];lia];rfl
    ·rw[hr];show lh (c::l.drop (i+1)) la m=_
     conv=>lhs;unfold lh
     rw[aq z',hk,oJ]
  ·rintro σ G ⟨v3,v4,la,m,rfl,m9,hr,rfl⟩;rw[uR]at hr;exact q m hr
def Yx(NF:Addr):Sp:=λvs H Q E=>∃sg wo:List Nat,vs=[.str (S sg),.str (S wo)]/\(∀c∈wo,c<128)/\wo.length<=1000/\(∀t,k8 sg wo=some t->∀c,H c=none->Q (.ref c) (upd H c (.tup [.int t.1,.int t.2])))/\(k8 sg wo=none->E (.ref NF) none H)
def Xw(T:Txt w K mg):Fo.OkE P w K mg base 3 (Yx du):=by
  refine Rw.okE T.d_Z60.F T.d_Z60.S ?_;rintro vs H Q E ⟨xi,wo,rfl,ha,hl,q,e⟩;refine⟨rfl,fun _ _ _ _ hr hu nd=>⟨_,(ar (bt (PW.pt (iD (bb fP (pV 0) ak) (iM (bb fP (pV 0) ak)))) (ao (fG bK rfl (by rfl) T.g_NoForm T.x_NoForm)) aM)
   (ar (PS.nox (aH 2 nd (ck eV PySem.F.slot_str_lstrip PySem.F.type_str_lstrip Xu (pV 1) (ae (dX (v:=.str "0123456789") (by rfl) T.g_FIGURES ⟨_,rfl⟩) ah))))
   (ar (aH 3 nd (fh (Q8 T) hr.m (by rfl) T.d_Z58.m T.d_Z58.F.kp T.d_Z58.b .nil (dv bK) (ae (dj lN (pV 1) di (cJ (aD tS.j (bj gp (by rfl) T.n_len bS (ae (pV 1) ah)) (bj gp (by rfl) T.n_len bS (ae (pV 2) ah))))) (ae (pV 2) ah))))
   (ao (az (eK (ae (fh (Su T) hr (by rfl) T.d_Z59.m T.d_Z59.F.kp T.d_Z59.b .nil (dv bK) (ae (pV 2) ah)) (ae (rG (bb aY (pV 0) ak) (kX kR (pV 3)) (pV 3)) ah)))))))),?_⟩⟩
  have sg:∀(a:List Nat) (b:Nat),(V.str (S a)=V.str (S [b]))↔a=[b]:=λa b=>⟨λz=>by
   injection z with z
   exact d0 z,λz=>by rw[z]⟩
  have mS:=N9 wo;have hll':(lH wo).length+(fA wo).length=wo.length:=by
   have:=congrArg List.length mS
   rw[aS]at this;lia
  have d8:(S wo).length<=sizeLine:=by rw[aN];exact bp hl (by decide)
  have qA:(S (fA wo)).length<=sizeLine:=by rw[aN];exact bp (show (fA wo).length<=1000 by lia) (by decide)
  have el:Txt.lstripChars (S wo) (ofString "0123456789")=S (fA wo):=by
   rw[AS]
   conv=>lhs;rw[mS]
   exact Xk (zh wo) zbk
  have es:Txt.slice (S wo) none (some (((S wo).length:Int)-((S (fA wo)).length:Int)))=S (lH wo):=by
   have e1:((S wo).length:Int)-((S (fA wo)).length:Int)=((lH wo).length:Int):=by
    rw[aN,aN];lia
   rw[e1]
   have:=UI (a:=lH wo) (b:=fA wo)
   rwa [<-mS]at this
  have vM:∀c∈fA wo,c<128:=λc hc=>ha c (by rw[mS];exact cx _ hc)
  by_cases hs:xi=[43]\/xi=[45]
  ·have hT:k8 xi wo=match kL (lH wo) (fA wo),lh (fA wo) (-1) 0 with
    |some n,some m=>some ((m:Int),if xi=[45]then -(n:Int)else (n:Int))
    |_,_=>none:=ax hs
   rcases hs with rfl|rfl
   ·exists _,rfl,aF (by rw[yK,aC rfl];decide) ?_;exists rfl,_,_,rfl,rfl,d8,?_;rw[el];exists _,rfl,d8,_,rfl,qA,_,rfl,d8,lH wo,fA wo,(by rw[es];rfl),zh wo,by lia,λn hn=>?_,λhn=>e (by rw[hT,hn]);exists fA wo,rfl,vM,λm hm=>?_,λhm=>e (by rw[hT,hn,hm]);exists _,rfl,?_;refine aF (by rw[oH];exact λy=>absurd ((sg _ _).mp (br y)) (by decide)) ?_;nomatch dw,λc hc=>q _ (by rw[hT,hn,hm]) c hc
   ·exists _,rfl,aU (by rw[yK,aL (λy=>absurd ((sg _ _).mp y) (by decide))];rfl) ?_;exists _,rfl,aF (by rw[oH,aC rfl];decide) ?_;exists rfl,_,_,rfl,rfl,d8,?_;rw[el];exists _,rfl,d8,_,rfl,qA,_,rfl,d8,lH wo,fA wo,(by rw[es];rfl),zh wo,by omega,λn hn=>?_,λhn=>e (by rw[hT,hn]);exists fA wo,rfl,vM,λm hm=>?_,λhm=>e (by rw[hT,hn,hm]);exists _,rfl,?_;refine aU (by rw[oH];exact aC rfl) ?_;nomatch _,rfl,dw,λc hc=>q _ (by rw[hT,hn,hm]) c hc
  ·exists _,rfl,aU (by rw[yK,aL (λy=>hs (.inl ((sg _ _).mp y)))];rfl) ?_;exists _,rfl,aU (by rw[oH,aL (λy=>hs (.inr ((sg _ _).mp y)))];rfl) ?_;exact e (by unfold k8;rw[aq hs])
def Zm(K:Frag):Sp:=λvs H Q _=>∃(a:Addr) (f:av),vs=[.ref a]/\a7 H a f/\Q (.bl (jR f (-1))) H
def Wa(T:Txt w K mg):Bi.Ok P w K mg base 1 (Zm K):=by
  refine Rw.ok T.d_Z20.F T.d_Z20.S ?_;rintro vs H Q E ⟨a,f,rfl,hT,q⟩;refine⟨rfl,fun _ _ _ _ hr hu nd=>⟨_,(ar (aH 1 nd (kX kR aj)) (ar (eN dQ rfl (dM (pV 0)) (su (n:=2) rfl (iX (bf 2 nd) (iX (bf 3 nd) sU))) (ar (bt (PW.pt (gv (bb pS.j (pV 2) (pV 1)) (jg (bb aY (pV 3) aj)))) (ao (az jr)) aM) (ao (aH 1 nd (pV 2))))) (ao (az jr)))),?_⟩⟩
  obtain⟨ps,hS,hP⟩:=id hT;have dE:=hP.length;exists _,rfl,⟨_,ai.of hS⟩,?_;refine mB (K:=K) (a:=a) (xs:=ps.map V.ref) (λi σ G=>∃(v2 v3:Option V) (la:Int),σ=[some (.ref a),some (.int la),v2,v3]/\jR f (-1)=jR (f.drop i) la/\G=H)
   ⟨none,none,-1,rfl,by rw[mZ],rfl⟩ (λi σ G _ ⟨_,_,_,_,_,e⟩=>by rw[e];exact ai.of hS) ?_ ?_
  ·rintro i y σ G hi ⟨v2,v3,la,rfl,m9,rfl⟩;obtain⟨p,gr,rfl⟩:=jH hi;obtain⟨t,bQ,dk⟩:=hP.at' gr;have ed:f.drop i=t::f.drop (i+1):=by
    rw[sP (d6.mp bQ).1];congr 1;exact (d6.mp bQ).2
   rw[ed]at m9;exists _,aG.of dk,rfl,?_;exists _,rfl,kg (λz=>?_) (λz=>?_)
   ·have z':=br z;have e1:jR f (-1)=false:=by rw[m9];unfold jR;rw[ax (.inl z')]
    rw[e1]at q;exact bP q
   ·have z':¬t.1<=la:=λy=>z (aC y)
    exists _,rfl,kg (λz2=>?_) (λz2=>?_)
    ·have y:t.2=0:=by have h:=br z2;injection h
     have e1:jR f (-1)=false:=by rw[m9];unfold jR;rw[ax (.inr y)]
     rw[e1]at q;exact q
    ·have y:¬t.2=0:=λy=>z2 (aC (by rw[y]))
     exists _,_,t.1,rfl,?_,rfl;rw[m9]
     conv=>lhs;unfold jR
     rw[aq (λw=>w.elim z' y)]
  ·rintro σ G ⟨v2,v3,la,rfl,m9,rfl⟩;rw[ay,dE,uR]at m9;rw[m9]at q;exact q
def zbF(NF:Addr):Sp:=λvs H Q E=>∃l:List Nat,vs=[.str (S l)]/\(∀c∈l,c<128)/\l.length<=900/\(∀f,gP l=some f->∀(c:Addr) (H':Hp),H c=none->a7 H' c f->ag H H'->Q (.ref c) H')/\(gP l=none->∀H',ag H H'->E (.ref NF) none H')
def Nf:(["sign","word"]:List Str).Nodup:=by decide+kernel
def zb9(T:Txt w K mg):yI.OkE P w K mg base 4 (zbF du):=by
  refine Rw.okE T.d_Z14.F T.d_Z14.S ?_;rintro vs H Q E ⟨l,rfl,ha,hl,q,e⟩;refine⟨rfl,fun _ _ _ _ hr hu nd=>⟨_,(ar (PS.nox (bt (bb aY (pV 0) ak) (ao (az (bc ah))) aM)) (ar (PS.nox (aH 1 nd (ck eV vC uP vm (pV 0) (ae ak ah)))) (ar (PS.nox (ur (bt (fJ (ck eV E6 EO Hz (pV 0) (ae ak ah))) (ar (NH (dj lN (xL (pV 1) aj) (cJ aj) di) (ZN (pV 1) aj U5)) (ao (fZ (ck dI Oz Ht Qf (pV 1) (ae aj (ae ak ah)))))) (ao (fZ (ck dI Oz Ht Qf (pV 1) (ae aj (ae ak ah)))))))) (ar (bt (bb fP (aD cI.c (bj dJ (by rfl) T.n_len bS (ae (pV 1) ah)) aj) aj) (ao (fG bK rfl (by rfl) T.g_NoForm T.x_NoForm)) aM)
   (ar (zbT bK (i:=2) (g:=(gm K 2 (cB (a9 0) (cB (a9 1) fW)))) 2 nd rfl (Or.inl rfl) rfl (d7 yI) (by decide +kernel) (KZ rfl T.n_zip (ae (xE (pV 1) (cJ aj) (cJ aj)) (ae (xE (pV 1) (cJ aj) (cJ aj)) ah)))
    (λC s₀ H₀ fp=>(hZ (n:=2) rfl (cS (bf 0 Nf) (cS (bf 1 Nf) gR)))) (λC s₀ H₀ fp=>lL) (λC s₀ H₀ fp=>(fh (Xw T) hr (by rfl) T.d_Z60.m T.d_Z60.F.kp T.d_Z60.b .nil LA (ae (pV 0) (ae (pV 1) ah)))))
   (ar (bt (iO (fJ (aB T.d_Z20 (Wa T) hr.m (ae (pV 2) ah)))) (ao (fG bK rfl (by rfl) T.g_NoForm T.x_NoForm)) aM)
   (ao (PS.nox (az (pV 2)))))))))),?_⟩⟩
  exists _,rfl,?_;by_cases h0:l=[48]
  ·refine aU (aC (by rw[h0,fz])) ?_;nomatch cb _,λc hc=>q [] (by unfold gP;rw[ax h0]) c _ hc ⟨[],au,.nil⟩ (ag.upd hc)
  refine aF (λw=>h0 (by
   have:=br w
   injection this with this
   rw[fz]at this;exact d0 this)) ?_
  have eR:Txt.split (S l) (S [32])=(aX l).map S:=by
   have:=uS (c:=32) (gT l) (nF l)
   rwa [n6 l]at this
  exists rfl,_,_,rfl,rfl,(by rw[jQ];rfl),(by rw[aN];exact je hl (by decide)),λW hW=>?_;rw[jQ,eR];generalize eU:upd H W _=H1;obtain⟨s1,w1⟩:=nw eU hW;have fF:=pI l;have iP:=rj l;exists λσ' G'=>σ'=[some (.str (S l)),some (.ref W),none]/\G' W=some (.lst (((gj l).map S).map V.str))/\ag H G',?_,?_
  ·obtain⟨w0,wr,ew⟩:∃w0 wr,aX l=w0::wr:=by
    cases e:aX l with
    |nil=>exact absurd e (gT l)
    |cons a b=>nomatch a,b,rfl
   rw[ew]at w1;exists rfl,_,_,rfl,rfl,_,rfl,?_;have hwrl:((wr.map S).map V.str).length<=1001:=by rw[ay,ay];rw[ew,aW]at fF;lia
   by_cases pJ:l.head?=some 45
   ·refine aU (by rw[oH,N2];exact aC pJ) ?_;obtain⟨w',rfl⟩:∃w',w0=45::w':=zcG pJ (by decide) ew;have d8:(S (45::w')).length<=sizeLine:=by
     rw[aN]
     have:=fF.2 (45::w') (by rw[ew];simp)
     exact bp this (bp hl (by decide))
    have UK:Txt.slice (S (45::w')) (some 1) none=S w':=PZ (a:=[45]) (b:=w');exists _,ai.of w1,aZ (j:=0) rfl,_,rfl,d8,W,_,_,0,rfl,rfl,w1,(by show kc (_+1) 0=some 0;unfold kc;simp),?_;exists .inl ⟨rfl,_,ai.of au⟩,W,_,0,_,rfl,rfl,au,cb _,?_,?_
    ·rw[qH];show ((wr.map S).map V.str).length+1<_;exact cP (by lia)
    exists rfl,?_,(s1.write hW).write hW;rw[au,UK,oH];unfold gj;rw[ax pJ,ew];rfl
   ·refine aF (by rw[oH,N2,aL pJ];decide) ?_;exists .inl ⟨rfl,_,ai.of w1⟩,W,_,0,_,rfl,rfl,w1,cb _,?_,?_
    ·show ((wr.map S).map V.str).length+1<_;exact cP (by lia)
    exists rfl,?_,s1.write hW;rw[au,yK];unfold gj;rw[aq pJ,ew];rfl
  ·rintro σ' G' ⟨rfl,w2,s2⟩;have rA:=Gk l;have gy:∀x,iK (gj l)=x->gP l=match x with
     |some f=>if jR f (-1)=true then some f else none
     |none=>none:=λx hx=>by unfold gP;rw[aq h0,hx]<;>(cases x<;>rfl)
   exists W,_,rfl,.inl (ai.of w2),(by show (0:Int)<2;decide),_,rfl,?_;by_cases wQ:(gj l).length%2=0
   rotate_left
   ·refine aU (by
     show (!decide (V.int (((((gj l).map S).map V.str).length:Int)%2)=V.int 0))=true;rw[ay,ay,aL (λz=>by injection z with z;lia)];rfl) ?_
    exact e (gy none (GA wQ)) G' s2
   refine aF (by
    show ¬(!decide (V.int (((((gj l).map S).map V.str).length:Int)%2)=V.int 0))=true;rw[ay,ay,aC (by congr 1;lia)];decide) ?_
   obtain⟨pp,lD⟩:=PU wQ;have dE:2*pp.length=(gj l).length:=by rw[lD,Vy]
   have ev:((gj l).map S).map V.str=pp.flatMap λt:List Nat×List Nat=>[V.str (S t.1),V.str (S t.2)]:=by
    rw[lD,ft,List.map_flatMap];rfl
   have B4:iK (gj l)=jw pp:=by rw[lD];exact GW pp
   have ZW:∀t∈pp,t.2∈gj l:=λt ht=>by rw[lD];exact Cs.mpr ⟨t,ht,by simp⟩
   rw[ev]at w2;have fO:(pp.flatMap λt:List Nat×List Nat=>[V.str (S t.1),V.str (S t.2)]).length=2*pp.length:=DR _ _ _;exists rfl,0,W,_,rfl,rfl,ai.of w2,cb _,λA hA=>?_;rw[zat (λt:List Nat×List Nat=>V.str (S t.1)) (λt=>V.str (S t.2))];have b1:ag G' (upd G' A (.lst (pp.map λt=>V.str (S t.1)))):=ag.upd hA;have iu:1<=pp.length:=by have:=rA.1;lia
   exists rfl,1,W,_,rfl,rfl,ai.of (b1 _ _ w2),by rw[fO];lia,λB hB=>?_;rw[zap (λt:List Nat×List Nat=>V.str (S t.1)) (λt=>V.str (S t.2))];have b2:ag (upd G' A (.lst (pp.map λt=>V.str (S t.1)))) (upd (upd G' A (.lst (pp.map λt=>V.str (S t.1)))) B (.lst (pp.map λt=>V.str (S t.2)))):=ag.upd hB;have s3:=s2.trans (b1.trans b2);have wA:=b2 _ _ (au:upd G' A (.lst (pp.map λt=>V.str (S t.1))) A=_);have wB:(upd (upd G' A (.lst (pp.map λt=>V.str (S t.1)))) B (.lst (pp.map λt=>V.str (S t.2)))) B=some (.lst (pp.map λt=>V.str (S t.2))):=au;generalize upd (upd G' A (.lst (pp.map λt=>V.str (S t.1)))) B (.lst (pp.map λt=>V.str (S t.2)))=H2 at s3 wA wB;exists A,B,rfl,⟨_,ai.of wA⟩,⟨_,ai.of wB⟩,?_;refine Kt (K:=K) (a:=A) (b:=B) (xs:=pp.map λt=>V.str (S t.1)) (ys:=pp.map λt=>V.str (S t.2)) (by rw[ay,ay])
    (λi zs σ G=>∃(v0 v1:Option V) (qs:List Addr) (fs:av),σ=[v0,v1]/\zs=qs.map V.ref/\cj G qs fs/\fs.length=i/\(∀rest,jw (pp.drop i)=some rest->jw pp=some (fs++rest))/\(jw (pp.drop i)=none->jw pp=none)/\G A=some (.lst (pp.map λt=>V.str (S t.1)))/\G B=some (.lst (pp.map λt=>V.str (S t.2)))/\ag H G)
    ⟨none,none,[],[],rfl,rfl,.nil,rfl,(λrest h=>by rw[mZ]at h;exact h),(λh=>by rw[mZ]at h;exact h),wA,wB,s3⟩ (λi zs σ G hi ⟨_,_,qs,fs,_,e1,e2,e5,_,_,e3,e4,_⟩=>⟨ai.of e3,ai.of e4,by rw[e1,ay,e2.length,e5];exact aJ _⟩) (by rw[ay];exact dq (cP (by have:=rA.2.1;lia))) ?_ ?_
   ·rintro i x y zs σ G T' hx hy ⟨v0,v1,qs,fs,rfl,rfl,g1,g5,g6,g7,g2,g3,g4⟩ mT;rw[bY]at hx hy;obtain⟨t,ht,rfl⟩:∃t,pp[i]?=some t/\V.str (S t.1)=x:=by
     cases e:pp[i]? with
     |none=>rw[e]at hx;cases hx
     |some t=>rw[e]at hx;nomatch t,rfl,cD hx
    rw[ht]at hy;cases hy;have ed:pp.drop i=t::pp.drop (i+1):=by
     rw[sP (d6.mp ht).1];congr 1;exact (d6.mp ht).2
    have fT:=ZW t (cM ht);have c1:ag G (upd G T' (.tup [V.str (S t.1),V.str (S t.2)])):=ag.upd mT;exists T',_,rfl,aG.of au,rfl,_,_,rfl,_,_,rfl,rfl,?_;refine tt ?_;exists t.1,t.2,rfl,(λc hc=>((rA.2.2 t.2 fT).1 c hc).elim (ha c) (λz=>by rw[z];decide)),(by have:=(rA.2.2 t.2 fT).2;lia),λu hu c hc=>?_,λhn=>?_
    ·have c2:ag (upd G T' (.tup [V.str (S t.1),V.str (S t.2)])) (upd (upd G T' (.tup [V.str (S t.1),V.str (S t.2)])) c (.tup [.int u.1,.int u.2])):=ag.upd hc;have c3:=c1.trans c2;exists _,_,qs++[c],fs++[u],rfl,(by rw[aQ];rfl),cj.snoc (g1.keep λb xs z=>c3 b _ z) au,by rw[aS,g5];rfl,λrest hr=>?_,λhr=>?_,c3 _ _ g2,c3 _ _ g3,g4.trans c3
     ·rw[iT];exact g6 (u::rest) (by rw[ed];unfold jw;rw[hu,hr])
     ·exact g7 (by rw[ed];unfold jw;rw[hu,hr])
    ·exact e (gy none (by rw[B4];exact g7 (by rw[ed];unfold jw;rw[hn]))) _ (g4.trans c1)
   ·rintro zs σ G ⟨v0,v1,qs,fs,rfl,rfl,g1,g5,g6,g7,g2,g3,g4⟩ D hD;rw[ay,uR]at g6;have Hn:=g6 [] rfl;rw[fc]at Hn;have d1:ag G (upd G D (.lst (qs.map V.ref))):=ag.upd hD;have hT:a7 (upd G D (.lst (qs.map V.ref))) D fs:=⟨qs,au,g1.keep λb xs z=>d1 b _ z⟩;have JP:=gy (some fs) (by rw[B4];exact Hn);exists D,fs,rfl,hT,?_;cases hi:jR fs (-1)with
    |true=>nomatch true,rfl,bL (q fs (by rw[JP];exact ax hi) D _ (g4.free hD) hT (g4.trans d1))
    |false=>nomatch false,rfl,bP (e (by rw[JP];exact aq (by rw[hi];decide)) _ (g4.trans d1))
def ZQ(K:Frag):Sp:=λvs H Q _=>∃(l:List Nat) (k:Nat),vs=[.str (S l),.int (k:Int)]/\k<l.length/\l.length<=100000/\Q (.str (S (dz (l.drop k)))) H
def Z8(T:Txt w K mg):Ez.Ok P w K mg base 1 (ZQ K):=by
  refine Rw.ok T.d_Z70.F T.d_Z70.S ?_;rintro vs H Q E ⟨l,k,rfl,hk,hl,q⟩;refine⟨rfl,fun _ _ _ _ hr hu nd=>⟨_,(ar (eN dQ rfl (Z9 (dX (v := .ref sR) (by rfl) T.g_SPACED rfl)) (bf 2 nd)
    (ao (bt (fJ (ck eV E6 EO zb1 (pV 0) (ae (pV 2) (ae (pV 1) ah)))) (ao (az (pV 2))) aM)))
   (ao (az (pD p9 (pV 0) (pV 1))))),?_⟩⟩
  have hq:∀G:Hp,aG K G sR (lj.map λt=>V.str (S t)):=λG=>by rw[<-XD];exact T.q_SPACED G
  exists sR,rfl,⟨_,hq _⟩,?_;refine W0 (K:=K) (a:=sR) (xs:=lj.map λt=>V.str (S t)) (λi σ G=>∃v2:Option V,σ=[some (.str (S l)),some (.int (k:Int)),v2]/\(∀j t',j<i->lj[j]?=some t'->¬t' <+: l.drop k)/\G=H)
   ⟨none,rfl,(λj t' hj _=>absurd hj (j7 _)),rfl⟩ (λi σ G _ _=>hq _) ?_ ?_
  ·rintro i y σ G hi ⟨v2,rfl,hb,rfl⟩;rw[bY]at hi;obtain⟨t,ht,rfl⟩:∃t,lj[i]?=some t/\V.str (S t)=y:=by
    cases e:lj[i]? with
    |none=>rw[e]at hi;cases hi
    |some t=>rw[e]at hi;nomatch t,rfl,cD hi
   unfold a9;exists rfl,_,_,k,rfl,rfl,_,rfl,?_;rw[zaI l t k (dq hk)];by_cases z:t <+: l.drop k
   ·refine aU (aC z) ?_;rw[W2 ht hb z]at q;exact q
   ·refine aF (λy=>z (br y)) ?_;exists _,rfl,λj t' hj j5=>?_,rfl;rcases kb j i with w|w
    ·exact hb j t' w j5
    ·have:j=i:=by lia
     subst this;rw[ht]at j5;cases j5;exact z
  ·rintro σ G ⟨v2,rfl,hb,rfl⟩;have e:=VC hb;obtain⟨c,hc⟩:∃c,l[k]?=some c:=⟨_,dD hk⟩;have e1:(l.drop k).take 1=[c]:=by rw[List.take_one,List.head?_drop,hc];rfl
   rw[e,e1]at q;nomatch _,_,c,rfl,rfl,by rw[aN];exact dq (cP (by lia)),by rw[gx];exact aZ hc,q
def Rx(K:Frag):Sp:=λvs H Q _=>∃ts:List (List Nat),vs=[.str (S ts.flatten)]/\eP ts []/\ts.flatten.length<=10000/\∀(c:Addr) (H':Hp),H c=none->H' c=some (.lst (ts.map λt=>V.str (S t)))->ag H H'->Q (.ref c) H'
def zbg(T:Txt w K mg):Ed.Ok P w K mg base 2 (Rx K):=by
  refine Rw.ok T.d_Z71.F T.d_Z71.S ?_;rintro vs H Q E ⟨ts,rfl,hc,hl,q⟩;refine⟨rfl,fun _ _ _ _ hr hu nd=>⟨_,(ar (aH 1 nd (bc ah)) (ar (aH 2 nd aj) (ar (yG dQ (bb jq.j (pV 2) (bj gp (by rfl) T.n_len bS (ae (pV 0) ah))) (ar (aH 3 nd (aB T.d_Z70 (Z8 T) hr (ae (pV 0) (ae (pV 2) ah))))
   (ar (fZ (ck dI jG jl jS (pV 1) (ae (pV 3) ah))) (ao (aH 2 nd (aD fg.j (pV 2) (bj gp (by rfl) T.n_len bS (ae (pV 3) ah))))))))
   (ao (az (pV 1)))))),?_⟩⟩
  exists cb _,λc FE=>?_;have s0:ag H (upd H c (.lst [])):=ag.upd FE;have hz:(S ts.flatten).length<=sizeLine:=by rw[aN];exact gf (by lia)
  exists λm σ G=>∃(i:Nat) (v3:Option V),σ=[some (.str (S ts.flatten)),some (.ref c),some (.int (((ts.take i).flatten.length:Nat):Int)),v3]/\i<=ts.length/\m=ts.length-i/\G c=some (.lst ((ts.take i).map λt=>V.str (S t)))/\ag H G,⟨ts.length,0,none,rfl,cb _,rfl,au,s0⟩,?_;rintro m σ G ⟨i,v3,rfl,hi,rfl,g1,sG⟩;exists _,rfl,hz,_,rfl,?_;by_cases z:i<ts.length
  ·obtain⟨t,ht⟩:∃t,ts[i]?=some t:=⟨_,dD z⟩;obtain⟨tn,tf⟩:=Qo hc ht;rw[fc]at tf;have bz:ts.take (i+1)=ts.take i++[t]:=by rw[dR,ht];rfl
   have u6:(ts.take (i+1)).flatten.length=(ts.take i).flatten.length+t.length:=by rw[bz,MY,aS];simp
   have zY:0<t.length:=Bj.mpr tn;have hle:(ts.take (i+1)).flatten.length<=ts.flatten.length:=by
    have:=congrArg (λx:List (List Nat)=>x.flatten.length) (tF (i+1) ts)
    simp only[MY,aS]at this;lia
   refine aU (by rw[aN];exact aC (by lia)) ?_;exists λσ' G'=>∃v3:Option V,σ'=[some (.str (S ts.flatten)),some (.ref c),some (.int (((ts.take (i+1)).flatten.length:Nat):Int)),v3]/\G' c=some (.lst ((ts.take (i+1)).map λt=>V.str (S t)))/\ag H G',λσ' G' ⟨v3,e1,e2,e3⟩=>⟨ts.length-(i+1),by lia,i+1,v3,e1,z,rfl,e2,e3⟩,?_;exists ts.flatten,(ts.take i).flatten.length,rfl,by lia,by lia,?_;rw[HG,tf];refine⟨.inl ⟨rfl,_,ai.of g1⟩,_,g1,(by
    rw[ay,c7];have hn:ts.length<=ts.flatten.length:=Fc hc;exact cP (by lia)),?_⟩
   exists _,rfl,(by rw[aN];exact gf (by lia)),?_;exists some (.str (S t)),?_,?_,sG.write FE
   ·have e:(((ts.take (i+1)).flatten.length:Nat):Int)=(((ts.take i).flatten.length:Nat):Int)+((S t).length:Int):=by rw[u6,aN];lia
    rw[e];rfl
   ·rw[au,bz,aQ];rfl
  ·have mL:i=ts.length:=by lia
   subst mL;rw[dH]at g1 ⊢;refine aF (by rw[aN];simp) ?_;exact q c G FE g1 sG
def q0(t:Sm)(af:List Itm):Sm×List Itm:=match af.getLast? with
 |some (.jn w s)=>(.two w s t,af.dropLast)
 |_=>(t,af)
def uG(t:Sm)(r:List Itm)(it:Itm):q0 t (r++[it])=match it with|.jn w s=>(.two w s t,r)|_=>(t,r++[it]):=by
 unfold q0;rw[xn];cases it<;>simp
def UU(K:Frag):Sp:=λvs H Q _=>∃(v:V) (s:Sm) (b:Addr) (af:List Itm),vs=[v,.ref b]/\Is H v s.d/\eh H b af/\af.length<=10000 /\
 ∀(v':V) (H':Hp),Is H' v' (q0 s af).1.d->eh H' b (q0 s af).2->aV b H H'->Q v' H'
def Km(T:Txt w K mg):CN.Ok P w K mg base 1 (UU K):=by
  refine Rw.ok T.d_Z79.F T.d_Z79.S ?_;rintro vs H Q E ⟨v,s0,b,af,rfl,hI,hB,hl,q⟩;refine⟨rfl,fun _ _ _ _ hr hu nd=>⟨_,(ar (bt (PW.pt (iD (oG (pV 1) (fun _=>rfl)) (iM (jZ pF (xT (xL (pV 1) (kX kR aj)) aj) (dX (v := .ref dW) (by rfl) T.g_JOINING rfl) rfl)))) (ao (az (aD KA (iY dI p8 pQ qg (pV 1)) (eK (ae (pV 0) ah))))) aM)
   (ao (az (pV 0)))),?_⟩⟩
  rcases E9 af with rfl|⟨r,it,rfl⟩
  ·exists false,.inl ⟨_,ai.of hB.nil,rfl⟩,?_;refine bL ?_;refine bL ?_;exact q v H hI hB (aV.refl _ _)
  ·obtain⟨xs,y,hb,hp,hy⟩:=hB.last;rw[uG]at q;exists true,.inl ⟨_,ai.of hb,by simp⟩,?_;refine bP ?_;cases it with
   |nt =>
    obtain⟨p,rfl,h1⟩:=zP hy;exists _,rfl,_,ai.of hb,lS _ _,_,aG.of h1,rfl,dW,_,rfl,.inr (T.q_JOINING _),rfl,rfl,_,rfl,aF (by decide) ?_;exact q v H hI hB (aV.refl _ _)
   |op =>
    obtain⟨p,rfl,h1⟩:=yR hy;exists _,rfl,_,ai.of hb,lS _ _,_,aG.of h1,rfl,dW,_,rfl,.inr (T.q_JOINING _),rfl,rfl,_,rfl,aF (by decide) ?_;exact q v H hI hB (aV.refl _ _)
   |jn w s2 =>
    obtain⟨p,x,rfl,h1,h2⟩:=zF hy;exists _,rfl,_,ai.of hb,lS _ _,_,aG.of h1,rfl,dW,_,rfl,.inr (T.q_JOINING _),rfl,rfl,_,rfl,aU (zK w) ?_;exists .inl ⟨rfl,_,ai.of hb⟩,b,_,.ref p,rfl,rfl,hb,(by simp),?_;rw[pb];have b1:aV b H (upd H b (.lst xs)):=aV.upd;exists d5,λt ht=>?_;have FA:p≠b:=λz=>by rw[z,hb]at h1;cases h1
    have iu:upd H b (.lst xs) p=some (.tup [.str (wd w),x]):=by rw[aO FA];exact h1
    have b2:ag (upd H b (.lst xs)) (upd (upd H b (.lst xs)) t (.tup [v])):=ag.upd ht;exists p,t,_,_,rfl,rfl,aG.of (b2 _ _ iu),aG.of au,by simp,j1,(λz=>by cases z),λ_ p' gU=>?_;have b3:ag (upd (upd H b (.lst xs)) t (.tup [v])) (upd (upd (upd H b (.lst xs)) t (.tup [v])) p' (.tup ([.str (wd w),x]++[v]))):=ag.upd gU;have vS:aV b H (upd (upd (upd H b (.lst xs)) t (.tup [v])) p' (.tup ([.str (wd w),x]++[v]))):=b1.trans (aV.of (b2.trans b3));have kt:=vS.tups hb;exact q (.ref p') _ (NG au (cX.mpr rfl) (jK kt h2) (jK kt hI)) ⟨xs,(b2.trans b3) _ _ au,oE kt hp⟩ vS
def zaT(K:Frag):Sp:=λvs H Q _=>∃(v:V) (s:Sm) (b:Addr) (af:List Itm) (k:Nat),vs=[v,.ref b]/\Is H v s.d/\eh H b (af++List.replicate k .nt)/\f9 jo af/\af.length+k<=10000 /\
 ∀(v':V) (H':Hp),Is H' v' (kE k s).d->eh H' b af->aV b H H'->Q v' H'
def As(T:Txt w K mg):Bn.Ok P w K mg base 1 (zaT K):=by
  refine Rw.ok T.d_Z80.F T.d_Z80.S ?_;rintro vs H Q E ⟨v,s0,b,af,kk,rfl,hI,hB,hn,hl,q⟩;refine⟨rfl,fun _ _ _ _ hr hu nd=>⟨_,(ar (yG dQ (PW.pt (iD (oG (pV 1) (fun _=>rfl)) (iM (bb aY (xT (xL (pV 1) (kX kR aj)) aj) ak)))) (ao (aH 0 nd (aD KA (iY dI p8 pQ qg (pV 1)) (eK (ae (pV 0) ah)))))) (ao (az (pV 0)))),?_⟩⟩
  exists λm σ G=>∃(v1:V) (s1:Sm) (k:Nat),σ=[some v1,some (.ref b)]/\Is G v1 s1.d/\eh G b (af++List.replicate k .nt)/\m=k/\kE k s1=kE kk s0/\k<=kk/\aV b H G,⟨kk,v,s0,kk,rfl,hI,hB,rfl,rfl,aJ _,aV.refl _ _⟩,?_;rintro m σ G ⟨v1,s1,k,rfl,G8,qE,rfl,e,hk,sB⟩;cases m with
  |zero =>
   rw[qF,fc]at qE;have fin:∀G',G'=G->Q v1 G':=λG' z=>by rw[z];exact q v1 G (by rw[<-e];exact G8) qE sB
   rcases E9 af with rfl|⟨r,it,rfl⟩
   ·exists false,.inl ⟨_,ai.of qE.nil,rfl⟩,?_;refine bL ?_;refine bL ?_;exact fin _ rfl
   ·obtain⟨xs,y,hb,hp,hy⟩:=qE.last;have cY:=hn it (xn r it);exists true,.inl ⟨_,ai.of hb,by simp⟩,?_;refine bP ?_;cases it with
    |nt=>exact absurd trivial cY
    |op =>
     obtain⟨p,rfl,h1⟩:=yR hy;exists _,rfl,_,ai.of hb,lS _ _,_,aG.of h1,rfl,_,rfl,?_;refine aF (by decide) ?_;exact fin _ rfl
    |jn w s2 =>
     obtain⟨p,x,rfl,h1,h2⟩:=zF hy;exists _,rfl,_,ai.of hb,lS _ _,_,aG.of h1,rfl,_,rfl,?_;refine aF (λz=>u9.2.2 (by have z':=br z;injection z')) ?_;exact fin _ rfl
  |succ k =>
   rw[<-D5]at qE;obtain⟨xs,y,hb,hp,hy⟩:=qE.last;obtain⟨p,rfl,h1⟩:=zP hy;have aT:xs.length=af.length+k:=by have:=dP hp;rw[aS,rY]at this;exact this
   exists true,.inl ⟨_,ai.of hb,by simp⟩,?_;refine bP ?_;exists _,rfl,_,ai.of hb,lS _ _,_,aG.of h1,rfl,_,rfl,?_;refine aU (by decide) ?_;exists λσ' G'=>∃(v2:V) (s2:Sm),σ'=[some v2,some (.ref b)]/\Is G' v2 s2.d/\eh G' b (af++List.replicate k .nt)/\kE k s2=kE kk s0/\aV b H G',λσ' G' ⟨v2,s2,e1,e2,e3,e4,e5⟩=>⟨k,Fx k,v2,s2,k,e1,e2,e3,rfl,e4,by lia,e5⟩,?_;exists .inl ⟨rfl,_,ai.of hb⟩,b,_,.ref p,rfl,rfl,hb,(by simp),?_;rw[pb];have b1:aV b G (upd G b (.lst xs)):=aV.upd;exists d5,λt ht=>?_;have FA:p≠b:=λz=>by rw[z,hb]at h1;cases h1
   have iu:upd G b (.lst xs) p=some (.tup [.str "not"]):=by rw[aO FA];exact h1
   have b2:ag (upd G b (.lst xs)) (upd (upd G b (.lst xs)) t (.tup [v1])):=ag.upd ht;exists p,t,_,_,rfl,rfl,aG.of (b2 _ _ iu),aG.of au,by simp,dw,(λz=>by cases z),λ_ p' gU=>?_;have b3:ag (upd (upd G b (.lst xs)) t (.tup [v1])) (upd (upd (upd G b (.lst xs)) t (.tup [v1])) p' (.tup ([.str "not"]++[v1]))):=ag.upd gU;have vS:aV b G (upd (upd (upd G b (.lst xs)) t (.tup [v1])) p' (.tup ([.str "not"]++[v1]))):=b1.trans (aV.of (b2.trans b3));have kt:=vS.tups hb;nomatch .ref p',.no s1,rfl,mm au (cX.mpr rfl) (jK kt G8),⟨xs,(b2.trans b3) _ _ au,oE kt hp⟩,e,sB.trans vS
def VX(K:Frag)(NS:Addr):Sp:=λvs H Q E=>∃(t:List Nat) (b:Addr) (af:List Itm),vs=[.str (S t),.ref b]/\eh H b af/\af.length<=9000/\((∃st:iU,qm (none,af) t st/\∀(v':V) (H':Hp),CT H' v' st.1->eh H' b st.2->aV b H H'->Q v' H')\/(jk (none,af) t/\E (.ref NS) none H))
def Ou:Txt.strip (S [110,111,116,32])=ofString "not" := by decide+kernel
def QM:Txt.strip (S [40])=ofString "(" := by decide+kernel
def Q4(T:Txt w K mg):A6.OkE P w K mg base 2 (VX K df):=by
  refine Rw.okE T.d_Z53.F T.d_Z53.S ?_;rintro vs H Q E ⟨t,b,af,rfl,hB,hl,hq⟩;refine⟨rfl,fun _ _ _ _ hr hu nd=>⟨_,(ar (PS.nox (bt (PW.pt (gv (bb aY (pV 0) ak) (jg (bb aY (pV 0) ak)))) (ar (fZ (ck dI jG jl jS (pV 1) (ae (eK (ae (iY eV Kj O0 ID (pV 0)) ah)) ah))) (ao (az gX))) aM)) (ar (PS.nox (bt (PW.pt (gv (bb aY (pV 0) ak) (jg (bb aY (pV 0) ak)))) (ao (az (aB T.d_Z80 (As T) hr (ae (eK (ae ak (ae (gY Ce rfl T.n_int vX (ae (pV 0) ah)) ah))) (ae (pV 1) ah))))) aM)) (ar (PS.nox (aH 2 nd (ck eV Bp Cm Bo (dX (v:=.str "abcdefghijklmnop") (by rfl) T.g_LETTERS ⟨_,rfl⟩) (ae (pV 0) ah))))
   (ar (bB (bD jq.j (pV 2) aj) (ao (fG bK rfl (by rfl) T.g_NoStatement T.x_NoStatement)) aM)
   (ao (PS.nox (az (aB T.d_Z80 (As T) hr (ae (eK (ae ak (ae (pV 2) ah))) (ae (pV 1) ah)))))))))),?_⟩⟩
  have nb:∀{a c:List Nat},a≠c->¬decide (V.str (S a)=V.str (S c))=true:=λh z=>h (by have:=br z;injection this with this;exact d0 this)
  rcases hq with ⟨st,FR,q⟩|⟨CK,e⟩
  rotate_left
  ·obtain⟨n1,n2,n3,n4,hf⟩:t≠[110,111,116,32]/\t≠[40]/\t≠[48]/\t≠[49]/\Txt.find (S kZ) (S t)<0:=by
    cases CK with
    |jn af w hw =>
     have hf:=zce w hw;rcases (show w=0\/w=1\/w=2 by lia)with rfl|rfl|rfl
     ·exact⟨by decide,by decide,by decide,by decide,by rw[hf];decide⟩
     ·exact⟨by decide,by decide,by decide,by decide,by rw[hf];decide⟩
     ·exact⟨by decide,by decide,by decide,by decide,by rw[hf];decide⟩
    |frm af c hc h =>
     exists λz=>by simp at z,λz=>h.1 (by simpa using z),λz=>h.2.1 (by simpa using z),λz=>h.2.2.1 (by simpa using z),?_;rw[Df c hc];unfold kW;rw[aq h.2.2.2];decide
   exists _,rfl,aF (by rw[rX];exact nb n1) ?_;exists _,rfl,aF (by rw[xh];exact nb n2) ?_;exists _,rfl,aF (by rw[fz];exact nb n3) ?_;exists _,rfl,aF (by rw[pY];exact nb n4) ?_;exists rfl,_,_,rfl,rfl,?_;rw[nQ];refine vY (aC hf) ?_;exact e
  cases FR with
  |of cW =>
  cases cW with
  |no af =>
   obtain⟨xs,h1,h2⟩:=hB;exists _,rfl,aU (by rw[rX];exact aC rfl) ?_;refine bP ?_;exists .inl ⟨rfl,_,ai.of h1⟩,rfl,_,rfl,rfl,(by rw[aN];show 4<=sizeLine;decide),?_;rw[Ou];exists d5,λt' ht=>?_;have c1:ag H (upd H t' (.tup [.str "not"])):=ag.upd ht;exists _,c1 _ _ h1,(by rw[dP h2];exact cP (by lia)),?_;have c2:aV b H (upd (upd H t' (.tup [.str "not"])) b (.lst (xs++[.ref t']))):=(aV.of c1).trans aV.upd;have kt:=c2.tups h1;have vt:t'≠b:=λz=>by rw[z,h1]at ht;cases ht
   exact q .non _ rfl ⟨xs++[.ref t'],au,rM (oE kt h2) (show Is _ _ (.tup [.str "not"]) from wb (by rw[aO vt];exact au) (cX.mpr rfl))⟩ c2
  |op af =>
   obtain⟨xs,h1,h2⟩:=hB;exists _,rfl,aF (by rw[rX];exact nb (by decide)) ?_;exists _,rfl,?_;have Te:decide (V.str (S [40])=V.str (ofString "("))=true:=by rw[xh];exact aC rfl
   rw[Te];refine bP ?_;exists .inl ⟨rfl,_,ai.of h1⟩,rfl,_,rfl,rfl,(by rw[aN];show 1<=sizeLine;decide),?_;rw[QM];exists d5,λt' ht=>?_;have c1:ag H (upd H t' (.tup [.str "("])):=ag.upd ht;exists _,c1 _ _ h1,(by rw[dP h2];exact cP (by omega)),?_;have c2:aV b H (upd (upd H t' (.tup [.str "("])) b (.lst (xs++[.ref t']))):=(aV.of c1).trans aV.upd;have kt:=c2.tups h1;have vt:t'≠b:=λz=>by rw[z,h1]at ht;cases ht
   exact q .non _ rfl ⟨xs++[.ref t'],au,rM (oE kt h2) (show Is _ _ (.tup [.str "("]) from wb (by rw[aO vt];exact au) (cX.mpr rfl))⟩ c2
  |bit af k j hn hj =>
   exists _,rfl,aF (by rw[rX];exact nb (λz=>by simp at z)) ?_;exists _,rfl,aF (by rw[xh];exact nb (λz=>by simp at z;lia)) ?_;exists _,rfl,aF (by rw[fz];exact nb (λz=>by simp at z;lia)) ?_;exists _,rfl,aF (by rw[pY];exact nb (λz=>by simp at z;lia)) ?_;exists rfl,_,_,rfl,rfl,?_;rw[nQ,zcu j hj];refine vN (by intro w;have:=br w;lia) ?_;exists dw,λt' ht=>?_;have c1:ag H (upd H t' (.tup [.str "bit",.int (j:Int)])):=ag.upd ht;nomatch .ref t',.bit j,b,af,k,rfl,mm au (cX.mpr rfl) (qv.mpr rfl),hB.keep c1,hn,by simp at hl;lia,λv' H' i' s' b'=>q v' H' i' s' ((aV.of c1).trans b')
  |fix af k c hn hc =>
   exists _,rfl,aF (by rw[rX];exact nb (λz=>by simp at z)) ?_;exists _,rfl,aF (by rw[xh];exact nb (λz=>by simp at z;lia)) ?_;rcases hc with rfl|rfl
   ·exists _,rfl,aU (by rw[fz];exact aC rfl) ?_;refine bP ?_;exists _,_,rfl,DV 0 (by decide),(by show 1<=640;decide),dw,λt' ht=>?_;have c1:ag H (upd H t' (.tup [.str "fix",.int ((0:Nat):Int)])):=ag.upd ht;nomatch .ref t',.fix 0,b,af,k,rfl,mm au (cX.mpr rfl) (qv.mpr rfl),hB.keep c1,hn,by simp at hl;lia,λv' H' i' s' b'=>q v' H' i' s' ((aV.of c1).trans b')
   ·exists _,rfl,aF (by rw[fz];exact nb (by decide)) ?_;exists _,rfl,?_;have e1:decide (V.str (S [48+(1:Int).toNat])=V.str (ofString "1"))=true:=by rw[pY];exact aC rfl
    rw[e1];refine bP ?_;exists _,_,rfl,DV 1 (by decide),(by show 1<=640;decide),dw,λt' ht=>?_;have c1:ag H (upd H t' (.tup [.str "fix",.int ((1:Nat):Int)])):=ag.upd ht;nomatch .ref t',.fix 1,b,af,k,rfl,mm au (cX.mpr rfl) (qv.mpr rfl),hB.keep c1,hn,by simp at hl;omega,λv' H' i' s' b'=>q v' H' i' s' ((aV.of c1).trans b')
def Kk{w:Nat}(h:w<3):Txt.strip (S ([32]++lG w++[32]))=wd w:=by
 rcases (show w=0\/w=1\/w=2 by lia)with rfl|rfl|rfl<;>decide+kernel
def zC:Txt.strip (S [41])=ofString ")" := by decide+kernel
def Zx (K:Frag) (NS:Addr):Sp:=fun vs H Q E=>∃ (t:List Nat) (v:V) (s:Sm) (b:Addr) (af:List Itm),vs=[.str (S t),v,.ref b]/\Is H v s.d/\eh H b af/\af.length<=9000/\((∃ st:iU,qm (some s,af) t st /\ ∀(v':V) (H':Hp),CT H' v' st.1->eh H' b st.2->aV b H H'->Q v' H')\/(jk (some s,af) t/\∀H',aV b H H'->E (.ref NS) none H'))
def zaX(T:Txt w K mg):Fs.OkE P w K mg base 2 (Zx K df):=by
  refine Rw.okE T.d_Z52.F T.d_Z52.S ?_;rintro vs H Q E ⟨t,v,s0,b,af,rfl,hI,hB,hl,hq⟩;refine⟨rfl,fun _ _ _ _ hr hu nd=>⟨_,(ar (PS.nox (aH 3 nd (iY eV Kj O0 ID (pV 0)))) (ar (bt (jZ pF (pV 3) (dX (v:=.ref dW) (by rfl) T.g_JOINING rfl) rfl) (ar (ur (bt (PW.pt (iD (oG (pV 2) (λ_=>rfl)) (iM (jZ pF (xT (xL (pV 2) (kX kR aj)) aj) (dX (v:=.ref dW) (by rfl) T.g_JOINING rfl) rfl)))) (ao (fG bK rfl (by rfl) T.g_NoStatement T.x_NoStatement)) aM))
   (ar (PS.nox (fZ (ck dI jG jl jS (pV 2) (ae (eK (ae (pV 3) (ae (pV 1) ah))) ah)))) (ao (PS.nox (az gX))))) aM)
   (ar (bB (bD fP (pV 0) ak) (ao (fG bK rfl (by rfl) T.g_NoStatement T.x_NoStatement)) aM)
   (ar (PS.nox (aH 1 nd (aB T.d_Z79 (Km T) hr (ae (pV 1) (ae (pV 2) ah))))) (ar (bt (iO (oG (pV 2) (λ_=>rfl))) (ao (fG bK rfl (by rfl) T.g_NoStatement T.x_NoStatement)) aM)
   (ar (PS.nox (fZ (iY dI p8 pQ qg (pV 2)))) (ao (PS.nox (az (aB T.d_Z80 (As T) hr (ae (pV 1) (ae (pV 2) ah)))))))))))),?_⟩⟩
  have nb:∀{a c:List Nat},a≠c->¬decide (V.str (S a)=V.str (S c))=true:=λh z=>h (by have:=br z;injection this with this;exact d0 this)
  rcases hq with ⟨st,FR,q⟩|⟨CK,e⟩
  rotate_left
  ·cases CK with
   |jj af w w' s a hw =>
    have d8:=Lg w;exists rfl,_,rfl,rfl,(by rw[aN];exact gf (by unfold jW;simp;lia)),?_;rw[show Txt.strip (S (jW w))=wd w from Kk hw];exists dW,_,rfl,.inr (T.q_JOINING _),rfl,rfl,_,rfl,aU (zK w) ?_;exists λ_ _=>False,?_,λ_ _ z=>z.elim;obtain⟨Vi,y,hb,hp,hy⟩:=hB.last;exists true,.inl ⟨_,ai.of hb,by simp⟩,?_;refine bP ?_;obtain⟨p,x,rfl,h1,h2⟩:=zF hy;exists _,rfl,_,ai.of hb,lS _ _,_,aG.of h1,rfl,dW,_,rfl,.inr (T.q_JOINING _),rfl,rfl,_,rfl,aU (zK w') ?_;exact e H (aV.refl _ _)
   |not af s =>
    exists rfl,_,rfl,rfl,(by rw[aN];show 4<=sizeLine;decide),?_;rw[show Txt.strip (S dO)=ofString "not" from Ou];exists dW,_,rfl,.inr (T.q_JOINING _),rfl,rfl,_,rfl,aF (by decide) ?_;refine vY (by rw[sX,aL (λz=>by injection z with z;exact absurd (d0 z) (by decide))];rfl) ?_;exact e H (aV.refl _ _)
   |sgn af s c hc W3 =>
    exists rfl,_,rfl,rfl,(by rw[aN];show 1<=sizeLine;decide),?_;exists dW,_,rfl,.inr (T.q_JOINING _),rfl,rfl,_,rfl,aF (by rw[zcJ c hc];decide) ?_;refine vY (by rw[sX,aL (λz=>by injection z with z;exact W3 (by simpa using d0 z))];rfl) ?_;exact e H (aV.refl _ _)
   |cl s =>
    exists rfl,_,rfl,rfl,(by rw[aN];show 1<=sizeLine;decide),?_;rw[zC];exists dW,_,rfl,.inr (T.q_JOINING _),rfl,rfl,_,rfl,aF (by decide) ?_;refine vN (by rw[sX,aC rfl];decide) ?_;exists v,s0,b,_,rfl,hI,hB,by simp,λv1 H1 i1 bu b1=>?_;have cU:eh H1 b []:=bu;exists false,.inl ⟨_,ai.of cU.nil,rfl⟩,?_;refine bP ?_;exact e H1 b1
   |cl1 s a w =>
    exists rfl,_,rfl,rfl,(by rw[aN];show 1<=sizeLine;decide),?_;rw[zC];exists dW,_,rfl,.inr (T.q_JOINING _),rfl,rfl,_,rfl,aF (by decide) ?_;refine vN (by rw[sX,aC rfl];decide) ?_;exists v,s0,b,_,rfl,hI,hB,by simp,λv1 H1 i1 bu b1=>?_;have cU:eh H1 b []:=bu;exists false,.inl ⟨_,ai.of cU.nil,rfl⟩,?_;refine bP ?_;exact e H1 b1
  cases FR with
  |cl0 af k t1 hn =>
   have ej:q0 s0 (af++List.replicate k .nt++[.op])=(s0,af++List.replicate k .nt++[.op]):=uG _ _ _;exists rfl,_,rfl,rfl,(by rw[aN];show 1<=sizeLine;decide),?_;rw[zC];exists dW,_,rfl,.inr (T.q_JOINING _),rfl,rfl,_,rfl,aF (by decide) ?_;refine vN (by rw[sX,aC rfl];decide) ?_;exists v,s0,b,_,rfl,hI,hB,by simp at hl ⊢;lia,λv1 H1 i1 bu b1=>?_;rw[ej]at i1 bu;obtain⟨xs,y,hb,hp,hy⟩:=bu.last;exists true,.inl ⟨_,ai.of hb,by simp⟩,?_;refine bL ?_;exists .inl ⟨rfl,_,ai.of hb⟩,b,_,y,rfl,rfl,hb,(by simp),?_;rw[pb];have c1:aV b H1 (upd H1 b (.lst xs)):=aV.upd;have kt:=c1.tups hb;nomatch v1,s0,b,af,k,rfl,jK kt i1,⟨xs,au,oE kt hp⟩,hn,by simp at hl;lia,λv' H' i' s' b'=>q v' H' i' s' (b1.trans (c1.trans b'))
  |of cW =>
  cases cW with
  |jn af s1 w hn hw =>
   obtain⟨xs,h1,h2⟩:=id hB;have d8:=Lg w;exists rfl,_,rfl,rfl,(by rw[aN];exact gf (by simp;lia)),?_;rw[Kk hw];exists dW,_,rfl,.inr (T.q_JOINING _),rfl,rfl,_,rfl,aU (zK w) ?_;exists λσ' G'=>σ'=[some (.str (S ([32]++lG w++[32]))),some v,some (.ref b),some (.str (wd w))]/\G'=H,?_,?_
   ·rcases E9 af with rfl|⟨r,it,rfl⟩
    ·exists false,.inl ⟨_,ai.of hB.nil,rfl⟩,?_;refine bL ?_;refine bL ?_;nomatch rfl,rfl
    ·obtain⟨Vi,y,hb,hp,hy⟩:=hB.last;have cY:=hn it (xn r it);exists true,.inl ⟨_,ai.of hb,by simp⟩,?_;refine bP ?_;cases it with
     |jn w' s'=>exact absurd trivial cY
     |nt =>
      obtain⟨p,rfl,h3⟩:=zP hy;exists _,rfl,_,ai.of hb,lS _ _,_,aG.of h3,rfl,dW,_,rfl,.inr (T.q_JOINING _),rfl,rfl,_,rfl,aF (by decide) ?_;nomatch rfl,rfl
     |op =>
      obtain⟨p,rfl,h3⟩:=yR hy;exists _,rfl,_,ai.of hb,lS _ _,_,aG.of h3,rfl,dW,_,rfl,.inr (T.q_JOINING _),rfl,rfl,_,rfl,aF (by decide) ?_;nomatch rfl,rfl
   ·rintro σ' G' ⟨rfl,rfl⟩;exists .inl ⟨rfl,_,ai.of h1⟩,dw,λt' ht=>?_;have c1:ag G' (upd G' t' (.tup [.str (wd w),v])):=ag.upd ht;exists _,c1 _ _ h1,(by rw[dP h2];exact cP (by lia)),?_;have c2:aV b G' (upd (upd G' t' (.tup [.str (wd w),v])) b (.lst (xs++[.ref t']))):=(aV.of c1).trans aV.upd;have kt:=c2.tups h1;have vt:t'≠b:=λz=>by rw[z,h1]at ht;cases ht
    exact q .non _ rfl ⟨xs++[.ref t'],au,rM (oE kt h2) (show Is _ _ (.tup [.str (wd w),s0.d]) from mm (by rw[aO vt];exact au) (cX.mpr rfl) (jK kt hI))⟩ c2
  |cl af k w s1 t1 hn hw =>
   have ej:q0 s0 (af++List.replicate k .nt++[.op,.jn w s1])=(.two w s1 s0,af++List.replicate k .nt++[.op]):=by
    have:af++List.replicate k Itm.nt++[.op,.jn w s1]=(af++List.replicate k Itm.nt++[.op])++[.jn w s1]:=by simp
    rw[this,uG]
   exists rfl,_,rfl,rfl,(by rw[aN];show 1<=sizeLine;decide),?_;rw[zC];exists dW,_,rfl,.inr (T.q_JOINING _),rfl,rfl,_,rfl,aF (by decide) ?_;refine vN (by rw[sX,aC rfl];decide) ?_;exists v,s0,b,_,rfl,hI,hB,by simp at hl ⊢;lia,λv1 H1 i1 bu b1=>?_;rw[ej]at i1 bu;obtain⟨xs,y,hb,hp,hy⟩:=bu.last;exists true,.inl ⟨_,ai.of hb,by simp⟩,?_;refine bL ?_;exists .inl ⟨rfl,_,ai.of hb⟩,b,_,y,rfl,rfl,hb,(by simp),?_;rw[pb];have c1:aV b H1 (upd H1 b (.lst xs)):=aV.upd;have kt:=c1.tups hb;nomatch v1,.two w s1 s0,b,af,k,rfl,jK kt i1,⟨xs,au,oE kt hp⟩,hn,by simp at hl;lia,λv' H' i' s' b'=>q v' H' i' s' (b1.trans (c1.trans b'))
def zcq(K:Frag)(NS:Addr):Sp:=λvs H Q E=>∃(ts:List (List Nat)) (x:Option Sm),vs=[.str (S ts.flatten)]/\eP ts []/\ts.flatten.length<=9000/\eO (none,[]) ts x/\(∀(s:Sm) (v':V) (H':Hp),x=some s->Is H' v' s.d->ag H H'->Q v' H')/\(x=none->∀H',ag H H'->E (.ref NS) none H')
def VS(T:Txt w K mg):AR.OkE P w K mg base 3 (zcq K df):=by
  refine Rw.okE T.d_Z57.F T.d_Z57.S ?_;rintro vs H Q E ⟨ts,x,rfl,mS,hl,Bw,q,e⟩;refine⟨rfl,fun _ _ _ _ hr hu nd=>⟨_,(ar (PS.nox (aH 1 nd (bc ah))) (ar (PS.nox (aH 2 nd gX)) (ar (eN Po rfl (dM (aB T.d_Z71 (zbg T) hr (ae (pV 0) ah))) (bf 3 nd) (ao (bB (bD pT (pV 2) gX) (ao (aH 2 nd (fh (Q4 T) hr (by rfl) T.d_Z53.m T.d_Z53.F.kp T.d_Z53.b .nil (dv bK) (ae (pV 3) (ae (pV 1) ah))))) (ao (aH 2 nd (fh (zaX T) hr (by rfl) T.d_Z52.m T.d_Z52.F.kp T.d_Z52.b .nil (dv bK) (ae (pV 3) (ae (pV 2) (ae (pV 1) ah)))))))))
   (ar (bB (bD pT (pV 2) gX) (ao (fG bK rfl (by rfl) T.g_NoStatement T.x_NoStatement)) aM)
   (ar (PS.nox (aH 2 nd (aB T.d_Z79 (Km T) hr.m (ae (pV 2) (ae (pV 1) ah))))) (ar (bt (oG (pV 1) (λ_=>rfl)) (ao (fG bK rfl (by rfl) T.g_NoStatement T.x_NoStatement)) aM)
   (ao (PS.nox (az (pV 2)))))))))),?_⟩⟩
  have htn:ts.length<=9000:=by have:=Fc mS;lia
  exists cb _,λb hb=>?_;have s1:ag H (upd H b (.lst [])):=ag.upd hb;exists ts,rfl,mS,by lia,λc H1 hc zw s2=>?_;have gk:H1 b=some (.lst []):=s2 _ _ au;have RW:c≠b:=λz=>by rw[z,au]at hc;cases hc
  exists ⟨_,ai.of zw⟩,?_;refine mB (K:=K) (a:=c) (xs:=ts.map λt=>V.str (S t)) (λi σ G=>∃(v:V) (v3:Option V) (st:iU),σ=[some (.str (S ts.flatten)),some (.ref b),some v,v3]/\eO st (ts.drop i) x/\CT G v st.1/\eh G b st.2/\st.2.length<=i/\aV b H1 G)
   ⟨.non,none,(none,[]),rfl,by rw[mZ];exact Bw,rfl,⟨[],gk,.nil⟩,aJ _,aV.refl _ _⟩ (λi σ G _ ⟨_,_,_,_,_,_,_,_,e⟩=>ai.of (e _ _ RW zw)) ?_ ?_
  ·rintro i y σ G hi ⟨v,v3,⟨po,af⟩,rfl,g0,g1,g2,g3,g4⟩;rw[bY]at hi;obtain⟨t,ht,rfl⟩:∃t,ts[i]?=some t/\V.str (S t)=y:=by
    cases e:ts[i]? with
    |none=>rw[e]at hi;cases hi
    |some t=>rw[e]at hi;nomatch t,rfl,cD hi
   have eA:i<ts.length:=(d6.mp ht).1;have ed:ts.drop i=t::ts.drop (i+1):=by
    rw[sP eA];congr 1;exact (d6.mp ht).2
   rw[ed]at g0;have C7:af.length<=i:=g3;have hJ:(∃bU,qm (po,af) t bU/\eO bU (ts.drop (i+1)) x)\/(jk (po,af) t/\x=none):=by
    cases g0 with
    |bad h=>exact .inr ⟨h,rfl⟩
    |step h h'=>exact .inl ⟨_,h,h'⟩
   have hE:jk (po,af) t/\x=none->∀G',aV b G G'->E (.ref df) none G':=λz G' h=>e z.2 G' (aV.same (s1.trans s2) (g4.trans h) hb)
   unfold a9;cases po with
   |none =>
    cases (show v=.non from g1);exists rfl,vy ?_;exists t,b,af,rfl,g2,by lia,?_;rcases hJ with ⟨bU,hs,ho⟩|hz
    ·have mx:=OW hs;exact .inl ⟨bU,hs,λv' G' p' s' b'=>⟨v',_,bU,rfl,ho,p',s',bp mx (Qj C7),g4.trans b'⟩⟩
    ·exact .inr ⟨hz.1,hE hz G (aV.refl _ _)⟩
   |some zk =>
    have hI:Is G v zk.d:=g1;exists rfl,vN (λz=>GY hI (br z)) ?_;exists t,v,zk,b,af,rfl,hI,g2,by lia,?_;rcases hJ with ⟨bU,hs,ho⟩|hz
    ·have mx:=OW hs;exact .inl ⟨bU,hs,λv' G' p' s' b'=>⟨v',_,bU,rfl,ho,p',s',bp mx (Qj C7),g4.trans b'⟩⟩
    ·exact .inr ⟨hz.1,hE hz⟩
  ·rintro σ G ⟨v,v3,⟨po,af⟩,rfl,g0,g1,g2,g3,g4⟩;rw[ay,uR]at g0;rw[ay]at g3;have C7:af.length<=ts.length:=g3;cases po with
   |none =>
    cases (show v=.non from g1);exists rfl,vy ?_;exact e (by cases g0;rfl) G (aV.same (s1.trans s2) g4 hb)
   |some ee =>
    have hI:Is G v ee.d:=g1;exists rfl,vN (λz=>GY hI (br z)) ?_;exists v,ee,b,af,rfl,hI,g2,by lia,λv1 H2 i1 bu b1=>?_;have sH:=aV.same (s1.trans s2) (g4.trans b1) hb;cases g0 with
    |one s =>
     have cU:eh H2 b []:=bu;exists false,.inl ⟨_,ai.of cU.nil,rfl⟩,?_;refine bL ?_;exact q _ v1 H2 rfl i1 sH
    |two s a w =>
     have cU:eh H2 b []:=bu;exists false,.inl ⟨_,ai.of cU.nil,rfl⟩,?_;refine bL ?_;exact q _ v1 H2 rfl i1 sH
    |op af s =>
     rw[uG]at bu;obtain⟨xs,y,e8,hp,hy⟩:=bu.last;exists true,.inl ⟨_,ai.of e8,by simp⟩,?_;refine bP ?_;exact e rfl H2 sH
    |opj af s a w =>
     rw[uG]at bu;obtain⟨xs,y,e8,hp,hy⟩:=bu.last;exists true,.inl ⟨_,ai.of e8,by simp⟩,?_;refine bP ?_;exact e rfl H2 sH
def YS:Sp:=λvs H Q _=>∃(v:V) (s:Sm),vs=[v]/\Is H v s.d/\s.dp<=20/\∀(D:Addr) (xs:List V) (H':Hp),H D=none->H' D=some (.lst xs)->dC H xs s.pre->ag H H'->Q (.ref D) H'
def Ph(T:Txt w K mg):Dp.Ok P w K mg base 1 YS:=by
  refine Rw.ok T.d_Z54.F T.d_Z54.S ?_;rintro vs H Q E ⟨v,s',rfl,hI,yj,q⟩;refine⟨rfl,fun _ _ _ _ hr hu nd=>⟨_,(ar (aH 1 nd (bc ah)) (ar (aH 2 nd (bc (ae (pV 0) ah))) (ar (yG dQ (oG (pV 2) (λ_=>rfl)) (ar (aH 3 nd (iY dI p8 pQ qg (pV 2))) (ar (fZ (ck dI jG jl jS (pV 1) (ae (pV 3) ah))) (ao (bt (PW.pt (gv (bb aY (xT (pV 3) aj) ak) (jg (jZ pF (xT (pV 3) aj) (dX (v:=.ref dW) (by rfl) T.g_JOINING rfl) rfl)))) (ao (fZ (ck dI PySem.F.slot_list_extend PySem.F.type_list_extend zax (pV 2) (ae (dj zbe (pV 3) (cJ aj) di) ah)))) aM)))))
   (ao (az (pV 1)))))),?_⟩⟩
  exists cb _,λD hD=>?_;exists d5,λW hW=>?_;have s0:ag H (upd H D (.lst [])):=ag.upd hD;have s1:ag (upd H D (.lst [])) (upd (upd H D (.lst [])) W (.lst [v])):=ag.upd hW;have xf:D≠W:=λz=>by rw[<-z,au]at hW;cases hW
  have DY:H W=none:=s0.free hW;exists λm σ G=>∃(ps ws:List V) (dn td:List Sm) (v3:Option V),σ=[some v,some (.ref D),some (.ref W),v3]/\G D=some (.lst ps)/\G W=some (.lst ws)/\dC H ps dn/\dC H ws td/\dn++(td.reverse.flatMap Sm.pre)=s'.pre/\(td.map Sm.sz).sum=m/\ag H G,⟨s'.sz,[],[v],[],[s'],none,rfl,s1 _ _ au,au,.nil,.cons hI .nil,by simp,by simp,s0.trans s1⟩,?_;rintro m σ G ⟨ps,ws,dn,td,v3,rfl,g1,g2,g3,g4,g5,g6,sG⟩;exists _,.inl ⟨ws,ai.of g2,rfl⟩,?_;have dE:ps.length=dn.length:=dP g3;have uK:dn.length+(td.reverse.flatMap Sm.pre).length=s'.sz:=by rw[<-Sm.pre_len,<-g5,aS]
  have vG:=NB yj;by_cases cY:ws=[]
  ·refine aF (by rw[cY];simp) ?_;have e:td=[]:=by subst cY;cases g4;rfl
   subst e;exact q D ps G hD g1 (by rw[<-g5];simpa using g3) sG
  ·refine aU (by simpa using cY) ?_;obtain⟨ys,y,jz,p,rfl,rfl,h1,h2⟩:=dC.last g4 cY;have hyl:ys.length=jz.length:=dP h1;have htl:jz.length+p.sz<=((jz++[p]).reverse.flatMap Sm.pre).length:=by
    rw[nK,List.reverse_singleton,List.singleton_append,jd,aS,Sm.pre_len]
    have:∀l:List Sm,l.length<=(l.flatMap Sm.pre).length:=λl=>by
     induction l with
     |nil=>exact aJ _
     |cons a l ih =>
      rw[jd,aS,Sm.pre_len,aW]
      have:=a.sz_pos
      lia
    have:=this jz.reverse
    rw[EE]at this;lia
   have hpz:=p.sz_pos;exists _,λσ' G' z=>z,?_;exists .inl ⟨rfl,_,ai.of g2⟩,W,ys++[y],y,rfl,rfl,g2,(by simp),?_;have m8:=sG.write (o:=.lst (ys++[y]).dropLast) DY;have w1:upd G W (.lst (ys++[y]).dropLast) W=some (.lst ys):=by rw[au,pb]
   have w2:upd G W (.lst (ys++[y]).dropLast) D=some (.lst ps):=by rw[aO xf];exact g1
   generalize upd G W (.lst (ys++[y]).dropLast)=G1 at m8 w1 w2 ⊢;exists .inl ⟨rfl,_,ai.of w2⟩,_,w2,px (by lia),?_;have gQ:=m8.write (o:=.lst (ps++[y])) hD;have w3:upd G1 D (.lst (ps++[y])) D=some (.lst (ps++[y])):=au;have w4:upd G1 D (.lst (ps++[y])) W=some (.lst ys):=by rw[aO (Ne.symm xf)];exact w1
   generalize upd G1 D (.lst (ps++[y]))=G2 at gQ w3 w4 ⊢;have xy:=dC.snoc g3 h2;cases p with
   |bit k =>
    obtain⟨p,rfl,hp⟩:=tN (h2.keep gQ);exists _,aG.of hp,rfl,_,rfl,aF (by decide) ?_;exists _,aG.of hp,rfl,dW,_,rfl,.inr (T.q_JOINING _),rfl,rfl,_,rfl,aF (by decide) ?_;exists (jz.map Sm.sz).sum,?_,ps++[.ref p],ys,dn++[.bit k],jz,_,rfl,w3,w4,xy,h1,?_,rfl,gQ
    ·rw[<-g6,aQ,gZ];simp[Sm.sz]
    ·rw[<-g5,nK];simp[Sm.pre]
   |fix c =>
    obtain⟨p,rfl,hp⟩:=vv (h2.keep gQ);exists _,aG.of hp,rfl,_,rfl,aF (by decide) ?_;exists _,aG.of hp,rfl,dW,_,rfl,.inr (T.q_JOINING _),rfl,rfl,_,rfl,aF (by decide) ?_;exists (jz.map Sm.sz).sum,?_,ps++[.ref p],ys,dn++[.fix c],jz,_,rfl,w3,w4,xy,h1,?_,rfl,gQ
    ·rw[<-g6,aQ,gZ];simp[Sm.sz]
    ·rw[<-g5,nK];simp[Sm.pre]
   |no s1 =>
    obtain⟨p,x,rfl,hp,hx⟩:=sV (h2.keep gQ);have FL:Is H x s1.d:=by
     obtain⟨p',x',e',gU,cw⟩:=sV h2;cases e'
     have:=gQ _ _ gU
     rw[hp]at this;cases this;exact cw
    exists _,aG.of hp,rfl,_,rfl,aU (by decide) (bP ?_);exists .inl ⟨rfl,_,ai.of w4⟩,p,_,rfl,aG.of hp,(by show ¬(1=0/\_);exact λz=>absurd z.1 (by decide)),λt ht=>?_;have st:ag G2 (upd G2 t (.tup [x])):=ag.upd ht;have wt:upd G2 t (.tup [x]) t=some (.tup [x]):=au;exists W,t,ys,[x],rfl,rfl,st _ _ w4,aG.of wt,(by show ys.length+1<=sizeLine;exact px (by lia)),?_;exists ((jz++[s1]).map Sm.sz).sum,?_,ps++[.ref p],ys++[x],dn++[.no s1],jz++[s1],_,rfl,(by rw[aO xf];exact st _ _ w3),au,xy,dC.snoc h1 FL,?_,rfl,(gQ.trans st).write DY
    ·rw[<-g6,aQ,aQ,gZ,gZ];simp[Sm.sz]
    ·rw[<-g5,nK,nK];simp[Sm.pre]
   |two j s1 s2 =>
    obtain⟨p,x,z,rfl,hp,hx,hz⟩:=sM (h2.keep gQ);obtain⟨FL,hzH⟩:Is H x s1.d/\Is H z s2.d:=by
     obtain⟨p',x',z',e',gU,cw,DP⟩:=sM h2;cases e'
     have:=gQ _ _ gU
     rw[hp]at this;cases this;nomatch cw,DP
    obtain⟨n1,n2,n3⟩:=u9 (w:=j);have hsz:(Sm.two j s1 s2).sz=s1.sz+s2.sz+1:=rfl;have jx:=s1.sz_pos;have pK:=s2.sz_pos;exists _,aG.of hp,rfl,_,rfl,aF (by simpa using n3) ?_;exists _,aG.of hp,rfl,dW,_,rfl,.inr (T.q_JOINING _),rfl,rfl,_,rfl,aU (Wj j) ?_;exists .inl ⟨rfl,_,ai.of w4⟩,p,_,rfl,aG.of hp,(by show ¬(1=0/\_);exact λz=>absurd z.1 (by decide)),λt ht=>?_;have st:ag G2 (upd G2 t (.tup [x,z])):=ag.upd ht;have wt:upd G2 t (.tup [x,z]) t=some (.tup [x,z]):=au;exists W,t,ys,[x,z],rfl,rfl,st _ _ w4,aG.of wt,(by show ys.length+2<=sizeLine;exact px (by lia)),?_;exists ((jz++[s1,s2]).map Sm.sz).sum,?_,ps++[.ref p],ys++[x,z],dn++[.two j s1 s2],jz++[s1,s2],_,rfl,(by rw[aO xf];exact st _ _ w3),au,xy,?_,?_,rfl,(gQ.trans st).write DY
    ·rw[<-g6,aQ,aQ,gZ,gZ];simp[Sm.sz]
    ·have:=dC.snoc (dC.snoc h1 FL) hzH
     rwa [iT,iT]at this
    ·rw[<-g5,nK,nK];simp[Sm.pre]
def VE(K:Frag):Sp:=λvs H Q _=>∃(a:Addr) (l:av),vs=[.ref a]/\TL K H a l/\(∀t∈l,0<=t.1)/\Q (.int (c5 l 0:Nat)) H
def zB(T:Txt w K mg):Et.Ok P w K mg base 1 (VE K):=by
  refine Rw.ok T.d_Z74.F T.d_Z74.S ?_;rintro vs H Q E ⟨a,l,rfl,⟨ps,hS,hT⟩,h0,q⟩;refine⟨rfl,fun _ _ _ _ hr hu nd=>⟨_,(ar (aH 1 nd aj) (ar (eN dQ rfl (dM (pV 0)) (su (n:=2) rfl (iX (bf 2 nd) (iX (bf 3 nd) sU))) (ao (aH 1 nd (aD D4.j (pV 1) (pV 2))))) (ao (az (pV 1))))),?_⟩⟩
  exists ⟨_,hS⟩,?_;refine mB (K:=K) (a:=a) (xs:=ps.map V.ref) (λi σ H2=>∃(v2 v3:Option V),σ=[some (.ref a),some (.int (c5 (l.take i) 0:Nat)),v2,v3]/\H2=H)
   ⟨none,none,rfl,rfl⟩ (λi σ H2 _ ⟨_,_,_,e⟩=>by rw[e];exact hS) ?_ ?_
  ·rintro i y σ H2 hi ⟨v2,v3,rfl,rfl⟩;obtain⟨p,gr,rfl⟩:=jH hi;obtain⟨t,bQ,dk⟩:=hT.at' gr;have fT:=cM bQ;have bz:l.take (i+1)=l.take i++[t]:=by rw[dR,bQ];rfl
   have e:((t.1.toNat:Nat):Int)=t.1:=mJ (h0 t fT);exists _,aG.of dk,rfl,?_;exists some (.int t.1),some (.int t.2),?_,rfl;rw[bz,K9];show [some (.ref a),some (V.int (Builtin.bitOr ((c5 (l.take i) 0:Nat):Int) t.1)),_,_]=_;rw[<-e,Bk,e]
  ·rintro σ H2 ⟨v2,v3,rfl,rfl⟩;rw[ay,hT.length,dH];exact q
def zaR(K:Frag):Sp:=λvs H Q _=>∃(p r:Addr) (l o:av) (M:Nat),vs=[.ref p,.ref r]/\a7 H p l/\a7 H r o/\(∀t∈l,0<=t.1/\t.1<2^M)/\(∀t∈o,0<=t.1/\t.1<2^M)/\l.length<=32/\o.length<=32/\M<=16/\(∀m:Nat,(∀t∈l,0<=t.1/\t.1<2^m)->(∀t∈o,0<=t.1/\t.1<2^m)->l.length*o.length<=(m+1)*2^m)/\Q .non H
def WC(T:Txt w K mg):BX.Ok P w K mg base 2 (zaR K):=by
  refine Rw.ok T.d_Z50.F T.d_Z50.S ?_;rintro vs H Q E ⟨p,r,l,o,M,rfl,gA,ue,hl,ho,ll,lo,hM,W8,q1⟩;refine⟨rfl,fun _ _ _ _ hr hu nd=>⟨_,(ar (aH 2 nd (iY yH zW yT wH (aD D4.j (aB T.d_Z74 (zB T) hr (ae (pV 0) ah)) (aB T.d_Z74 (zB T) hr (ae (pV 1) ah))))) (ar (bt (bb pS.j (aD gC.c (bj dJ (by rfl) T.n_len bS (ae (pV 0) ah)) (bj dJ (by rfl) T.n_len bS (ae (pV 1) ah))) (aD gC.c (aD fg.j (pV 2) aj) (aB T.d_Z4 (nk T) hr (ae (pV 2) ah)))) (ao (az gX)) aM)
   (ao wX))),?_⟩⟩
  have u1:=LL hl;have u2:=LL ho;exists p,l,rfl,gA.tl,(λt ht=>(hl t ht).1),?_;exists r,o,rfl,ue.tl,(λt ht=>(ho t ht).1),rfl,_,rfl,rfl,?_;have HL:Builtin.bitOr ((c5 l 0:Nat):Int) ((c5 o 0:Nat):Int)=((c5 l 0|||c5 o 0:Nat):Int):=Bk _ _;have Wx:intBits (Builtin.bitOr ((c5 l 0:Nat):Int) ((c5 o 0:Nat):Int))<=M:=by
   rw[HL];exact DT (Nat.or_lt_two_pow u1 u2)
  have kl:=Jf (U:=c5 l 0|||c5 o 0) (λt ht=>(hl t ht).1) λj hj=>by rw[sO,hj];rfl
  have ko:=Jf (U:=c5 l 0|||c5 o 0) (λt ht=>(ho t ht).1) λj hj=>by rw[sO,hj,IU]
  rw[<-HL]at kl ko;generalize intBits (Builtin.bitOr ((c5 l 0:Nat):Int) ((c5 o 0:Nat):Int))=many at Wx kl ko;obtain⟨pa,VM,ZV⟩:=id gA;obtain⟨pc,Xm,hpc2⟩:=id ue;have la:=ZV.length;have lc:=hpc2.length;exists p,_,rfl,.inl (ai.of VM),r,_,rfl,.inl (ai.of Xm),tZ (by rw[ay];lia) (by rw[ay];lia),?_;exists many,rfl,by lia,tZ (by have:=iW many;lia) (by lia),_,rfl,?_;have h:=W8 many kl ko;refine aU (aC ?_) q1;rw[ay,ay,la,lc];exact_mod_cast h
def UZ(K:Frag):Sp:=λvs H Q _=>∃(a b:Addr) (l o:av) (w:Nat),vs=[.str (wd w),.ref a,.ref b]/\a7 H a l/\a7 H b o/\w<3/\l.length+o.length+l.length*o.length<=100000/\eZ (l++o)/\(∀t∈l,∀u∈o,IntMulOk t.2 u.2) /\
 ∀(c:Addr) (f:av) (H':Hp),H c=none->a7 H' c f->bx f (gD w l o)->ag H H'->Q (.ref c) H'
def TN(T:Txt w K mg):C5.Ok P w K mg base 4 (UZ K):=by
  refine Rw.ok T.d_Z25.F T.d_Z25.S ?_;rintro vs H Q E ⟨a,b,l,o,w',rfl,hT,fU,hw,aT,h5,iQ,q⟩;refine⟨rfl,fun _ _ _ _ hr hu nd=>⟨_,(ar (aH 3 nd (aB T.d_Z69 (zi T) hr.m (ae (pV 1) (ae (pV 2) ah)))) (ar (bB (bD aY (pV 0) ak) (ao (az (pV 3))) aM) (ar (aH 4 nd (rG (bb aY (pV 0) ak) (kX kR aj) (kX kR aj))) (ao (az (aB T.d_Z55 (qN T) hr (ae (aB T.d_Z55 (qN T) hr (ae (pV 1) (ae (pV 2) ah))) (ae (aB T.d_Z62 (Lu T) hr (ae (pV 3) (ae (pV 4) ah))) ah)))))))),?_⟩⟩
  obtain⟨zs,z5,zz⟩:=id h5;have zl:K5 zs l:=λt ht=>zz t (i8 _ ht)
  have zo:K5 zs o:=λt ht=>zz t (cx _ ht)
  exists a,b,l,o,rfl,hT.tl,fU.tl,by lia,⟨zs,z5,zl.prod zo⟩,iQ,λc p H1 hc dy gJ lR s1=>?_;have comb:∀(n:Int) (f g h:av),w'≠0->n=(if w'=1 then -1 else -2)->bx g (l++o)->bx h (p.map λt=>(t.1,t.2*n))->bx f (g++h)->bx f (gD w' l o):=λn f g h L5 hn hg hh hf=>by
   have ec:∀k,aK (g++h) k=aK (gD w' l o) k:=λk=>by
    unfold gD;rw[aq L5,eE,eE,hg.val,hh.val,<-hn];have e:∀(x:av),aK (x.map λt=>(t.1,t.2*n)) k=aK x k*n:=λx=>by
     rw[zA,zA,A4]
    rw[e,e,gJ.val]
   exists hf.toIsForm,λk=>by rw[hf.val,ec],λt ht=>?_;have h1:=hf.src t ht;unfold gD;rw[aq L5,aQ,bW];rw[aQ,bW]at h1;rcases h1 with z|z
   ·obtain⟨u,hu,e⟩:=bV.mp z;exact .inl (by rw[<-e];exact hg.src u hu)
   ·obtain⟨u,hu,e⟩:=bV.mp z;have h2:=hh.src u hu;rw[ft]at h2 ⊢;obtain⟨v,hv,e2⟩:=bV.mp h2;have h3:=gJ.src v hv;obtain⟨x,hx,e3⟩:=bV.mp h3;exact .inr (bV.mpr ⟨x,hx,by rw[<-e,<-e2];exact e3⟩)
  obtain rfl|rfl|rfl:w'=0\/w'=1\/w'=2:=by lia
  ·refine vy ?_;exact q c p H1 hc dy (by unfold gD;rw[ax rfl];exact gJ) s1
  ·refine vn ?_;exists _,rfl,aU (by decide) ⟨_,rfl,?_⟩;exists a,b,l,o,rfl,hT.keep s1,fU.keep s1,by lia,h5,λx g H2 hx b9 jX da s2=>?_;exists c,p,(-1),rfl,(dy.keep s2).tl,by lia,⟨zs,z5,(zl.prod zo).of gJ⟩,(λt _=>ku (by decide) (by decide)),λy h H3 hy j4 kI lq s3=>?_;exists x,y,g,h,rfl,b9.keep s3,j4,by lia,⟨zs,z5,(K5.of (zl.app zo) jX).app (K5.of (((zl.prod zo).of gJ).map _) kI)⟩,λz f H4 hz mP pX vg s4=>?_;exact q z f H4 (s1.free (s2.free (s3.free hz))) mP (comb (-1) f g h (by decide) rfl jX kI pX) (s1.trans (s2.trans (s3.trans s4)))
  ·refine vn ?_;exists _,rfl,aF (by decide) ⟨_,rfl,?_⟩;exists a,b,l,o,rfl,hT.keep s1,fU.keep s1,by omega,h5,λx g H2 hx b9 jX da s2=>?_;exists c,p,(-2),rfl,(dy.keep s2).tl,by omega,⟨zs,z5,(zl.prod zo).of gJ⟩,(λt _=>ku (by decide) (by decide)),λy h H3 hy j4 kI lq s3=>?_;exists x,y,g,h,rfl,b9.keep s3,j4,by omega,⟨zs,z5,(K5.of (zl.app zo) jX).app (K5.of (((zl.prod zo).of gJ).map _) kI)⟩,λz f H4 hz mP pX vg s4=>?_;exact q z f H4 (s1.free (s2.free (s3.free hz))) mP (comb (-2) f g h (by decide) rfl jX kI pX) (s1.trans (s2.trans (s3.trans s4)))
def za9(K:Frag):Sp:=λvs H Q _=>∃(b:Addr) (p:Sm) (w:Str) (fs:List av) (ls:List Nat),vs=[.str w,.ref b]/\SA p w fs/\p.ok (λk=>k∈ls)/\p.ln<=5/\ls.length<=5/\(∀x∈ls,x<16)/\FLo H b fs /\
 ∀(c:Addr) (f:av) (H':Hp),H c=none->a7 H' c f->bx f p.tl->ag H H'->Q (.ref c) H'
set_option tactic.hygienic true in
def HC(T:Txt w K mg):A2.Ok P w K mg base 5 (za9 K):=by
  refine Rw.ok T.d_Z13.F T.d_Z13.S ?_;rintro vs H Q E ⟨b,p0,wo,fs,ls,rfl,hP,hok,fO,pE,yl,PN,q⟩;refine⟨rfl,fun _ _ _ _ hr hu nd=>⟨_,(ar (bB (bD aY (pV 0) ak) (ao (az (aB T.d_Z46 (za T) hr (ae (bc (ae (eK (ae aj (ae aj ah))) ah)) (ae (xL (pV 1) aj) ah))))) aM) (ar (aH 2 nd (aB T.d_Z50 (WC T) hr.m (ae (xL (pV 1) aj) (ae (xL (pV 1) aj) ah)))) (ar (bB (bD pT (pV 2) gX) (ao (az (aB T.d_Z25 (TN T) hr (ae (pV 0) (ae (xL (pV 1) aj) (ae (xL (pV 1) aj) ah)))))) aM) (ao wX)))),?_⟩⟩
  have k5:∀{s:Sm}{f:av},s.ok (λk=>k∈ls)->bx f s.tl->K5 ls f/\f.length<2^s.ln/\(s.ln<=5->f.length<32):=fun {s f} h hF=>by
   have h1:=bx.cnt hF;have h2:=sI s;exact⟨(xu h).of hF,by lia,λz=>by have:=dm (show 2>0 by decide) z;lia⟩
  cases p0 with
  |bit _=>exact hP.elim
  |fix _=>exact hP.elim
  |no s0 =>
   obtain⟨rfl,l,rfl,hF⟩:=hP;have zE:s0.ln+1<=5:=fO;obtain⟨ps,hb,hQ⟩:=PN;cases hQ with
   |cons gA r =>
   cases r;rename_i p;obtain⟨kl,_,ll⟩:=k5 (s:=s0) hok hF;have ll:=ll (by lia);refine vy ?_;exists dw,λt1 bQ=>⟨d5,λe1 jF=>?_⟩;have b1:ag H (upd H t1 (.tup [.int 0,.int 1])):=ag.upd bQ;have b2:ag (upd H t1 (.tup [.int 0,.int 1])) (upd (upd H t1 (.tup [.int 0,.int 1])) e1 (.lst [.ref t1])):=ag.upd jF;have B:=b1.trans b2;exists _,ai.of (B _ _ hb),rfl,e1,p,[(0,1)],l,rfl,⟨[t1],au,.cons (b2 _ _ au) .nil⟩,gA.keep B,(by show 1+l.length<=100000;lia),⟨ls,pE,(BN 1).app kl⟩,λc f H2 hc b9 Xx Ui da s2=>?_;exact q c f H2 (B.free hc) b9 (zcm hF Xx Ui) (B.trans s2)
  |two w s0 t0 =>
   obtain⟨rfl,hw,l,o,rfl,xJ,wI⟩:=hP;obtain⟨_,ze,wg⟩:=hok;have zE:s0.ln+t0.ln<=5:=fO;obtain⟨ps,hb,hQ⟩:=PN;cases hQ with
   |cons gA r =>
   cases r with
   |cons ue r =>
   cases r;rename_i p r;obtain⟨kl,lz,ll⟩:=k5 ze xJ;obtain⟨ko,oz,lo⟩:=k5 wg wI;have ll:=ll (by lia);have lo:=lo (by lia);have qA:l.length*o.length<=32*32:=kd (by lia) (by lia);obtain⟨_,_,n3⟩:=u9 (w:=w);refine vN (by simpa using n3) ?_;exists _,ai.of hb,rfl,_,ai.of hb,rfl,p,r,l,o,16,rfl,gA,ue,kl.low yl,ko.low yl,by omega,by omega,by decide,(λm k1 k2=>Ym lz oz zE (Il xJ.toIsForm k1) (Il wI.toIsForm k2)),?_;exists rfl,vy ?_;exists _,ai.of hb,rfl,_,ai.of hb,rfl,p,r,l,o,w,rfl,gA,ue,hw,(by lia),⟨ls,pE,kl.app ko⟩,(λt ht u hu=>OV (Aq ze (by omega) xJ t ht) (Aq wg (by omega) wI u hu)),λd f H2 hd b9 jX s2=>?_;exact q d f H2 hd b9 (YI xJ wI jX) s2
def zch(K:Frag)(d:Nat):Sp:=λvs H Q _=>∃(v:V) (s:Sm) (ls:List Nat),vs=[v]/\Is H v s.d/\s.ok (λk=>k∈ls)/\s.dp<d/\s.dp<=20/\ls.length<=5/\(∀x∈ls,x<16)/\s.ln<=5 /\
 ∀(b:Addr) (f:av) (H':Hp),H b=none->a7 H' b f->bx f s.tl->ag H H'->Q (.ref b) H'
set_option tactic.hygienic true in
def zaz(T:Txt w K mg):CM.Ok P w K mg base 6 (zch K 22):=by
  refine Rw.ok T.d_Z11.F T.d_Z11.S ?_;rintro vs H Q E ⟨v,s',ls,rfl,hI,hok,hd,hsz,pE,AO,fO,q⟩;refine⟨rfl,fun _ _ _ _ hr hu nd=>⟨_,(ar (aH 1 nd (bc ah)) (ar (eN dQ rfl (Sn rfl T.n_reversed (ae (aB T.d_Z54 (Ph T) hr.m (ae (pV 0) ah)) ah)) (bf 2 nd) (ar (aH 3 nd (xT (pV 2) aj)) (ao (bB (bD aY (pV 3) ak) (ao (fZ (ck dI jG jl jS (pV 1) (ae (bc (ae (eK (ae (aB T.d_Z4 (nk T) hr.m (ae (xT (pV 2) aj) ah)) (ae aj ah))) ah)) ah)))) (ao (bB (bD aY (pV 3) ak) (ao (fZ (ck dI jG jl jS (pV 1) (ae (aB T.d_Z49 (FY T) hr.m (ae (bc (ae (eK (ae aj (ae (xT (pV 2) aj) ah))) ah)) ah)) ah)))) (ao (bB (bD aY (pV 3) ak) (ao (fZ (ck dI jG jl jS (pV 1) (ae (aB T.d_Z13 (HC T) hr (ae (pV 3) (ae (bc (ae (iY dI p8 pQ qg (pV 1)) ah)) ah))) ah)))) (ar (aH 4 nd (iY dI p8 pQ qg (pV 1))) (ao (fZ (ck dI jG jl jS (pV 1) (ae (aB T.d_Z13 (HC T) hr (ae (pV 3) (ae (bc (ae (iY dI p8 pQ qg (pV 1)) (ae (pV 4) ah))) ah))) ah))))))))))))) (ao (az (xL (pV 1) aj))))),?_⟩⟩
  exists cb _,λC hC=>?_;have s0:ag H (upd H C (.lst [])):=ag.upd hC;exists v,s',rfl,hI.keep s0,hsz,λD xs H1 hD hX hS s1=>⟨D,xs,rfl,ai.of hX,?_⟩;have K2:dC H xs s'.pre:=Paired.mapP hS λx p e=>jK (λa ys z=>by
   by_cases y:a=C
   ·rw[y,au]at z;cases z
   ·rw[aO y]at z;exact z) e
  have fE:D≠C:=λz=>by rw[z,au]at hD;cases hD
  have hxl:xs.length=s'.sz:=by rw[<-Sm.pre_len];exact dP K2
  have vG:=NB hsz;refine zbA (K:=K) (a:=D) (xs:=xs) (λi σ G=>∃(qs:List Addr) (fl:List av) (st:List Sm) (v2 v3 v4:Option V),σ=[some v,some (.ref C),v2,v3,v4]/\G C=some (.lst (qs.map V.ref))/\c6 G qs fl/\Paired xU st fl/\pe [s'] st (s'.pre.reverse.drop i)/\st.length<=i/\(∀p∈qs,H p=none/\p≠C)/\G D=some (.lst xs)/\ag H G)
   ⟨[],[],[],none,none,none,rfl,s1 _ _ au,.nil,.nil,(by have:=xG (fin:=[s']) s' [] [] rfl;rwa [fc]at this),aJ _,(λp hp=>by cases hp),hX,s0.trans s1⟩
   (λi σ G _ ⟨_,_,_,_,_,_,_,_,_,_,_,_,_,e,_⟩=>ai.of e) ?_ ?_
  ·rintro i y σ G hi ⟨qs,fl,st,v2,v3,v4,rfl,g1,g2,g3,g4,g5,g6,g7,sG⟩;obtain⟨p,iu,gA⟩:=K2.rev.at hi;have tE:=Sm.pre_ok hok p (Hg.mp (cM iu));have kQ:=bp (Sm.ln_pre (Hg.mp (cM iu))) fO;have eA:i<s'.sz:=by
    have:=(d6.mp hi).1
    rw[EE]at this;lia
   have qU:s'.pre.reverse.drop i=p::s'.pre.reverse.drop (i+1):=by
    obtain⟨h1,h2⟩:=d6.mp iu;rw[sP h1,h2]
   rw[qU]at g4;obtain⟨bU,hN,hR⟩:=g4;have hql:=g2.length;have u6:st.length=fl.length:=dP g3;have put:∀{G2:Hp}{e:Addr}{f:av}{qa:List Addr}{fa:List av}{sa:List Sm},G2 C=some (.lst (qa.map V.ref))->c6 G2 qa fa->Paired xU sa fa->(∀p∈qa,H p=none/\p≠C)->G2 D=some (.lst xs)->ag H G2->sa.length<=i->H e=none->e≠C->a7 G2 e f->xU p f->bU=sa++[p]->∀v2 v3 v4:Option V,
     (∃(qs:List Addr) (fl:List av) (st:List Sm) (R5 R6 UC:Option V),[some v,some (.ref C),v2,v3,v4]=[some v,some (V.ref C),R5,R6,UC]/\upd G2 C (.lst (qa.map V.ref++[.ref e])) C=some (.lst (qs.map V.ref))/\c6 (upd G2 C (.lst (qa.map V.ref++[.ref e]))) qs fl/\Paired xU st fl/\pe [s'] st (s'.pre.reverse.drop (i+1))/\st.length<=i+1/\(∀p∈qs,H p=none/\p≠C)/\upd G2 C (.lst (qa.map V.ref++[.ref e])) D=some (.lst xs)/\ag H (upd G2 C (.lst (qa.map V.ref++[.ref e])))):=by
    intro G2 e f qa fa sa h1 h2 h3 h4 h5 h6 h6b h7 h8 h9 ra AL v2 v3 v4;exists qa++[e],fa++[f],sa++[p],v2,v3,v4,rfl,(by rw[au,aQ];rfl),?_,rM h3 ra,(by rw[<-AL];exact hR),(by rw[aS];show sa.length+1<=i+1;lia),λp' gU=>?_,(by rw[aO fE];exact h5),h6.write hC
    ·refine c6.keepU h1 (c6.snoc h2 h9) λz=>?_
     rcases bW.mp z with y|y
     ·exact (h4 C y).2 rfl
     ·exact h8 (bh.mp y).symm
    ·rcases bW.mp gU with y|y
     ·exact h4 p' y
     ·rw[bh.mp y];nomatch h7,h8
   cases p with
   |bit k =>
    obtain⟨p,rfl,hp⟩:=tN (gA.keep sG);have qd:=AO k tE;exists _,aG.of hp,rfl,?_;refine vy ?_;exists .inl ⟨rfl,_,ai.of g1⟩,_,aG.of hp,rfl,k,rfl,by lia,dw,λt1 bQ=>⟨d5,λe1 jF=>?_⟩;have b1:ag G (upd G t1 (.tup [.int (2^k),.int 1])):=ag.upd bQ;have b2:ag (upd G t1 (.tup [.int (2^k),.int 1])) (upd (upd G t1 (.tup [.int (2^k),.int 1])) e1 (.lst [.ref t1])):=ag.upd jF;have B:=b1.trans b2;nomatch _,B _ _ g1,px (by rw[ay];lia),put (B _ _ g1) (g2.keep B) g3 g6 (B _ _ g7) (sG.trans B) g5 (sG.free (b1.free jF)) (xk g1 (b1.free jF)) ⟨[t1],au,.cons (b2 _ _ au) .nil⟩ (KP (by decide)) hN _ _ _
   |fix c =>
    obtain⟨p,rfl,hp⟩:=vv (gA.keep sG);exists _,aG.of hp,rfl,?_;refine vn ?_;refine vy ?_;exists .inl ⟨rfl,_,ai.of g1⟩,_,aG.of hp,rfl,dw,λt1 bQ=>⟨d5,λe1 jF=>?_⟩;have b1:ag G (upd G t1 (.tup [.int 0,.int c])):=ag.upd bQ;have b2:ag (upd G t1 (.tup [.int 0,.int c])) (upd (upd G t1 (.tup [.int 0,.int c])) e1 (.lst [.ref t1])):=ag.upd jF;have eT:a7 (upd (upd G t1 (.tup [.int 0,.int c])) e1 (.lst [.ref t1])) e1 [(0,c)]:=⟨[t1],au,.cons (b2 _ _ au) .nil⟩;exists e1,[(0,c)],rfl,eT.tl,(by show 1<=100000;decide),⟨ls,pE,λt ht=>by rw[bh.mp ht];exact⟨JS _,λj hj=>by simp at hj⟩⟩,λb f H2 hb b9 jX da s2=>?_;have B:=(b1.trans b2).trans s2;nomatch _,B _ _ g1,px (by rw[ay];lia),put (B _ _ g1) (g2.keep B) g3 g6 (B _ _ g7) (sG.trans B) g5 (sG.free ((b1.trans b2).free hb)) (xk g1 ((b1.trans b2).free hb)) b9 jX hN _ _ _
   |no s1 =>
    obtain⟨sa,rfl,rfl⟩:=hN;obtain⟨fa,fb,rfl,a1,a2⟩:=Fl g3;cases a2 with
    |cons ml a3 =>
    cases a3;rename_i f1;obtain⟨qa,qb,rfl,c1,c2⟩:=v9 (m:=fa) g2;cases c2 with
    |cons Ct c3 =>
    cases c3;rename_i b1;obtain⟨p,x,rfl,hp,hx⟩:=sV (gA.keep sG);exists _,aG.of hp,rfl,?_;refine vn ?_;refine vn ?_;refine vy ?_;have rh:((qa++[b1]).map V.ref)[((qa++[b1]).map V.ref).length-1]?=some (V.ref b1):=by simp
    exists .inl ⟨rfl,_,ai.of g1⟩,.inl ⟨rfl,_,ai.of g1⟩,C,_,.ref b1,rfl,rfl,g1,rh,?_;have w1:upd G C (.lst ((qa++[b1]).map V.ref).dropLast) C=some (.lst (qa.map V.ref)):=by rw[au,aQ];exact congrArg (λz=>some (HO.lst z)) pb
    have w2:c6 (upd G C (.lst ((qa++[b1]).map V.ref).dropLast)) (qa++[b1]) (fa++[f1]):=c6.keepU g1 g2 λz=>(g6 C z).2 rfl
    have w3:upd G C (.lst ((qa++[b1]).map V.ref).dropLast) D=some (.lst xs):=by rw[aO fE];exact g7
    have m8:=sG.write (o:=.lst ((qa++[b1]).map V.ref).dropLast) hC;generalize upd G C (.lst ((qa++[b1]).map V.ref).dropLast)=G1 at w1 w2 w3 m8 ⊢;obtain⟨x1,x2,ex,w4,w5⟩:=v9 (m:=fa) w2;obtain⟨rfl,DZ⟩:=HW ex (by rw[dP c1,dP w4]);subst DZ;cases w5 with
    |cons gk w6 =>
    exists d5,λe he=>?_;have k1:ag G1 (upd G1 e (.lst [.ref b1])):=ag.upd he;exists e,.no s1,_,[f1],ls,rfl,⟨rfl,f1,rfl,ml⟩,tE,kQ,pE,AO,⟨[b1],au,.cons (gk.keep k1) .nil⟩,λc f H6 hc hT hF s6=>?_;have B:=k1.trans s6;nomatch _,B _ _ w1,px (by rw[ay,dP w4,<-dP a1];rw[aS]at g5;lia),put (B _ _ w1) (c6.keep w4 B) a1 (λp hp=>g6 p (i8 _ hp)) (B _ _ w3) (m8.trans B) (by rw[aS]at g5;lia) (m8.free (k1.free hc)) (xk w1 (k1.free hc)) hT hF rfl _ _ _
   |two j s1 s2 =>
    obtain⟨sa,rfl,rfl⟩:=hN;obtain⟨nL,ze,wg⟩:=tE;obtain⟨fa,fb,rfl,a1,a2⟩:=Fl g3;cases a2 with
    |cons ml a3 =>
    cases a3 with
    |cons vK a4 =>
    cases a4;rename_i f1 f2;obtain⟨qa,qb,rfl,c1,c2⟩:=v9 (m:=fa) g2;cases c2 with
    |cons Ct c3 =>
    cases c3 with
    |cons hq2 c4 =>
    cases c4;rename_i b1 b2;obtain⟨p,x,z,rfl,hp,hx,hz⟩:=sM (gA.keep sG);obtain⟨n1,n2,n3⟩:=u9 (w:=j);exists _,aG.of hp,rfl,?_;refine vN (by simpa using n1) ?_;refine vN (by simpa using n2) ?_;refine vN (by simpa using n3) ?_;have rh:((qa++[b1,b2]).map V.ref)[((qa++[b1,b2]).map V.ref).length-1]?=some (V.ref b2):=by simp
    exists .inl ⟨rfl,_,ai.of g1⟩,C,_,.ref b2,rfl,rfl,g1,rh,?_;have ed:((qa++[b1,b2]).map V.ref).dropLast=(qa++[b1]).map V.ref:=by rw[aQ,aQ];exact List.dropLast_append_cons
    have w1:upd G C (.lst ((qa++[b1,b2]).map V.ref).dropLast) C=some (.lst ((qa++[b1]).map V.ref)):=by rw[au,ed]
    have w2:c6 (upd G C (.lst ((qa++[b1,b2]).map V.ref).dropLast)) (qa++[b1,b2]) (fa++[f1,f2]):=c6.keepU g1 g2 λz=>(g6 C z).2 rfl
    have w3:upd G C (.lst ((qa++[b1,b2]).map V.ref).dropLast) D=some (.lst xs):=by rw[aO fE];exact g7
    have m8:=sG.write (o:=.lst ((qa++[b1,b2]).map V.ref).dropLast) hC;generalize upd G C (.lst ((qa++[b1,b2]).map V.ref).dropLast)=G1 at w1 w2 w3 m8 ⊢;have Vb:((qa++[b1]).map V.ref)[((qa++[b1]).map V.ref).length-1]?=some (V.ref b1):=by simp
    exists .inl ⟨rfl,_,ai.of w1⟩,.inl ⟨rfl,_,ai.of w1⟩,C,_,.ref b1,rfl,rfl,w1,Vb,?_;have y1:upd G1 C (.lst ((qa++[b1]).map V.ref).dropLast) C=some (.lst (qa.map V.ref)):=by rw[au,aQ];exact congrArg (λz=>some (HO.lst z)) pb
    have y2:c6 (upd G1 C (.lst ((qa++[b1]).map V.ref).dropLast)) (qa++[b1,b2]) (fa++[f1,f2]):=c6.keepU w1 w2 λz=>(g6 C z).2 rfl
    have y3:upd G1 C (.lst ((qa++[b1]).map V.ref).dropLast) D=some (.lst xs):=by rw[aO fE];exact w3
    have gQ:=m8.write (o:=.lst ((qa++[b1]).map V.ref).dropLast) hC;generalize upd G1 C (.lst ((qa++[b1]).map V.ref).dropLast)=G2 at y1 y2 y3 gQ ⊢;obtain⟨x1,x2,ex,w4,w5⟩:=v9 (m:=fa) y2;obtain⟨rfl,DZ⟩:=HW ex (by rw[dP c1,dP w4]);subst DZ;cases w5 with
    |cons gk w6 =>
    cases w6 with
    |cons j9 w7 =>
    exists dw,λe he=>?_;have k1:ag G2 (upd G2 e (.lst [.ref b1,.ref b2])):=ag.upd he;exists e,.two j s1 s2,_,[f1,f2],ls,rfl,⟨rfl,nL,f1,f2,rfl,ml,vK⟩,⟨nL,ze,wg⟩,kQ,pE,AO,⟨[b1,b2],au,.cons (gk.keep k1) (.cons (j9.keep k1) .nil)⟩,λc f H6 hc hT hF s6=>?_;have B:=k1.trans s6;nomatch _,B _ _ y1,px (by rw[ay,dP w4,<-dP a1];rw[aS]at g5;lia),put (B _ _ y1) (c6.keep w4 B) a1 (λp hp=>g6 p (i8 _ hp)) (B _ _ y3) (gQ.trans B) (by rw[aS]at g5;lia) (gQ.free (k1.free hc)) (xk y1 (k1.free hc)) hT hF rfl _ _ _
  ·rintro σ G ⟨qs,fl,st,v2,v3,v4,rfl,g1,g2,g3,g4,g5,g6,g7,sG⟩;have e:s'.pre.reverse.drop xs.length=[]:=by rw[hxl,<-Sm.pre_len];exact FN (by rw[EE];exact aJ _)
   rw[e]at g4;have e2:st=[s']:=g4;subst e2;cases g3 with
   |cons ml a3 =>
   cases a3;cases g2 with
   |cons Ct c3 =>
   cases c3;rename_i f1 b1;nomatch _,ai.of g1,rfl,q b1 f1 G (g6 b1 (by simp)).1 Ct ml sG
def zb3:Sp:=λvs H Q _=>∃(v:V) (s:Sm) (ls:List Nat),vs=[v]/\Is H v s.d/\s.ok (λk=>k∈ls)/\s.dp<=20/\ls.length<=20/\∀(e:Addr) (ks:List Int) (H':Hp),H' e=some (.lst (ks.map V.int))->ks.length<=ls.length->ag H H'->Q (.ref e) H'
set_option tactic.hygienic true in
def ye{kvs:List (bO×V)}{ks:List Int}(h:kvs.map (·.1)=ks.map Sum.inl)(k:Int)(v:V):∃kn:List Int,(fH kvs (Sum.inl k) v).map (·.1)=kn.map Sum.inl/\(ks.Nodup->kn.Nodup)/\∀x∈kn,x∈ks\/x=k:=by
 unfold fH;split
 ·exists ks,?_,id,λx hx=>.inl hx;rw[ft,<-h];refine nS λp _=>?_
  show (if p.1=Sum.inl k then (p.1,v)else p).1=p.1;split<;>rfl
 ·rename_i hn;exists ks++[k],by rw[aQ,aQ,h];rfl,λnd=>?_,λx hx=>?_
  ·refine Gr nd λhk=>hn ?_
   have:(Sum.inl k:bO)∈kvs.map (·.1):=by rw[h];exact bV.mpr ⟨k,hk,rfl⟩
   obtain⟨p,hp,e⟩:=bV.mp this;exact yb.mpr ⟨p,hp,aC e⟩
  ·rcases bW.mp hx with y|y
   ·exact .inl y
   ·exact .inr (bh.mp y)
def WS(T:Txt w K mg):FW.Ok P w K mg base 2 zb3:=by
  refine Rw.ok T.d_Z1.F T.d_Z1.S ?_;rintro vs H Q E ⟨v,s',ls,rfl,hI,hok,hsz,hls,q⟩;refine⟨rfl,fun _ _ _ _ hr hu nd=>⟨_,(ar (aH 1 nd yW) (ar (eN dQ rfl (dM (aB T.d_Z54 (Ph T) hr (ae (pV 0) ah))) (bf 2 nd) (ao (bB (bD aY (xT (pV 2) aj) ak) (ao (zt hu (pV 1) (xT (pV 2) aj) jr rfl)) aM))) (ao (az (bj (Px rfl) (by rfl) T.n_sorted GS (ae (pV 1) ah)))))),?_⟩⟩
  intro d hd;have s0:ag H (upd H d (.dK [])):=ag.upd hd;exists v,s',rfl,hI.keep s0,hsz,λD xs H1 hD hX hS s1=>⟨⟨_,ai.of hX⟩,?_⟩;have Nl:H1 d=some (.dK []):=s1 _ _ au;have UT:D≠d:=λz=>by rw[z,au]at hD;cases hD
  refine mB (K:=K) (a:=D) (xs:=xs) (λi σ G=>∃(kvs:List (bO×V)) (ks:List Int) (v2:Option V),σ=[some v,some (.ref d),v2]/\G d=some (.dK kvs)/\kvs.map (·.1)=ks.map Sum.inl/\ks.Nodup/\(∀k∈ks,k∈ls.map λj:Nat=>(j:Int))/\aV d H1 G)
   ⟨[],[],none,rfl,Nl,rfl,Ir,(λk hk=>by cases hk),aV.refl _ _⟩ (λi σ G _ ⟨_,_,_,_,_,_,_,_,e⟩=>ai.of (e _ _ UT hX)) ?_ ?_
  ·rintro i y σ G hi ⟨kvs,ks,v2,rfl,g1,g2,g3,g4,g5⟩;obtain⟨p,iu,gA⟩:=hS.at hi;have tE:=Sm.pre_ok hok p (cM iu);have iw:ks.length<=ls.length:=by
    have:=uQ g3 g4
    rw[ay]at this;exact this
   have hkv:kvs.length=ks.length:=by have:=congrArg List.length g2;simpa using this
   have yi:Is G y p.d:=jK (λa ys z=>g5 _ _ (λw=>by rw[w,Nl]at z;cases z) z) (gA.keep s1);unfold a9;cases p with
   |bit k =>
    obtain⟨pp,rfl,hp⟩:=tN yi;exists _,aG.of hp,rfl,vy ?_;obtain⟨kn,k1,k2,k3⟩:=ye g2 (k:Int) (.bl true);exists _,aG.of hp,rfl,d,_,rfl,ox.k (k:=Sum.inl (k:Int)) g1 (cP (by lia)),?_;exists _,kn,_,rfl,au,k1,k2 g3,λx hx=>?_,g5.trans aV.upd;rcases k3 x hx with y|y
    ·exact g4 x y
    ·rw[y];exact bV.mpr ⟨k,tE,rfl⟩
   |fix c =>
    obtain⟨pp,rfl,hp⟩:=vv yi;exists _,aG.of hp,rfl,vn ?_;nomatch _,_,_,rfl,g1,g2,g3,g4,g5
   |no s1 =>
    obtain⟨pp,x,rfl,hp,_⟩:=sV yi;exists _,aG.of hp,rfl,vn ?_;nomatch _,_,_,rfl,g1,g2,g3,g4,g5
   |two j s1 s2 =>
    obtain⟨pp,x,z,rfl,hp,_,_⟩:=sM yi;obtain⟨n1,_,_⟩:=u9 (w:=j);exists _,aG.of hp,rfl,vN (by simpa using n1) ?_;nomatch _,_,_,rfl,g1,g2,g3,g4,g5
  ·rintro σ G ⟨kvs,ks,v2,rfl,g1,g2,g3,g4,g5⟩;have iw:ks.length<=ls.length:=by
    have:=uQ g3 g4
    rw[ay]at this;exact this
   exists d,_,ks,rfl,g1,g2,by lia,λe kn he j8 tj=>?_;have sG:ag H G:=aV.same (s0.trans s1) g5 hd;exact q e kn _ au (by rw[j8.length_eq];exact iw) (sG.trans (ag.upd he))
def RZ(K:Frag)(NS:Addr):Sp:=λvs H Q E=>∃tx:List Nat,vs=[.str (S tx)]/\(∀c∈tx,c<128)/\tx.length<=90/\fq tx<=9 /\
 ((kH tx).isSome=true->∀(b:Addr) (f:av) (H':Hp),a7 H' b f->yd f->ag H H'->Q (.ref b) H')/\((kH tx).isSome=false->∀H',ag H H'->E (.ref NS) none H')
def U8(T:Txt w K mg):Bs.OkE P w K mg base 7 (RZ K df):=by
  refine Rw.okE T.d_Z12.F T.d_Z12.S ?_;rintro vs H Q E ⟨tx,rfl,ha,hl,hfq,q,e⟩;refine⟨rfl,fun _ _ _ _ hr hu nd=>⟨_,(ar (aH 1 nd (fh (VS T) hr.m (by rfl) T.d_Z57.m T.d_Z57.F.kp T.d_Z57.b .nil (dv bK) (ae (pV 0) ah)))
   (ar (bt (bb qp.j (bj dJ (by rfl) T.n_len bS (ae (aB T.d_Z1 (WS T) hr.m (ae (pV 1) ah)) ah)) aj) (ao (fG bK rfl (by rfl) T.g_TooMany T.x_TooMany)) aM)
   (ao (PS.nox (az (aB T.d_Z11 (zaz T) hr (ae (pV 1) ah))))))),?_⟩⟩
  obtain⟨ts,mS,u6,Bw,hok⟩:=ZI ha;exists ts,kH tx,(by rw[u6];rfl),mS,by rw[u6];lia,Bw,λs0 v H1 hs hI zk=>?_,λh H1 s1=>e (by rw[h];rfl) H1 s1;obtain⟨hok,fO⟩:=hok s0 hs;have pE:=zg s0;have yj:=zH s0;have Gn:=wZ s0;have hk:=Sm.ok_or hok λx hx=>hx
  exists v,s0,s0.lt,rfl,hI,hk,by lia,by lia,λb ks H2 he iw s2=>⟨b,_,rfl,.inl (ai.of he),_,rfl,?_⟩;refine aF (λy=>by have:=br y;rw[ay]at this;lia) ?_;nomatch v,s0,s0.lt,rfl,hI.keep s2,hk,by lia,by lia,by lia,yP hok,by lia,λb f H3 hb hT hF s3=>q (by rw[hs];rfl) b f H3 hT (UW hok (by omega) hF) (zk.trans (s2.trans s3))
def Xz(K:Frag):Sp:=λvs H Q _=>∃(a:Addr) (l:av) (k:Nat),vs=[.ref a,.int (2^k)]/\TL K H a l/\(∀t∈l,0<=t.1)/\l.length<=100000 /\
 ∀(c:Addr) (H':Hp),H c=none->a7 H' c (iE k l)->ag H H'->Q (.ref c) H'
def ON:(["members","number","bit"]:List Str).Nodup:=by decide+kernel
def Em(T:Txt w K mg):yz.Ok P w K mg base 1 (Xz K):=by
  refine Rw.ok T.d_Z81.F T.d_Z81.S ?_;rintro vs H Q E ⟨a,l,k,rfl,hT,h0,aT,q⟩;refine⟨rfl,fun _ _ _ _ hr hu nd=>⟨_,(ao (az (gn (g:=(gm K 2 (cB (a9 0) (cB (a9 1) fW)))) ["members", "number", "bit"] 2 [1] rfl (d7 yz) (dM (pV 0)) (λcl C s₀ H₀ fp=>(hZ (n:=2) rfl (cS (bf 0 ON) (cS (bf 1 ON) gR)))) (λcl C s₀ H₀ fp=>(jM (bb aY (aD xV.j (pV 0) (pV 2)) aj))) (λcl C s₀ H₀ fp=>(eK (ae (pV 0) (ae (pV 1) ah))))))),?_⟩⟩
  exists hT.seq,?_;refine ym (λt => !ij k t) (λt=>t) hT (by omega) [some (.int (2^k))] rfl (λt ht H2 R s2 r=>?_) (λt ht hp H2 R s2 r=>?_) λD ys H2 hD dy s1=>?_
  ·exists _,rfl,?_;rw[GO (h0 t ht)];exact r
  ·nomatch dw,r
  ·exact q D _ hD (by rw[yS]at dy;exact dy) s1
def Rz(K:Frag):Sp:=λvs H Q _=>∃(a:Addr) (l:av) (k:Nat),vs=[.ref a,.int (2^k)]/\TL K H a l/\(∀t∈l,0<=t.1)/\l.length<=100000 /\
 ∀(c:Addr) (H':Hp),H c=none->a7 H' c (fM k l)->ag H H'->Q (.ref c) H'
def L4:(["members","number","bit"]:List Str).Nodup:=by decide+kernel
def OD(T:Txt w K mg):yJ.Ok P w K mg base 1 (Rz K):=by
  refine Rw.ok T.d_Z16.F T.d_Z16.S ?_;rintro vs H Q E ⟨a,l,k,rfl,hT,h0,aT,q⟩;refine⟨rfl,fun _ _ _ _ hr hu nd=>⟨_,(ao (az (gn (g:=(gm K 2 (cB (a9 0) (cB (a9 1) fW)))) ["members", "number", "bit"] 2 [1] rfl (d7 yJ) (dM (pV 0)) (λcl C s₀ H₀ fp=>(hZ (n:=2) rfl (cS (bf 0 L4) (cS (bf 1 L4) gR)))) (λcl C s₀ H₀ fp=>(jM (bb fP (aD xV.j (pV 0) (pV 2)) aj))) (λcl C s₀ H₀ fp=>(eK (ae (aD tS.j (pV 0) (pV 2)) (ae (pV 1) ah))))))),?_⟩⟩
  exists hT.seq,?_;refine ym (λt=>ij k t) (λt=>(t.1-2^k,t.2)) hT (by omega) [some (.int (2^k))] rfl (λt ht H2 R s2 r=>?_) (λt ht hp H2 R s2 r=>?_) λD ys H2 hD dy s1=>?_
  ·exists _,rfl,?_;rw[GO (h0 t ht),Bool.not_not];exact r
  ·nomatch dw,r
  ·exact q D _ hD dy s1
def XY(K:Frag):Sp:=λvs H Q _=>∃(a:Addr) (l:av) (k:Nat) (b:Int),vs=[.ref a,.int (k:Int),.int b]/\a7 H a l/\IsForm l/\(∀t∈l,0<=t.1)/\l.length<=100000/\eZ l/\k<=100/\(b=0\/b=1) /\
 ∀(c:Addr) (f:av) (H':Hp),H c=none->a7 H' c f->bx f (qJ k b l)->f.length<=l.length->ag H H'->Q (.ref c) H'
def zcB(T:Txt w K mg):FT.Ok P w K mg base 4 (XY K):=by
  refine Rw.ok T.d_Z7.F T.d_Z7.S ?_;rintro vs H Q E ⟨a,l,k,b,rfl,hT,hF,h0,aT,h5,hk,hb,q⟩;refine⟨rfl,fun _ _ _ _ hr hu nd=>⟨_,(ar (aH 3 nd (aB T.d_Z4 (nk T) hr.m (ae (pV 1) ah))) (ar (bt (bb aY (pV 2) aj) (ao (az (aB T.d_Z81 (Em T) hr.m (ae (pV 0) (ae (pV 3) ah))))) aM) (ao (az (aB T.d_Z55 (qN T) hr (ae (aB T.d_Z81 (Em T) hr.m (ae (pV 0) (ae (pV 3) ah))) (ae (aB T.d_Z16 (OD T) hr.m (ae (pV 0) (ae (pV 3) ah))) ah))))))),?_⟩⟩
  exists k,rfl,hk,?_;exists _,rfl,?_;rcases hb with rfl|rfl
  ·refine aU (by decide) ?_;exists a,l,k,rfl,hT.tl,h0,aT,λc H' hc mT s'=>?_;refine q c _ H' hc mT ?_ (Qa k l) s'
   have:=bx.self (hF.filter λt => !ij k t)
   unfold qJ;rw[ax rfl,fc];exact this
  ·refine aF (by decide) ?_;exists a,l,k,rfl,hT.tl,h0,aT,λc H1 hc dy s1=>?_;exists a,l,k,rfl,(hT.keep s1).tl,h0,aT,λd H2 hd b9 s2=>?_;have e:=Ms k l;exists c,d,iE k l,fM k l,rfl,dy.keep s2,b9,by lia,(let ⟨ls,z5,z⟩:=h5; ⟨ls,z5,(z.out k).app (z.off k)⟩),λx f H3 hx j4 kI lq s3=>?_;refine q x f H3 (s1.free (s2.free hx)) j4 ?_ (by lia) (s1.trans (s2.trans s3));unfold qJ;rw[aq (by decide)];exact kI
def QJ(K:Frag):Sp:=λvs H Q _=>∃(a b:Addr) (l o:av) (k:Nat),vs=[.ref a,.int (k:Int),.ref b]/\a7 H a l/\a7 H b o/\(∀t∈l,0<=t.1)/\l.length+l.length*o.length<=100000/\l.length<=100000/\eZ (l++o)/\k<=100/\(∀t∈l,∀u∈o,IntMulOk t.2 u.2) /\
 ∀(c:Addr) (f:av) (H':Hp),H c=none->a7 H' c f->bx f (rV k o l)->f.length<=l.length+l.length*o.length->ag H H'->Q (.ref c) H'
def Wg(T:Txt w K mg):AY.Ok P w K mg base 4 (QJ K):=by
  refine Rw.ok T.d_Z56.F T.d_Z56.S ?_;rintro vs H Q E ⟨a,b,l,o,k,rfl,hT,fU,h0,aT,uU,h5,hk,iQ,q⟩;refine⟨rfl,fun _ _ _ _ hr hu nd=>⟨_,(ar (aH 3 nd (aB T.d_Z4 (nk T) hr.m (ae (pV 1) ah))) (ao (az (aB T.d_Z55 (qN T) hr (ae (aB T.d_Z81 (Em T) hr.m (ae (pV 0) (ae (pV 3) ah))) (ae (aB T.d_Z69 (zi T) hr.m (ae (aB T.d_Z16 (OD T) hr.m (ae (pV 0) (ae (pV 3) ah))) (ae (pV 2) ah))) ah)))))),?_⟩⟩
  obtain⟨zs,z5,zz⟩:=h5;have zl:K5 zs l:=λt ht=>zz t (i8 _ ht)
  have zo:K5 zs o:=λt ht=>zz t (cx _ ht)
  have n1:=Qa k l;have n2:=Rn k l;have n3:(fM k l).length*o.length<=l.length*o.length:=AD _ n2;exists k,rfl,hk,?_;exists a,l,k,rfl,hT.tl,h0,uU,λc H1 hc dy s1=>?_;exists a,l,k,rfl,(hT.keep s1).tl,h0,uU,λd H2 hd b9 s2=>?_;exists d,b,fM k l,o,rfl,b9.tl,((fU.keep s1).keep s2).tl,by lia,⟨zs,z5,(zl.off k).prod zo⟩,(λt ht u hu=>?_),λe g H3 he j4 kI lq s3=>?_
  ·obtain⟨_,v,hv,e,_⟩:=O7 h0 ht;rw[e];exact iQ v hv u hu
  exists c,e,iE k l,g,rfl,(dy.keep s2).keep s3,j4,by lia,⟨zs,z5,(zl.out k).app (((zl.off k).prod zo).of kI)⟩,λx f H4 hx mP pX vg s4=>?_;refine q x f H4 (s1.free (s2.free (s3.free hx))) mP ⟨pX.toIsForm,λj=>?_,λt ht=>?_⟩ (by lia) (s1.trans (s2.trans (s3.trans s4)))
  ·rw[pX.val,eE,kI.val];unfold rV;rw[eE]
  ·have:=pX.src t ht
   unfold rV;rw[aQ,bW]at this ⊢;rcases this with z|z
   ·exact .inl z
   ·obtain⟨u,hu,e⟩:=bV.mp z;rw[<-e];exact .inr (kI.src u hu)
def zck(K:Frag):Sp:=λvs H Q _=>∃(a:Addr) (l:av),vs=[.ref a]/\a7 H a l/\l.length*l.length<=100000/\eZ l/\(∀t∈l,∀u∈l,IntMulOk t.2 u.2) /\
 ∀(f:av) (H':Hp),bx f (bF l l)->ag H H'->Q (.bl (decide (f=l))) H'
def Vj(T:Txt w K mg):EI.Ok P w K mg base 3 (zck K):=by
  refine Rw.ok T.d_Z24.F T.d_Z24.S ?_;rintro vs H Q E ⟨a,l,rfl,hT,aT,h5,iQ,q⟩;exists rfl,λ_ _ _ _ hr hu nd=>⟨_,(ao (az (cO (oi (jD hr)) (aB T.d_Z69 (zi T) hr (ae (pV 0) (ae (pV 0) ah))) (pV 0)))),?_⟩;exists a,a,l,l,rfl,hT.tl,hT.tl,aT,(let ⟨ls,z5,z⟩:=h5; ⟨ls,z5,z.prod z⟩),iQ,λc f H1 hc dy gJ lR s1=>?_;exists dF f,dF l,dy.is,(hT.keep s1).is,bp (Uv f) (by decide),?_;rw[Y3];exact q f H1 gJ s1
def Y7(NY:Addr):Sp:=λvs H Q E=>∃(a:Addr) (l:av),vs=[.ref a]/\a7 H a l/\l.length*l.length<=100000/\eZ l/\(∀t∈l,∀u∈l,IntMulOk t.2 u.2)/\(∀H',ag H H'->DI l->Q (.ref a) H')/\(∀H',ag H H'->¬DI l->E (.ref NY) none H')
def MX(T:Txt w K mg):A3.OkE P w K mg base 4 (Y7 lM):=by
  refine Rw.okE T.d_Z83.F T.d_Z83.S ?_;rintro vs H Q E ⟨a,l,rfl,hT,aT,h5,iQ,q,e⟩;refine⟨rfl,fun _ _ _ _ hr hu nd=>⟨_,(ar (bt (iO (fJ (aB T.d_Z24 (Vj T) hr (ae (pV 0) ah)))) (ao (fG bK rfl (by rfl) T.g_NoYesNo T.x_NoYesNo)) aM)
   (ao (PS.nox (az (pV 0))))),?_⟩⟩
  exists a,l,rfl,hT,aT,h5,iQ,λf H1 hF s1=>⟨_,rfl,?_⟩;by_cases z:f=l
  ·refine aF (by rw[aC z];decide) ?_;exact q H1 s1 ⟨f,hF,z⟩
  ·refine aU (by rw[aL z];rfl) ?_;refine e H1 s1 λ⟨g,hg,eg⟩=>z ?_
   rw[<-eg];exact bx.unique hF (eg ▸ hg) λk=>rfl
def zbD(NN NF NS:Addr)(wo:List Nat)(us:List V)(H:Hp)(Q:VK)(E:XK):Rs->Prop
 |.name=>∀H',ag H H'->E (.ref NN) none H'
 |.form=>∀H',ag H H'->E (.ref NF) none H'
 |.stat=>∀H',ag H H'->E (.ref NS) none H'
 |_=>∀f b H',(wo=[61]->gP (l9 us)=some f)->a7 H' b f->yd f->ag H H'->Q (.ref b) H'
def WA(K:Frag)(C NN NF NS:Addr):Sp:=λvs H Q E=>∃(p d t:Addr) (st:eQ) (l n wo:List Nat) (us:List V),vs=[.ref p,.str (S wo),.ref t]/\H t=some (.lst us)/\iB C H p d st/\rn st/\(∀c∈l,c<128)/\l.length<=90/\pA l/\Ln l (some n) wo us/\zbD NN NF NS wo us H Q E (jU st wo us)
def zaQ(T:Txt w K mg):AG.OkE P w K mg base 8 (WA K eF dS du df):=by
  refine Rw.okE T.d_Desk_form_for.F T.d_Desk_form_for.S ?_;rintro vs H Q E ⟨p,d,t,st,l,n,wo,us,rfl,ht,hD,cW,ha,hl,lU,fO,q⟩;refine⟨rfl,fun _ _ _ _ hr hu nd=>⟨_,(ar (bB (bD aY (pV 1) ak) (ao (az (fh (zb9 T) hr.m (by rfl) T.d_Z14.m T.d_Z14.F.kp T.d_Z14.b .nil (dv bK) (ae (xL (pV 2) aj) ah)))) aM)
   (ar (bB (bD aY (pV 1) ak) (ao (az (fh (U8 T) hr (by rfl) T.d_Z12.m T.d_Z12.F.kp T.d_Z12.b .nil (dv bK) (ae (xL (pV 2) aj) ah)))) aM)
   (ar (aH 3 nd (oP (pV 0) T.cl_Desk T.d_Desk_kept.m (qI T) hr.m T.d_Desk_kept.b .nil (dv bK) (ae (xL (pV 2) aj) ah))) (ar (PS.nox (bB (bD aY (pV 1) ak) (ao (az (aB T.d_Z7 (zcB T) hr.m (ae (pV 3) (ae (xL (pV 2) aj) (ae (xL (pV 2) aj) ah)))))) aM)) (ar (bB (bD aY (pV 1) ak) (ao (az (aB T.d_Z56 (Wg T) hr.m (ae (pV 3) (ae (xL (pV 2) aj) (ae (fh (MX T) hr.m (by rfl) T.d_Z83.m T.d_Z83.F.kp T.d_Z83.b .nil (dv bK) (ae (oP (pV 0) T.cl_Desk T.d_Desk_kept.m (qI T) hr.m T.d_Desk_kept.b .nil (dv bK) (ae (xL (pV 2) aj) ah)) ah)) ah)))))) aM)
   (ao (az (aB T.d_Z3 (zbo T) hr.m (ae (pV 1) (ae (pV 3) (ae (oP (pV 0) T.cl_Desk T.d_Desk_kept.m (qI T) hr.m T.d_Desk_kept.b .nil (dv bK) (ae (xL (pV 2) aj) ah)) ah))))))))))),?_⟩⟩
  obtain⟨⟨dx,ho⟩,_⟩:=id hD;have g0:∀{n:List Nat}{r:List V},eY st n=none->bZ st (.str (S n)::r)=false:=λh=>by rw[zq,h];rfl
  have g1:∀{n:List Nat}{f:av}{r:List V},eY st n=some f->bZ st (.str (S n)::r)=bZ st r:=λh=>by rw[zq,h];rfl
  have sub:∀{n w t:List Nat},l=n++32::(w++32::t)->(∀c∈t,c<128)/\t.length<=90:=λe=>by
   rw[e]at ha hl;exact⟨λc hc=>ha c (by simp[hc]),by simp at hl;lia⟩
  cases fO with
  |form n w tx el hn =>
   obtain⟨k1,k2⟩:=sub el;rw[<-mF];refine vy ?_;have er:jU st [61] [.str (S tx)]=if (gP tx).isSome=true then .ok else .form:=rfl
   rw[er]at q;exists _,ai.of ht,aZ (j:=0) rfl,tx,rfl,k1,by lia,λf hf b H1 hb hT s1=>?_,λhf H1 s1=>?_
   ·rw[ax (by rw[hf];rfl)]at q;exact q f b H1 (λ_=>hf) hT (X7 hf k2) s1
   ·rw[aq (by rw[hf];decide)]at q;exact q H1 s1
  |stat n w tx el hn =>
   obtain⟨k1,k2⟩:=sub el;rw[<-Ab];refine vn ?_;refine vy ?_;have er:jU st [58,61] [.str (S tx)]=if (kH tx).isSome=true then .ok else .stat:=rfl
   rw[er]at q;exists _,ai.of ht,aZ (j:=0) rfl,tx,rfl,k1,k2,lU.text el hn,λhs b f H1 hT hm s1=>?_,λhs H1 s1=>?_
   ·rw[ax hs]at q;exact q f b H1 (λz=>by cases z) hT hm s1
   ·rw[aq (by rw[hs];decide)]at q;exact q H1 s1
  |fixd n a k b hk hb =>
   rw[show S gi=ofString "fixed" from nE.2.2.2.1.symm];have er:jU st gi [.str (S a),.int (k:Int),.int b]=if bZ st [.str (S a),.int (k:Int),.int b]=true then .ok else .name:=rfl
   rw[er]at q;refine vn ?_;refine vn ?_;refine⟨p,dx,_,rfl,ho,iI d (by decide+kernel),_,ai.of ht,aZ (j:=0) rfl,p,d,st,a,rfl,hD,λx f hg hT=>?_,λhg=>by rw[aq (by rw[g0 hg];decide)]at q;exact q H (ag.refl _)⟩;obtain rfl:=cW a f hg;rw[ax (by rw[g1 hg];rfl)]at q;refine vy ?_;exists _,ai.of ht,aZ (j:=1) rfl,_,ai.of ht,aZ (j:=2) rfl,x,AF,k,b,rfl,hT,Hm,(λt ht=>(j2 t ht).1),by decide,BZ,by lia,hb,λc f H1 hc tI uc _ s1=>?_;exact q f c H1 (λz=>by cases z) tI (B9 uc (Xs k b)) s1
  |put n a k b hk =>
   rw[show S ji=ofString "put" from nE.2.2.2.2.symm];have er:jU st ji [.str (S a),.int (k:Int),.str (S b)]=if bZ st [.str (S a),.int (k:Int),.str (S b)]=true then .ok else .name:=rfl
   rw[er]at q;refine vn ?_;refine vn ?_;refine⟨p,dx,_,rfl,ho,iI d (by decide+kernel),_,ai.of ht,aZ (j:=0) rfl,p,d,st,a,rfl,hD,λx f hg hT=>?_,λhg=>by rw[aq (by rw[g0 hg];decide)]at q;exact q H (ag.refl _)⟩;obtain rfl:=cW a f hg;refine vn ?_;refine vy ?_;refine⟨_,ai.of ht,aZ (j:=1) rfl,p,dx,_,rfl,ho,iI d (by decide+kernel),_,ai.of ht,aZ (j:=2) rfl,p,d,st,b,rfl,hD,λy o nh fU=>?_,λnh=>by rw[aq (by rw[g1 hg,OJ,g0 nh];decide)]at q;exact q H (ag.refl _)⟩;obtain rfl:=cW b o nh;rw[ax (by rw[g1 hg,OJ,g1 nh];rfl)]at q;exists y,AF,rfl,fU,by decide,BZ,zv,λH1 s1 hy=>?_,λH1 s1 hy=>absurd IY hy;exists x,y,AF,AF,k,rfl,hT.keep s1,fU.keep s1,(λt ht=>(j2 t ht).1),by decide,by decide,⟨[0],by decide,j2.app j2⟩,by omega,zv,λc f H2 hc tI uc _ s2=>?_;exact q f c H2 (λz=>by cases z) tI (B9 uc (Vl k)) (s1.trans s2)
  |two w n a b nL =>
   rw[show S (eI w)=mU w from wl_S (.two w [] [] [])];have F5:¬eI w=[61]/\¬eI w=[58,61]:=by
    obtain rfl|rfl|rfl:w=0\/w=1\/w=2:=by lia
    all_goals decide
   have er:jU st (eI w) [.str (S a),.str (S b)]=if bZ st [.str (S a),.str (S b)]=true then .ok else .name:=by unfold jU;rw[aq F5.1,aq F5.2]
   rw[er]at q;obtain⟨n1,n2,n3,n4⟩:=zbf nL;refine vN (by rw[n1];decide) ?_;refine vN (by rw[n2];decide) ?_;refine⟨p,dx,_,rfl,ho,iI d (by decide+kernel),_,ai.of ht,aZ (j:=0) rfl,p,d,st,a,rfl,hD,λx f hg hT=>?_,λhg=>by rw[aq (by rw[g0 hg];decide)]at q;exact q H (ag.refl _)⟩;obtain rfl:=cW a f hg;refine vN (by rw[n3];decide) ?_;refine vN (by rw[n4];decide) ?_;refine⟨p,dx,_,rfl,ho,iI d (by decide+kernel),_,ai.of ht,aZ (j:=1) rfl,p,d,st,b,rfl,hD,λy o nh fU=>?_,λnh=>by rw[aq (by rw[g1 hg,g0 nh];decide)]at q;exact q H (ag.refl _)⟩;obtain rfl:=cW b o nh;rw[ax (by rw[g1 hg,g1 nh];rfl)]at q;exists w,x,y,AF,AF,rfl,nL,hT,fU,⟨by decide,by decide⟩,⟨[0],by decide,j2,j2⟩,(λ_=>zv),λc f H2 hc tI uc s2=>?_;exact q f c H2 (λz=>absurd z F5.1) tI (B9 uc (Q0 nL)) s2
def Xa(K:Frag):Sp:=λvs H Q _=>∃(a:Addr) (l:av),vs=[.ref a]/\a7 H a l/\l.length<=300/\(∀t∈l,t.2.natAbs<10^100)/\∀H',ag H H'->Q .non H'
def NA:(["members","number","bound"]:List Str).Nodup:=by decide+kernel
def Yd(T:Txt w K mg):yY.OkE P w K mg base 1 (Xa K):=by
  refine Rw.okE T.d_Z61.F T.d_Z61.S ?_;rintro vs H Q E ⟨a,l,rfl,hT,aT,hs,q⟩;refine⟨rfl,fun _ _ _ _ hr hu nd=>⟨_,(ar (bt (bb qp (bj dJ (by rfl) T.n_len bS (ae (pv 0) ah)) aj) (ao (fG bK rfl (by rfl) T.g_TooMany T.x_TooMany)) aM)
   (ar (PS.nox (aH 1 nd (aD zaM (aD uh aj aj) aj)))
   (ao (bt (PT.nox (fJ (bj (Ul rfl) (by rfl) T.n_any jgT (ae (gn (g:=(gm K 2 (cB (a9 0) (cB (a9 1) fW)))) ["members", "number", "bound"] 2 [1] rfl (d7 yY) (Hv (pv 0))
    (λcl C s₀ H₀ fp=>(hZ (n:=2) rfl (cS (bf 0 NA) (cS (bf 1 NA) gR)))) (λcl C s₀ H₀ fp=>lL) (λcl C s₀ H₀ fp=>(cO E1 (bj Gs (by rfl) T.n_abs O4 (ae (pv 1) ah)) (pv 2)))) ah)))) (ao (fG bK rfl (by rfl) T.g_TooMany T.x_TooMany)) aM)))),?_⟩⟩
  obtain⟨ps,h1,h2⟩:=id hT;have dE:=h2.length;exists _,rfl,a,_,rfl,.inl (ai.of h1),_,_,rfl,rfl,_,rfl,?_;refine aF (by rw[ay];exact λy=>by have:=br y;lia) ?_;exists _,_,rfl,rfl,⟨by decide,by decide,by decide⟩,_,_,rfl,rfl,⟨by decide,by decide+kernel⟩,?_;have tP:∀t∈l,decide (((10:Int)^Int.toNat 50)^Int.toNat 20<=if t.2<0 then -t.2 else t.2)=false:=λt ht=>aL λy=>by
   have h:=hs t ht;have e1:((10:Int)^Int.toNat 50)^Int.toNat 20=10^1000:=by decide+kernel
   have e2:(10:Int)^100<10^1000:=by decide+kernel
   have e3:((10^100:Nat):Int)=(10:Int)^100:=by decide+kernel
   rw[e1]at y;generalize (10:Int)^1000=B at y e2;have h4:(if t.2<0 then -t.2 else t.2)=(t.2.natAbs:Int):=by split<;>lia
   rw[h4]at y;have h5:(t.2.natAbs:Int)<((10^100:Nat):Int):=Pd.mpr h;rw[e3]at h5;generalize (10:Int)^100=A at *;lia
  dsimp only;generalize ((10:Int)^Int.toNat 50)^Int.toNat 20=B at tP ⊢;exists _,rfl,a,rfl,⟨_,ai.of h1⟩,?_;refine jI (K:=K) (a:=a) (xs:=ps.map V.ref) (λi ys σ G=>∃v0 v1:Option V,σ=[v0,v1,some (.int B)]/\ys=(List.replicate i false).map V.bl/\G=H)
   ⟨none,none,rfl,rfl,rfl⟩ (λi ys σ G hi ⟨_,_,_,e1,e2⟩=>⟨by rw[e2];exact ai.of h1,by rw[e1];simp⟩) (by rw[ay];exact dq (cP (by lia))) ?_ ?_
  ·rintro i y ys σ G hi ⟨v0,v1,rfl,rfl,rfl⟩;obtain⟨p,gr,rfl⟩:=jH hi;obtain⟨t,bQ,dk⟩:=h2.at' gr;exists p,_,rfl,aG.of dk,rfl,_,_,rfl,_,_,rfl,rfl,?_;refine tt ?_;exists _,rfl,_,rfl,_,rfl,_,_,rfl,rfl,?_;dsimp only;rw[tP t (cM bQ)];exists _,_,rfl,?_,rfl;rw[Mb,aQ];rfl
  ·rintro ys σ G ⟨v0,v1,rfl,rfl,rfl⟩ D hD;exists D,_,rfl,ai.of au,_,rfl,?_;refine aF ?_ (q _ (ag.upd hD));rw[ay];intro y;obtain⟨b,hb,z⟩:=yb.mp y;rw[(List.mem_replicate.mp hb).2]at z;cases z
def QV(K:Frag):Sp:=λvs H Q _=>∃(a:Addr) (ns:List Int) (m:Nat) (s:Int),vs=[.ref a,.int s]/\H a=some (.lst (ns.map V.int))/\ns.length=2^m/\(s=1\/s = -1)/\m<=16 /\
 ∀(D:Addr) (H':Hp),(D=a\/H D=none)->H' D=some (.lst ((qi s ns m).map V.int))->ag H H'->Q (.ref D) H'
def MU:(["number","low","sign"]:List Str).Nodup:=by decide+kernel
def zbZ(T:Txt w K mg):yX.Ok P w K mg base 1 (QV K):=by
  refine Rw.ok T.d_Z17.F T.d_Z17.S ?_;rintro vs H Q E ⟨a,ns,m,s',rfl,ha,aT,hs,hm,q⟩;refine⟨rfl,fun _ _ _ _ hr hu nd=>⟨_,(ar (aH 2 nd (aD tS.j (iY yH zW yT wH (bj dJ (by rfl) T.n_len bS (ae (pV 0) ah))) aj))
   (ar (eN dQ rfl (pd rfl T.n_range (ae (pV 2) ah)) (bf 3 nd) (ar (aH 4 nd (xE (pV 0) (cJ aj) (cJ aj))) (ao (aH 0 nd (aD lB (pV 4) (gn (g:=(gm K 2 (cB (a9 0) (cB (a9 1) fW)))) ["number", "low", "sign"] 2 [1] rfl (d7 yX) (KZ rfl T.n_zip (ae (xE (pV 0) (cJ aj) (cJ aj)) (ae (pV 4) ah))) (λcl C s₀ H₀ fp=>(hZ (n:=2) rfl (cS (bf 0 MU) (cS (bf 1 MU) gR)))) (λcl C s₀ H₀ fp=>lL) (λcl C s₀ H₀ fp=>(aD fg.j (pV 0) (aD gC.c (pV 2) (pV 1)))))))))) (ao (az (pV 0))))),?_⟩⟩
  have TH:(2:Nat)^m<=2^16:=dm (by decide) hm;exists a,_,rfl,.inl (ai.of ha),rfl,_,rfl,rfl,?_;rw[ay,aT,Tf];exists (((m+1:Nat):Int)-1),rfl,by lia,by lia,?_;have em:((((m+1:Nat):Int)-1)).toNat=m:=by lia
  rw[em];refine qL (n:=m) (λi σ H2=>∃(v3 v4:Option V) (b:Addr) (ms:List Int),σ=[some (.ref b),some (.int s'),some (.int (((m+1:Nat):Int)-1)),v3,v4]/\(b=a\/H b=none)/\H2 b=some (.lst (ms.map V.int))/\mK s' (bR ns) m i ms/\ag H H2)
   ⟨none,none,a,ns,rfl,.inl rfl,ha,mK.start _ _ _ aT,ag.refl _⟩ ?_ ?_
  ·rintro i σ H2 hi ⟨v3,v4,b,ms,rfl,hb,j9,ht,s2⟩;have Qg:=ht.1;have e1:2^m=2*2^(m-1):=by rw[<-An];congr 1;lia
   have da:(ms.map V.int).length=2*2^(m-1):=by rw[ay,Qg,e1]
   have p0:=qC (m-1);have hm0:(2:Nat)^(m-1)<=2^16:=dm (by decide) (by lia);generalize hn:2^(m-1)=n at *;have ec:∀c,c<2->iV c (((ms.map V.int).length-c+1)/2) (ms.map V.int)=((List.range n).map λk=>bR ms (2*k+c)).map V.int:=λc hc=>by
    rw[da,show (2*n-c+1)/2=n by lia];exact Rh c n ms (by rw[ay]at da;exact da) hc
   exists rfl,0,b,_,rfl,rfl,ai.of j9,cb _,λw hw=>?_;generalize eU:upd H2 w _=H3;have s3:=(nw eU hw).1;have nL:H3 w=some (.lst (((List.range n).map λk=>bR ms (2*k)).map V.int)):=by rw[(nw eU hw).2,ec 0 (by decide)];rfl
   exists rfl,1,b,_,rfl,rfl,ai.of (s3 _ _ j9),by lia,λx hx=>?_;generalize eU:upd H3 x _=H4;have s4:=(nw eU hx).1;have Nw:H4 x=some (.lst (((List.range n).map λk=>bR ms (2*k+1)).map V.int)):=by rw[(nw eU hx).2,ec 1 (by decide)]
   have AK:=s4 _ _ nL;exists x,w,rfl,⟨_,ai.of Nw⟩,⟨_,ai.of AK⟩,?_;refine Kt (K:=K) (a:=x) (b:=w) (xs:=((List.range n).map λk=>bR ms (2*k+1)).map V.int) (ys:=((List.range n).map λk=>bR ms (2*k)).map V.int) (by simp) (λi zs σ H5=>∃v0 v1:Option V,σ=[v0,v1,some (.int s')]/\zs=((List.range i).map λk=>bR ms (2*k+1)+s'*bR ms (2*k)).map V.int/\ag H4 H5)
    ⟨none,none,rfl,rfl,ag.refl _⟩ (λi zs σ H5 hi ⟨_,_,_,e1,e2⟩=>⟨ai.of (e2 _ _ Nw),ai.of (e2 _ _ AK),by rw[e1];simp⟩) (by simp;exact dq (cP (by lia))) ?_ ?_
   ·rintro i u v zs σ H5 W hu hv ⟨v0,v1,rfl,rfl,s5⟩ hW;have Gh:i<n:=by
     have:=(d6.mp hu).1
     simpa using this
    have eu:u=V.int (bR ms (2*i+1)):=by
     rw[bY,bY,qc Gh]at hu;exact (cD hu).symm
    have ev:v=V.int (bR ms (2*i)):=by
     rw[bY,bY,qc Gh]at hv;exact (cD hv).symm
    subst eu ev;have s6:ag H5 (upd H5 W (.tup [.int (bR ms (2*i+1)),.int (bR ms (2*i))])):=ag.upd hW;exists W,_,rfl,aG.of au,rfl,_,_,rfl,_,_,rfl,rfl,?_;refine tt ?_;exists tZ (by lia) (by lia),some (.int (bR ms (2*i+1))),some (.int (bR ms (2*i))),rfl,?_,s5.trans s6;rw[sk,aQ,aQ];rfl
   ·rintro zs σ H5 ⟨v0,v1,rfl,rfl,s5⟩ D hD;have hlx:(((List.range n).map λk=>bR ms (2*k+1)).map V.int).length=n:=by simp
    rw[hlx];have s6:ag H5 (upd H5 D (.lst (((List.range n).map λk=>bR ms (2*k+1)+s'*bR ms (2*k)).map V.int))):=ag.upd hD;exists w,D,_,_,rfl,rfl,s6 _ _ (s5 _ _ AK),au,(by simp;exact dq (cP (by lia))),λc hc=>?_;have S6:=s2.trans (s3.trans (s4.trans (s5.trans s6)));exists _,_,c,mw s' n ms,rfl,.inr (S6.free hc),?_,?_,S6.trans (ag.upd hc)
    ·rw[au];unfold mw;rw[aQ]
    ·rw[<-hn];exact ht.next hi
  ·rintro σ H2 ⟨v3,v4,b,ms,rfl,hb,j9,ht,s2⟩;refine q b H2 hb ?_ s2;rw[<-ht.all aT];exact j9
def VY(K:Frag):Sp:=λvs H Q _=>∃(a:Addr) (l:av) (m:Nat),vs=[.ref a,.int (m:Int)]/\TL K H a l/\IsForm l/\l.length<=100000/\m<=16 /\
 ∀(D:Addr) (H':Hp),H D=none->H' D=some (.lst ((qi 1 ((List.range (2^m)).map λk:Nat=>aK l (k:Int)) m).map V.int))->ag H H'->Q (.ref D) H'
def V5:(["members","numbers"]:List Str).Nodup:=by decide+kernel
def zcO(T:Txt w K mg):yZ.Ok P w K mg base 2 (VY K):=by
  refine Rw.ok T.d_Z66.F T.d_Z66.S ?_;rintro vs H Q E ⟨a,l,m,rfl,hT,hF,aT,hm,q⟩;refine⟨rfl,fun _ _ _ _ hr hu nd=>⟨_,(ar (aH 2 nd (gY (Xy rfl) rfl T.n_dict jgQ (ae (pV 0) ah))) (ao (az (aB T.d_Z17 (zbZ T) hr (ae (gn (g:=(a9 0)) ["members", "numbers"] 1 [2] rfl (d7 yZ) (pd rfl T.n_range (ae (aB T.d_Z4 (nk T) hr (ae (pV 1) ah)) ah)) (λcl C s₀ H₀ fp=>(bf 0 V5)) (λcl C s₀ H₀ fp=>lL) (λcl C s₀ H₀ fp=>(Ar hu (pV 1) (pV 0) aj ⟨rfl,rfl,rfl,rfl⟩))) (ae aj ah)))))),?_⟩⟩
  exists a,l,rfl,hT,by lia,λd hd=>?_;generalize eU:upd H d _=H1;obtain⟨s1,cN⟩:=nw eU hd;have pw:((2:Int)^m)=((2^m:Nat):Int):=by norm_cast
  have e2:((2:Int)^m).toNat=2^m:=by rw[pw];rfl
  have TH:(2:Nat)^m<=2^16:=dm (by decide) hm;exists m,rfl,by lia,(2:Int)^m,rfl,by lia,by lia,?_;refine Td (lo:=0) (n:=((2:Int)^m).toNat) (λi ys σ H2=>∃v0:Option V,σ=[v0,some (.ref d)]/\ys=((List.range i).map λk:Nat=>aK l (k:Int)).map V.int/\H2=H1) ⟨none,rfl,rfl,rfl⟩ (λi ys σ H2 ⟨_,_,e,_⟩=>by rw[e];simp) (by rw[e2];exact dq (cP (by lia))) ?_ ?_
  ·rintro i ys σ H2 hi ⟨v0,rfl,rfl,rfl⟩;unfold a9;refine tt ?_;exists d,rfl,.inl ⟨_,.inl cN⟩,_,gG.k (k:=Sum.inl (0+(i:Int))) cN,?_;rw[qQ];have eg:((look (mX [] l) (0+(i:Int))).map V.int).getD (V.int 0)=V.int (aK l (i:Int)):=by
    rw[<-za8 hF,ua];unfold dh;cases look (mX [] l) (i:Int)<;>rfl
   exists some (.int (0+(i:Int))),rfl,?_,rfl;rw[sk,aQ,aQ,eg];rfl
  ·rintro ys σ H2 ⟨v0,rfl,rfl,rfl⟩ D hD;rw[e2];have s2:ag H2 (upd H2 D (.lst (((List.range (2^m)).map λk:Nat=>aK l (k:Int)).map V.int))):=ag.upd hD;exists D,_,m,1,rfl,au,by simp,.inl rfl,hm,λD' H' ZA hl s3=>?_;refine q D' H' ?_ hl (s1.trans (s2.trans s3));rcases ZA with z|z
   ·subst z;exact s1.free hD
   ·exact s1.free (s2.free z)
def Nn:(["members","number"]:List Str).Nodup:=by decide+kernel
def Rf(T:Txt w K mg):xx.Ok P w K mg base 1 (zaE K):=by
  refine Rw.ok T.d_Z8.F T.d_Z8.S ?_;rintro vs H Q E ⟨a,l,rfl,⟨ps,hS,hT⟩,aT,q⟩;refine⟨rfl,fun _ _ _ _ hr hu nd=>⟨_,(ao (az (bj (Dc rfl) (by rfl) T.n_sum Aw (ae (gn (g:=(gm K 2 (cB (a9 0) (cB (a9 1) fW)))) ["members", "number"] 2 [] rfl (d7 xx) (dM (pV 0))
    (λcl C s₀ H₀ fp=>(hZ (n:=2) rfl (cS (bf 0 Nn) (cS (bf 1 Nn) gR)))) (λcl C s₀ H₀ fp=>(jM (PW.pt (gv (bb aY (pV 0) aj) (jg (bb jq.j (pV 1) aj)))))) (λcl C s₀ H₀ fp=>(pV 1))) ah)))),?_⟩⟩
  exists ⟨_,hS⟩,?_;refine jI (K:=K) (a:=a) (xs:=ps.map V.ref) (λi ys σ H2=>∃(v0 v1:Option V),σ=[v0,v1]/\H2=H/\ys=(((l.take i).filter mi).map (·.2)).map V.int)
   ⟨none,none,rfl,rfl,rfl⟩ (λi ys σ H2 hi ⟨_,_,_,e,e2⟩=>⟨by rw[e];exact hS,by
    rw[e2,ay,ay];exact bp (gI _ _) (by rw[c7];lia)⟩) (by rw[ay,hT.length];exact dq (cP (by omega))) ?_ ?_
  ·rintro i y ys σ H2 hi ⟨v0,v1,rfl,rfl,rfl⟩;obtain⟨p,gr,rfl⟩:=jH hi;obtain⟨t,bQ,dk⟩:=hT.at' gr;have bz:l.take (i+1)=l.take i++[t]:=by rw[dR,bQ];rfl
   exists p,_,rfl,aG.of dk,rfl,_,_,rfl,_,_,rfl,rfl,?_;exists _,rfl,?_;refine kg (λh1=>?_) (λh1=>?_)
   ·have hV:t.1=0:=by have:=br h1;injection this
    have hp:mi t=true:=by unfold mi;simp[hV]
    refine bP ⟨_,_,rfl,rfl,?_⟩;rw[bz,fS,aQ,aQ];simp[hp]
   ·have hV:¬t.1=0:=λz=>h1 (aC (congrArg V.int z))
    exists _,rfl,?_;refine kg (λh2=>?_) (λh2=>?_)
    ·have hp:mi t=true:=by unfold mi;simp[br h2]
     exists _,_,rfl,rfl,?_;rw[bz,fS,aQ,aQ];simp[hp]
    ·have hp:mi t=false:=by
      unfold mi;have iq:¬t.2<0:=λz=>h2 (aC z)
      simp[hV,iq]
     exists _,_,rfl,rfl,?_;rw[bz,fS,aQ,aQ];simp[hp]
  ·rintro ys σ H2 ⟨v0,v1,rfl,rfl,rfl⟩ D hD;exists D,_,rfl,ai.of au,?_
   have:=q _ (ag.upd (o:=.lst ((((l.take (ps.map V.ref).length).filter mi).map (·.2)).map V.int)) hD)
   rw[ay,hT.length,dH]at this ⊢;exact this
def zcy(K:Frag):Sp:=λvs H Q _=>∃a:Addr,vs=[.ref a,.int 0]/\a7 H a AF/\∀H',ag H H'->Q (.int 0) H'
def Ua(T:Txt w K mg):DF.Ok P w K mg base 2 (zcy K):=by
  refine Rw.ok T.d_Z51.F T.d_Z51.S ?_;rintro vs H Q E ⟨a,rfl,hT,q⟩;refine⟨rfl,fun _ _ _ _ hr hu nd=>⟨_,(ar (bt (bb E1.j (aB T.d_Z8 (Rf T) hr (ae (pV 0) ah)) (pV 1)) (ao (az aj)) aM) (ar wX (ao wX))),?_⟩⟩
  exists a,AF,rfl,hT.tl,by decide,λH1 s1=>?_;exists _,rfl,?_;exact aU (by decide) (q H1 s1)
def T3(K:Frag):Sp:=λvs H Q _=>∃a:Addr,vs=[.ref a,.int 1]/\a7 H a AF/\∀(c:Addr) (H':Hp),H' c=some (.tup [.int 0,.int 0,.int 0])->ag H H'->Q (.ref c) H'
def Kp:(["members","own","size"]:List Str).Nodup:=by decide+kernel
def zcs(T:Txt w K mg):xY.Ok P w K mg base 3 (T3 K):=by
  refine Rw.ok T.d_Z45.F T.d_Z45.S ?_;rintro vs H Q E ⟨a,rfl,hT,q⟩;refine⟨rfl,fun _ _ _ _ hr hu nd=>⟨_,(ar (aH 2 nd (aB T.d_Z66 (zcO T) hr (ae (pV 0) (ae (pV 1) ah)))) (ar (aH 3 nd (bj (zby rfl) (by rfl) T.n_min Z3 (ae (pV 2) ah)))
   (ar (aH 4 nd (aB T.d_Z4 (nk T) hr.m (ae (pV 1) ah))) (ar (EZ (i:=5) (g:=(gm K 2 (cB (a9 0) (cB (a9 1) fW)))) ["members", "own", "size"] 2 [4] nd rfl (Or.inl rfl) rfl (d7 xY) (dM (pV 0)) (λcl C s₀ H₀ fp=>(hZ (n:=2) rfl (cS (bf 0 Kp) (cS (bf 1 Kp) gR)))) (λcl C s₀ H₀ fp=>(jM (bb jq.j (pV 0) (pV 2)))) (λcl C s₀ H₀ fp=>(eK (ae (pV 0) (ae (pV 1) ah))))) (ao (az (eK (ae (pV 3) (ae (ck dI Lv Gw SU (pV 2) (ae (pV 3) ah)) (ae (aB T.d_Z51 (Ua T) hr (ae (pV 5) (ae (pV 3) ah))) ah)))))))))),?_⟩⟩
  have h0:∀t∈AF,0<=t.1/\t.1<2^1:=λt ht=>by rw[bh.mp ht];decide
  exists a,AF,1,rfl,hT.tl,Hm,by decide,by decide,λD H1 hD vz s1=>?_;rw[RN h0]at vz;have Lm:H1 D=some (.lst ((YF AF 1).map V.int)):=vz;exists D,_,rfl,ai.of Lm,by decide,λn hn=>?_;obtain rfl:n=0:=by
   have h1:n∈[0,1]:=hn.1;have h2:=hn.2 0 (by decide);rcases ba.mp h1 with z|z
   ·exact z
   ·rw[bh.mp z]at h2;lia
  exists 1,rfl,by lia,?_;exists (hT.keep s1).tl.seq,?_;refine ym (λt=>decide (t.1<2^1)) (λt=>t) (hT.keep s1).tl (by decide) [some (.int (2^1))] rfl (λt ht H2 R s2 r=>?_) (λt ht hp H2 R s2 r=>?_) λE2 ys H2 hE b9 s2=>?_
  ·nomatch _,rfl,r
  ·nomatch dw,r
  rw[yS,List.filter_eq_self.mpr λt ht=>aC (h0 t ht).2]at b9;have Qe:=s2 _ _ Lm;exists .inl ⟨rfl,_,ai.of Qe⟩,D,_,0,rfl,rfl,Qe,hn.1,?_;exists E2,rfl,b9,λH3 s3=>?_;exists j1,λc hc=>?_;exact q c _ au (s1.trans (s2.trans (s3.trans (ag.upd hc))))
def za1:Sp:=λvs H Q _=>∃n:Int,vs=[.int n]/\Q (.str (S [32,sgn n,32])) H
def N5(T:Txt w K mg):Bh.Ok P w K mg base 1 za1:=by
  refine Rw.ok T.d_Z64.F T.d_Z64.S ?_;rintro vs H Q E ⟨n,rfl,q⟩;exists rfl,λ_ _ _ _ hr hu nd=>⟨_,(ao (az (rG (bb jq.j (pV 0) aj) ak ak))),?_⟩;exists _,rfl,?_;refine kg (λh=>?_) (λh=>?_)
  ·have h':n<0:=br h;have e:sgn n=45:=ax h';rw[e]at q;rw[<-TV]at q;exact q
  ·have h':¬n<0:=λz=>h (aC z)
   have e:sgn n=43:=aq h';rw[e]at q;rw[<-Zo]at q;exact q
def UR:Sp:=λvs H Q _=>∃(g m:Nat),vs=[.int (g:Int),.int (m:Int)]/\m<=100000 /\
 ∀(D:Addr) (H':Hp),H D=none->H' D=some (.lst (((List.range m).map λi:Nat=>((g/2^i%2:Nat):Int)).map V.int))->ag H H'->Q (.ref D) H'
def Tc(T:Txt w K mg):Gf.Ok P w K mg base 1 UR:=by
  refine Rw.ok T.d_Z2.F T.d_Z2.S ?_;rintro vs H Q E ⟨g,m,rfl,hm,q⟩;refine⟨rfl,fun _ _ _ _ hr hu nd=>⟨_,(ar (aH 2 nd (bc ah)) (ar (eN dQ rfl (pd rfl T.n_range (ae (pV 1) ah)) (bf 3 nd) (ar (fZ (ck dI jG jl jS (pV 2) (ae (aD cI.c (pV 0) aj) ah))) (ao (aH 0 nd (aD sF.c (pV 0) aj))))) (ao (az (pV 2))))),?_⟩⟩
  exists cb _,λD hD=>?_;exists (m:Int),rfl,by lia,by lia,qL (n:=m) (λi σ H2=>∃v3:Option V,σ=[some (.int ((g/2^i:Nat):Int)),some (.int (m:Int)),some (.ref D),v3]/\H2=upd H D (.lst (((List.range i).map λi:Nat=>((g/2^i%2:Nat):Int)).map V.int))) ⟨none,?_,rfl⟩ ?_ ?_
  ·rw[Nat.pow_zero,Nat.div_one];rfl
  ·rintro i σ H2 hi ⟨v3,rfl,rfl⟩;exists .inl ⟨rfl,_,ai.of au⟩,(by show (0:Int)<2;decide),_,au,(by rw[ay,ay,nj];exact cP (by lia)),?_;exists ⟨by decide,by decide⟩,some (.int (0+(i:Int))),?_,?_
   ·show [some (V.int (((g/2^i:Nat):Int)/2)),_,_,_]=_;rw[show ((g/2^i:Nat):Int)/2=((g/2^(i+1):Nat):Int) by rw[kN,<-Nat.div_div_eq_div_mul];norm_cast]
   ·rw[zX,sk,aQ,aQ];rfl
  ·rintro σ H2 ⟨v3,rfl,rfl⟩;exact q D _ hD au (ag.upd hD)
def RA(K:Frag):Sp:=λvs H Q _=>∃(a:Nat),vs=[.int (a:Int)]/\a<2^1000 /\
 ∀(D:Addr) (H':Hp),H D=none->H' D=some (.lst (((lst a).map λk:Nat=>(k:Int)).map V.int))->ag H H'->Q (.ref D) H'
def JY:(["k","bit"]:List Str).Nodup:=by decide+kernel
def zcc(T:Txt w K mg):zu.Ok P w K mg base 2 (RA K):=by
  refine Rw.ok T.d_Z48.F T.d_Z48.S ?_;rintro vs H Q E ⟨a,rfl,ha,q⟩;refine⟨rfl,fun _ _ _ _ hr hu nd=>⟨_,(ao (az (gn (g:=(gm K 2 (cB (a9 0) (cB (a9 1) fW)))) ["k", "bit"] 2 [] rfl (d7 zu) (QT rfl T.n_enumerate (ae (aB T.d_Z2 (Tc T) hr (ae (pV 0) (ae (iY yH zW yT wH (pV 0)) ah))) ah)) (λcl C s₀ H₀ fp=>(hZ (n:=2) rfl (cS (bf 0 JY) (cS (bf 1 JY) gR)))) (λcl C s₀ H₀ fp=>(jM (bb aY (pV 1) aj))) (λcl C s₀ H₀ fp=>(pV 0))))),?_⟩⟩
  have hb:=DT ha;exists rfl,_,rfl,rfl,a,intBits (a:Int),rfl,by lia,λb H1 hbn gk s1=>?_;exists b,rfl,⟨_,ai.of gk⟩,?_;refine TX (K:=K) (a:=b) (xs:=((List.range (intBits (a:Int))).map λi:Nat=>((a/2^i%2:Nat):Int)).map V.int) (λi ys σ H2=>∃v0 v1:Option V,σ=[v0,v1]/\ys=(((List.range i).filter λk=>a.testBit k).map λk:Nat=>(k:Int)).map V.int/\ag H1 H2)
   ⟨none,none,rfl,rfl,ag.refl _⟩ (λi ys σ H2 hi ⟨_,_,_,e1,e2⟩=>⟨ai.of (e2 _ _ gk),by
    rw[e1,ay,ay];exact bp (gI _ _) (by rw[nj];exact aJ _)⟩) (by rw[ay,ay,nj];exact dq (cP (by lia))) ?_ ?_
  ·rintro i x ys σ H2 W hi ⟨v0,v1,rfl,rfl,s2⟩ hW;obtain⟨n,hn,rfl⟩:=A0 hi;rw[bY]at hn;have eA:i<intBits (a:Int):=by
    rcases kb i (intBits (a:Int))with z|z
    ·exact z
    ·rw[N8 (by rw[nj];exact z)]at hn;cases hn
   rw[qc eA]at hn;have og:((a/2^i%2:Nat):Int)=n:=cD hn;have s3:ag H2 (upd H2 W (.tup [.int (i:Nat),.int n])):=ag.upd hW;exists W,_,rfl,aG.of au,rfl,_,_,rfl,_,_,rfl,rfl,?_;exists _,rfl,?_;have Qb:=vJ (x:=a) (i:=i);by_cases h1:a/2^i%2=1
   ·have gk:a.testBit i=true:=by rw[Qb];exact aC h1
    refine aU (by rw[<-og,h1];decide) ?_;exists _,_,rfl,?_,s2.trans s3;rw[sk,fS,aQ,aQ];simp[gk]
   ·have gk:a.testBit i=false:=by rw[Qb];exact aL h1
    have h0:a/2^i%2=0:=by have:=EN (a/2^i) (by decide:2>0);lia
    refine aF (by rw[<-og,h0];decide) ⟨_,_,rfl,?_,s2.trans s3⟩;rw[sk,fS,aQ,aQ];simp[gk]
  ·rintro ys σ H2 ⟨v0,v1,rfl,rfl,s2⟩ D hD;refine q D _ (s1.free (s2.free hD)) ?_ (s1.trans (s2.trans (ag.upd hD)));rw[au,ay,ay,nj];rfl
def Y6(K:Frag):Sp:=λvs H Q _=>∃m:Nat,vs=[.int (m:Int)]/\m<2^16/\∀H',ag H H'->Q (.str (S (fK m))) H'
def Yo:(["k"]:List Str).Nodup:=by decide+kernel
def EG(T:Txt w K mg):xq.Ok P w K mg base 3 (Y6 K):=by
  refine Rw.ok T.d_Z63.F T.d_Z63.S ?_;rintro vs H Q E ⟨m,rfl,hm,q⟩;refine⟨rfl,fun _ _ _ _ hr hu nd=>⟨_,(ao (az (ck eV sv qR rg ak (ae (gn (g:=(a9 0)) ["k"] 1 [] rfl (d7 xq) (dM (aB T.d_Z48 (zcc T) hr (ae (pV 0) ah))) (λcl C s₀ H₀ fp=>(bf 0 Yo)) (λcl C s₀ H₀ fp=>lL) (λcl C s₀ H₀ fp=>(pD p9 (dX (v:=.str "abcdefghijklmnop") (by rfl) T.g_LETTERS ⟨_,rfl⟩) (pV 0)))) ah)))),?_⟩⟩
  exists rfl,?_;exists m,rfl,cy hm (dm (by decide) (by decide)),λD H1 hD vz s1=>?_;exists ⟨_,ai.of vz⟩,?_;have qA:(lst m).length<=16:=by have:=tY hm;unfold fK at this;rw[ay]at this;exact this
  refine jI (K:=K) (a:=D) (xs:=((lst m).map λk:Nat=>(k:Int)).map V.int) (λi ys σ G=>∃v0:Option V,σ=[v0]/\ys=(((fK m).take i).map λc=>S [c]).map V.str/\ag H1 G)
   ⟨none,rfl,rfl,ag.refl _⟩ (λi ys σ G hi ⟨_,_,e1,e2⟩=>⟨ai.of (e2 _ _ vz),by rw[e1,ay,ay,c7];exact Ko _ _⟩) (by rw[ay,ay];exact bp qA (by decide)) ?_ ?_
  ·rintro i y ys σ G hi ⟨v0,rfl,rfl,sG⟩;obtain⟨x,hx,rfl⟩:=A0 hi;rw[bY]at hx;obtain⟨k,hk,rfl⟩:∃k,(lst m)[i]?=some k/\(k:Int)=x:=by
    cases e:(lst m)[i]? with
    |none=>rw[e]at hx;cases hx
    |some k=>rw[e]at hx;nomatch k,rfl,cD hx
   have qd:k<16:=by
    have:=zau hm (c:=97+k) (bV.mpr ⟨k,cM hk,rfl⟩)
    lia
   unfold a9;refine tt ?_;exists _,_,_,rfl,rfl,(by rw[nQ,aN];show 16<=sizeLine;decide),(by rw[nQ,gx];exact aZ (U2 k qd)),?_;exists _,rfl,?_,sG
   have:(fK m)[i]?=some (97+k):=by unfold fK;rw[bY,hk];rfl
   rw[dR,this,aQ,aQ];rfl
  ·rintro ys σ G ⟨v0,rfl,rfl,sG⟩ E hE;have hl:(fK m).take ((((lst m).map λk:Nat=>(k:Int)).map V.int).length)=fK m:=mG (by unfold fK;simp);rw[hl];exists _,E,(fK m).map λc=>S [c],rfl,rfl,ai.of au,?_,?_
   ·rw[Pe,jT]
    have:=tY hm
    simp[aN];lia
   ·rw[jT,zbw];exact q _ (s1.trans (sG.trans (ag.upd hE)))
def zaC(K:Frag):Sp:=λvs H Q _=>∃m n:Nat,vs=[.int (m:Int),.int (n:Int)]/\m<2^16/\n<10^63/\∀H',ag H H'->Q (.str (S (mI m n))) H'
def W4(T:Txt w K mg):DC.Ok P w K mg base 4 (zaC K):=by
  refine Rw.ok T.d_Z65.F T.d_Z65.S ?_;rintro vs H Q E ⟨m,n,rfl,hm,hn,q⟩;refine⟨rfl,fun _ _ _ _ hr hu nd=>⟨_,(ar (bt (PW.pt (iD (bb aY (pV 1) aj) (iM (bb fP (pV 0) aj)))) (ao (az (aB T.d_Z63 (EG T) hr (ae (pV 0) ah)))) aM) (ao (az (aD kT (gY md rfl T.n_str lg (ae (pV 1) ah)) (aB T.d_Z63 (EG T) hr (ae (pV 0) ah)))))),?_⟩⟩
  have fin:¬(n=1/\m≠0)->∀H1,ag H H1->Q (.str (S (gL n)++S (fK m))) H1:=λz H1 s1=>by
   rw[kx];have e:mI m n=gL n++fK m:=by unfold mI;rw[aq z]
   rw[<-e];exact q H1 s1
  have aT:(S (gL n)).length+(S (fK m)).length<=sizeLine:=by
   rw[aN,aN];have h1:(gL n).length<=63:=zN (k:=62) hn;have h2:=tY hm;exact bp (E4 h1 h2) (by decide)
  exists _,rfl,?_;refine kg (λh1=>?_) (λh1=>?_)
  ·have n1:n=1:=by
    have:=br h1
    injection this with this;lia
   exists _,rfl,?_;refine kg (λh2=>?_) (λh2=>?_)
   ·have m0:m≠0:=λz=>by rw[z]at h2;simp at h2
    exists m,rfl,hm,λH1 s1=>?_;have e:mI m n=fK m:=by unfold mI;rw[ax ⟨n1,m0⟩];rfl
    rw[<-e];exact q H1 s1
   ·have z:¬(n=1/\m≠0):=λz=>h2 (by
     have m0:=z.2;simp[m0])
    exists _,rfl,Bu hn,?_;rw[Ga];nomatch m,rfl,hm,λH1 s1=>⟨_,_,rfl,rfl,aT,fin z H1 s1⟩
  ·have z:¬(n=1/\m≠0):=λz=>h1 (by rw[z.1];simp)
   exists _,rfl,Bu hn,?_;rw[Ga];nomatch m,rfl,hm,λH1 s1=>⟨_,_,rfl,rfl,aT,fin z H1 s1⟩
def Gv:(["members","number"]:List Str).Nodup:=by decide+kernel
def R9(T:Txt w K mg):xW.Ok P w K mg base 5 (Zc K):=by
  refine Rw.ok T.d_Z15.F T.d_Z15.S ?_;rintro vs H Q E ⟨a,f,rfl,hT,hs,hl,q⟩;refine⟨rfl,fun _ _ _ _ hr hu nd=>⟨_,(ar (bt (iO (oG (pV 0) (fun _=>rfl))) (ao (az ak)) aM) (ar (EZ (i:=1) (g:=(gm K 2 (cB (a9 0) (cB (a9 1) fW)))) ["members", "number"] 2 [] nd rfl (Or.inl rfl) rfl (d7 xW) (dM (pV 0)) (λcl C s₀ H₀ fp=>(hZ (n:=2) rfl (cS (bf 0 Gv) (cS (bf 1 Gv) gR)))) (λcl C s₀ H₀ fp=>lL) (λcl C s₀ H₀ fp=>(aD kT (aB T.d_Z64 (N5 T) hr.m (ae (pV 1) ah)) (aB T.d_Z65 (W4 T) hr (ae (pV 0) (ae (bj Gs (by rfl) T.n_abs O4 (ae (pV 1) ah)) ah))))))
   (ar (aH 2 nd (rG (bb jq.j (xT (xL (pV 0) aj) aj) aj) ak ak)) (ao (az (aD kT (pV 2) (dj lN (ck eV sv qR rg ak (ae (pV 1) ah)) (cJ (bj gp (by rfl) T.n_len bS (ae (aB T.d_Z64 (N5 T) hr.m (ae (xT (xL (pV 0) aj) aj) ah)) ah))) di))))))),?_⟩⟩
  obtain⟨ps,hS,hP⟩:=id hT;have dE:=hP.length;cases f with
  |nil =>
   have hn:ps=[]:=pN dE;exists false,.inl ⟨_,ai.of hS,by rw[hn];rfl⟩,?_;refine bP ?_
   have:=q H (ag.refl _)
   rw[show IQ []=[48] from rfl,<-fz]at this;exact this
  |cons t0 r =>
   have hn:ps≠[]:=λz=>by rw[z]at dE;simp at dE
   exists true,.inl ⟨_,ai.of hS,by cases ps with|nil=>exact absurd rfl hn|cons _ _=>rfl⟩,?_;refine bL ?_;exists ⟨_,ai.of hS⟩,?_;have hlf:(t0::r).length<=100000:=by lia
   refine jI (K:=K) (a:=a) (xs:=ps.map V.ref) (λi ys σ G=>∃v0 v1:Option V,σ=[v0,v1]/\ys=(((t0::r).take i).map λt=>S (cZ t)).map V.str/\ag H G)
    ⟨none,none,rfl,rfl,ag.refl _⟩ (λi ys σ G hi ⟨_,_,_,e1,e2⟩=>⟨ai.of (e2 _ _ hS),by rw[e1,ay,ay,c7];exact Ko _ _⟩) (by rw[ay];exact dq (cP (by lia))) ?_ ?_
   ·rintro i y ys σ G hi ⟨v0,v1,rfl,rfl,sG⟩;obtain⟨p,gr,rfl⟩:=jH hi;obtain⟨t,bQ,dk⟩:=hP.at' gr;have hok:=hs t (cM bQ);obtain⟨h0,h1,h2,h3⟩:=id hok;exists p,_,rfl,aG.of (sG _ _ dk),rfl,_,_,rfl,_,_,rfl,rfl,?_;refine tt ?_;have ea:(if t.2<0 then -t.2 else t.2)=((t.2.natAbs:Nat):Int):=by split<;>lia
    have em:t.1=((t.1.toNat:Nat):Int):=(mJ h0).symm;exists t.2,rfl,?_;exists _,rfl,?_;exists t.1.toNat,t.2.natAbs,by rw[ea,<-em];rfl,by lia,h3,λG1 s1=>?_;have hle:(S [32,sgn t.2,32]).length+(S (mI t.1.toNat t.2.natAbs)).length<=sizeLine:=by
     rw[aN,aN];exact bp (Cn (L3 (by omega) h3) _) (by show 3+79<=sizeLine;decide)
    exists _,_,rfl,rfl,hle,?_;exists _,_,rfl,?_,sG.trans s1;rw[kx,dR,bQ,aQ,aQ];rfl
   ·rintro ys σ G ⟨v0,v1,rfl,rfl,sG⟩ D hD;have pL:(t0::r).take (ps.map V.ref).length=t0::r:=by rw[ay,dE,dH]
    rw[pL];have s1:ag H (upd G D (.lst (((t0::r).map λt=>S (cZ t)).map V.str))):=sG.trans (ag.upd hD);have w1:upd G D (.lst (((t0::r).map λt=>S (cZ t)).map V.str)) D=some (.lst (((t0::r).map λt=>S (cZ t)).map V.str)):=au;generalize upd G D (.lst (((t0::r).map λt=>S (cZ t)).map V.str))=H1 at s1 w1;cases ps with
    |nil=>exact absurd rfl hn
    |cons p0 ps =>
     cases hP with
     |cons WZ hP =>
      have p7:=s1 _ _ hS;have iu:=s1 _ _ WZ;have NJ:(((t0::r).map λt=>S (cZ t)).map (·.length)).sum<=82*(t0::r).length:=by
       have go:∀l:av,(∀t∈l,zD t)->((l.map λt=>S (cZ t)).map (·.length)).sum<=82*l.length:=λl=>by
        induction l with
        |nil=>intro _;exact aJ _
        |cons t l ih =>
         intro qr;rw[bw,bw,gh,aN,aW];have h1:=Ge (qr t (by simp));have h2:=ih λu hu=>qr u (by simp[hu])
         lia
       exact go _ hs
      have ej:Txt.join (S []) ((t0::r).map λt=>S (cZ t))=S ([32,sgn t0.2,32]++(kJ t0++r.flatMap cZ)):=by
       have:=Ox ((t0::r).map cZ)
       rw[ft]at this;refine (show Txt.join (S []) ((t0::r).map (S ∘ cZ))=_ from this).trans ?_;rw[bw,mV,<-List.flatMap_def];unfold cZ;simp
      have Ea:([32,sgn t0.2,32]++(kJ t0++r.flatMap cZ)).length<=6000:=by
       have h1:=Ge (hs t0 (by simp));have h2:=Ov (r:=r) λu hu=>hs u (by simp[hu])
       have h3:([32,sgn t0.2,32]++(kJ t0++r.flatMap cZ)).length=(cZ t0).length+(r.flatMap cZ).length:=by unfold cZ;simp;lia
       simp only[aW]at hl;lia
      have fin:∀(x:Str),x=S (me t0.2)->(∀G2,ag H G2->Q (.str (x++S (kJ t0++r.flatMap cZ))) G2):=λx hx G2 s2=>by
       rw[hx,kx,<-iT];exact q G2 s2
      have e3:Txt.slice (S ([32,sgn t0.2,32]++(kJ t0++r.flatMap cZ))) (some ((S [32,sgn t0.2,32]).length:Int)) none=S (kJ t0++r.flatMap cZ):=PZ;have nR:(((t0::r).map λt=>S (cZ t)).map (·.length)).sum+((t0::r).map λt=>S (cZ t)).length*(ofString "").length<=16777216:=by
       rw[jT,aN,mC,BL];lia
      have Ao:ef (List.map V.ref (p0::ps)) 0=some (V.ref p0):=aZ (xs:=List.map V.ref (p0::ps)) (j:=0) rfl;have HD:∀(x:Str),x=S (me t0.2)->x.length+(S (kJ t0++r.flatMap cZ)).length<=sizeLine:=λx hx=>by
       rw[hx,aN,aN];have h3:(me t0.2).length<=1:=by unfold me;split<;>simp
       have h4:(kJ t0++r.flatMap cZ).length<=6000:=by rw[aS]at Ea;lia
       exact bp (E4 h3 h4) (by decide)
      exists _,ai.of p7,Ao,_,aG.of iu,rfl,_,rfl,?_;refine kg (λh=>?_) (λh=>?_)
      ·have hx:("-" : Str)=S (me t0.2):=by rw[oH];unfold me;rw[ax (br h)]
       exists rfl,_,D,_,rfl,rfl,ai.of w1,nR,?_;exists _,ai.of p7,Ao,_,aG.of iu,rfl,t0.2,rfl,_,rfl,j1,?_;exists _,rfl,(by rw[jT,ej,aN];exact bp Ea (by decide)),_,_,rfl,rfl,?_,?_
       ·rw[jT,ej,e3];exact HD _ hx
       ·rw[jT,ej,e3];exact fin _ hx _ s1
      ·have hx:("" : Str)=S (me t0.2):=by rw[jT];unfold me;rw[aq (λz=>h (aC z))]
       exists rfl,_,D,_,rfl,rfl,ai.of w1,nR,?_;exists _,ai.of p7,Ao,_,aG.of iu,rfl,t0.2,rfl,_,rfl,j1,?_;exists _,rfl,(by rw[jT,ej,aN];exact bp Ea (by decide)),_,_,rfl,rfl,?_,?_
       ·rw[show Txt.join (ofString "")=Txt.join (S []) by rw[jT],ej,e3];exact HD _ hx
       ·rw[show Txt.join (ofString "")=Txt.join (S []) by rw[jT],ej,e3];exact fin _ hx _ s1
def VQ(K:Frag)(TM:Addr):Sp:=λvs H Q E=>∃(a:Addr) (l:av),vs=[.ref a]/\a7 H a l/\(∀t∈l,0<=t.1)/\(¬10<qf l->Q (.int ((qf l:Nat):Int)) H)/\(10<qf l->E (.ref TM) none H)
def MG(T:Txt w K mg):D6.OkE P w K mg base 2 (VQ K lQ):=by
  refine Rw.okE T.d_Z5.F T.d_Z5.S ?_;rintro vs H Q E ⟨a,l,rfl,hT,h0,q,e⟩;refine⟨rfl,fun _ _ _ _ hr hu nd=>⟨_,(ar (PS.nox (aH 1 nd (iY yH zW yT wH (aB T.d_Z74 (zB T) hr (ae (pV 0) ah))))) (ar (bt (bb qp.j (pV 1) aj) (ao (fG bK rfl (by rfl) T.g_TooMany T.x_TooMany)) aM)
   (ao (PS.nox (az (pV 1)))))),?_⟩⟩
  exists a,l,rfl,hT.tl,h0,rfl,_,rfl,rfl,?_;exists _,rfl,?_;refine kg (λz=>?_) (λz=>?_)
  ·exact e (by have:=br z;unfold qf;lia)
  ·exact q λy=>z (aC (by unfold qf at y;lia))
def zci:Sp:=λvs H Q _=>∃(b m:Nat),vs=[.int (b:Int),.int (2^m)]/\b<2^m/\m<=100/\Q (.int (2^(m-pc b))) H
def zcz(T:Txt w K mg):DM.Ok P w K mg base 1 zci:=by
  refine Rw.ok T.d_Z19.F T.d_Z19.S ?_;rintro vs H Q E ⟨b,m,rfl,hb,hm,q⟩;refine⟨rfl,fun _ _ _ _ hr hu nd=>⟨_,(ar (yG dQ (bb wN (pv 0) aj) (ar (aH 0 nd (aD xV (pv 0) (aD tS (pv 0) aj))) (ao (aH 1 nd (aD sF (pv 1) aj))))) (ao (az (pv 1)))),?_⟩⟩
  have pw:∀i:Nat,((2:Int)^i)=((2^i:Nat):Int):=λi=>by norm_cast
  refine X0 (λσ H2=>∃c k:Nat,σ=[some (.int (c:Int)),some (.int (2^k))]/\H2=H/\pc c<=k/\k-pc c=m-pc b)
   (λσ _=>match σ with|[some (.int c),_]=>c.toNat|_=>0) ⟨b,m,rfl,rfl,Nk m b hb,rfl⟩ ?_ ?_
  ·rintro σ H2 ⟨c,k,rfl,rfl,h1,h2⟩;exists _,rfl,rfl,_,rfl,?_;by_cases hc:c=0
   ·subst hc;rw[yg,MD]at h2;refine aF (by simp) ⟨_,rfl,?_⟩;rw[h2];exact q
   ·obtain⟨l1,l2⟩:=N7 c c (aJ _) hc;refine aU (by simp;assumption) ?_;have e1:Builtin.bitAnd (c:Int) ((c:Int)-1)=((c&&&(c-1):Nat):Int):=by
     rw[show (c:Int)-1=((c-1:Nat):Int) by lia,Av]
    have e2:((2:Int)^k)/2=2^(k-1):=by
     rw[show k=k-1+1 by lia,Ol];simp
    exists _,rfl,_,rfl,_,_,rfl,rfl,_,_,rfl,rfl,_,rfl,_,_,rfl,rfl,⟨by decide,by decide⟩,⟨c&&&(c-1),k-1,?_,rfl,by lia,by lia⟩,?_
    ·show [some (V.int (Builtin.bitAnd (c:Int) ((c:Int)-1))),some (V.int ((2:Int)^k/2))]=_;rw[e1,e2]
    ·show (Builtin.bitAnd (c:Int) ((c:Int)-1)).toNat<((c:Nat):Int).toNat;rw[e1];simpa using l1
  ·rintro σ H2 Q1 Q2 h ⟨v,h1,h2,b,h3,h4⟩;nomatch v,h1,h2,b,h3,h _ _ h4
def LQ(K:Frag):Sp:=λvs H Q _=>∃(a:Addr) (l:av) (m:Nat),vs=[.ref a,.int (m:Int)]/\TL K H a l/\(∀t∈l,0<=t.1/\t.1<2^m)/\l.length<=100000/\m<=100/\Vs (2^5000) l /\
 ∀H',ag H H'->Q (.int (RI m l)) H'
def GR:(["members","number","size"]:List Str).Nodup:=by decide+kernel
def zb2(T:Txt w K mg):xR.Ok P w K mg base 2 (LQ K):=by
  refine Rw.ok T.d_Z78.F T.d_Z78.S ?_;rintro vs H Q E ⟨a,l,m,rfl,⟨ps,hS,hT⟩,hk,aT,hm,vG,q⟩;refine⟨rfl,fun _ _ _ _ hr hu nd=>⟨_,(ar (aH 2 nd (aB T.d_Z4 (nk T) hr (ae (pV 1) ah)))
   (ao (az (bj (Dc rfl) (by rfl) T.n_sum Aw (ae (gn (g:=(gm K 2 (cB (a9 0) (cB (a9 1) fW)))) ["members", "number", "size"] 2 [2] rfl (d7 xR) (dM (pV 0))
    (λcl C s₀ H₀ fp=>(hZ (n:=2) rfl (cS (bf 0 GR) (cS (bf 1 GR) gR)))) (λcl C s₀ H₀ fp=>(jM (bb jq.j (pV 0) (pV 2)))) (λcl C s₀ H₀ fp=>(aD gC.c (pV 1) (aB T.d_Z19 (zcz T) hr (ae (pV 0) (ae (pV 2) ah)))))) ah))))),?_⟩⟩
  have pw:∀i:Nat,((2:Int)^i)=((2^i:Nat):Int):=λi=>by norm_cast
  exists m,rfl,hm,?_;exists ⟨_,hS⟩,?_;refine jI (K:=K) (a:=a) (xs:=ps.map V.ref) (λi ys σ H2=>∃v0 v1:Option V,σ=[v0,v1,some (.int (2^m))]/\ys=((l.take i).map λt=>t.2*2^(m-pc t.1.toNat)).map V.int/\H2=H)
   ⟨none,none,rfl,rfl,rfl⟩ (λi ys σ H2 hi ⟨_,_,_,e1,e2⟩=>⟨by rw[e2];exact hS,by rw[e1,ay,ay,c7];lia⟩) (by rw[ay,hT.length];exact dq (cP (by omega))) ?_ ?_
  ·rintro i y ys σ H2 hi ⟨v0,v1,rfl,rfl,rfl⟩;obtain⟨p,gr,rfl⟩:=jH hi;obtain⟨t,bQ,dk⟩:=hT.at' gr;have fT:=cM bQ;obtain⟨k0,k1⟩:=hk t fT;have bz:l.take (i+1)=l.take i++[t]:=by rw[dR,bQ];rfl
   have e1:((t.1.toNat:Nat):Int)=t.1:=mJ k0;have e2:=pw m;exists p,_,rfl,aG.of dk,rfl,_,_,rfl,_,_,rfl,rfl,?_;exists _,rfl,aU (aC k1) ?_;exists t.1.toNat,m,(by rw[e1];rfl),(by lia),hm,?_;have gk:t.2.natAbs<2^5001:=je (vG t fT) (JJ (by decide) (by decide));have j9:((2:Int)^(m-pc t.1.toNat)).natAbs<2^101:=by
    rw[pw,Mw];exact JJ (by decide) (by lia)
   exists zcb gk j9 (by decide),some (.int t.1),some (.int t.2),rfl,?_,rfl;rw[bz,aQ,aQ];rfl
  ·rintro ys σ H2 ⟨v0,v1,rfl,rfl,rfl⟩ D hD;rw[ay,hT.length,dH];nomatch D,_,rfl,ai.of au,q _ (ag.upd hD)
def Vw(T:Txt w K mg):BS.Ok P w K mg base 3 (LQ K):=by
  refine Rw.ok T.d_Z77.F T.d_Z77.S ?_;rintro vs H Q E ⟨a,l,m,rfl,hT,hk,aT,hm,vG,q⟩;exists rfl,λ_ _ _ _ hr hu nd=>⟨_,(ao (az (aB T.d_Z78 (zb2 T) hr (ae (pV 0) (ae (pV 1) ah))))),?_⟩;nomatch a,l,m,rfl,hT,hk,aT,hm,vG,q
def zam(K:Frag):Sp:=λvs H Q _=>∃(a:Addr) (w:W1),vs=[.str w.wd,.ref a]/\a7 H a AF/\∀x H',ag H H'->Q (.str x) H'
def vd:qf AF=1:=by decide+kernel
def Tx(T:Txt w K mg):CB.OkE P w K mg base 6 (zam K):=by
  refine Rw.okE T.d_Z72.F T.d_Z72.S ?_;rintro vs H Q E ⟨a,w0,rfl,hT,q⟩;refine⟨rfl,fun _ _ _ _ hr hu nd=>⟨_,(ar (PS.nox (bB (bD aY (pV 0) ak) (ao (az (aB T.d_Z15 (R9 T) hr (ae (pV 1) ah)))) aM)) (ar (PS.nox (bB (bD aY (pV 0) ak) (ao (az (SH (aB T.d_Z63 (EG T) hr.m (ae (aB T.d_Z74 (zB T) hr.m (ae (pV 1) ah)) ah)) (fR ak)))) aM)) (ar (bB (bD aY (pV 0) ak) (ao (az (gY md rfl T.n_str lg (ae (aB T.d_Z77 (Vw T) hr.m (ae (fh (MX T) hr.m (by rfl) T.d_Z83.m T.d_Z83.F.kp T.d_Z83.b .nil (dv bK) (ae (pV 1) ah)) (ae (fh (MG T) hr.m (by rfl) T.d_Z5.m T.d_Z5.F.kp T.d_Z5.b .nil (dv bK) (ae (pV 1) ah)) ah))) ah)))) aM)
   (ar (aH 2 nd (aB T.d_Z45 (zcs T) hr.m (ae (pV 1) (ae (fh (MG T) hr.m (by rfl) T.d_Z5.m T.d_Z5.F.kp T.d_Z5.b .nil (dv bK) (ae (pV 1) ah)) ah))))
   (ao (PS.nox (az (aD kT (aD kT (gY md rfl T.n_str lg (ae (xT (pV 2) aj) ah)) ak) (gY md rfl T.n_str lg (ae (xT (pV 2) aj) ah)))))))))),?_⟩⟩
  have h0:∀t∈AF,0<=t.1:=λt ht=>by rw[bh.mp ht];decide
  cases w0 with
  |shw =>
   refine vy ?_;nomatch a,AF,rfl,hT,(λt ht=>by rw[bh.mp ht];exact⟨by decide,by decide,by decide,by decide⟩),by decide,λH1 s1=>q _ H1 s1
  |unk =>
   refine vn ?_;refine vy ?_;exists a,AF,rfl,hT.tl,h0,c5 AF 0,rfl,by decide,λH1 s1=>?_;have fO:(fK (c5 AF 0)).length<=16:=tY (by decide);nomatch _,rfl,by rw[aN];exact bp fO (by decide),aF (by decide+kernel) (q _ H1 s1)
  |way =>
   refine vn ?_;refine vn ?_;refine vy ?_;exists a,AF,rfl,hT,by decide,BZ,zv,λH1 s1 hy=>?_,λH1 s1 hy=>absurd IY hy;exists a,AF,rfl,hT.keep s1,h0,λhm=>?_,λhm=>absurd hm (by rw[vd];decide);exists a,AF,qf AF,rfl,(hT.keep s1).tl,(λt ht=>by rw[vd,bh.mp ht];decide),by decide,by rw[vd];decide,(λt ht=>by rw[bh.mp ht];decide+kernel),λH2 s2=>?_;nomatch _,rfl,by decide+kernel,q _ H2 (s1.trans s2)
  |lea =>
   refine vn ?_;refine vn ?_;refine vn ?_;exists a,AF,rfl,hT,h0,λhm=>?_,λhm=>absurd hm (by rw[vd];decide);rw[vd];exists a,rfl,hT,λc H1 hc s1=>?_;exists _,aG.of hc,aZ (j:=0) rfl,_,rfl,by decide,_,_,rfl,rfl,by decide+kernel,?_;exists _,aG.of hc,aZ (j:=1) rfl,_,rfl,by decide,_,_,rfl,rfl,by decide+kernel,?_;exact q _ H1 s1
def zcl:Sp:=λvs H Q _=>∃f:av,vs=[xM f]/\(∀t∈f,t.1.natAbs.log2<1920)/\Q (.str (Yc f)) H
def Hr(T:Txt w K mg):Fv.Ok P w K mg base 1 zcl:=by
  refine Rw.ok T.d_Z73.F T.d_Z73.S ?_;rintro vs H Q E ⟨f,rfl,hk,q⟩;exists rfl,λ_ _ _ _ hr hu nd=>⟨_,(ao (az (rG (bb pT (pV 0) gX) ak (gY md rfl T.n_str lg (ae (pV 0) ah))))),?_⟩;cases f with
  |nil=>nomatch rfl,_,rfl,aU (by decide) q
  |cons t r=>nomatch rfl,_,rfl,aF (by simp[xM]) ⟨_,rfl,hk t (by simp),q⟩
def Mi:(["members","number","given"]:List Str).Nodup:=by decide+kernel
def zb5(T:Txt w K mg):wG.Ok P w K mg base 1 (zcM K):=by
  refine Rw.ok T.d_Z82.F T.d_Z82.S ?_;rintro vs H Q E ⟨a,l,g,rfl,⟨ps,hS,hT⟩,aT,q⟩;refine⟨rfl,fun _ _ _ _ hr hu nd=>⟨_,(ao (az (bj (Dc rfl) (by rfl) T.n_sum Aw (ae (gn (g:=(gm K 2 (cB (a9 0) (cB (a9 1) fW)))) ["members", "number", "given"] 2 [1] rfl (d7 wG) (dM (pV 0))
    (λcl C s₀ H₀ fp=>(hZ (n:=2) rfl (cS (bf 0 Mi) (cS (bf 1 Mi) gR)))) (λcl C s₀ H₀ fp=>(jM (bb aY (aD xV.j (pV 0) (pV 2)) (pV 0)))) (λcl C s₀ H₀ fp=>(pV 1))) ah)))),?_⟩⟩
  exists ⟨_,hS⟩,?_;refine jI (K:=K) (a:=a) (xs:=ps.map V.ref) (λi ys σ H2=>∃(v0 v1:Option V),σ=[v0,v1,some (.int g)]/\H2=H/\ys=(((l.take i).filter λt=>decide (Builtin.bitAnd t.1 g=t.1)).map (·.2)).map V.int)
   ⟨none,none,rfl,rfl,rfl⟩ (λi ys σ H2 hi ⟨_,_,_,e,e2⟩=>⟨by rw[e];exact hS,by
    rw[e2,ay,ay];exact bp (gI _ _) (by rw[c7];omega)⟩) (by rw[ay,hT.length];exact dq (cP (by omega))) ?_ ?_
  ·rintro i y ys σ H2 hi ⟨v0,v1,rfl,rfl,rfl⟩;obtain⟨p,gr,rfl⟩:=jH hi;obtain⟨t,bQ,dk⟩:=hT.at' gr;have bz:l.take (i+1)=l.take i++[t]:=by rw[dR,bQ];rfl
   exists p,_,rfl,aG.of dk,rfl,_,_,rfl,_,_,rfl,rfl,?_;exists _,rfl,?_;refine kg (λh1=>?_) (λh1=>?_)
   ·have hV:Builtin.bitAnd t.1 g=t.1:=by have:=br h1;injection this
    exists _,_,rfl,rfl,?_;rw[bz,fS,aQ,aQ];simp[hV]
   ·have hV:¬Builtin.bitAnd t.1 g=t.1:=λz=>h1 (aC (congrArg V.int z))
    exists _,_,rfl,rfl,?_;rw[bz,fS,aQ,aQ];simp[hV]
  ·rintro ys σ H2 ⟨v0,v1,rfl,rfl,rfl⟩ D hD;exists D,_,rfl,ai.of au,?_
   have:=q _ (ag.upd (o:=.lst ((((l.take (ps.map V.ref).length).filter λt=>decide (Builtin.bitAnd t.1 g=t.1)).map (·.2)).map V.int)) hD)
   rw[ay,hT.length,dH]at this ⊢;exact this
def Y5(K:Frag):Sp:=λvs H Q _=>∃(a:Addr) (l:av),vs=[.ref a]/\a7 H a l/\(l=[]->Q .non H)/\∀t r,l=t::r->Q (.int t.1) H
def O2(T:Txt w K mg):Bq.Ok P w K mg base 1 (Y5 K):=by
  refine Rw.ok T.d_Z6.F T.d_Z6.S ?_;rintro vs H Q E ⟨a,l,rfl,hT,q⟩;exists rfl,λ_ _ _ _ hr hu nd=>⟨_,(ao (az (rG (oG (pV 0) (λ_=>rfl)) (xT (xL (pV 0) aj) aj) gX))),?_⟩;obtain⟨ps,hS,hP⟩:=id hT;cases l with
  |nil =>
   have hn:=hP.length;have e:ps=[]:=by cases ps with|nil=>rfl|cons x r=>simp at hn
   subst e;nomatch false,.inl ⟨_,ai.of hS,rfl⟩,bL (q.1 rfl)
  |cons t r =>
   have hn:=hP.length;obtain⟨p,Pq,rfl⟩:∃p Pq,ps=p::Pq:=by cases ps with|nil=>simp at hn|cons x r=>nomatch x,r,rfl
   obtain⟨t',bQ,dk⟩:=hP.at' (i:=0) (p:=p) rfl;have e:t=t':=by simpa using bQ
   subst e;exists true,.inl ⟨_,ai.of hS,rfl⟩,bP ?_;nomatch V.ref p,ai.of hS,aZ (j:=0) rfl,_,aG.of dk,rfl,q.2 t r rfl
def X9(K:Frag):Sp:=λvs H Q _=>∃(a b:Addr) (l o:av),vs=[.ref a,.ref b]/\a7 H a l/\a7 H b o/\l.length+o.length<=100000/\eZ (l++o) /\
 ∀H':Hp,ag H H'->Q (xM (uB l o)) H'
def Gx(h:IsForm f)(hv:∀k,aK f k=aK l k-aK o k):f=uB l o:=OB (uC h λk=>by rw[hv,eE,oX];lia)
def Xl(T:Txt w K mg):Fi.Ok P w K mg base 5 (X9 K):=by
  refine Rw.ok T.d_Z75.F T.d_Z75.S ?_;rintro vs H Q E ⟨a,b,l,o,rfl,hT,fU,aT,h5,q⟩;exists rfl,λ_ _ _ _ hr hu nd=>⟨_,(ao (az (aB T.d_Z6 (O2 T) hr.m (ae (aB T.d_Z46 (za T) hr (ae (pV 0) (ae (pV 1) ah))) ah)))),?_⟩;exists a,b,l,o,rfl,hT,fU,aT,h5,λc f H1 hc dy gJ hv lR s1=>?_;rw[Gx gJ hv]at dy;exists c,_,rfl,dy,λe=>?_,λt r e=>?_
  ·have:=q H1 s1;rw[e]at this;exact this
  ·have:=q H1 s1;rw[e]at this;exact this
def We(K:Frag):Sp:=λvs H Q _=>∃(a b:Addr) (l o:av) (m:Int),vs=[.ref a,.ref b,.int m]/\a7 H a l/\a7 H b o/\l.length+o.length<=100000/\eZ (l++o)/\0<m /\
 ∀H':Hp,ag H H'->Q (xM (OU m (uB l o))) H'
def HI:(["members","number","m"]:List Str).Nodup:=by decide+kernel
def za7(T:Txt w K mg):ya.Ok P w K mg base 5 (We K):=by
  refine Rw.ok T.d_Z76.F T.d_Z76.S ?_;rintro vs H Q E ⟨a,b,l,o,m,rfl,hT,fU,aT,h5,hm,q⟩;refine⟨rfl,fun _ _ _ _ hr hu nd=>⟨_,(ao (az (aB T.d_Z6 (O2 T) hr.m (ae (gn (g:=(gm K 2 (cB (a9 0) (cB (a9 1) fW)))) ["members", "number", "m"] 2 [2] rfl (d7 ya) (dM (aB T.d_Z46 (za T) hr (ae (pV 0) (ae (pV 1) ah)))) (λcl C s₀ H₀ fp=>(hZ (n:=2) rfl (cS (bf 0 HI) (cS (bf 1 HI) gR)))) (λcl C s₀ H₀ fp=>(jM (bb fP (aD cI.c (pV 1) (pV 2)) aj))) (λcl C s₀ H₀ fp=>(eK (ae (pV 0) (ae (pV 1) ah))))) ah)))),?_⟩⟩
  exists a,b,l,o,rfl,hT,fU,aT,h5,λc f H1 hc dy gJ hv lR s1=>?_;rw[Gx gJ hv]at dy lR;exists dy.tl.seq,?_;refine ym (λt=>decide (t.2%m≠0)) (λt=>t) dy.tl (by lia) [some (.int m)] rfl (λt ht H2 R s2 r=>?_) (λt ht hp H2 R s2 r=>?_) λD ys H2 hD b9 s2=>?_
  ·exists hm,_,rfl,?_;have e:(!decide (V.int (t.2%m)=V.int 0))=decide (t.2%m≠0):=by simp
   rw[e];exact r
  ·nomatch dw,r
  ·rw[yS]at b9
   have:=q _ (s1.trans s2)
   exists D,OU m (uB l o),rfl,b9,λe=>?_,λt r e=>?_
   ·rw[e]at this;exact this
   ·rw[e]at this;exact this
def zaG(K:Frag)(C NN:Addr):Sp:=λvs H Q E=>∃(p d t:Addr) (st:eQ) (l wo:List Nat) (us:List V),vs=[.ref p,.str (S wo),.ref t]/\H t=some (.lst us)/\iB C H p d st/\rn st/\Ln l none wo us/\(bZ st us=true->∀x H',ag H H'->Q (.str x) H')/\(bZ st us=false->∀H',ag H H'->E (.ref NN) none H')
def W5(T:Txt w K mg):Ee.OkE P w K mg base 7 (zaG K eF dS):=by
  refine Rw.okE T.d_Desk_answer.F T.d_Desk_answer.S ?_;rintro vs H Q E ⟨p,d,t,st,l,wo,us,rfl,ht,hD,cW,fO,q,e⟩;refine⟨rfl,fun _ _ _ _ hr hu nd=>⟨_,(ar (aH 3 nd (oP (pV 0) T.cl_Desk T.d_Desk_kept.m (qI T) hr.m T.d_Desk_kept.b .nil (dv bK) (ae (xL (pV 2) aj) ah))) (ar (PS.nox (bB (bD aY (pV 1) ak) (ao (az (gY md rfl T.n_str lg (ae (aB T.d_Z82 (zb5 T) hr.m (ae (pV 3) (ae (xL (pV 2) aj) ah))) ah)))) aM)) (ar (bB (bD aY (pV 1) ak) (ao (az (aB T.d_Z73 (Hr T) hr.m (ae (aB T.d_Z75 (Xl T) hr.m (ae (pV 3) (ae (oP (pV 0) T.cl_Desk T.d_Desk_kept.m (qI T) hr.m T.d_Desk_kept.b .nil (dv bK) (ae (xL (pV 2) aj) ah)) ah))) ah)))) aM) (ar (bB (bD aY (pV 1) ak) (ao (az (aB T.d_Z73 (Hr T) hr.m (ae (aB T.d_Z76 (za7 T) hr.m (ae (pV 3) (ae (oP (pV 0) T.cl_Desk T.d_Desk_kept.m (qI T) hr.m T.d_Desk_kept.b .nil (dv bK) (ae (xL (pV 2) aj) ah)) (ae (xL (pV 2) aj) ah)))) ah)))) aM) (ao (az (fh (Tx T) hr (by rfl) T.d_Z72.m T.d_Z72.F.kp T.d_Z72.b .nil (dv bK) (ae (pV 1) (ae (pV 3) ah))))))))),?_⟩⟩
  obtain⟨⟨dx,ho⟩,_⟩:=id hD;have g0:∀{n:List Nat}{r:List V},eY st n=none->bZ st (.str (S n)::r)=false:=λh=>by rw[zq,h];rfl
  have g1:∀{n:List Nat}{f:av}{r:List V},eY st n=some f->bZ st (.str (S n)::r)=bZ st r:=λh=>by rw[zq,h];rfl
  have nnil:bZ st []=true:=rfl;cases fO with
  |one w n =>
   rw[W1.wl_S];exists p,dx,_,rfl,ho,iI d (by decide+kernel),_,ai.of ht,aZ (j:=0) rfl,p,d,st,n,rfl,hD,λa f hf hT=>?_,λhg=>e (g0 hg) H (ag.refl _);obtain rfl:=cW n f hf;refine vN (by cases w<;>decide) ?_;refine vN (by cases w<;>decide) ?_;refine vN (by cases w<;>decide) ?_;nomatch a,w,rfl,hT,q (by rw[g1 hf];rfl)
  |wor n g =>
   rw[show S lr=ofString "worth" from rQ.2.1.symm];exists p,dx,_,rfl,ho,iI d (by decide+kernel),_,ai.of ht,aZ (j:=0) rfl,p,d,st,n,rfl,hD,λa f hf hT=>?_,λhg=>e (g0 hg) H (ag.refl _);obtain rfl:=cW n f hf;refine vy ?_;exists _,ai.of ht,aZ (j:=1) rfl,a,AF,(g:Int),rfl,hT.tl,by decide,λH1 s1=>?_;have hw:mn AF (g:Int)=0\/mn AF (g:Int)=1:=by
    unfold mn AF;rw[dZ];split
    ·exact .inr rfl
    ·exact .inl rfl
   nomatch _,rfl,(by rcases hw with z|z<;>(rw[z];decide)),q (by rw[g1 hf];rfl) _ H1 s1
  |ali n m =>
   rw[show S lu=ofString "alike" from rQ.2.2.1.symm];exists p,dx,_,rfl,ho,iI d (by decide+kernel),_,ai.of ht,aZ (j:=0) rfl,p,d,st,n,rfl,hD,λa f hf hT=>?_,λhg=>e (g0 hg) H (ag.refl _);obtain rfl:=cW n f hf;refine vn ?_;refine vy ?_;exists p,dx,_,rfl,ho,iI d (by decide+kernel),_,ai.of ht,aZ (j:=1) rfl,p,d,st,m,rfl,hD,λb o hg fU=>?_,λhg=>e (by rw[g1 hf];exact g0 hg) H (ag.refl _);obtain rfl:=cW m o hg;exists a,b,AF,AF,rfl,hT,fU,by decide,⟨[0],by decide,j2.app j2⟩,λH1 s1=>?_;rw[OP];nomatch _,rfl,(λt ht=>by cases ht),q (by rw[g1 hf,g1 hg];rfl) _ H1 s1
  |rst n m k hk =>
   rw[show S lO=ofString "rest" from rQ.2.2.2.1.symm];exists p,dx,_,rfl,ho,iI d (by decide+kernel),_,ai.of ht,aZ (j:=0) rfl,p,d,st,n,rfl,hD,λa f hf hT=>?_,λhg=>e (g0 hg) H (ag.refl _);obtain rfl:=cW n f hf;refine vn ?_;refine vn ?_;refine vy ?_;exists p,dx,_,rfl,ho,iI d (by decide+kernel),_,ai.of ht,aZ (j:=1) rfl,p,d,st,m,rfl,hD,λb o hg fU=>?_,λhg=>e (by rw[g1 hf];exact g0 hg) H (ag.refl _);obtain rfl:=cW m o hg;exists _,ai.of ht,aZ (j:=2) rfl,a,b,AF,AF,(k:Int),rfl,hT,fU,by decide,⟨[0],by decide,j2.app j2⟩,by lia,λH1 s1=>?_;rw[OP];nomatch _,rfl,(λt ht=>by cases ht),q (by rw[g1 hf,g1 hg];rfl) _ H1 s1
def zaF(K:Frag)(C NL NN NF NS:Addr):Sp:=λvs H Q E=>∃(p d:Addr) (st:eQ) (l:List Nat),vs=[.ref p,.str (S l)]/\iB C H p d st/\rn st/\st.length<=1000/\(∀c∈l,c<128)/\l.length<=90/\pA l/\R7 C NL NN NF NS p d st l H Q E (dg st l)
def ZY(T:Txt w K mg):DJ.OkE P w K mg base 9 (zaF K eF dG dS du df):=by
  refine Rw.okE T.d_Desk_say.F T.d_Desk_say.S ?_;rintro vs H Q E ⟨p,d,st,l,rfl,hD,cW,mx,ha,hl,lU,hq⟩;refine⟨rfl,fun _ _ _ _ hr hu nd=>⟨_,(ar (NH (fh (zaJ T) hr.m (by rfl) T.d_Z47.m T.d_Z47.F.kp T.d_Z47.b .nil (dv bK) (ae (pV 1) ah)) (su (n:=3) rfl (iX (bf 2 nd) (iX (bf 3 nd) (iX (bf 4 nd) sU)))))
   (ar (bB (bD pT (pV 2) gX) (ao (az (oP (pV 0) T.cl_Desk T.d_Desk_answer.m (W5 T) hr.m T.d_Desk_answer.b .nil (dv bK) (ae (pV 3) (ae (pV 4) ah))))) aM) (ar (aH 5 nd (oP (pV 0) T.cl_Desk T.d_Desk_form_for.m (zaQ T) hr T.d_Desk_form_for.b .nil (dv bK) (ae (pV 3) (ae (pV 4) ah)))) (ar (fZ (fh (Yd T) hr.m (by rfl) T.d_Z61.m T.d_Z61.F.kp T.d_Z61.b .nil (dv bK) (ae (pV 5) ah)))
   (ar (PS.nox (zt hu (CW (pV 0) rfl) (pV 2) (pV 5) rfl)) (ao (PS.nox (az ak)))))))),?_⟩⟩
  obtain⟨⟨dx,ho⟩,_⟩:=id hD;refine⟨l,rfl,ha,by lia,λo wo vs pp cc H1 hr hp iR s1=>?_,λH1 hr s1=>by rw[zbL hr]at hq;exact hq H1 s1⟩;exists _,aG.of hp,rfl,?_;cases o with
  |none =>
   rw[VF hr]at hq;exists rfl,vy ?_;exists p,dx,_,rfl,s1 _ _ ho,iI d (by decide+kernel),p,d,cc,st,l,wo,vs,rfl,iR,hD.keep s1,cW,N3 hr,λhn x H2 s2=>?_,λhn H2 s2=>?_
   ·rw[ax hn]at hq;exact hq x H2 (s1.trans s2)
   ·rw[aq (by rw[hn];decide)]at hq;exact hq H2 (s1.trans s2)
  |some n =>
   rw[UM hr]at hq;exists rfl,vN (by simp[BC]) ?_;exists p,dx,_,rfl,s1 _ _ ho,iI d (by decide+kernel),p,d,cc,st,l,n,wo,vs,rfl,iR,hD.keep s1,cW,ha,hl,lU,N3 hr,?_;cases he:jU st wo vs with
   |ok =>
    rw[he]at hq;refine λf b H2 hf hT hm s2=>⟨b,f,rfl,hT,hm.1,hm.2,λH3 s3=>?_⟩
    have S3:=s1.trans (s2.trans s3);obtain⟨⟨JN,jh⟩,kvs,hd,hk⟩:=hD.keep S3;have iw:kvs.length=st.length:=dP hk;exists p,_,JN,_,_,rfl,jh,T.cl_Desk,T.nf_Desk_forms,A7 d,d,_,rfl,ox.k (k:=Sum.inr (S n)) hd (cP (by lia)),?_;have y8:p≠d:=qM jh hd (by intro z;cases z);exact hq n wo vs f _ hr hf ⟨⟨JN,by rw[aO y8];exact jh⟩,pO.put hd hk (hT.keep s3)⟩ ((aV.of S3).trans aV.upd)
   |name=>rw[he]at hq;exact λH2 s2=>hq H2 (s1.trans s2)
   |form=>rw[he]at hq;exact λH2 s2=>hq H2 (s1.trans s2)
   |stat=>rw[he]at hq;exact λH2 s2=>hq H2 (s1.trans s2)
   |line=>exact absurd he (Mh st wo vs).1
   |text=>exact absurd he (Mh st wo vs).2
inductive Er where
 |line|form|stat|name
noncomputable def Er.wo:Er->Str
 |.line => "line" |.form => "form" |.stat => "statement" |.name => "name"
def Er.a:Er->Addr
 |.line=>dG|.form=>du|.stat=>df|.name=>dS
noncomputable def Er.n:Er->Nat
 |.line=>0|.form=>1|.stat=>2|.name=>3
def Er.b(k:Er)(i:Nat):Bool:=decide (i=k.n)
def oZ(H:Hp)(Q:VK)(k:Er):Prop:=∀e H',H' e=some (.lst [.str k.wo])->ag H H'->Q (.ref e) H'
def Ly(C:Addr)(p d:Addr)(st:eQ)(l:List Nat)(H:Hp)(Q:VK):Rs->Prop
 |.line=>oZ H Q .line
 |.name=>oZ H Q .name
 |.form=>oZ H Q .form
 |.stat=>oZ H Q .stat
 |.text=>∀x H',ag H H'->Q (.str x) H'
 |.ok=>∀n wo us f H',eX l=some (some n,wo,us)->(wo=[61]->gP (l9 us)=some f)->iB C H' p d (t9 st n f)->aV d H H'->Q (.str "ok") H'
def Ky(K:Frag)(C:Addr):Sp:=λvs H Q _=>∃(p d:Addr) (st:eQ) (l:List Nat),vs=[.ref p,.str (S l)]/\iB C H p d st/\rn st/\st.length<=1000/\(∀c∈l,c<128)/\l.length<=90/\pA l/\Ly C p d st l H Q (dg st l)
noncomputable def eW:List V:=[.str "line",.str "form",.str "statement",.str "name",.str "yes no",.str "many",.str "pull"]
def Er.at(k:Er):eW[k.n]?=some (.str k.wo):=by cases k<;>rfl
def zcj:(["_law_one"]:List Str).Nodup:=by decide+kernel
def sQ(T:Txt w K mg):Ag.Ok P w K mg base 10 (Ky K eF):=by
  refine Rw.ok T.d_Z39.F T.d_Z39.S ?_;rintro vs H Q E ⟨p,d,st,l,rfl,hD,cW,mx,ha,hl,lU,hJ⟩;refine⟨rfl,fun _ _ _ _ hr hu nd=>⟨_,(ar (aH 2 nd gX) (ar (aH 3 nd gX) (ar (ur (Wc (i:=4) (j:=2) (l:=3) (Uc Qp) (pV 0) T.cl_Desk T.d_Desk_say.m (ZY T) hr T.d_Desk_say.b (ae (pV 1) ah) nd rfl rfl rfl (by decide) T.g_FormError T.x_FormError))
   (ar (bB (bD pT (pV 2) gX) (ao (az (pV 3))) aM) (ar (aH 5 nd (bc (ae (bj nU (by rfl) T.n_isinstance mM (ae (pV 2) (ae (dX (v:=.ref dG) (by rfl) T.g_NoLine rfl) ah))) (ae (bj nU (by rfl) T.n_isinstance mM (ae (pV 2) (ae (dX (v:=.ref du) (by rfl) T.g_NoForm rfl) ah))) (ae (bj nU (by rfl) T.n_isinstance mM (ae (pV 2) (ae (dX (v:=.ref df) (by rfl) T.g_NoStatement rfl) ah))) ah)))))
   (ar (aH 5 nd (aD lB (pV 5) (bc (ae (bj nU (by rfl) T.n_isinstance mM (ae (pV 2) (ae (dX (v:=.ref dS) (by rfl) T.g_NoName rfl) ah))) (ae (bj nU (by rfl) T.n_isinstance mM (ae (pV 2) (ae (dX (v:=.ref lM) (by rfl) T.g_NoYesNo rfl) ah))) (ae (bj nU (by rfl) T.n_isinstance mM (ae (pV 2) (ae (dX (v:=.ref lQ) (by rfl) T.g_TooMany rfl) ah))) ah))))))
   (ar (fZ (ck dI jG jl jS (pV 5) (ae (bj nU (by rfl) T.n_isinstance mM (ae (pV 2) (ae (dX (v:=.ref oh) (by rfl) T.g_NoPull rfl) ah))) ah)))
   (ar (bt (PW.pt (gv (bb fP (bj dJ (by rfl) T.n_len bS (ae (gn (g:=(a9 0)) ["_law_one"] 1 [] rfl (d7 Ag) (dM (pV 5))
    (λcl C s₀ H₀ fp=>(bf 0 zcj)) (λcl C s₀ H₀ fp=>(jM (fJ (pV 0)))) (λcl C s₀ H₀ fp=>(pV 0))) ah)) aj) (jg (iO (fJ (bj nU (by rfl) T.n_isinstance mM (ae (pV 2) (ae (LK (v:=.ty "ValueError") (by rfl) T.n_ValueError SR rfl) ah)))))))) (ao (az (bc (ae ak ah)))) aM)
   (ao (az (bc (ae (xL (bc (ae ak (ae ak (ae ak (ae ak (ae ak (ae ak (ae ak ah)))))))) (ck dI Lv Gw XM (pV 5) (ae jr ah))) ah)))))))))))),?_⟩⟩
  obtain⟨⟨dx,ho⟩,_⟩:=id hD;exists λσ G=>(∃(v:V) (v4:Option V),σ=[some (.ref p),some (.str (S l)),some .non,some v,v4,none]/\Q v G)\/(∃(e0:Addr) (k:Er) (v3 v4:Option V),σ=[some (.ref p),some (.str (S l)),some (.ref e0),v3,v4,none]/\G e0=some (lX e0 k.a)/\oZ G Q k),?_,?_
  ·have up:∀{k:Er}{H1:Hp}{e0:Addr},oZ H Q k->ag H H1->H1 e0=none->oZ (upd H1 e0 (lX e0 k.a)) Q k:=λh s1 he e H' h1 h2=>h e H' h1 (s1.trans ((ag.upd he).trans h2))
   exists p,dx,_,rfl,ho,iI d (by decide+kernel),p,d,st,l,rfl,hD,cW,mx,ha,hl,lU,?_;cases hr:dg st l with
   |text=>rw[hr]at hJ;exact λx H1 s1=>.inl ⟨_,_,rfl,hJ x H1 s1⟩
   |ok=>rw[hr]at hJ;exact λn wo us f H1 h1 h2 h3 h4=>.inl ⟨_,_,rfl,hJ n wo us f H1 h1 h2 h3 h4⟩
   |line=>rw[hr]at hJ;exact λH1 s1=>⟨dG,_,rfl,T.x_NoLine,by simp,λe0 he=>.inr ⟨e0,.line,_,_,rfl,au,up hJ s1 he⟩⟩
   |name=>rw[hr]at hJ;exact λH1 s1=>⟨dS,_,rfl,T.x_NoName,by simp,λe0 he=>.inr ⟨e0,.name,_,_,rfl,au,up hJ s1 he⟩⟩
   |form=>rw[hr]at hJ;exact λH1 s1=>⟨du,_,rfl,T.x_NoForm,by simp,λe0 he=>.inr ⟨e0,.form,_,_,rfl,au,up hJ s1 he⟩⟩
   |stat=>rw[hr]at hJ;exact λH1 s1=>⟨df,_,rfl,T.x_NoStatement,by simp,λe0 he=>.inr ⟨e0,.stat,_,_,rfl,au,up hJ s1 he⟩⟩
  ·rintro σ G (⟨v,v4,rfl,hq⟩|⟨e0,k,v3,v4,rfl,hx,hq⟩)
   ·exists rfl,vy ?_;exact hq
   exists rfl,vN (by simp) ?_;obtain⟨bm,x0,i1,i2,i3,i4,i5,i6,i7,vV⟩:∃bm:List Value,gd K k.a bm=true/\kitOne K (.ref k.a) (.ref dG)=some (k.b 0)/\kitOne K (.ref k.a) (.ref du)=some (k.b 1)/\kitOne K (.ref k.a) (.ref df)=some (k.b 2)/\kitOne K (.ref k.a) (.ref dS)=some (k.b 3)/\kitOne K (.ref k.a) (.ref lM)=some (k.b 4)/\kitOne K (.ref k.a) (.ref lQ)=some (k.b 5)/\kitOne K (.ref k.a) (.ref oh)=some (k.b 6)/\kitOne K (.ref k.a) (.type "ValueError")=some true:=by
    cases k with
    |line=>nomatch _,T.x_NoLine,T.i_NoLine_NoLine,T.i_NoLine_NoForm,T.i_NoLine_NoStatement,T.i_NoLine_NoName,T.i_NoLine_NoYesNo,T.i_NoLine_TooMany,T.i_NoLine_NoPull,T.v_NoLine
    |form=>nomatch _,T.x_NoForm,T.i_NoForm_NoLine,T.i_NoForm_NoForm,T.i_NoForm_NoStatement,T.i_NoForm_NoName,T.i_NoForm_NoYesNo,T.i_NoForm_TooMany,T.i_NoForm_NoPull,T.v_NoForm
    |stat=>nomatch _,T.x_NoStatement,T.i_NoStatement_NoLine,T.i_NoStatement_NoForm,T.i_NoStatement_NoStatement,T.i_NoStatement_NoName,T.i_NoStatement_NoYesNo,T.i_NoStatement_TooMany,T.i_NoStatement_NoPull,T.v_NoStatement
    |name=>nomatch _,T.x_NoName,T.i_NoName_NoLine,T.i_NoName_NoForm,T.i_NoName_NoStatement,T.i_NoName_NoName,T.i_NoName_NoYesNo,T.i_NoName_TooMany,T.i_NoName_NoPull,T.v_NoName
   obtain⟨b0,tP⟩:∃b,b=k.b 0:=⟨_,rfl⟩;obtain⟨b1,gk⟩:∃b,b=k.b 1:=⟨_,rfl⟩;obtain⟨b2,j9⟩:∃b,b=k.b 2:=⟨_,rfl⟩;obtain⟨b3,Lj⟩:∃b,b=k.b 3:=⟨_,rfl⟩;obtain⟨b4,Jv⟩:∃b,b=k.b 4:=⟨_,rfl⟩;obtain⟨b5,NO⟩:∃b,b=k.b 5:=⟨_,rfl⟩;obtain⟨b6,Mz⟩:∃b,b=k.b 6:=⟨_,rfl⟩;have hB:[b0,b1,b2,b3,b4,b5,b6]=(List.range 7).map k.b:=by rw[tP,gk,j9,Lj,Jv,NO,Mz];rfl
   rw[<-tP]at i1;rw[<-gk]at i2;rw[<-j9]at i3;rw[<-Lj]at i4;rw[<-Jv]at i5;rw[<-NO]at i6;rw[<-Mz]at i7;exists e0,k.a,_,b0,hx,x0,.inl ⟨dG,rfl,i1⟩,?_;exists e0,k.a,_,b1,hx,x0,.inl ⟨du,rfl,i2⟩,?_;exists e0,k.a,_,b2,hx,x0,.inl ⟨df,rfl,i3⟩,?_;exists by show 3<=sizeLine;decide,λl1 lR=>?_;generalize eU:upd G l1 _=H3;obtain⟨t2,y1⟩:=nw eU lR;have x1:=t2 _ _ hx;exists e0,k.a,_,b3,x1,x0,.inl ⟨dS,rfl,i4⟩,?_;exists e0,k.a,_,b4,x1,x0,.inl ⟨lM,rfl,i5⟩,?_;exists e0,k.a,_,b5,x1,x0,.inl ⟨lQ,rfl,i6⟩,?_;exists by show 3<=sizeLine;decide,λl2 da=>?_;generalize eU:upd H3 l2 _=H4;obtain⟨t3,y2⟩:=nw eU da;have x2:=t3 _ _ x1;have Wz:=t3 _ _ y1;exists l1,l2,_,_,rfl,rfl,Wz,y2,Ii,λl3 lq=>?_;generalize eU:upd H4 l3 _=H5;have t4:=(nw eU lq).1;have y3:H5 l3=some (.lst [.bl b0,.bl b1,.bl b2,.bl b3,.bl b4,.bl b5]):=(nw eU lq).2;have x3:=t4 _ _ x2;have n3:G l3=none:=t2.free (t3.free lq);have T5:=t2.trans (t3.trans t4);exists .inl ⟨rfl,_,ai.of y3⟩,e0,k.a,_,b6,x3,x0,.inl ⟨oh,rfl,i7⟩,_,y3,(by show 6<sizeLine;decide),?_;have y4:upd H5 l3 (.lst ([.bl b0,.bl b1,.bl b2,.bl b3,.bl b4,.bl b5]++[.bl b6])) l3=some (.lst ([b0,b1,b2,b3,b4,b5,b6].map V.bl)):=au;have ne3:e0≠l3:=λz=>by rw[z]at hx;rw[hx]at n3;cases n3
   have x4:upd H5 l3 (.lst ([.bl b0,.bl b1,.bl b2,.bl b3,.bl b4,.bl b5]++[.bl b6])) e0=some (lX e0 k.a):=by rw[aO ne3];exact x3
   have T6:ag G (upd H5 l3 (.lst ([.bl b0,.bl b1,.bl b2,.bl b3,.bl b4,.bl b5]++[.bl b6]))):=T5.write n3;generalize upd H5 l3 (.lst ([.bl b0,.bl b1,.bl b2,.bl b3,.bl b4,.bl b5]++[.bl b6]))=H6 at y4 x4 T6;have e1:(([b0,b1,b2,b3,b4,b5,b6].filter id).map V.bl).length=1:=by rw[hB];cases k<;>rfl
   generalize hbs:[b0,b1,b2,b3,b4,b5,b6]=bs at y4 e1;have N4:bs.length=7:=by rw[<-hbs];rfl
   exists ⟨_,ai.of y4⟩,?_;refine jI (K:=K) (a:=l3) (xs:=bs.map V.bl) (λi ys σ G'=>∃v0:Option V,σ=[v0]/\ys=((bs.take i).filter id).map V.bl/\G'=H6)
    ⟨none,rfl,rfl,rfl⟩ (λi ys σ G' hi ⟨_,_,e1,e2⟩=>⟨by rw[e2];exact ai.of y4,by rw[e1,ay];exact bp (gI _ _) (by rw[c7];lia)⟩) (by rw[ay,N4];decide) ?_ ?_
   ·rintro i y ys σ G' hi ⟨v0,rfl,rfl,rfl⟩;rw[bY]at hi;obtain⟨b,hb,rfl⟩:∃b,bs[i]?=some b/\V.bl b=y:=by
     cases e:bs[i]? with
     |none=>rw[e]at hi;cases hi
     |some t=>rw[e]at hi;nomatch t,rfl,cD hi
    have bz:bs.take (i+1)=bs.take i++[b]:=by rw[dR,hb];rfl
    unfold a9;exists b,rfl,?_;cases b with
    |false =>
     refine bL ?_;exists _,rfl,?_,rfl;rw[bz,fS];simp
    |true =>
     refine bP ?_;exists _,rfl,?_,rfl;rw[bz,fS,aQ];rfl
   ·rintro ys σ G' ⟨v0,rfl,rfl,rfl⟩ D hD;rw[ay,dH];rw[ay]at e1;have t7:ag G' (upd G' D (.lst ((bs.filter id).map V.bl))):=ag.upd hD;exists D,_,rfl,.inl (ai.of au),_,rfl,?_;rw[ay,e1];refine aF (by decide) ?_;have x5:=t7 _ _ x4;have y5:=t7 _ _ y4;have T7:=T6.trans t7;generalize upd G' D (.lst ((bs.filter id).map V.bl))=H7 at x5 y5 T7 ⊢;exists e0,k.a,_,true,x5,x0,.inr ⟨"ValueError",rfl,vV⟩,true,rfl,aF (by decide) ?_;exists by show 7<=sizeLine;decide,λl5 hl5'=>?_;have t8:ag H7 (upd H7 l5 (.lst eW)):=ag.upd hl5';have y6:=t8 _ _ y5;have z6:upd H7 l5 (.lst eW) l5=some (.lst eW):=au;have T8:=T7.trans t8;exists .inl ⟨rfl,_,ai.of y6⟩,l3,_,.bl true,k.n,rfl,rfl,y6,rfl,(by rw[<-hbs,hB];cases k<;>rfl),⟨_,(by rw[<-hbs,hB];cases k<;>rfl),rfl⟩,(λm z hm hz=>?_),.str k.wo,ai.of z6,aZ (j:=k.n) k.at,d5,λl6 hl6=>hq l6 _ au (T8.trans (ag.upd hl6));rw[<-hbs,hB,ft,bY,qc (by have h:k.n<=5:=(by cases k<;>decide);lia)]at hz;cases hz;show jm (.bl (k.b m)) (.bl true)=false;unfold Er.b;rw[aL (by lia)];rfl
def SN(C:Addr):Sp:=λvs H Q _=>∃p dx:Addr,vs=[.ref p]/\H p=some (.ins C dx [])/\∀(d:Addr) (H':Hp),H d=none->iB C H' p d []->(∀b o,H b=some o->b≠p->H' b=some o)->Q .non H'
def K7(T:Txt w K mg):xH.Ok P w K mg base 1 (SN eF):=by
  refine Rw.ok T.d_Desk_init.F T.d_Desk_init.S ?_;rintro vs H Q E ⟨p,dx,rfl,hp,q⟩;exists rfl,λ_ _ _ _ hr hu nd=>⟨_,(ao (ZJ (pV 0) yW rfl)),?_⟩;intro d hd;have y8:p≠d:=cE hp hd;exists p,eF,dx,[],rfl,(by rw[aO y8];exact hp),T.cl_Desk,T.nf_Desk_forms,(by show 0<1000;decide),?_;refine q d _ hd ⟨⟨dx,au⟩,[],by rw[aO y8.symm,au],.nil⟩ λb o e hb=>?_
  rw[aO hb,aO (cE e hd)];exact e
def zb7(T:Txt w K mg):C9.Ok P w K mg base 1 Sg:=by
  refine Rw.ok T.d_Z34.F T.d_Z34.S ?_;rintro vs H Q E ⟨c,k,rfl,k1,k2,q⟩;refine⟨rfl,fun _ _ _ _ hr hu nd=>⟨_,(ar (aH 2 nd (aD cI.c (aD fg.j (aD fg.j (aD gC.c (pV 0) aj) (aD gC.c (aD gC.c aj (pV 1)) (pV 1))) (pV 1)) aj)) (ar (aH 2 nd (aD cI.c (aD gC.c (pV 2) (pV 2)) aj)) (ao (az (aD cI.c (aD gC.c (pV 2) aj) aj))))),?_⟩⟩
  exists ku (by decide) (by decide),tZ (by decide) (by decide),ku k1 k2,(by show (0:Int)<2147483647;decide),?_;generalize hz:(c*1103515245+7919*k*k+k)%2147483647=z;have z1:0<=z:=by rw[<-hz];exact sd _ (by decide)
  have z2:z<2147483647:=by rw[<-hz];exact vO _ (by decide)
  exists tZ (by lia) (by lia),(by show (0:Int)<2147483629;decide),?_;exists ku (by decide) (by decide),(by show (0:Int)<2147483587;decide),?_;exact q _ (sd _ (by decide)) (vO _ (by decide))
def X4(K:Frag):Sp:=λvs H Q _=>∃cell k:Int,vs=[.int cell,.int k]/\(0<=k/\k<2^20)/\∀(D:Addr) (xs:List Int) (H':Hp),H D=none->H' D=some (.lst (xs.map V.int))->(xs.length=12/\∀x∈xs,0<=x/\x<2^28)->ag H H'->Q (.ref D) H'
def Zy(T:Txt w K mg):BP.Ok P w K mg base 2 (X4 K):=by
  refine Rw.ok T.d_Z42.F T.d_Z42.S ?_;rintro vs H Q E ⟨cell,k,rfl,hm,q⟩;refine⟨rfl,fun _ _ _ _ hr hu nd=>⟨_,(ar (aH 2 nd (bc ah)) (ar (bB (bD E1.j (pV 0) (aD uh.c aj aj)) (ar (aH 3 nd (aD tS.j (pV 0) (aD uh.c aj aj))) (ar (eN dQ rfl (pd rfl T.n_range (ae aj ah)) (bf 4 nd) (ar (fZ (ck dI jG jl jS (pV 2) (ae (aD cI.c (pV 3) aj) ah))) (ao (aH 3 nd (aD sF.c (pV 3) aj))))) (ao (az (pV 2))))) aM) (ar (aH 5 nd (aB T.d_Z34 (zb7 T) hr (ae (pV 0) (ae (pV 1) ah)))) (ar (eN dQ rfl (pd rfl T.n_range (ae aj ah)) (bf 4 nd) (ar (aH 5 nd (aD cI.c (aD fg.j (aD fg.j (aD gC.c (pV 5) (pV 5)) (aD gC.c aj (pV 4))) aj) aj)) (ao (fZ (ck dI jG jl jS (pV 2) (ae (aD sF.c (aD cI.c (aD gC.c (pV 5) aj) aj) aj) ah)))))) (ao (az (pV 2))))))),?_⟩⟩
  exists cb _,λD hD=>?_;generalize eU:upd H D _=H0;have s0:=(nw eU hD).1;have w0:H0 D=some (.lst ([].map V.int)):=(nw eU hD).2;exists ⟨by decide,by decide,by decide⟩,v2 (λz=>?_) (λz=>?_)
  ·exists ⟨by decide,by decide,by decide⟩,?_;exists 12,rfl,by decide,by decide,?_;refine qL (n:=(12:Int).toNat) (λi σ G=>∃(v4 v5:Option V) (le:Int) (xs:List Int),σ=[some (.int cell),some (.int k),some (.ref D),some (.int le),v4,v5]/\G D=some (.lst (xs.map V.int))/\xs.length=i/\(∀x∈xs,0<=x/\x<2^28)/\ag H G)
    ⟨_,_,_,[],rfl,w0,rfl,(λx h=>by cases h),s0⟩ ?_ ?_
   ·rintro i σ G hi ⟨v4,v5,le,xs,rfl,g1,g2,g3,g4⟩;have mL:i<12:=hi;exists .inl ⟨rfl,_,ai.of g1⟩,(by show (0:Int)<134217728;decide),_,g1,(by rw[ay,g2];exact cP (by lia)),?_;exists yc (by decide) (by decide),_,_,_,xs++[le%134217728],rfl,(by rw[au,aQ];rfl),by rw[aS,g2];rfl,λx hx=>?_,g4.write hD;rcases bW.mp hx with y|y
    ·exact g3 x y
    ·rw[bh.mp y];lia
   ·rintro σ G ⟨v4,v5,le,xs,rfl,g1,g2,g3,g4⟩;exact q D xs G hD g1 ⟨g2,g3⟩ g4
  exists cell,k,rfl,by lia,by lia,λr0 r1 r2=>?_;exists 12,rfl,by decide,by decide,?_;refine qL (n:=(12:Int).toNat) (λi σ G=>∃(v3 v4:Option V) (nu:Int) (xs:List Int),σ=[some (.int cell),some (.int k),some (.ref D),v3,v4,some (.int nu)]/\0<=nu/\nu<2147483629/\G D=some (.lst (xs.map V.int))/\xs.length=i/\(∀x∈xs,0<=x/\x<2^28)/\ag H G)
   ⟨_,_,_,[],rfl,r1,by lia,w0,rfl,(λx h=>by cases h),s0⟩ ?_ ?_
  ·rintro i σ G hi ⟨v3,v4,nu,xs,rfl,n1,n2,g1,g2,g3,g4⟩;have mL:i<12:=hi;exists ku (by lia) (by lia),ku (by lia) (by omega),(by show (0:Int)<2147483629;decide),?_;dsimp only;obtain⟨nv,FH⟩:∃nv:Int,(nu*nu+7*(0+(i:Int))+1)%2147483629=nv:=⟨_,rfl⟩;have hn1:0<=nv:=by rw[<-FH];exact sd _ (by decide)
   have o6:nv<2147483629:=by rw[<-FH];exact vO _ (by decide)
   rw[FH];exists .inl ⟨rfl,_,ai.of g1⟩,ku (by decide) (by decide),(by show (0:Int)<2147483587;decide),yc (by decide) (by decide),_,g1,(by rw[ay,g2];exact cP (by lia)),?_;exists _,_,nv,xs++[nv*69621%2147483587/16],rfl,hn1,o6,(by rw[au,aQ];rfl),by rw[aS,g2];rfl,λx hx=>?_,g4.write hD;rcases bW.mp hx with y|y
   ·exact g3 x y
   ·rw[bh.mp y];omega
  ·rintro σ G ⟨v3,v4,nu,xs,rfl,n1,n2,g1,g2,g3,g4⟩;exact q D xs G hD g1 ⟨g2,g3⟩ g4
end
open PySem L2 OF
section
variable{P:Program}{w:World}{K:Frag}{mg:Str->Option Value}{base:Heap}
def gg(a b:Str):cC (.lst [.str a]) (.lst [.str b])=(a == b):=by simp[cC,jL]
def YJ(a b:Str):cC (.lst [.str a]) (.str b)=false:=by simp[cC]
def Lh(a b:Str):cC (.str a) (.str b)=(a == b):=by simp[cC]
def Mq:rn []:=λn f h=>by cases h
noncomputable def Rs.n:Rs->Nat
 |.line=>0|.form=>1|.stat=>2|.name=>3|.ok=>4|.text=>5
def Rs.nI{a b:Rs}(h:a.n=b.n):a=b:=by cases a<;>cases b<;>first|rfl|cases h
noncomputable def rB:List Str:=["here = b + a","here = 1a","here = ","here = a  + b","here = 00"]
noncomputable def r9:List Str:=["here := a and b or c","here := ","here := q","here := a and  b"]
def qe(r:Rs)(x:Str):Prop:=(∀c∈x.cps.toList,c<128)/\x.cps.toList.length<=90/\fq x.cps.toList<=11/\(dg [] x.cps.toList).n=r.n
noncomputable instance(r:Rs)(x:Str):Decidable (qe r x):=by unfold qe;infer_instance
def Up:∀x∈rB,qe .form x:=by decide+kernel
def zcf:∀x∈r9,qe .stat x:=by decide+kernel
def Oq:∀x∈(["here =","here :="]:List Str),qe .line x:=by decide+kernel
def Zn(K:Frag)(C:Addr):Sp:=λvs H Q _=>∃(p d:Addr),vs=[.ref p]/\iB C H p d []/\∀H',Q (.bl true) H'
def XZ(T:Txt w K mg):Ft.Ok P w K mg base 11 (Zn K eF):=by
  refine Rw.ok T.d_Z38.F T.d_Z38.S ?_;rintro vs H Q E ⟨p,d,rfl,hD,q⟩;refine⟨rfl,fun _ _ _ _ hr hu nd=>⟨_,(ar (eN dQ rfl (dM (bc (ae ak (ae ak (ae ak (ae ak (ae ak ah))))))) (bf 1 nd) (ao (bB (bD (D7 (jD hr)) (aB T.d_Z39 (sQ T) hr (ae (pV 0) (ae (pV 1) ah))) (bc (ae ak ah))) (ao (az jr)) aM))) (ar (eN dQ rfl (dM (bc (ae ak (ae ak (ae ak (ae ak ah)))))) (bf 1 nd) (ao (bB (bD (D7 (jD hr)) (aB T.d_Z39 (sQ T) hr (ae (pV 0) (ae (pV 1) ah))) (bc (ae ak ah))) (ao (az jr)) aM))) (ao (az (fX (cO (oi (jD hr)) (aB T.d_Z39 (sQ T) hr (ae (pV 0) (ae ak ah))) (bc (ae ak ah))) (fR (cO (oi (jD hr)) (aB T.d_Z39 (sQ T) hr (ae (pV 0) (ae ak ah))) (bc (ae ak ah))))))))),?_⟩⟩
  have step:∀{x:Str}{G:Hp}{r:Rs}{Qc:VK},qe r x->ag H G->Ly eF p d [] x.cps.toList G Qc r->Ky K eF [.ref p,.str x] G Qc (λ_ _ _=>False):=fun {x G r Qc} hx s h=>⟨p,d,[],x.cps.toList,rfl,hD.keep s,Mq,by decide,hx.1,hx.2.1,tm hx.2.2.1,by rw[Rs.nI hx.2.2.2];exact h⟩
  have pick:∀{xs:List Str}{i:Nat}{y:V},(xs.map V.str)[i]?=some y->∃x∈xs,V.str x=y:=λh=>by
   obtain⟨x,hx,e⟩:=bV.mp (cM h);nomatch x,hx,e
  exists by show 5<=sizeLine;decide,λA hA=>?_;have s1:ag H (upd H A (.lst (rB.map V.str))):=ag.upd hA;have w1:upd H A (.lst (rB.map V.str)) A=some (.lst (rB.map V.str)):=au;exists ⟨_,ai.of w1⟩,?_;refine mB (K:=K) (a:=A) (xs:=rB.map V.str) (λi σ G=>∃v1:Option V,σ=[some (.ref p),v1]/\ag (upd H A (.lst (rB.map V.str))) G)
   ⟨none,rfl,ag.refl _⟩ (λi σ G _ ⟨_,_,s⟩=>ai.of (s _ _ w1)) ?_ ?_
  ·rintro i y σ G hi ⟨v1,rfl,sG⟩;obtain⟨x,hx,rfl⟩:=pick hi;unfold a9;exact step (Up x hx) (s1.trans sG) λe1 H1 h1 s2=>⟨by show 1<=sizeLine;decide,λB hB=>⟨_,_,cu (ag.upd hB _ _ h1),cu au,by decide,vN (by rw[gg];decide) ⟨_,rfl,sG.trans (s2.trans (ag.upd hB))⟩⟩⟩
  rintro σ G ⟨v1,rfl,sG⟩;have s1:=s1.trans sG;clear sG w1;exists by show 4<=sizeLine;decide,λA hA=>?_;have s2:ag G (upd G A (.lst (r9.map V.str))):=ag.upd hA;have w1:upd G A (.lst (r9.map V.str)) A=some (.lst (r9.map V.str)):=au;exists ⟨_,ai.of w1⟩,?_;refine mB (K:=K) (a:=A) (xs:=r9.map V.str) (λi σ G'=>∃v1:Option V,σ=[some (.ref p),v1]/\ag (upd G A (.lst (r9.map V.str))) G')
   ⟨_,rfl,ag.refl _⟩ (λi σ G _ ⟨_,_,s⟩=>ai.of (s _ _ w1)) ?_ ?_
  ·rintro i y σ G' hi ⟨v1,rfl,sG⟩;obtain⟨x,hx,rfl⟩:=pick hi;unfold a9;exact step (zcf x hx) (s1.trans (s2.trans sG)) λe1 H1 h1 s2=>⟨by show 1<=sizeLine;decide,λB hB=>⟨_,_,cu (ag.upd hB _ _ h1),cu au,by decide,vN (by rw[gg];decide) ⟨_,rfl,sG.trans (s2.trans (ag.upd hB))⟩⟩⟩
  rintro σ G' ⟨v1,rfl,sG⟩;have s1:=s1.trans (s2.trans sG);refine step (Oq "here =" (by simp)) s1 λe1 H1 h1 s2=>⟨by show 1<=sizeLine;decide,λB hB=>⟨_,_,cu (ag.upd hB _ _ h1),cu au,by decide,_,rfl,aU (by rw[gg];decide) ?_⟩⟩
  exact step (Oq "here :=" (by simp)) (s1.trans (s2.trans (ag.upd hB))) λe1 H1 h1 s2=>⟨by show 1<=sizeLine;decide,λB hB=>⟨_,_,cu (ag.upd hB _ _ h1),cu au,by decide,by rw[gg];exact q _⟩⟩
def YA(K:Frag):Sp:=λvs H Q _=>∃n:Int,vs=[.int n]/\0<=n/\∀w H',cV 9 1 w->32∉w->ag H H'->Q (.str (S w)) H'
def yh(T:Txt w K mg):Cc.Ok P w K mg base 1 (YA K):=by
  refine Rw.ok T.d_Z35.F T.d_Z35.S ?_;rintro vs H Q E ⟨n,rfl,hn,q⟩;refine⟨rfl,fun _ _ _ _ hr hu nd=>⟨_,(ar (bB (bD qp.j (aD cI.c (pV 0) aj) aj) (ao (az ak)) aM) (ao (az (xL (bc (ae ak (ae ak (ae ak (ae ak (ae ak (ae ak ah))))))) (aD cI.c (aD sF.c (pV 0) aj) aj))))),?_⟩⟩
  exists (by show (0:Int)<3;decide),v2 (λ_=>?_) (λ_=>?_)
  ·exact q (ofString "here").cps.toList H (by decide+kernel) (by decide+kernel) (ag.refl _)
  exists by show 6<=sizeLine;decide,λA hA=>?_;obtain⟨x,hx,gK⟩:=o7 (xs:=["there","plus","abcdefgh","abcdefghi","z","put"]) (i:=n/3%6) (by lia) (by show _<(6:Int);lia);exists yc (by decide) (by decide),(by show (0:Int)<6;decide),V.str x,ai.of au,gK,?_;have h:∀x∈(["there","plus","abcdefgh","abcdefghi","z","put"]:List Str),cV 9 1 x.cps.toList/\32∉x.cps.toList:=by decide+kernel
  exact q _ _ (h x hx).1 (h x hx).2 (ag.upd hA)
def Rj(K:Frag):Sp:=λvs H Q _=>∃n:Int,vs=[.int n]/\0<=n/\n<2^28/\∀w H',cV 19 0 w->ag H H'->Q (.str (S w)) H'
def JZ(T:Txt w K mg):Fd.Ok P w K mg base 1 (Rj K):=by
  refine Rw.ok T.d_Z36.F T.d_Z36.S ?_;rintro vs H Q E ⟨n,rfl,hn,o6,q⟩;exists rfl,λ_ _ _ _ hr hu nd=>⟨_,(ao (az (xL (bc (ae (gY md rfl T.n_str lg (ae (aD cI.c (pV 0) aj) ah)) (ae (gY md rfl T.n_str lg (ae (aD fg.j (aD uh.c aj aj) (pV 0)) ah)) (ae (gY md rfl T.n_str lg (ae (aD fg.j (aD uh.c aj aj) (pV 0)) ah)) (ae ak (ae ak ah)))))) (aD cI.c (aD sF.c (pV 0) aj) aj)))),?_⟩;have e1:(10:Int)^Int.toNat 17=100000000000000000:=by decide+kernel
  have e2:(10:Int)^Int.toNat 18=1000000000000000000:=by decide+kernel
  exists (by show (0:Int)<20;decide),_,rfl,CI (by lia) (by lia),⟨by decide,by decide,by decide⟩,_,rfl,CI (by rw[e1];lia) (by rw[e1];lia),⟨by decide,by decide,by decide⟩,_,rfl,CI (by rw[e2];lia) (by rw[e2];lia),(by show 5<=sizeLine;decide),λA hA=>?_;obtain⟨x,hx,gK⟩:=o7 (xs:=[ofString (toString (n%20)),ofString (toString ((10:Int)^Int.toNat 17+n)),ofString (toString ((10:Int)^Int.toNat 18+n)),"0","1"]) (i:=n/32%5) (by lia) (by show _<(5:Int);lia);exists yc (by decide) (by decide),(by show (0:Int)<5;decide),V.str x,ai.of au,gK,?_;obtain⟨w0,rfl,hw⟩:∃w,x=S w/\cV 19 0 w:=by
   rw[e1,e2]at hx;simp only[ba,ia,ib]at hx;rcases hx with rfl|rfl|rfl|rfl|rfl
   ·exact F3 (by omega) (by omega)
   ·exact F3 (by omega) (by omega)
   ·exact F3 (by omega) (by omega)
   ·exact⟨_,Ll _,by decide+kernel⟩
   ·exact⟨_,Ll _,by decide+kernel⟩
  exact q _ _ hw (ag.upd hA)
def KW(h0:0<=i)(h1:i<cs.length):∃c∈cs,ef cs i=some c:=by
 obtain⟨k,rfl⟩:=mf h0;have hk:k<cs.length:=by lia
 nomatch cs[k],nV hk,aZ (dD hk)
structure WL(ws:List (List Nat))(N L F:Nat):Prop where
 each:∀w∈ws,cV 19 1 w
 num:ws.length=N
 len:(ws.map λw=>w.length).sum+ws.length<=L
 few:(ws.map fq).sum+ws.length<=F
def WL.nil:WL [] 0 0 0:=⟨(λw hw=>by cases hw),rfl,aJ _,aJ _⟩
def WL.cons{ws:List (List Nat)}{N L F n k:Nat}{w:List Nat}(h:cV n k w)(r:WL ws N L F)(h1:n<=19:=by decide)(h2:k<=1:=by decide):WL (w::ws) (N+1) (n+1+L) (k+1+F):=by
 obtain⟨w1,w2,w3⟩:=h;obtain⟨r1,r2,r3,r4⟩:=r;exists λv hv=>?_,by rw[aW,r2],?_,?_
 ·rcases ba.mp hv with rfl|z
  ·exact⟨w1,by lia,by lia⟩
  ·exact r1 v z
 ·rw[bw,gh,aW];lia
 ·rw[bw,gh,aW];lia
def WL.ok(h:WL ws N L F)(h1:L<=50:=by decide)(h2:F<=10:=by decide)(h3:2<=N:=by decide)(h4:N<=6:=by decide):jE ws :=
 ⟨λw hw=>(h.each w hw).1,bp h.len h1,λw hw=>(h.each w hw).2.1,by rw[h.num];exact h3,by rw[h.num];exact h4,bp h.few h2,.inl λw hw=>(h.each w hw).2.2⟩
def Nz(ha:cV 9 1 a)(xB:32∉a)(hb:cV 2 0 b)(ht:cV 14 4 t):jE [a,b,t]:=by
 obtain⟨a1,a2,a3⟩:=ha;obtain⟨b1,b2,b3⟩:=hb;obtain⟨t1,t2,t3⟩:=ht;exists λw hw=>?_,?_,λw hw=>?_,by show 2<=3;decide,by show 3<=6;decide,?_,.inr ⟨a,b,t,rfl,xB,a3,by lia,t3⟩
 ·simp only[ba,ia,ib]at hw;rcases hw with rfl|rfl|rfl
  ·exact a1
  ·exact b1
  ·exact t1
 ·simp only[bw,iA,gh,rL,aW,mC];lia
 ·simp only[ba,ia,ib]at hw;rcases hw with rfl|rfl|rfl<;>lia
 ·simp only[bw,iA,gh,rL,aW,mC];lia
def xN(xs:List Int):Prop:=xs.length=12/\∀x∈xs,0<=x/\x<2^28
def RS(K:Frag):Sp:=λvs H Q _=>∃(X:Addr) (xs:List Int),vs=[.ref X]/\H X=some (.lst (xs.map V.int))/\xN xs/\∀(D:Addr) (ws:List (List Nat)) (H':Hp),jE ws->H' D=some (.lst (ws.map λw=>V.str (S w)))->ag H H'->Q (.ref D) H'
def QS(T:Txt w K mg):E8.Ok P w K mg base 2 (RS K):=by
  refine Rw.ok T.d_Z44.F T.d_Z44.S ?_;rintro vs H Q E ⟨X,xs,rfl,hX,jf,q⟩;refine⟨rfl,fun _ _ _ _ hr hu nd=>⟨_,(ar (aH 1 nd (aD cI.c (xL (pV 0) aj) aj)) (ar (aH 2 nd (aB T.d_Z35 (yh T) hr (ae (xL (pV 0) aj) ah))) (ar (aH 3 nd (aB T.d_Z35 (yh T) hr (ae (xL (pV 0) aj) ah))) (ar (aH 4 nd (pD p9 ak (aD cI.c (xL (pV 0) aj) aj))) (ar (bB (bD aY (pV 1) aj) (ar (aH 5 nd (xL (bc (ae ak (ae ak (ae ak (ae ak (ae ak (ae ak (ae ak (ae ak (ae ak (ae ak (ae ak ah)))))))))))) (aD cI.c (xL (pV 0) aj) aj))) (ao (az (bc (ae (pV 2) (ae ak (ae (pV 5) ah))))))) aM) (ar (bB (bD aY (pV 1) aj) (ar (aH 5 nd (xL (bc (ae ak (ae ak (ae ak (ae ak (ae ak (ae ak (ae ak (ae ak (ae ak (ae ak ah))))))))))) (aD cI.c (xL (pV 0) aj) aj))) (ao (az (bc (ae (pV 2) (ae ak (ae (pV 5) ah))))))) aM) (ar (bB (bD aY (pV 1) aj) (ao (az (bc (ae (pV 2) (ae ak (ae (xL (bc (ae ak (ae ak (ae ak ah)))) (aD cI.c (xL (pV 0) aj) aj)) (ae (pV 3) (ae (aB T.d_Z35 (yh T) hr (ae (xL (pV 0) aj) ah)) ah)))))))) aM) (ar (bB (bD aY (pV 1) aj) (ao (az (bc (ae (pV 2) (ae ak (ae ak (ae (pV 3) (ae (pV 4) (ae (pD p9 ak (aD cI.c (xL (pV 0) aj) aj)) ah))))))))) aM) (ar (bB (bD aY (pV 1) aj) (ao (az (bc (ae (pV 2) (ae ak (ae ak (ae (pV 3) (ae (pV 4) (ae (aB T.d_Z35 (yh T) hr (ae (xL (pV 0) aj) ah)) ah))))))))) aM) (ar (bB (bD aY (pV 1) aj) (ao (az (bc (ae (xL (bc (ae ak (ae ak (ae ak (ae ak ah))))) (aD cI.c (xL (pV 0) aj) aj)) (ae (pV 2) ah))))) aM) (ar (bB (bD aY (pV 1) aj) (ao (az (xL (bc (ae (bc (ae ak (ae (pV 2) (ae (aB T.d_Z36 (JZ T) hr (ae (xL (pV 0) aj) ah)) ah)))) (ae (bc (ae ak (ae (pV 2) (ae (pV 3) ah)))) ah))) (aD cI.c (xL (pV 0) aj) aj)))) aM) (ao (az (bc (ae ak (ae (pV 2) (ae (pV 3) (ae (aB T.d_Z36 (JZ T) hr (ae (xL (pV 0) aj) ah)) ah)))))))))))))))))),?_⟩⟩
  have has:∀k:Nat,k<12->∃x,ef (xs.map V.int) (k:Int)=some (V.int x)/\0<=x/\x<2^28:=λk hk=>by
   obtain⟨x,cw⟩:∃x,xs[k]?=some x:=⟨_,dD (by have:=jf.1;lia)⟩;nomatch x,aZ (by rw[bY,cw];rfl),jf.2 x (cM cw)
  obtain⟨x0,h0,n0⟩:=has 0 (by decide);obtain⟨x1,h1,n1⟩:=has 1 (by decide);obtain⟨x2,h2,n2⟩:=has 2 (by decide);obtain⟨x3,h3,n3⟩:=has 3 (by decide);obtain⟨x4,h4,n4⟩:=has 4 (by decide);exists V.int x0,ai.of hX,h0,(by show (0:Int)<8;decide),?_;exists V.int x1,ai.of hX,h1,x1,rfl,n1.1,λa H1 ha xB s1=>?_;exists V.int x2,ai.of (s1 _ _ hX),h2,x2,rfl,n2.1,λb H2 hb e8 s2=>?_;have S2:=s1.trans s2;have vc:=S2 _ _ hX;obtain⟨lc,hlm,ZD⟩:=KW (cs:=(ofString "abopq").cps.toList) (i:=x3%5) (by lia) (by show _<(5:Int);lia);have P0:cV 1 0 [lc]:=(show ∀c∈(ofString "abopq").cps.toList,cV 1 0 [c] by decide+kernel) lc hlm;exists V.int x3,ai.of vc,h3,(by show (0:Int)<5;decide),_,_,lc,rfl,rfl,(by decide+kernel),ZD,?_;have ea:cV 2 0 (ofString "=").cps.toList:=by decide+kernel
  refine v2 (λ_=>?_) (λ_=>?_)
  ·exists by show 11<=sizeLine;decide,λA hA=>?_;obtain⟨t,fT,ht⟩:=o7 (xs:=["a","0","3 - 2ab + c","-p","b + a","00","1a","ab - ab","","plusa","a  + b"]) (i:=x3%11) (by lia) (by show _<(11:Int);lia);have qj:cV 14 4 t.cps.toList:=(show ∀t∈(["a","0","3 - 2ab + c","-p","b + a","00","1a","ab - ab","","plusa","a  + b"]:List Str),cV 14 4 t.cps.toList by decide+kernel) t fT;have s3:=S2.trans (ag.upd (o:=.lst ((["a","0","3 - 2ab + c","-p","b + a","00","1a","ab - ab","","plusa","a  + b"]:List Str).map V.str)) hA);exists V.int x3,ai.of (s3 _ _ hX),h3,(by show (0:Int)<11;decide),V.str t,ai.of au,ht,?_;nomatch j1,λD hD=>q D [a,_,t.cps.toList] _ (Nz ha xB ea qj) au (s3.trans (ag.upd hD))
  refine v2 (λ_=>?_) (λ_=>?_)
  ·exists by show 10<=sizeLine;decide,λA hA=>?_;obtain⟨t,fT,ht⟩:=o7 (xs:=["a","not a","a and b","(a or b) xor 1","a and b or c","","q","a and  b","and","0"]) (i:=x3%10) (by lia) (by show _<(10:Int);lia);have qj:cV 14 4 t.cps.toList:=(show ∀t∈(["a","not a","a and b","(a or b) xor 1","a and b or c","","q","a and  b","and","0"]:List Str),cV 14 4 t.cps.toList by decide+kernel) t fT;have s3:=S2.trans (ag.upd (o:=.lst ((["a","not a","a and b","(a or b) xor 1","a and b or c","","q","a and  b","and","0"]:List Str).map V.str)) hA);exists V.int x3,ai.of (s3 _ _ hX),h3,(by show (0:Int)<10;decide),V.str t,ai.of au,ht,?_;nomatch j1,λD hD=>q D [a,(ofString ":=").cps.toList,t.cps.toList] _ (Nz ha xB (by decide+kernel) qj) au (s3.trans (ag.upd hD))
  refine v2 (λ_=>?_) (λ_=>?_)
  ·exists j1,λA hA=>?_;obtain⟨t,fT,ht⟩:=o7 (xs:=["plus","less","times"]) (i:=x3%3) (by lia) (by show _<(3:Int);lia);have qj:cV 5 1 t.cps.toList:=(show ∀t∈(["plus","less","times"]:List Str),cV 5 1 t.cps.toList by decide+kernel) t fT;have s3:=S2.trans (ag.upd (o:=.lst ((["plus","less","times"]:List Str).map V.str)) hA);exists V.int x3,ai.of (s3 _ _ hX),h3,(by show (0:Int)<3;decide),V.str t,ai.of au,ht,?_;exists V.int x4,ai.of (s3 _ _ hX),h4,x4,rfl,n4.1,λc H3 hc _ s4=>⟨by show 5<=sizeLine;decide,λD hD=>?_⟩;exact q D [a,(ofString "=").cps.toList,t.cps.toList,b,c] _ (WL.cons ha (.cons ea (.cons qj (.cons hb (.cons hc .nil))))).ok au (s3.trans (s4.trans (ag.upd hD)))
  refine v2 (λ_=>?_) (λ_=>?_)
  ·obtain⟨dc,YH,uX⟩:=KW (cs:=(ofString "012").cps.toList) (i:=x4%3) (by lia) (by show _<(3:Int);lia);have Se:cV 1 0 [dc]:=(show ∀c∈(ofString "012").cps.toList,cV 1 0 [c] by decide+kernel) dc YH;exists V.int x4,ai.of vc,h4,(by show (0:Int)<3;decide),_,_,dc,rfl,rfl,(by decide+kernel),uX,Ii,λD hD=>?_;exact q D [a,(ofString "=").cps.toList,(ofString "fixed").cps.toList,b,[lc],[dc]] _ (WL.cons ha (.cons ea (.cons (n:=5) (k:=0) (by decide+kernel) (.cons hb (.cons P0 (.cons Se .nil)))))).ok au (S2.trans (ag.upd hD))
  refine v2 (λ_=>?_) (λ_=>?_)
  ·exists V.int x4,ai.of vc,h4,x4,rfl,n4.1,λc H3 hc _ s4=>⟨by show 6<=sizeLine;decide,λD hD=>?_⟩;exact q D [a,(ofString "=").cps.toList,(ofString "put").cps.toList,b,[lc],c] _ (WL.cons ha (.cons ea (.cons (n:=3) (k:=1) (by decide+kernel) (.cons hb (.cons P0 (.cons hc .nil)))))).ok au (S2.trans (s4.trans (ag.upd hD)))
  refine v2 (λ_=>?_) (λ_=>?_)
  ·exists O1,λA hA=>?_;obtain⟨t,fT,ht⟩:=o7 (xs:=["show","least","ways","unknowns"]) (i:=x3%4) (by lia) (by show _<(4:Int);lia);have qj:cV 8 1 t.cps.toList:=(show ∀t∈(["show","least","ways","unknowns"]:List Str),cV 8 1 t.cps.toList by decide+kernel) t fT;have s3:=S2.trans (ag.upd (o:=.lst ((["show","least","ways","unknowns"]:List Str).map V.str)) hA);exists V.int x3,ai.of (s3 _ _ hX),h3,(by show (0:Int)<4;decide),V.str t,ai.of au,ht,?_;nomatch dw,λD hD=>q D [t.cps.toList,a] _ (WL.cons qj (.cons ha .nil)).ok au (s3.trans (ag.upd hD))
  refine v2 (λ_=>?_) (λ_=>?_)
  ·exists V.int x3,ai.of vc,h3,x3,rfl,n3.1,n3.2,λEY H3 Dk s3=>⟨by show 3<=sizeLine;decide,λA hA=>?_⟩;generalize eU:upd H3 A _=H4;obtain⟨s4,wA⟩:=nw eU hA;exists j1,λB hB=>?_;generalize eU:upd H4 B _=H5;obtain⟨s5,wB⟩:=nw eU hB;have wA5:=s5 _ _ wA;exists dw,λC hC=>?_;have s6:ag H5 (upd H5 C (.lst [.ref A,.ref B])):=ag.upd hC;have S6:=S2.trans (s3.trans (s4.trans (s5.trans s6)));have e2:x4%2=0\/x4%2=1:=by lia
   rcases e2 with e2|e2
   ·exists V.int x4,ai.of (S6 _ _ hX),h4,(by show (0:Int)<2;decide),V.ref A,ai.of au,(by rw[e2];rfl),?_;exact q A [(ofString "worth").cps.toList,a,EY] _ (WL.cons (n:=5) (k:=1) (by decide+kernel) (.cons ha (.cons Dk .nil))).ok (s6 _ _ wA5) S6
   ·exists V.int x4,ai.of (S6 _ _ hX),h4,(by show (0:Int)<2;decide),V.ref B,ai.of au,(by rw[e2];rfl),?_;exact q B [(ofString "alike").cps.toList,a,b] _ (WL.cons (n:=5) (k:=1) (by decide+kernel) (.cons ha (.cons hb .nil))).ok (s6 _ _ wB) S6
  exists V.int x3,ai.of vc,h3,x3,rfl,n3.1,n3.2,λEY H3 Dk s3=>⟨by show 4<=sizeLine;decide,λD hD=>?_⟩;exact q D [(ofString "rest").cps.toList,a,b,EY] _ (WL.cons (n:=4) (k:=1) (by decide+kernel) (.cons ha (.cons hb (.cons Dk .nil)))).ok au (S2.trans (s3.trans (ag.upd hD)))
def zbu(K:Frag):Sp:=λvs H Q _=>∃(l:List Nat) (X:Addr) (xs:List Int),vs=[.str (S l),.ref X]/\(∀c∈l,c<128)/\l.length<=49/\fq l<=9/\H X=some (.lst (xs.map V.int))/\xN xs/\∀(m:List Nat) (H':Hp),lW m->ag H H'->Q (.str (S m)) H'
def zbm(T:Txt w K mg):Eo.Ok P w K mg base 1 (zbu K):=by
  refine Rw.ok T.d_Z40.F T.d_Z40.S ?_;rintro vs H Q E ⟨l,X,xs,rfl,ha,hl,hf,hX,jf,q⟩;refine⟨rfl,fun _ _ _ _ hr hu nd=>⟨_,(ar (aH 2 nd ak) (ar (ur (bB (bD aY (aD cI.c (xL (pV 1) aj) aj) aj) (ao (aH 2 nd ak)) aM)) (ar (aH 3 nd (pD p9 (pV 2) (aD cI.c (xL (pV 1) aj) (bj gp (by rfl) T.n_len bS (ae (pV 2) ah)))))
   (ar (aH 4 nd (aD cI.c (xL (pV 1) aj) (aD fg.j (bj gp (by rfl) T.n_len bS (ae (pV 0) ah)) aj)))
   (ar (bB (bD aY (aD cI.c (xL (pV 1) aj) aj) aj) (ao (az (aD kT (dj lN (pV 0) di (cJ (pV 4))) (dj lN (pV 0) (cJ (aD fg.j (pV 4) aj)) di)))) aM) (ar (bB (bD aY (aD cI.c (xL (pV 1) aj) aj) aj) (ao (az (aD kT (aD kT (dj lN (pV 0) di (cJ (pV 4))) (pV 3)) (dj lN (pV 0) (cJ (aD fg.j (pV 4) aj)) di)))) aM) (ao (az (aD kT (aD kT (dj lN (pV 0) di (cJ (pV 4))) (pV 3)) (dj lN (pV 0) (cJ (pV 4)) di)))))))))),?_⟩⟩
  have has:∀k:Nat,k<12->∃x,ef (xs.map V.int) (k:Int)=some (V.int x)/\0<=x:=λk hk=>by
   obtain⟨x,cw⟩:∃x,xs[k]?=some x:=⟨_,dD (by have:=jf.1;lia)⟩;nomatch x,aZ (by rw[bY,cw];rfl),(jf.2 x (cM cw)).1
  obtain⟨x8,h8,n8⟩:=has 8 (by decide);obtain⟨x9,h9,n9⟩:=has 9 (by decide);obtain⟨pG,ra,Kw⟩:=has 10 (by decide);obtain⟨V8,AL,n11⟩:=has 11 (by decide);have lP:(S l).length<=sizeLine:=by rw[aN];exact bp hl (by decide)
  exists λσ G=>∃so:List Nat,σ=[some (.str (S l)),some (.ref X),some (.str (S so)),none,none]/\(∀c∈so,c<128)/\1<=so.length/\so.length<=100/\G=H,?_,?_
  ·exists V.int V8,ai.of hX,AL,(by show (0:Int)<4;decide),v2 (λ_=>?_) (λ_=>?_)
   ·nomatch _,rfl,by decide+kernel,by decide+kernel,by decide+kernel,rfl
   ·nomatch _,rfl,by decide+kernel,by decide+kernel,by decide+kernel,rfl
  rintro σ G ⟨so,rfl,XI,so2,so3,rfl⟩;have hsz:(S so).length<=sizeLine:=by rw[aN];exact bp so3 (by decide)
  have mx:0<((S so).length:Int):=by rw[aN];lia
  obtain⟨N0,MW⟩:∃i:Nat,pG%((S so).length:Int)=(i:Int):=⟨_,(mJ (sd _ (by lia))).symm⟩;have Um:N0<so.length:=by have:=vO pG mx;rw[MW,aN]at this;lia
  obtain⟨sc,Lw⟩:∃c,so[N0]?=some c:=⟨_,dD Um⟩;have SV:ef (S so).cps.toList (pG%((S so).length:Int))=some sc:=by rw[MW,gx];exact aZ Lw
  have Vm:=XI sc (cM Lw);exists V.int pG,ai.of hX,ra,_,rfl,hsz,mx,_,_,sc,rfl,rfl,hsz,SV,?_;exists V.int x8,ai.of hX,h8,_,rfl,lP,(by show (0:Int)<((S l).length:Int)+1;lia),?_;obtain⟨iZ,Sl⟩:∃i:Nat,x8%(((S l).length:Int)+1)=(i:Int):=⟨_,(mJ (sd _ (by lia))).symm⟩;dsimp only;rw[Sl];have t1:∀k:Nat,(∀c∈l.take k,c<128)/\(l.take k).length<=49/\∀c∈l.drop k,c<128:=λk=>⟨λc hc=>ha c (vA hc),by rw[c7];lia,λc hc=>ha c (oM hc)⟩
  have NJ:∀k:Nat,fq (l.take k)+fq (l.drop k)<=9/\(l.take k).length+(l.drop k).length<=49:=λk=>by rw[<-kF,<-aS,tF];nomatch hf,hl
  have qU:fq (l.drop (iZ+1))<=fq (l.drop iZ)/\(l.drop (iZ+1)).length<=(l.drop iZ).length:=by
   rw[show l.drop (iZ+1)=(l.drop iZ).drop 1 from by rw[KS]];cases l.drop iZ with
   |nil=>nomatch aJ _,aJ _
   |cons a r=>rw[Bz,mZ,nZ,aW];lia
  have big:∀{a b:List Nat},a.length+b.length<=1000->(S a).length+(S b).length<=sizeLine:=fun {a b} h=>by rw[aN,aN];exact bp h (by decide)
  have fin:∀m:List Nat,(∀c∈m,c<128)->m.length<=90->fq m<=11->Q (.str (S m)) G:=λm h1 h2 h3=>q m G ⟨h1,h2,tm h3⟩ (ag.refl _)
  have app:∀{a b:List Nat},(∀c∈a,c<128)->(∀c∈b,c<128)->∀c∈a++b,c<128:=λh1 h2 c hc=>(bW.mp hc).elim (h1 c) (h2 c)
  have as:∀c∈[sc],c<128:=λc hc=>by rw[bh.mp hc];exact Vm
  have fs:fq [sc]<=1:=by unfold fq;exact List.countP_le_length
  obtain⟨u1,u2⟩:=NJ iZ;have e1:(iZ:Int)+1=((iZ+1:Nat):Int):=by lia
  exists V.int x9,ai.of hX,h9,(by show (0:Int)<3;decide),v2 (λ_=>?_) (λ_=>?_)
  ·exists _,rfl,lP,?_;rw[B0];exists _,rfl,lP,?_;rw[e1,wV];exists _,_,rfl,rfl,big (by lia),?_;rw[kx];exact fin _ (app (t1 _).1 (t1 _).2.2) (by rw[aS];lia) (by rw[kF];lia)
  have ec:(S (l.take iZ)++({cps := #[sc]}:Str))=S (l.take iZ++[sc]):=kx (l.take iZ) [sc];exists V.int x9,ai.of hX,h9,(by show (0:Int)<3;decide),v2 (λ_=>?_) (λ_=>?_)
  ·exists _,rfl,lP,?_;rw[B0];exists _,_,rfl,rfl,big (b:=[sc]) (by show _+1<=_;lia),?_;exists _,rfl,lP,?_;rw[e1,wV,ec];exists _,_,rfl,rfl,big (by rw[aS];show _+1+_<=_;lia),?_;rw[kx];exact fin _ (app (app (t1 _).1 as) (t1 _).2.2) (by rw[aS,aS];show _+1+_<=_;lia) (by rw[kF,kF];lia)
  exists _,rfl,lP,?_;rw[B0];exists _,_,rfl,rfl,big (b:=[sc]) (by show _+1<=_;omega),?_;exists _,rfl,lP,?_;rw[wV,ec];exists _,_,rfl,rfl,big (by rw[aS];show _+1+_<=_;lia),?_;rw[kx];exact fin _ (app (app (t1 _).1 as) (t1 _).2.2) (by rw[aS,aS];show _+1+_<=_;lia) (by rw[kF,kF];lia)
def TU(K:Frag):Sp:=λvs H Q _=>∃n:Int,vs=[.int n]/\0<=n/\∀w H',cV 19 1 w->ag H H'->Q (.str (S w)) H'
noncomputable def m6:List Str:=["","=",":=","00","01","+1","-1","A","0","1","a","ab","q","here","plus","fixed","put"]
noncomputable def rD:List Str:=["show","worth","2","1000000000000000000","999999999999999999","==","x1","=a"]
def VI(T:Txt w K mg):Br.Ok P w K mg base 1 (TU K):=by
  refine Rw.ok T.d_Z37.F T.d_Z37.S ?_;rintro vs H Q E ⟨n,rfl,hn,q⟩;refine⟨rfl,fun _ _ _ _ hr hu nd=>⟨_,(ar (aH 1 nd (bc (ae ak (ae ak (ae ak (ae ak (ae ak (ae ak (ae ak (ae ak (ae ak (ae ak (ae ak (ae ak (ae ak (ae ak (ae ak (ae ak (ae ak ah))))))))))))))))))) (ar (aH 1 nd (aD lB (pV 1) (bc (ae ak (ae ak (ae ak (ae ak (ae ak (ae ak (ae ak (ae ak ah))))))))))) (ao (az (xL (pV 1) (aD cI.c (pV 0) (bj dJ (by rfl) T.n_len bS (ae (pV 1) ah)))))))),?_⟩⟩
  exists by show 17<=sizeLine;decide,λA hA=>?_;have s1:ag H (upd H A (.lst (m6.map V.str))):=ag.upd hA;have w1:upd H A (.lst (m6.map V.str)) A=some (.lst (m6.map V.str)):=au;exists (by show 8<=sizeLine;decide),λB hB=>?_;have s2:ag _ (upd (upd H A (.lst (m6.map V.str))) B (.lst (rD.map V.str))):=ag.upd hB;exists A,B,m6.map V.str,rD.map V.str,rfl,rfl,s2 _ _ w1,au,(by show 25<=sizeLine;decide),λC hC=>?_;have s3:ag _ (upd (upd (upd H A (.lst (m6.map V.str))) B (.lst (rD.map V.str))) C (.lst (m6.map V.str++rD.map V.str))):=ag.upd hC;obtain⟨x,hx,gK⟩:=o7 (xs:=m6++rD) (i:=n%25) (by lia) (by show _<(25:Int);lia);exists C,_,rfl,.inl (ai.of au),(by show (0:Int)<25;decide),V.str x,ai.of au,gK,?_;have h:∀x∈m6++rD,cV 19 1 x.cps.toList:=by decide+kernel
  exact q _ _ (h x hx) (s1.trans (s2.trans s3))
def Sz(K:Frag):Sp:=λvs H Q _=>∃(W X:Addr) (ws:List (List Nat)) (xs:List Int),vs=[.ref W,.ref X]/\H W=some (.lst (ws.map λw=>V.str (S w)))/\jE ws/\H X=some (.lst (xs.map V.int))/\xN xs/\∀(D:Addr) (us:List (List Nat)) (H':Hp),lW (bM 32 us)->us.length<=7->(∀w∈us,w.length<=19)->H' D=some (.lst (us.map λw=>V.str (S w)))->ag H H'->Q (.ref D) H'
def za2(T:Txt w K mg):DU.Ok P w K mg base 2 (Sz K):=by
  refine Rw.ok T.d_Z41.F T.d_Z41.S ?_;rintro vs H Q E ⟨W,X,ws,xs,rfl,hW,iL,hX,jf,q⟩;refine⟨rfl,fun _ _ _ _ hr hu nd=>⟨_,(ar (aH 2 nd (aD cI.c (xL (pV 1) aj) (bj dJ (by rfl) T.n_len bS (ae (pV 0) ah))))
   (ar (bB (bD aY (aD cI.c (xL (pV 1) aj) aj) aj) (ao (az (aD lB (dj ik (pV 0) di (cJ (pV 2))) (dj ik (pV 0) (cJ (aD fg.j (pV 2) aj)) di)))) aM) (ar (bB (bD aY (aD cI.c (xL (pV 1) aj) aj) aj) (ao (az (aD lB (aD lB (dj ik (pV 0) di (cJ (pV 2))) (bc (ae (xL (pV 0) (pV 2)) ah))) (dj ik (pV 0) (cJ (pV 2)) di)))) aM) (ao (az (aD lB (aD lB (dj ik (pV 0) di (cJ (pV 2))) (bc (ae (aB T.d_Z37 (VI T) hr (ae (xL (pV 1) aj) ah)) ah))) (dj ik (pV 0) (cJ (aD fg.j (pV 2) aj)) di))))))),?_⟩⟩
  have has:∀k:Nat,k<12->∃x,ef (xs.map V.int) (k:Int)=some (V.int x)/\0<=x:=λk hk=>by
   obtain⟨x,cw⟩:∃x,xs[k]?=some x:=⟨_,dD (by have:=jf.1;omega)⟩;nomatch x,aZ (by rw[bY,cw];rfl),(jf.2 x (cM cw)).1
  obtain⟨x8,h8,n8⟩:=has 8 (by decide);obtain⟨x9,h9,n9⟩:=has 9 (by decide);obtain⟨pG,ra,Kw⟩:=has 10 (by decide);have cY:=iL.ne;have hle:=iL.le;obtain⟨i,hi⟩:∃i:Nat,x8%(ws.length:Int)=(i:Int):=⟨_,(mJ (sd _ (by lia))).symm⟩;have eA:i<ws.length:=by have:=vO x8 (show (0:Int)<ws.length by lia);lia
  exists V.int x8,ai.of hX,h8,W,_,rfl,.inl (ai.of hW),(by rw[ay];lia),?_;dsimp only;rw[ay,hi];have rq:(i:Int)+1=((i+1:Nat):Int):=by lia
  have tk:∀w∈ws.take i,w.length<=19:=λw hw=>iL.each w (vA hw)
  have dr:∀(k:Nat),∀w∈ws.drop k,w.length<=19:=λk w hw=>iL.each w (oM hw)
  have vP:∀{a b:List (List Nat)},(∀w∈a,w.length<=19)->(∀w∈b,w.length<=19)->∀w∈a++b,w.length<=19:=λh1 h2 w hw=>(bW.mp hw).elim (h1 w) (h2 w)
  have sz:∀{a b:List V},a.length<=8->b.length<=8->a.length+b.length<=sizeLine:=λh1 h2=>gf (by lia)
  have lt:((ws.take i).map λw=>V.str (S w)).length<=6:=by rw[ay,c7];lia
  have ld:∀k,((ws.drop k).map λw=>V.str (S w)).length<=6:=λk=>by rw[ay,fL];lia
  exists V.int x9,ai.of hX,h9,(by show (0:Int)<3;decide),v2 (λ_=>?_) (λ_=>?_)
  ·exists W,_,rfl,ai.of hW,λA hA=>?_;rw[zj];generalize eU:upd H A _=H1;obtain⟨s1,wA⟩:=nw eU hA;exists W,_,rfl,ai.of (s1 _ _ hW),λB hB=>?_;rw[rq,sx];have s2:ag H1 (upd H1 B (.lst ((ws.drop (i+1)).map λw=>V.str (S w)))):=ag.upd hB;exists A,B,_,_,rfl,rfl,s2 _ _ wA,au,sz (by lia) (bp (ld _) (by decide)),λD hD=>?_;refine q D (ws.take i++ws.drop (i+1)) _ (iL.del eA) ?_ (vP tk (dr _)) ?_ (s1.trans (s2.trans (ag.upd hD)))
   ·rw[aS,c7,fL];lia
   ·rw[au,aQ]
  exists V.int x9,ai.of hX,h9,(by show (0:Int)<3;decide),v2 (λ_=>?_) (λ_=>?_)
  ·exists W,_,rfl,ai.of hW,λA hA=>?_;rw[zj];generalize eU:upd H A _=H1;obtain⟨s1,wA⟩:=nw eU hA;exists V.str (S ws[i]),ai.of (s1 _ _ hW),aZ (by rw[bY,dD eA];rfl),d5,λC hC=>?_;generalize eU:upd H1 C _=H2;obtain⟨s2,wC⟩:=nw eU hC;have By:=s2 _ _ wA;exists A,C,_,_,rfl,rfl,By,wC,sz (by omega) (by show 1<=8;decide),λD hD=>?_;generalize eU:upd H2 D _=H3;obtain⟨s3,wD⟩:=nw eU hD;have S3:=s1.trans (s2.trans s3);exists W,_,rfl,ai.of (S3 _ _ hW),λB hB=>?_;rw[sx];have s4:ag H3 (upd H3 B (.lst ((ws.drop i).map λw=>V.str (S w)))):=ag.upd hB;exists D,B,_,_,rfl,rfl,s4 _ _ wD,au,sz (by rw[aS];show _+1<=8;lia) (bp (ld _) (by decide)),λF hF=>?_;refine q F (ws.take i++[ws[i]]++ws.drop i) _ (iL.two eA) ?_ (vP (vP tk λw hw=>by rw[bh.mp hw];exact iL.each _ (nV eA)) (dr _)) ?_ (S3.trans (s4.trans (ag.upd hF)))
   ·rw[aS,aS,c7,fL];show _+1+_<=7;lia
   ·rw[au,aQ,aQ];rfl
  exists W,_,rfl,ai.of hW,λA hA=>?_;rw[zj];generalize eU:upd H A _=H1;obtain⟨s1,wA⟩:=nw eU hA;exists V.int pG,ai.of (s1 _ _ hX),ra,pG,rfl,Kw,λo H2 ho s2=>⟨by show 1<=sizeLine;decide,λC hC=>?_⟩;generalize eU:upd H2 C _=H3;obtain⟨s3,wC⟩:=nw eU hC;have By:=s3 _ _ (s2 _ _ wA);exists A,C,_,_,rfl,rfl,By,wC,sz (by omega) (by show 1<=8;decide),λD hD=>?_;generalize eU:upd H3 D _=H4;obtain⟨s4,wD⟩:=nw eU hD;have S4:=s1.trans (s2.trans (s3.trans s4));exists W,_,rfl,ai.of (S4 _ _ hW),λB hB=>?_;rw[rq,sx];have s5:ag H4 (upd H4 B (.lst ((ws.drop (i+1)).map λw=>V.str (S w)))):=ag.upd hB;exists D,B,_,_,rfl,rfl,s5 _ _ wD,au,sz (by rw[aS];show _+1<=8;omega) (bp (ld _) (by decide)),λF hF=>?_;refine q F (ws.take i++[o]++ws.drop (i+1)) _ (iL.odd eA ho) ?_ (vP (vP tk λw hw=>by rw[bh.mp hw];exact ho.2.1) (dr _)) ?_ (S4.trans (s5.trans (ag.upd hF)))
  ·rw[aS,aS,c7,fL];show _+1+_<=7;lia
  ·rw[au,aQ,aQ];rfl
def Z4(K:Frag):Sp:=λvs H Q _=>∃(X:Addr) (xs:List Int),vs=[.ref X]/\H X=some (.lst (xs.map V.int))/\xN xs/\∀(m:List Nat) (H':Hp),lW m->ag H H'->Q (.str (S m)) H'
def W7(T:Txt w K mg):D8.Ok P w K mg base 3 (Z4 K):=by
  refine Rw.ok T.d_Z32.F T.d_Z32.S ?_;rintro vs H Q E ⟨X,xs,rfl,hX,jf,q⟩;refine⟨rfl,fun _ _ _ _ hr hu nd=>⟨_,(ar (aH 1 nd (aB T.d_Z44 (QS T) hr (ae (pV 0) ah))) (ar (bB (bD aY (aD cI.c (xL (pV 0) aj) aj) aj) (ao (az (ck eV sv qR rg ak (ae (aB T.d_Z41 (za2 T) hr (ae (pV 1) (ae (pV 0) ah))) ah)))) aM) (ar (bB (bD aY (aD cI.c (xL (pV 0) aj) aj) aj) (ao (az (aB T.d_Z40 (zbm T) hr.m (ae (ck eV sv qR rg ak (ae (pV 1) ah)) (ae (pV 0) ah))))) aM) (ao (az (ck eV sv qR rg ak (ae (pV 1) ah))))))),?_⟩⟩
  exists X,xs,rfl,hX,jf,λW ws H1 iL hW s1=>?_;obtain⟨x7,cw⟩:∃x,xs[7]?=some x:=⟨_,dD (by have:=jf.1;lia)⟩;have h7:ef (xs.map V.int) ((7:Nat):Int)=some (V.int x7):=aZ (by rw[bY,cw];rfl);obtain⟨l0,l1,l2⟩:=iL.line;have wJ:=s1 _ _ hX;have hle:=iL.le;have few:((ws.map S).map (·.length)).sum+(ws.map S).length*(ofString " ").length<=16777216:=CO (λw hw=>bp (iL.each w hw) (by decide)) (by lia);have sq:H1 W=some (.lst ((ws.map S).map V.str)):=by rw[uY];exact hW
  exists V.int x7,ai.of wJ,h7,(by show (0:Int)<4;decide),v2 (λ_=>?_) (λ_=>?_)
  ·exists rfl,W,X,ws,xs,rfl,hW,iL,wJ,jf,λD us H2 hlok hul UP hD s2=>?_;exists _,D,us.map S,rfl,rfl,(by rw[uY];exact ai.of hD),CO (λw hw=>bp (UP w hw) (by decide)) (by lia),?_;rw[Bm];exact q _ H2 hlok (s1.trans s2)
  exists V.int x7,ai.of wJ,h7,(by show (0:Int)<4;decide),v2 (λ_=>?_) (λ_=>?_)
  ·exists rfl,_,W,ws.map S,rfl,rfl,ai.of sq,few,?_;rw[Bm];nomatch bM 32 ws,X,xs,rfl,l0.1,l1,l2,wJ,jf,λm H2 hm s2=>q m H2 hm (s1.trans s2)
  exists rfl,_,W,ws.map S,rfl,rfl,ai.of sq,few,?_;rw[Bm];exact q _ H1 l0 s1
def ie(h:x=S b)(a:List Nat):decide (V.str (S a)=V.str x)=decide (a=b):=by
 rw[h];by_cases z:a=b
 ·rw[z,aC rfl,aC rfl]
 ·rw[aL z,aL λy=>z (by injection y with y;exact d0 y)]
def IL{c:Bool}{A B C:Prop}(h:c=true->A)(k:c=false->C):if c=true then (if true=true then A else B)else C:=by
 cases c
 ·exact bL (k rfl)
 ·exact bP (bP (h rfl))
def Zb:Sp:=λvs H Q _=>∃w:List Nat,vs=[.str (S w)]/\(∀c∈w,c<128)/\w.length<=10000/\Q (.bl (aP w)) H
def Xd{w:List Nat}{c:Nat}(h:c∈w)(hc:¬(97<=c/\c<123)):aP w=false:=by
 unfold aP
 have:(w.all λc=>decide (97<=c/\c<123))=false:=sJ.mpr λz=>hc (br (gz.mp z c h))
 rw[this,iG,iG]
def l8(T:Txt w K mg):AB.Ok P w K mg base 1 Zb:=by
  refine Rw.ok T.d_Z30.F T.d_Z30.S ?_;rintro vs H Q E ⟨wo,rfl,ha,hl,q⟩;refine⟨rfl,fun _ _ _ _ hr hu nd=>⟨_,(ar (eN dQ rfl (sr (pV 0)) (bf 1 nd) (ao (bt (jZ Es (pV 1) ak rfl) (ao (az jr)) aM))) (ao (az (fX (cO jq.j aj (bj gp (by rfl) T.n_len bS (ae (pV 0) ah))) (fR (cO jq.j (bj gp (by rfl) T.n_len bS (ae (pV 0) ah)) aj)))))),?_⟩⟩
  have hz:(S wo).length<=sizeLine:=by rw[aN];exact gf (by lia)
  exists _,rfl,qT ha,?_;refine zc (l:=wo) (λi σ G=>∃v1:Option V,σ=[some (.str (S wo)),v1]/\(∀c∈wo.take i,97<=c/\c<123)/\G=H)
   ⟨none,rfl,(λc hc=>by simp at hc),rfl⟩ ?_ ?_
  ·rintro i c σ G hc ⟨v1,rfl,g1,rfl⟩;have bz:wo.take (i+1)=wo.take i++[c]:=by rw[dR,hc];rfl
   have ub:=cM hc;unfold a9;exists _,_,rfl,rfl,_,rfl,?_;rw[Nc,Kb c (ha c ub)];by_cases z:97<=c/\c<123
   ·refine aF (by rw[aC z];decide) ⟨_,rfl,λx hx=>?_,rfl⟩;rw[bz]at hx;rcases bW.mp hx with y|y
    ·exact g1 x y
    ·rw[bh.mp y];exact z
   ·refine aU (by rw[aL z];rfl) ?_;rw[Xd ub z]at q;exact q
  ·rintro σ G ⟨v1,rfl,g1,rfl⟩;rw[dH]at g1;have j3:(wo.all λc=>decide (97<=c/\c<123))=true:=gz.mpr λc hc=>aC (g1 c hc)
   have e:aP wo=(decide (1<=wo.length)&&decide (wo.length<=8)):=by unfold aP;rw[j3,gS]
   rw[e]at q;exists _,rfl,hz,_,rfl,?_;refine kg (λz=>?_) (λz=>?_)
   ·have z':=br z;rw[aN]at z';exists _,rfl,hz,?_;have e2:(decide (1<=wo.length)&&decide (wo.length<=8))=decide (((S wo).length:Int)<9):=by
     rw[aN,aC (show 1<=wo.length by lia),oB];exact rR.mpr (by lia)
    rw[e2]at q;exact q
   ·have e2:(decide (1<=wo.length)&&decide (wo.length<=8))=false:=by
     rw[aL (λy=>z (aC (by rw[aN];lia))),ql]
    rw[e2]at q;exact q
def Vp{w:List Nat}{c:Nat}(h:c∈w)(hc:¬(48<=c/\c<58)):cf w=false:=by
 unfold cf;split
 ·exact aL λz=>by rw[z]at h;exact hc (by rw[bh.mp h];decide)
 ·have:(w.all λc=>decide (48<=c/\c<58))=false:=sJ.mpr λz=>hc (br (gz.mp z c h))
  rw[this,iG,iG]
def Ta:Sp:=λvs H Q _=>∃w:List Nat,vs=[.str (S w)]/\(∀c∈w,c<128)/\w.length<=10000/\Q (.bl (cf w)) H
def OM(T:Txt w K mg):Co.Ok P w K mg base 1 Ta:=by
  refine Rw.ok T.d_Z31.F T.d_Z31.S ?_;rintro vs H Q E ⟨wo,rfl,ha,hl,q⟩;refine⟨rfl,fun _ _ _ _ hr hu nd=>⟨_,(ar (eN dQ rfl (sr (pV 0)) (bf 1 nd) (ao (bt (jZ Es (pV 1) ak rfl) (ao (az jr)) aM))) (ao (az (yr (cO aY (pV 0) ak) (fR (fX (cO jq.j aj (bj gp (by rfl) T.n_len bS (ae (pV 0) ah))) (fX (cO jq.j (bj gp (by rfl) T.n_len bS (ae (pV 0) ah)) aj) (fR (cO fP (pD p9 (pV 0) aj) ak))))))))),?_⟩⟩
  have hz:(S wo).length<=sizeLine:=by rw[aN];exact gf (by omega)
  exists _,rfl,qT ha,?_;refine zc (l:=wo) (λi σ G=>∃v1:Option V,σ=[some (.str (S wo)),v1]/\(∀c∈wo.take i,48<=c/\c<58)/\G=H)
   ⟨none,rfl,(λc hc=>by simp at hc),rfl⟩ ?_ ?_
  ·rintro i c σ G hc ⟨v1,rfl,g1,rfl⟩;have bz:wo.take (i+1)=wo.take i++[c]:=by rw[dR,hc];rfl
   have ub:=cM hc;unfold a9;exists _,_,rfl,rfl,_,rfl,?_;rw[AS,Jp c (ha c ub)];by_cases z:48<=c/\c<58
   ·refine aF (by rw[aC z];decide) ⟨_,rfl,λx hx=>?_,rfl⟩;rw[bz]at hx;rcases bW.mp hx with y|y
    ·exact g1 x y
    ·rw[bh.mp y];exact z
   ·refine aU (by rw[aL z];rfl) ?_;rw[Vp ub z]at q;exact q
  ·rintro σ G ⟨v1,rfl,g1,rfl⟩;rw[dH]at g1;have j3:(wo.all λc=>decide (48<=c/\c<58))=true:=gz.mpr λc hc=>aC (g1 c hc)
   exists _,rfl,?_;by_cases z0:wo=[48]
   ·refine aU (aC (by rw[z0,fz])) ?_;rw[z0]at q;exact q
   refine aF (λy=>z0 (by have:=br y;injection this with this;rw[fz]at this;exact d0 this)) ?_;exists _,rfl,hz,_,rfl,?_;cases wo with
   |nil=>exact aF (by decide) q
   |cons c r =>
    refine aU (aC (by rw[aN,aW];lia)) ?_;exists _,rfl,hz,_,rfl,?_;by_cases z1:(c::r).length<=18
    ·refine aU (aC (by rw[aN];lia)) ?_;exists _,_,c,rfl,rfl,hz,(aZ (j:=0) rfl),?_;have e:cf (c::r) = !decide (V.str (S [c])=V.str (ofString "0")):=by
      unfold cf;rw[fz,j3,aC z1];by_cases y:c=48
      ·subst y;rw[ax (show (48::r).head?=some 48 from rfl),aL z0,aC rfl];rfl
      ·have e5:decide (V.str (S [c])=V.str (S [48]))=false:=aL λq=>y (by injection q with q;have:=d0 q;injection this)
       rw[aq (show ¬(c::r).head?=some 48 from λq=>y (cD q)),e5];simp
     rw[e]at q;exact q
    ·refine aF (λy=>z1 (by have:=br y;rw[aN]at this;lia)) ?_;have e:cf (c::r)=false:=by
      unfold cf;split
      ·exact aL z0
      ·rw[aL z1,ql,iG]
     rw[e]at q;exact q
def m7(b x:List Nat):(S b == S x)=decide (x=b):=by
 by_cases z:x=b
 ·rw[z,aC rfl];simp
 ·rw[aL z];exact sJ.mpr λy=>z (d0 (kP.mp y)).symm
def zct(K:Frag):Sp:=λvs H Q _=>∃(w:List Nat) (R:Addr) (r:List (List Nat)),vs=[.str (S w),.ref R]/\(∀v∈r,v.length<=1000/\∀c∈v,c<128)/\r.length<=1000/\H R=some (.lst (r.map λw=>V.str (S w)))/\∀H',ag H H'->Q (.bl (qx w r)) H'
def zcI(T:Txt w K mg):Au.Ok P w K mg base 2 (zct K):=by
  refine Rw.ok T.d_Z27.F T.d_Z27.S ?_;rintro vs H Q E ⟨wo,R,r,rfl,ha,hl,hR,q⟩;refine⟨rfl,fun _ _ _ _ hr hu nd=>⟨_,(ar (bt (PW.pt (gv (bb aY (bj dJ (by rfl) T.n_len bS (ae (pV 1) ah)) aj) (jg (iO (fJ (aB T.d_Z30 (l8 T) hr (ae (xL (pV 1) aj) ah))))))) (ao (az jr)) aM)
   (ar (bt (jZ pF (pV 0) (bc (ae ak (ae ak (ae ak (ae ak ah))))) rfl) (ao (az (cO aY (bj dJ (by rfl) T.n_len bS (ae (pV 1) ah)) aj))) aM)
   (ar (bt (bb aY (pV 0) ak) (ao (az (fX (cO aY (bj dJ (by rfl) T.n_len bS (ae (pV 1) ah)) aj) (fR (aB T.d_Z31 (OM T) hr (ae (xL (pV 1) aj) ah)))))) aM)
   (ar (bt (bb aY (pV 0) ak) (ao (az (fX (cO aY (bj dJ (by rfl) T.n_len bS (ae (pV 1) ah)) aj) (fR (aB T.d_Z30 (l8 T) hr (ae (xL (pV 1) aj) ah)))))) aM)
   (ar (aH 2 nd (fX (cO aY (pV 0) ak) (fX (cO aY (bj dJ (by rfl) T.n_len bS (ae (pV 1) ah)) aj) (fR (aB T.d_Z30 (l8 T) hr (ae (xL (pV 1) aj) ah))))))
   (ao (az (fX (pV 2) (fX (aB T.d_Z31 (OM T) hr (ae (xL (pV 1) aj) ah)) (fR (cO fP (xL (pV 1) aj) ak))))))))))),?_⟩⟩
  obtain⟨k1,k2,k3,k4,k5,k6,k7⟩:=rQ;exists R,_,rfl,.inl (ai.of hR),_,rfl,?_
  match r with
  |[]=>exact aU (by decide) (bP (q H (ag.refl _)))
  |a::r =>
   obtain⟨a1,a2⟩:=ha a (by simp);refine aF (by rw[ay,aL (λy=>by injection y with y;rw[aW]at y;lia)];decide) ?_;have q':∀H',ag H H'->Q (.bl (aP a&&tL wo r)) H':=q;exists V.str (S a),ai.of hR,aZ (j:=0) rfl,a,rfl,a2,by lia,_,rfl,?_;rcases fj (aP a)with hn|hn
   ·rw[hn]at q' ⊢;exact bP (q' H (ag.refl _))
   rw[hn]at q' ⊢;refine bL ?_;exists O1,λA hA=>?_;have s1:ag H (upd H A (.lst [V.str (ofString "show"),V.str (ofString "least"),V.str (ofString "ways"),V.str (ofString "unknowns")])):=ag.upd hA;exists A,_,rfl,.inl (ai.of au),rfl,rfl,_,rfl,?_;have kS:=s1 _ _ hR;have q1:=λH' (s:ag _ H')=>q' H' (s1.trans s)
   generalize upd H A (.lst [V.str (ofString "show"),V.str (ofString "least"),V.str (ofString "ways"),V.str (ofString "unknowns")])=H1 at kS q1 ⊢;have ei:(if false=true then !iz (V.str (S wo)) [V.str (ofString "show"),V.str (ofString "least"),V.str (ofString "ways"),V.str (ofString "unknowns")]else iz (V.str (S wo)) [V.str (ofString "show"),V.str (ofString "least"),V.str (ofString "ways"),V.str (ofString "unknowns")])=q9 wo:=by
    rw[k1,k5,k6,k7];show (S W1.shw.wl == S wo || (S W1.lea.wl == S wo || (S W1.way.wl == S wo || (S W1.unk.wl == S wo || false))))=_;rw[m7,m7,m7,m7,qG,<-oj,<-oj,<-oj];rfl
   rw[ei];have q2:=q1 H1 (ag.refl _);unfold tL at q2;by_cases z1:q9 wo=true
   ·refine aU z1 ?_;rw[ax z1]at q2;exists R,_,rfl,.inl (ai.of kS),?_;have e:(true&&decide (r.length=0))=decide (V.int (((a::r).map λw=>V.str (S w)).length:Int)=V.int 1):=by
     rw[oB,ay,aW];exact rR.mpr ⟨λh=>by rw[h];rfl,λh=>by injection h with h;lia⟩
    rw[e]at q2;exact q2
   refine aF z1 ?_;rw[aq z1]at q2;have FU:∀k:Nat,decide (V.int (((a::r).map λw=>V.str (S w)).length:Int)=V.int ((k+1:Nat):Int))=decide (r.length=k):=λk=>by
    rw[ay,aW];exact rR.mpr ⟨λh=>by injection h with h;lia,λh=>by rw[h]⟩
   exists _,rfl,?_;rw[ie k2];by_cases z2:wo=lr
   ·refine aU (aC z2) ?_;rw[ax z2]at q2;exists R,_,rfl,.inl (ai.of kS),_,rfl,?_;rw[show V.int 2=V.int ((1+1:Nat):Int) from rfl,FU 1];by_cases h1:r.length=1
    rotate_left
    ·rw[aL h1]at q2 ⊢;exact bL q2
    obtain⟨b,rfl⟩:=qX.mp h1;obtain⟨b1,b2⟩:=ha b (by simp);exact aU rfl ⟨V.str (S b),ai.of kS,aZ (j:=1) rfl,b,rfl,b2,by lia,q2⟩
   refine aF (λy=>z2 (br y)) ?_;rw[aq z2]at q2;exists _,rfl,?_;rw[ie k3];by_cases z3:wo=lu
   ·refine aU (aC z3) ?_;rw[ax z3]at q2;exists R,_,rfl,.inl (ai.of kS),_,rfl,?_;rw[show V.int 2=V.int ((1+1:Nat):Int) from rfl,FU 1];by_cases h1:r.length=1
    rotate_left
    ·rw[aL h1]at q2 ⊢;exact bL q2
    obtain⟨b,rfl⟩:=qX.mp h1;obtain⟨b1,b2⟩:=ha b (by simp);exact aU rfl ⟨V.str (S b),ai.of kS,aZ (j:=1) rfl,b,rfl,b2,by omega,q2⟩
   refine aF (λy=>z3 (br y)) ?_;rw[aq z3]at q2;exists _,rfl,?_;rw[ie k4];by_cases z4:wo=lO
   rotate_left
   ·rw[aL z4]at q2 ⊢;exact bL ⟨_,rfl,bL q2⟩
   rw[aC z4]at q2 ⊢;refine bP ⟨R,_,rfl,.inl (ai.of kS),_,rfl,?_⟩;rw[show V.int 3=V.int ((2+1:Nat):Int) from rfl,FU 2];by_cases h2:r.length=2
   rotate_left
   ·rw[aL h2]at q2 ⊢;exact bL ⟨_,rfl,bL q2⟩
   match r,h2 with
   |[b,c],_ =>
    obtain⟨b1,b2⟩:=ha b (by simp);obtain⟨c1,c2⟩:=ha c (by simp);have q3:Q (.bl (aP b&&(cf c && !decide (c=[48])))) H1:=q2;refine aU rfl ⟨V.str (S b),ai.of kS,aZ (j:=1) rfl,b,rfl,b2,by lia,?_⟩;exists _,rfl,?_;rcases fj (aP b)with hb|hb
    ·rw[hb]at q3 ⊢;exact bL q3
    rw[hb]at q3 ⊢;refine bP ⟨V.str (S c),ai.of kS,aZ (j:=2) rfl,c,rfl,c2,by lia,_,rfl,?_⟩;rcases fj (cf c)with hc|hc
    ·rw[hc]at q3 ⊢;exact bL q3
    rw[hc]at q3 ⊢;refine bP ⟨V.str (S c),ai.of kS,aZ (j:=2) rfl,?_⟩;rw[<-ie fz]at q3;exact q3
def R0(K:Frag):Sp:=λvs H Q _=>∃(w:List Nat) (R:Addr) (r:List (List Nat)),vs=[.str (S w),.ref R]/\(∀v∈r,v.length<=1000/\∀c∈v,c<128)/\r.length<=1000/\H R=some (.lst (r.map λw=>V.str (S w)))/\Q (.bl (km w r)) H
def XU(T:Txt w K mg):AI.Ok P w K mg base 2 (R0 K):=by
  refine Rw.ok T.d_Z33.F T.d_Z33.S ?_;rintro vs H Q E ⟨wo,R,r,rfl,ha,hl,hR,q⟩;refine⟨rfl,fun _ _ _ _ hr hu nd=>⟨_,(ar (bt (PW.pt (gv (bb aY (pV 0) ak) (jg (bb aY (pV 0) ak)))) (ar (bt (PW.pt (gv (bb fP (bj dJ (by rfl) T.n_len bS (ae (pV 1) ah)) aj) (gv (iO (fJ (aB T.d_Z30 (l8 T) hr (ae (xL (pV 1) aj) ah)))) (gv (bb fP (bj gp (by rfl) T.n_len bS (ae (xL (pV 1) aj) ah)) aj) (jg (jZ Es (xL (pV 1) aj) ak rfl)))))) (ao (az jr)) aM)
   (ar (bt (bb aY (pV 0) ak) (ao (az (yr (cO aY (xL (pV 1) aj) ak) (fR (cO aY (xL (pV 1) aj) ak))))) aM) (ao (az (aB T.d_Z30 (l8 T) hr (ae (xL (pV 1) aj) ah)))))) aM)
   (ao (az (fX (cO aY (bj dJ (by rfl) T.n_len bS (ae (pV 1) ah)) aj) (fX (aB T.d_Z30 (l8 T) hr (ae (xL (pV 1) aj) ah)) (fR (aB T.d_Z30 (l8 T) hr (ae (xL (pV 1) aj) ah)))))))),?_⟩⟩
  have lf:=nE.2.2.2.1;have lp:=nE.2.2.2.2;have z9:∀{v:List Nat},v.length<=1000->(S v).length<=sizeLine:=λh=>by rw[aN];exact gf (by lia)
  exists _,rfl,?_;by_cases z:wo=gi\/wo=ji
  ·have e:km wo r=_:=ax z;rw[e]at q;refine (λhA=>IL (λ_=>hA) λh=>⟨_,rfl,aU (by
    rw[ie lf]at h;exact (ie lp wo).trans (aC (z.resolve_left (wW h)))) hA⟩) ?_
   exists R,_,rfl,.inl (ai.of hR),_,rfl,?_;rw[ay];by_cases h3:r.length=3
   rotate_left
   ·refine aU (by rw[aL (λy=>h3 (by injection y with y;lia))];rfl) (bP ?_);rw[aL h3]at q;exact q
   refine aF (by rw[h3];decide) ?_
   match r,h3 with
   |[a,b,c],_ =>
    obtain⟨a1,a2⟩:=ha a (by simp);obtain⟨b1,b2⟩:=ha b (by simp);obtain⟨c1,c2⟩:=ha c (by simp);have q':Q (.bl (aP a&&(bI .letter b&&if wo=gi then bI .bit c else aP c))) H:=q;exists V.str (S a),ai.of hR,aZ (j:=0) rfl,a,rfl,a2,by lia,_,rfl,?_;rcases fj (aP a)with hn|hn
    ·rw[hn]at q' ⊢;exact bP (bP q')
    rw[hn]at q' ⊢;refine bL ?_;exists V.str (S b),ai.of hR,aZ (j:=1) rfl,_,rfl,z9 b1,_,rfl,?_;by_cases hb:b.length=1
    rotate_left
    ·refine aU (by rw[aN,aL (λy=>hb (by injection y with y;lia))];rfl) (bP ?_);have e1:bI .letter b=false:=by rw[BB,aL hb];rfl
     rw[e1]at q';exact q'
    refine aF (by rw[aN,hb];decide) ?_;obtain⟨x,rfl⟩:=qX.mp hb;exists V.str (S [x]),ai.of hR,aZ (j:=1) rfl,_,_,rfl,rfl,_,rfl,?_;rw[nQ,LB x (b2 x (by simp))];have e1:bI .letter [x]=decide (97<=x/\x<113):=by rw[BB];simp
    rw[e1]at q';by_cases hx:97<=x/\x<113
    rotate_left
    ·rw[aL hx]at q' ⊢;exact bP q'
    rw[aC hx]at q' ⊢;refine bL ?_;exists _,rfl,?_;by_cases zf:wo=gi
    ·refine aU (by rw[ie lf];exact aC zf) ?_;rw[ax zf]at q';exists V.str (S c),ai.of hR,aZ (j:=2) rfl,_,rfl,?_;rw[ie fz];have q2:Q (.bl (decide (c=[48]) || decide (c=[49]))) H:=q';by_cases h0:c=[48]
     ·refine aU (aC h0) ?_;rw[aC h0]at q2;exact q2
     ·refine aF (by rw[aL h0];decide) ?_;rw[aL h0]at q2;exists V.str (S c),ai.of hR,aZ (j:=2) rfl,?_;rw[<-ie pY]at q2;exact q2
    ·refine aF (by rw[ie lf];exact λy=>zf (br y)) ?_;rw[aq zf]at q';nomatch V.str (S c),ai.of hR,aZ (j:=2) rfl,c,rfl,c2,by lia,q'
  ·have e:km wo r=_:=aq z;rw[e]at q;refine aF (by rw[ie lf];exact λy=>z (.inl (br y))) ?_;exists _,rfl,aF (by rw[ie lp];exact λy=>z (.inr (br y))) ?_;exists R,_,rfl,.inl (ai.of hR),_,rfl,?_;rw[ay];by_cases h2:r.length=2
   rotate_left
   ·refine aF (by rw[aL (λy=>h2 (by injection y with y;lia))];decide) ?_;rw[aL h2]at q;exact q
   refine aU (by rw[h2];decide) ?_
   match r,h2 with
   |[a,b],_ =>
    obtain⟨a1,a2⟩:=ha a (by simp);obtain⟨b1,b2⟩:=ha b (by simp);have q':Q (.bl (aP a&&aP b)) H:=q;exists V.str (S a),ai.of hR,aZ (j:=0) rfl,a,rfl,a2,by lia,_,rfl,?_;rcases fj (aP a)with hn|hn
    ·rw[hn]at q' ⊢;exact bL q'
    rw[hn]at q' ⊢;exact bP ⟨V.str (S b),ai.of hR,aZ (j:=1) rfl,b,rfl,b2,by lia,q'⟩
def QI{c:Bool}{A B C:Prop}(h:c=false->B)(k:c=true->C):if c=true then C else (if false=true then A else B):=by
 cases c
 ·exact bL (bL (h rfl))
 ·exact bP (k rfl)
def sD(h:x=S b)(a:List Nat):(!decide (V.str (S a)=V.str x)) = !decide (a=b):=by rw[ie h]
def Jk:("here" : Str)=S mE:=by decide+kernel
def Gg(z:Bool)(A B:Addr):ef [V.ref A,V.ref B] (if z then 1 else 0)=some (V.ref (if z then B else A)):=by cases z<;>rfl
def Du.wo:Du->Str
 |.line => "line" |.name => "name" |.text => "text" |.fs => "form or statement"
def Vg(K:Frag):Sp:=λvs H Q _=>∃l:List Nat,vs=[.str (S l)]/\(∀c∈l,c<128)/\l.length<=90/\∀(e:Addr) (H':Hp),H' e=some (.lst [.str (g9 (aX l)).wo])->ag H H'->Q (.ref e) H'
def Q6:(["_law_word"]:List Str).Nodup:=by decide+kernel
def zar:(["_law_name_here"]:List Str).Nodup:=by decide+kernel
def zbb(T:Txt w K mg):uT.Ok P w K mg base 3 (Vg K):=by
  refine Rw.ok T.d_Z28.F T.d_Z28.S ?_;rintro vs H Q E ⟨l,rfl,ha,hl,q⟩;refine⟨rfl,fun _ _ _ _ hr hu nd=>⟨_,(ar (aH 1 nd (ck eV vC uP vm (pV 0) (ae ak ah))) (ar (bt (PW.pt (gv (bb jq.j (bj dJ (by rfl) T.n_len bS (ae (pV 1) ah)) aj) (jg (PW.pt (iD (bb fP (xL (pV 1) aj) ak) (iM (bb fP (xL (pV 1) aj) ak))))))) (ar (bt (iO (fJ (aB T.d_Z27 (zcI T) hr (ae (xL (pV 1) aj) (ae (dj ik (pV 1) (cJ aj) di) ah))))) (ao (az (bc (ae ak ah)))) aM)
   (ar (EZ (i:=2) (g:=(a9 0)) ["_law_word"] 1 [] nd rfl (Or.inl rfl) rfl (d7 uT) (dM (dj ik (pV 1) (cJ aj) di)) (λcl C s₀ H₀ fp=>(bf 0 Q6)) (λcl C s₀ H₀ fp=>(jM (PW.pt (iD (fJ (aB T.d_Z30 (l8 T) hr.m (ae (pV 0) ah))) (iM (bb fP (pV 0) ak)))))) (λcl C s₀ H₀ fp=>(pV 0))) (ao (az (xL (bc (ae (bc (ae ak ah)) (ae (bc (ae ak ah)) ah))) (gY P6 rfl T.n_int vX (ae (cO qp.j (bj dJ (by rfl) T.n_len bS (ae (pV 2) ah)) aj) ah))))))) aM)
   (ar (bt (iO (fJ (aB T.d_Z30 (l8 T) hr.m (ae (xL (pV 1) aj) ah)))) (ao (az (bc (ae ak ah)))) aM) (ar (bt (PW.pt (iD (bb aY (xL (pV 1) aj) ak) (iM (jZ pF (xL (pV 1) aj) (bc (ae ak (ae ak (ae ak (ae ak (ae ak ah)))))) rfl)))) (ar (bt (iO (fJ (aB T.d_Z33 (XU T) hr (ae (xL (pV 1) aj) (ae (dj ik (pV 1) (cJ aj) di) ah))))) (ao (az (bc (ae ak ah)))) aM) (ar (aH 2 nd (bc (ae (xL (pV 1) aj) (ae (xL (pV 1) (kX kR aj)) ah)))) (ar (bt (bb aY (xL (pV 1) aj) ak) (ao (aH 2 nd (dj ik (pV 2) di (cJ aj)))) aM)
   (ao (az (xL (bc (ae (bc (ae ak ah)) (ae (bc (ae ak ah)) ah))) (gY P6 rfl T.n_int vX (ae (cO qp.j (bj dJ (by rfl) T.n_len bS (ae (gn (g:=(a9 0)) ["_law_name_here"] 1 [] rfl (d7 uT) (dM (pV 2))
    (λcl C s₀ H₀ fp=>(bf 0 zar)) (λcl C s₀ H₀ fp=>(jM (bb fP (pV 0) ak))) (λcl C s₀ H₀ fp=>(pV 0))) ah)) aj) ah)))))))) aM)
   (ao (az (bc (ae ak ah)))))))),?_⟩⟩
  have eR:Txt.split (S l) (S [32])=(aX l).map S:=by
   have:=uS (c:=32) (gT l) (nF l)
   rwa [n6 l]at this
  exists rfl,_,_,rfl,rfl,(by rw[jQ];rfl),(by rw[aN];exact je hl (by decide)),λW hW=>?_;rw[jQ,eR,uY];obtain⟨w0,wr,ew⟩:∃w0 wr,aX l=w0::wr:=by
   cases e:aX l with
   |nil=>exact absurd e (gT l)
   |cons a b=>nomatch a,b,rfl
  have fF:=pI l;have iP:=rj l;rw[ew]at fF iP q ⊢;generalize eU:upd H W _=H1;obtain⟨s1,w1⟩:=nw eU hW;have q:=λe H' h (s:ag _ H')=>q e H' h (s1.trans s)
  have hok:∀v∈w0::wr,v.length<=1000/\∀c∈v,c<128:=λv hv=>⟨by have:=fF.2 v hv;lia,λc hc=>ha c (iP v hv c hc)⟩
  have d8:(w0::wr).length<=100:=by have:=fF.1;lia
  have out:∀{d:Du}{G:Hp},(∀e H',H' e=some (.lst [.str d.wo])->ag H1 H'->Q (.ref e) H')->ag H1 G->∀e,G e=none->Q (.ref e) (upd G e (.lst [.str d.wo])):=λh s e he=>h e _ au (s.trans (ag.upd he))
  exists W,_,rfl,.inl (ai.of w1),_,rfl,?_;have Ru:decide ((((w0::wr).map λw=>V.str (S w)).length:Int)<3)=decide ((w0::wr).length<3):=by rw[ay];exact rR.mpr (by lia)
  rw[Ru];by_cases z:(w0::wr).length<3\/((w0::wr).getD 1 []≠[61]/\(w0::wr).getD 1 []≠[58,61])
  ·have ed:g9 (w0::wr)=_:=ax z;rw[ed]at q;refine (λhA=>IL (λ_=>hA) λh=>?_) ?_
   ·obtain⟨y1,y2⟩:=z.resolve_left (wW h)
    match wr,h,y1,y2 with
    |x1::xr,_,y1,y2 =>
     have y1:¬x1=[61]:=y1;have y2:¬x1=[58,61]:=y2;exists V.str (S x1),ai.of w1,aZ (j:=1) rfl,_,rfl,aU (by rw[sD mF,aL y1];rfl) ?_;nomatch V.str (S x1),ai.of w1,aZ (j:=1) rfl,_,rfl,aU (by rw[sD Ab,aL y2];rfl) hA
    |[],h,_,_=>exact absurd h (by simp)
   have e1:ff ((w0::wr).map λw=>V.str (S w)) (some 1) none=wr.map λw=>V.str (S w):=sx (w0::wr) 1
   exists V.str (S w0),ai.of w1,aZ (j:=0) rfl,W,_,rfl,ai.of w1,λR hR=>?_;rw[e1];have s2:ag H1 (upd H1 R (.lst (wr.map λw=>V.str (S w)))):=ag.upd hR;exists w0,R,wr,rfl,(λv hv=>hok v (cq _ hv)),(by rw[aW]at d8;lia),au,λH2 s3=>⟨_,rfl,?_⟩;have S3:=s2.trans s3;rcases fj (qx w0 wr)with hf|hf
   ·rw[hf];rw[show ((w0::wr).headD []:List Nat)=w0 from rfl,show (w0::wr).tail=wr from rfl,aq (by rw[hf];decide)]at q;exact bP ⟨by show 1<=sizeLine;decide,out q S3⟩
   rw[hf];rw[show ((w0::wr).headD []:List Nat)=w0 from rfl,show (w0::wr).tail=wr from rfl,ax hf]at q;refine bL ?_;exists W,_,rfl,ai.of (S3 _ _ w1),λR2 Vd=>?_;rw[e1];have s4:ag H2 (upd H2 R2 (.lst (wr.map λw=>V.str (S w)))):=ag.upd Vd;have w4:upd H2 R2 (.lst (wr.map λw=>V.str (S w))) R2=some (.lst (wr.map λw=>V.str (S w))):=au;have S4:=S3.trans s4;generalize upd H2 R2 (.lst (wr.map λw=>V.str (S w)))=H4 at w4 S4 ⊢;exists ⟨_,ai.of w4⟩,?_;refine jI (K:=K) (a:=R2) (xs:=wr.map λw=>V.str (S w)) (λi ys σ G=>∃v0:Option V,σ=[v0]/\ys=((wr.take i).filter λw=>aP w&&bG w).map (λw=>V.str (S w))/\G=H4)
    ⟨none,rfl,rfl,rfl⟩ (λi ys σ G hi ⟨_,_,e1,e2⟩=>⟨by rw[e2];exact ai.of w4,by rw[e1,ay];exact bp (gI _ _) (by rw[c7];lia)⟩) (by rw[ay];rw[aW]at d8;exact gf (by lia)) ?_ ?_
   ·rintro i y ys σ G hi ⟨v0,rfl,rfl,rfl⟩;rw[bY]at hi;obtain⟨x,hx,rfl⟩:∃x,wr[i]?=some x/\V.str (S x)=y:=by
     cases e:wr[i]? with
     |none=>rw[e]at hi;cases hi
     |some t=>rw[e]at hi;nomatch t,rfl,cD hi
    have bz:wr.take (i+1)=wr.take i++[x]:=by rw[dR,hx];rfl
    obtain⟨k1,k2⟩:=hok x (cq _ (cM hx));have yes:(aP x&&bG x)=true->((wr.take i).filter λw=>aP w&&bG w).map (λw=>V.str (S w))++[V.str (S x)]=((wr.take (i+1)).filter λw=>aP w&&bG w).map (λw=>V.str (S w)):=λh=>by rw[bz,fS,aQ,dZ,ax h];rfl
    have no:(aP x&&bG x)=false->((wr.take i).filter λw=>aP w&&bG w).map (λw=>V.str (S w))=((wr.take (i+1)).filter λw=>aP w&&bG w).map (λw=>V.str (S w)):=λh=>by rw[bz,fS,aQ,dZ,aq (by rw[h];decide)];simp
    unfold a9;exists x,rfl,k2,by lia,_,rfl,?_;rcases fj (aP x)with hn|hn
    ·rw[hn];exact bL (bL ⟨_,rfl,no (by rw[hn];rfl),rfl⟩)
    rw[hn];refine bP ⟨_,rfl,?_⟩;rw[sD Jk];rcases fj (bG x)with hh|hh
    ·exact aF (by rw[show (!decide (x=mE))=bG x from rfl,hh];decide) ⟨_,rfl,no (by rw[hn,hh];rfl),rfl⟩
    ·exact aU (by rw[show (!decide (x=mE))=bG x from rfl,hh]) ⟨_,rfl,yes (by rw[hn,hh];rfl),rfl⟩
   ·rintro ys σ G ⟨v0,rfl,rfl,rfl⟩ D hD;rw[ay,dH];generalize eU:upd G D _=H5;obtain⟨s5,w5⟩:=nw eU hD;exists by show 1<=sizeLine;decide,λA hA=>?_;generalize eU:upd H5 A _=H6;obtain⟨s6,w6⟩:=nw eU hA;exists by show 1<=sizeLine;decide,λB hB=>?_;generalize eU:upd H6 B _=H7;obtain⟨s7,w7⟩:=nw eU hB;exists by show 2<=sizeLine;decide,λC hC=>?_;have s8:ag H7 (upd H7 C (.lst [.ref A,.ref B])):=ag.upd hC;exists D,_,rfl,.inl (ai.of (s8 _ _ (s7 _ _ (s6 _ _ w5)))),.inr ⟨_,rfl,_,ai.of au,Gg _ A B,?_⟩;have S8:=S4.trans (s5.trans (s6.trans (s7.trans s8)));have en:decide (0<(((wr.filter λw=>aP w&&bG w).map λw=>V.str (S w)).length:Int))=decide ((wr.filter λw=>aP w&&bG w).length>0):=by rw[ay];exact rR.mpr (by lia)
    rw[en];by_cases hg:(wr.filter λw=>aP w&&bG w).length>0
    ·rw[aC hg];rw[ax hg]at q;exact q B _ (s8 _ _ w7) S8
    ·rw[aL hg];rw[aq hg]at q;exact q A _ (s8 _ _ (s7 _ _ w6)) S8
  have ed:g9 (w0::wr)=_:=aq z;rw[ed]at q;have h3:2<(w0::wr).length:=by
   rcases kb 2 (w0::wr).length with y|y
   ·exact y
   ·exact absurd (.inl (by lia)) z
  have hs:(w0::wr).getD 1 []≠[61]->(w0::wr).getD 1 []=[58,61]:=λy=>HM λy2=>z (.inr ⟨y,y2⟩)
  refine aF (λy=>z (.inl (br y))) ?_
  match wr,h3 with
  |x1::x2::r,_ =>
   have hs:¬x1=[61]->x1=[58,61]:=hs;have q:∀e H',H' e=some (.lst [.str (if aP w0=true then (if x1=[61]/\kz x2=true then (if km x2 r=true then (if ((lK x2 r).filter bG).length>0 then Du.name else .text)else .line)else .fs)else .line).wo])->ag H1 H'->Q (.ref e) H':=q;refine (λhB=>⟨V.str (S x1),ai.of w1,aZ (j:=1) rfl,_,rfl,QI (λ_=>hB) λh=>⟨V.str (S x1),ai.of w1,aZ (j:=1) rfl,_,rfl,aF (by
    rw[sD mF]at h;rw[sD Ab,aC (hs λy=>by rw[aC y]at h;cases h)];decide) hB⟩⟩) ?_
   obtain⟨a1,a2⟩:=hok w0 (by simp);exists V.str (S w0),ai.of w1,aZ (j:=0) rfl,w0,rfl,a2,by lia,_,rfl,?_;rcases fj (aP w0)with hn|hn
   ·rw[hn];rw[aq (by rw[hn];decide)]at q;exact bP ⟨by show 1<=sizeLine;decide,out q (ag.refl _)⟩
   rw[hn];rw[ax hn]at q;refine bL ?_;exists V.str (S x1),ai.of w1,aZ (j:=1) rfl,_,rfl,?_;rw[ie mF];by_cases y1:x1=[61]
   rotate_left
   ·rw[aq (λy=>y1 y.1)]at q;exact aF (by rw[aL y1];decide) (bL ⟨by show 1<=sizeLine;decide,out q (ag.refl _)⟩)
   refine aU (aC y1) ?_;exists V.str (S x2),ai.of w1,aZ (j:=2) rfl,(by show 5<=sizeLine;decide),λA hA=>?_;have s2:ag H1 (upd H1 A (.lst [V.str (ofString "plus"),V.str (ofString "less"),V.str (ofString "times"),V.str (ofString "fixed"),V.str (ofString "put")])):=ag.upd hA;exists A,_,rfl,.inl (ai.of au),rfl,rfl,_,rfl,?_;have w2:=s2 _ _ w1;generalize upd H1 A (.lst [V.str (ofString "plus"),V.str (ofString "less"),V.str (ofString "times"),V.str (ofString "fixed"),V.str (ofString "put")])=H2 at s2 w2 ⊢;have ei:(if false=true then !iz (V.str (S x2)) [V.str (ofString "plus"),V.str (ofString "less"),V.str (ofString "times"),V.str (ofString "fixed"),V.str (ofString "put")]else iz (V.str (S x2)) [V.str (ofString "plus"),V.str (ofString "less"),V.str (ofString "times"),V.str (ofString "fixed"),V.str (ofString "put")])=kz x2:=by
    obtain⟨k1,k2,k3,k4,k5⟩:=nE;rw[k1,k2,k3,k4,k5];show (S (eI 0) == S x2 || (S (eI 1) == S x2 || (S (eI 2) == S x2 || (S gi == S x2 || (S ji == S x2 || false)))))=_;rw[m7,m7,m7,m7,m7,qG,<-oj,<-oj,<-oj,<-oj];rfl
   rw[ei];rcases fj (kz x2)with h5|h5
   ·rw[h5];rw[aq (λy=>by rw[h5]at y;exact absurd y.2 (by decide))]at q;exact bL ⟨by show 1<=sizeLine;decide,out q s2⟩
   rw[h5];rw[ax ⟨y1,h5⟩]at q;refine bP ?_;have e3:ff ((w0::x1::x2::r).map λw=>V.str (S w)) (some 3) none=r.map λw=>V.str (S w):=sx (w0::x1::x2::r) 3
   exists V.str (S x2),ai.of w2,aZ (j:=2) rfl,W,_,rfl,ai.of w2,λR hR=>?_;rw[e3];generalize eU:upd H2 R _=H3;obtain⟨s3,wR⟩:=nw eU hR;have w3:=s3 _ _ w2;have S3:=s2.trans s3;have hrl:r.length<=97:=by simp only[aW]at d8;lia
   exists x2,R,r,rfl,(λv hv=>hok v (by simp[hv])),by lia,wR,_,rfl,?_;rcases fj (km x2 r)with hm|hm
   ·rw[hm];rw[aq (by rw[hm];decide)]at q;exact bP ⟨by show 1<=sizeLine;decide,out q S3⟩
   rw[hm];rw[ax hm]at q;refine bL ?_;obtain⟨r0,rr,rfl⟩:∃r0 rr,r=r0::rr:=by
    cases r with
    |nil=>unfold km at hm;split at hm<;>cases hm
    |cons a b=>nomatch a,b,rfl
   have rh:ef ((w0::x1::x2::r0::rr).map λw=>V.str (S w)) (-1)=some (V.str (S ((r0::rr).getLastD []))):=by
    rcases Al rr with e|⟨p,y,e⟩
    ·subst e;rfl
    ·rw[t5]at e;subst e;rw[show (w0::x1::x2::r0::(p++[y])).map (λw=>V.str (S w))=(w0::x1::x2::r0::p).map (λw=>V.str (S w))++[V.str (S y)] by simp,lS,show r0::(p++[y])=(r0::p)++[y] from rfl,List.getLastD_concat]
   exists V.str (S r0),ai.of w3,aZ (j:=3) rfl,_,rfl,_,ai.of w3,rh,dw,λM hM=>?_;generalize hrl':(r0::rr).getLastD []=rl at rh ⊢;have S5:=S3.trans (ag.upd (o:=.lst [V.str (S r0),V.str (S rl)]) hM);have w5:upd H3 M (.lst [V.str (S r0),V.str (S rl)]) M=some (.lst ([r0,rl].map λw=>V.str (S w))):=au;have wx:upd H3 M (.lst [V.str (S r0),V.str (S rl)]) W=_:=ag.upd hM _ _ w3;generalize upd H3 M (.lst [V.str (S r0),V.str (S rl)])=G5 at S5 w5 wx ⊢;exists V.str (S x2),ai.of wx,aZ (j:=2) rfl,_,rfl,?_;rw[ie nE.2.2.2.1];obtain⟨ns,jc⟩:∃ns,lK x2 (r0::rr)=ns:=⟨_,rfl⟩;rw[jc]at q;have hns2:ns.length<=2:=by rw[<-jc];unfold lK;split<;>simp
   rcases GN (x2=gi)with zf|zf
   rotate_left
   have en:[r0,rl]=ns:=by rw[<-jc,<-hrl'];unfold lK;rw[aq zf];rfl
   rw[en]at w5;refine aF (λy=>zf (br y)) ?_
   rotate_left
   have en:[r0]=ns:=by rw[<-jc];unfold lK;rw[ax zf];rfl
   have e1:ff ([r0,rl].map λw=>V.str (S w)) none (some 1)=ns.map λw=>V.str (S w):=by rw[<-en];exact zj [r0,rl] 1
   refine aU (aC zf) ⟨M,_,rfl,ai.of w5,λM hM=>?_⟩;rw[e1];have S5:=S5.trans (ag.upd (o:=.lst (ns.map λw=>V.str (S w))) hM);have w5:upd G5 M (.lst (ns.map λw=>V.str (S w))) M=some (.lst (ns.map λw=>V.str (S w))):=au;generalize upd G5 M (.lst (ns.map λw=>V.str (S w)))=G5 at S5 w5 ⊢
   all_goals
    exists by show 1<=sizeLine;decide,λA hA=>?_;generalize eU:upd G5 A _=H6;obtain⟨s6,w6⟩:=nw eU hA;exists by show 1<=sizeLine;decide,λB hB=>?_;generalize eU:upd H6 B _=H7;obtain⟨s7,w7⟩:=nw eU hB;exists by show 2<=sizeLine;decide,λC hC=>?_;have s8:ag H7 (upd H7 C (.lst [.ref A,.ref B])):=ag.upd hC;have w8:upd H7 C (.lst [.ref A,.ref B]) C=_:=au;have wA:=s8 _ _ (s7 _ _ w6);have wB:=s8 _ _ w7;have wM:=s8 _ _ (s7 _ _ (s6 _ _ w5));have S8:=S5.trans (s6.trans (s7.trans s8));generalize upd H7 C (.lst [.ref A,.ref B])=H8 at w8 wA wB wM S8 ⊢;exists ⟨_,ai.of wM⟩,?_;refine jI (K:=K) (a:=M) (xs:=ns.map λw=>V.str (S w)) (λi ys σ G=>∃v0:Option V,σ=[v0]/\ys=((ns.take i).filter bG).map (λw=>V.str (S w))/\G=H8)
     ⟨none,rfl,rfl,rfl⟩ (λi ys σ G hi ⟨_,_,e1,e2⟩=>⟨by rw[e2];exact ai.of wM,by rw[e1,ay];exact bp (gI _ _) (by rw[c7];omega)⟩) (by rw[ay];exact gf (by lia)) ?_ ?_
    ·rintro i y ys σ G hi ⟨v0,rfl,rfl,rfl⟩;rw[bY]at hi;obtain⟨x,hx,rfl⟩:∃x,ns[i]?=some x/\V.str (S x)=y:=by
      cases e:ns[i]? with
      |none=>rw[e]at hi;cases hi
      |some t=>rw[e]at hi;nomatch t,rfl,cD hi
     have bz:ns.take (i+1)=ns.take i++[x]:=by rw[dR,hx];rfl
     unfold a9;exists _,rfl,?_;rw[sD Jk];rcases fj (bG x)with hh|hh
     ·refine aF (by rw[show (!decide (x=mE))=bG x from rfl,hh];decide) ⟨_,rfl,?_,rfl⟩;rw[bz,fS,aQ,dZ,aq (by rw[hh];decide)];simp
     ·refine aU (by rw[show (!decide (x=mE))=bG x from rfl,hh]) ⟨_,rfl,?_,rfl⟩;rw[bz,fS,aQ,dZ,ax hh];rfl
    ·rintro ys σ G ⟨v0,rfl,rfl,rfl⟩ D hD;rw[ay,dH];have s9:ag G (upd G D (.lst ((ns.filter bG).map λw=>V.str (S w)))):=ag.upd hD;exists D,_,rfl,.inl (ai.of au),.inr ⟨_,rfl,_,ai.of (s9 _ _ w8),Gg _ A B,?_⟩;have en:decide (0<(((ns.filter bG).map λw=>V.str (S w)).length:Int))=decide ((ns.filter bG).length>0):=by rw[ay];exact rR.mpr (by omega)
     rw[en];by_cases hg:(ns.filter bG).length>0
     ·rw[aC hg];rw[ax hg]at q;exact q B _ (s9 _ _ wB) (S8.trans s9)
     ·rw[aL hg];rw[aq hg]at q;exact q A _ (s9 _ _ wA) (S8.trans s9)
  |[],h=>exact absurd h (by simp)
  |[_],h=>exact absurd h (by simp)
def Y4(K:Frag):Sp:=λvs H Q _=>∃(W:Addr) (ws:List (List Nat)),vs=[.ref W]/\H W=some (.lst (ws.map λw=>V.str (S w)))/\2<=ws.length/\(ws.length<=1000/\∀w∈ws,w.length<=1000)/\∀(e:Addr) (H':Hp),H' e=some (.lst [.str (if ws.getD 1 []=[61]then "form" else "statement")])->ag H H'->Q (.ref e) H'
def zcK(T:Txt w K mg):DH.Ok P w K mg base 1 (Y4 K):=by
  refine Rw.ok T.d_Z43.F T.d_Z43.S ?_;rintro vs H Q E ⟨W,ws,rfl,hW,h2,hl,q⟩;refine⟨rfl,fun _ _ _ _ hr hu nd=>⟨_,(ar (aH 1 nd (ck eV sv qR rg ak (ae (dj ik (pV 0) (cJ aj) di) ah))) (ar (bt (bb aY (xL (pV 0) aj) ak) (ao (az (bc (ae ak ah)))) aM) (ao (az (bc (ae ak ah)))))),?_⟩⟩
  have ec:ff (ws.map λw=>V.str (S w)) (some 2) none=(ws.drop 2).map λw=>V.str (S w):=sx ws 2
  exists rfl,W,_,rfl,ai.of hW,λD hD=>?_;rw[ec];have s1:ag H (upd H D (.lst ((ws.drop 2).map λw=>V.str (S w)))):=ag.upd hD;exists _,D,(ws.drop 2).map S,rfl,rfl,(by rw[uY];exact ai.of au),CO (λw hw=>hl.2 w (oM hw)) (by rw[fL];lia),?_;obtain⟨w0,w1,wr,rfl⟩:∃w0 w1 wr,ws=w0::w1::wr:=by
   match ws,h2 with
   |a::b::r,_=>nomatch a,b,r,rfl
  exists V.str (S w1),ai.of (s1 _ _ hW),aZ (j:=1) rfl,_,rfl,?_;by_cases z:w1=[61]
  ·refine aU (aC (by rw[z,mF])) ?_;exists by show 1<=sizeLine;decide,λe he=>q e _ ?_ (s1.trans (ag.upd he));rw[au,ax (show (w0::w1::wr).getD 1 []=[61] from z)]
  ·refine aF (λy=>z (by have:=br y;injection this with this;rw[mF]at this;exact d0 this)) ?_;exists by show 1<=sizeLine;decide,λe he=>q e _ ?_ (s1.trans (ag.upd he));rw[au,aq (show ¬(w0::w1::wr).getD 1 []=[61] from z)]
def XS:rn bu:=λn f h=>by
 unfold eY bu at h;rw[fV]at h;split at h
 ·cases h;rfl
 ·cases h
def U6(K:Frag)(C:Addr):Sp:=λvs H Q _=>∃(p d e:Addr) (l:List Nat),vs=[.ref p,.str (S l),.ref e]/\iB C H p d bu/\lW l/\H e=some (.lst [.str (g9 (aX l)).wo])/\∀H',aV d H H'->(g9 (aX l)=.line\/g9 (aX l)=.name->ag H H')->Q (.bl true) H'
set_option tactic.hygienic true in
def Pf(T:Txt w K mg):Cz.Ok P w K mg base 11 (U6 K eF):=by
  refine Rw.ok T.d_Z29.F T.d_Z29.S ?_;rintro vs H Q E ⟨p,d,e,l,rfl,hD,hL,he,q⟩;refine⟨rfl,fun _ _ _ _ hr hu nd=>⟨_,(ar (aH 3 nd (aB T.d_Z39 (sQ T) hr (ae (pV 0) (ae (pV 1) ah)))) (ar (bB (bD (oi (jD hr)) (pV 2) (bc (ae ak ah))) (ao (az (yr (cO (oi (jD hr)) (pV 3) ak) (fR (cO (oi (jD hr)) (pV 3) (aB T.d_Z43 (zcK T) hr.m (ae (ck eV vC uP vm (pV 1) (ae ak ah)) ah))))))) aM) (ar (bB (bD (oi (jD hr)) (pV 2) (bc (ae ak ah))) (ao (az (bj YC (by rfl) T.n_isinstance mM (ae (pV 3) (ae (LK (v:=.ty "str") (by rfl) T.n_str lg rfl) ah))))) aM)
   (ao (az (cO (oi (jD hr)) (pV 3) (pV 2))))))),?_⟩⟩
  obtain⟨l1,l2,l3⟩:=hL;have hF:=zcP l;have eR:Txt.split (S l) (S [32])=(aX l).map S:=by
   have:=uS (c:=32) (gT l) (nF l)
   rwa [n6 l]at this
  exists p,d,bu,l,rfl,hD,XS,by decide,l1,l2,l3,?_;have vT:e≠d:=by
   obtain⟨_,kvs,hd,_⟩:=hD;exact qM he hd (by intro z;cases z)
  cases hdu:g9 (aX l)with
  |line =>
   rw[hdu]at hF he q;rw[show dg bu l=.line from hF];intro e1 H1 h1 s1;exists d5,λA hA=>⟨_,_,cu (ag.upd hA _ _ (s1 _ _ he)),cu au,by decide,vN (by rw[gg];decide) ?_⟩;have s2:=s1.trans (ag.upd (o:=.lst [.str (ofString "form or statement")]) hA);have h2:=ag.upd (o:=.lst [.str (ofString "form or statement")]) hA _ _ h1;generalize upd H1 A (.lst [.str (ofString "form or statement")])=H2 at s2 h2 ⊢;exists d5,λB hB=>⟨_,_,cu (ag.upd hB _ _ (s2 _ _ he)),cu au,by decide,vN (by rw[gg];decide) ?_⟩;have s3:=s2.trans (ag.upd (o:=.lst [.str (ofString "text")]) hB);exists _,_,cu (ag.upd hB _ _ h2),cu (s3 _ _ he),by decide,?_;rw[gg];exact q _ (aV.of s3) λ_=>s3
  |name =>
   rw[hdu]at hF he q;rw[show dg bu l=.name from hF];intro e1 H1 h1 s1;exists d5,λA hA=>⟨_,_,cu (ag.upd hA _ _ (s1 _ _ he)),cu au,by decide,vN (by rw[gg];decide) ?_⟩;have s2:=s1.trans (ag.upd (o:=.lst [.str (ofString "form or statement")]) hA);have h2:=ag.upd (o:=.lst [.str (ofString "form or statement")]) hA _ _ h1;generalize upd H1 A (.lst [.str (ofString "form or statement")])=H2 at s2 h2 ⊢;exists d5,λB hB=>⟨_,_,cu (ag.upd hB _ _ (s2 _ _ he)),cu au,by decide,vN (by rw[gg];decide) ?_⟩;have s3:=s2.trans (ag.upd (o:=.lst [.str (ofString "text")]) hB);exists _,_,cu (ag.upd hB _ _ h2),cu (s3 _ _ he),by decide,?_;rw[gg];exact q _ (aV.of s3) λ_=>s3
  |text =>
   rw[hdu]at hF he q;rcases hF with hr|hr
   all_goals rw[hr]
   rotate_left
   intro n wo us f H1 _ _ _ sb
   rotate_left
   intro x H1 s1;have sb:=aV.of (b:=d) s1
   all_goals
    have jF:=sb _ _ vT he;exists d5,λA hA=>⟨_,_,cu (ag.upd hA _ _ jF),cu au,by decide,vN (by rw[gg];decide) ?_⟩;have h2:=ag.upd (o:=.lst [.str (ofString "form or statement")]) hA _ _ jF;have sb:=sb.trans (aV.of (ag.upd (o:=.lst [.str (ofString "form or statement")]) hA));generalize upd H1 A (.lst [.str (ofString "form or statement")])=H2 at h2 sb ⊢;exists d5,λB hB=>⟨_,_,cu (ag.upd hB _ _ h2),cu au,by decide,vY (by rw[gg];decide) ?_⟩;exact⟨_,_,_,_,rfl,iy.str _,rfl,q _ (sb.trans (aV.of (ag.upd hB))) λz=>by rcases z with z|z<;>cases z⟩
  |fs =>
   have aT:2<=(aX l).length:=by
    unfold g9 at hdu;split at hdu
    ·split at hdu
     ·split at hdu<;>cases hdu
     ·cases hdu
    ·rename_i z;have:¬(aX l).length<3:=λy=>z (.inl y)
     lia
   rw[hdu]at hF he q;have fin:∀H',aV d H H'->Q (.bl true) H':=λH' s=>q H' s λz=>by rcases z with z|z<;>cases z
   rcases hF with hr|⟨hs,hr⟩|⟨hs,hr⟩
   ·rw[hr];intro n wo us f H1 _ _ _ sb;have jF:=sb _ _ vT he;exists d5,λA hA=>⟨_,_,cu (ag.upd hA _ _ jF),cu au,by decide,vY (by rw[gg];decide) ?_⟩;nomatch _,_,cX.mpr rfl,cX.mpr rfl,by decide,_,rfl,aU (by rw[Lh];decide) (fin _ (sb.trans (aV.of (ag.upd hA))))
   all_goals
    rw[hr];intro e1 H1 h1 s1;exists d5,λA hA=>⟨_,_,cu (ag.upd hA _ _ (s1 _ _ he)),cu au,by decide,vY (by rw[gg];decide) ?_⟩;have h2:=ag.upd (o:=.lst [.str (ofString "form or statement")]) hA _ _ h1;have s2:=s1.trans (ag.upd (o:=.lst [.str (ofString "form or statement")]) hA);generalize upd H1 A (.lst [.str (ofString "form or statement")])=H2 at h2 s2 ⊢;exists _,_,cu h2,cX.mpr rfl,by decide,_,rfl,aF (by rw[YJ];decide) ?_;exists rfl,_,_,rfl,rfl,(by rw[jQ];rfl),(by rw[aN];exact je l2 (by decide)),λW hW=>?_;rw[jQ,eR,uY];have h3:=ag.upd (o:=.lst ((aX l).map λw=>V.str (S w))) hW _ _ h2;have fF:=pI l;exists W,aX l,rfl,au,aT,⟨by have:=fF.1;lia,λw hw=>by have:=fF.2 w hw;lia⟩,λe2 H3 yv s3=>?_;rw[hs]at yv;exists _,_,cu (s3 _ _ h3),cu yv,by decide,?_;rw[gg];exact fin _ (aV.of (s2.trans ((ag.upd hW).trans s3)))
def zbv(T:Txt w K mg):oS.Ok P w K mg base 12 (Oe K):=by
  refine Rw.ok T.d_law.F T.d_law.S ?_;rintro vs H Q E ⟨a,ns,rfl,hS,aT,P7,kq⟩;refine⟨rfl,fun _ _ _ _ hr hu nd=>⟨_,(ar (aH 1 nd (aD lB (dj ik (pV 0) di (cJ aj)) (bc (ae aj ah))))
   (ar (eN dQ rfl (pd rfl T.n_range (ae (bj dJ (by rfl) T.n_len bS (ae (pV 1) ah)) ah)) (bf 2 nd)
    (ar (aH 3 nd (aB T.d_Z32 (W7 T) hr.m (ae (aB T.d_Z42 (Zy T) hr.m (ae (xL (pV 1) (pV 2)) (ae (pV 2) ah))) ah))) (ar (aH 4 nd (aB T.d_Z28 (zbb T) hr.m (ae (pV 3) ah))) (ar (aH 5 nd (HV T.mk_Desk (K7 T) hr.m rfl T.g_Desk T.d_Desk_init.b .nil AU)) (ar (bt (PW.pt (gv (bb (D7 (jD hr)) (aB T.d_Z39 (sQ T) hr.m (ae (pV 5) (ae ak ah))) ak) (jg (iO (fJ (aB T.d_Z29 (Pf T) hr (ae (pV 5) (ae (pV 3) (ae (pV 4) ah))))))))) (ao (az jr)) aM) (ao (bt (PW.pt (iD (jZ (Wv (jD hr)) (pV 4) (bc (ae (bc (ae ak ah)) (ae (bc (ae ak ah)) ah))) rfl) (iM (iO (fJ (aB T.d_Z29 (Pf T) hr (ae (pV 5) (ae (pV 3) (ae (pV 4) ah))))))))) (ao (az jr)) aM)))))))
   (ao (az (aB T.d_Z38 (XZ T) hr (ae (HV T.mk_Desk (K7 T) hr.m rfl T.g_Desk T.d_Desk_init.b .nil AU) ah)))))),?_⟩⟩
  exists a,_,rfl,hS,λc1 zw=>?_;obtain⟨ms,hms,Qg⟩:∃ms:List Int,ff (ns.map V.int) none (some 63)=ms.map V.int/\ms.length<=ns.length:=by
   unfold ff;rw[<-Kq,<-Jz];exact⟨_,rfl,by rw[c7,fL];lia⟩
  rw[hms];have t1:ag H (upd H c1 (.lst (ms.map V.int))):=ag.upd zw;exists d5,λz0 Tw=>?_;have t2:ag (upd H c1 (.lst (ms.map V.int))) (upd (upd H c1 (.lst (ms.map V.int))) z0 (.lst [.int 0])):=ag.upd Tw;exists c1,z0,_,_,rfl,rfl,t2 _ _ au,au,(by rw[ay];exact dq (cP (by show _+1<=_;lia))),λC hC=>?_;have wC:upd (upd (upd H c1 (.lst (ms.map V.int))) z0 (.lst [.int 0])) C (.lst (ms.map V.int++[.int 0])) C=some (.lst ((ms++[0]).map V.int)):=by rw[au,aQ];rfl
  generalize upd (upd (upd H c1 (.lst (ms.map V.int))) z0 (.lst [.int 0])) C (.lst (ms.map V.int++[.int 0]))=H1 at wC ⊢;have gE:(ms++[0]).length<=64:=by rw[aS];show _+1<=_;lia
  exists C,_,rfl,.inl (ai.of wC),(((ms++[0]).map V.int).length:Int),rfl,by lia,by rw[ay];lia,?_;refine qL (n:=((ms++[0]).map V.int).length) (λi σ G=>∃v2 v3 v4 v5:Option V,σ=[some (.ref a),some (.ref C),v2,v3,v4,v5]/\G C=some (.lst ((ms++[0]).map V.int)))
   ⟨_,_,_,_,rfl,wC⟩ ?_ ?_
  ·rintro i σ G hi ⟨v2,v3,v4,v5,rfl,g1⟩;rw[ay]at hi;obtain⟨x,hx⟩:∃x,(ms++[0])[i]?=some x:=⟨_,dD hi⟩;have gK:ef ((ms++[0]).map V.int) (0+(i:Int))=some (V.int x):=by rw[ua];exact aZ (by rw[bY,hx];rfl)
   exists V.int x,ai.of g1,gK,x,0+(i:Int),rfl,by lia,λX xs H2 hX QE Xc s2=>⟨X,xs,rfl,QE,Xc,λl H3 hL s3=>?_⟩;exists l,rfl,hL.1,hL.2.1,λe H4 he s4=>?_;refine λp dx hp HA cY=>⟨p,dx,rfl,au,λd H5 hd hD hk=>⟨rfl,?_⟩⟩
   have s5:ag H4 H5:=λb o hb=>hk b o (by rw[aO (cE hb hp),aO (cE hb HA)];exact hb) (cE hb hp)
   have xw:=s5 _ _ he;have Hq:=s5 _ _ (s4 _ _ (s3 _ _ (s2 _ _ g1)));obtain⟨_,kvs,Nh,_⟩:=id hD;have vT:e≠d:=qM xw Nh (by intro z;cases z);have Jr:C≠d:=qM Hq Nh (by intro z;cases z);have h0:qe .ok "here = a" := by decide+kernel
   exists p,d,[],(ofString "here = a").cps.toList,rfl,hD,Mq,by decide,h0.1,h0.2.1,tm h0.2.2.1,?_;rw[Rs.nI h0.2.2.2];intro n wo us f H6 fO hf tD sb;have zE:eX (ofString "here = a").cps.toList=some (some mE,[61],[.str (S [97])]):=by kernel_rfl
   rw[zE]at fO;cases fO;have qD:gP [97]=some f:=hf rfl;have RE:gP [97]=some AF:=by kernel_rfl
   rw[RE]at qD;cases qD;have tD:iB eF H6 p d bu:=tD;have L1:=sb _ _ vT xw;have V6:=sb _ _ Jr Hq;exists _,_,cX.mpr rfl,cX.mpr rfl,by decide,_,rfl,aF (by rw[Lh];decide) ?_;exists p,d,e,l,rfl,tD,hL,L1,λH7 KH GQ=>⟨_,rfl,bL ?_⟩;have ET:=KH _ _ vT L1;have Zv:=KH _ _ Jr V6;exists d5,λA hA=>?_;generalize eU:upd H7 A _=H8;obtain⟨s8,w8⟩:=nw eU hA;exists d5,λB hB=>?_;generalize eU:upd H8 B _=H9;obtain⟨s9,w9⟩:=nw eU hB;exists dw,λL VO=>?_;have Bc:ag H9 (upd H9 L (.lst [.ref A,.ref B])):=ag.upd VO;have lT:=s8.trans (s9.trans Bc);exists L,[A,B],[.lst [.str "text"],.lst [.str "form or statement"]],.lst [.str (g9 (aX l)).wo],rfl,au,?_,cu (lT _ _ ET),(λd hd=>by simp only[ba,ia,ib]at hd;rcases hd with rfl|rfl<;>decide),_,rfl,?_
   ·unfold a8;exists _,_,rfl,cu (Bc _ _ (s9 _ _ w8)),?_;unfold a8;exists _,_,rfl,cu (Bc _ _ w9),?_;unfold a8;rfl
   have es:(!([.lst [.str "text"],.lst [.str "form or statement"]]:List D).any λd=>cC d (.lst [.str (g9 (aX l)).wo])) = !((ofString "text" == (g9 (aX l)).wo) || (ofString "form or statement" == (g9 (aX l)).wo)):=by
    rw[ju,ju,List.any_nil,qG,gg,gg]
   rw[es];have fin:∀H',ag H7 H'->∃v2 v3 v4 v5:Option V,[some (.ref a),some (.ref C),some (.int (0+(i:Int))),some (.str (S l)),some (.ref e),some (.ref p)]=[some (.ref a),some (.ref C),v2,v3,v4,v5]/\H' C=some (.lst ((ms++[0]).map V.int)):=λH' s=>⟨_,_,_,_,rfl,s _ _ Zv⟩
   cases hdu:g9 (aX l)with
   |text=>exact aF (by decide) (bL (fin _ lT))
   |fs=>exact aF (by decide) (bL (fin _ lT))
   |line =>
    have s7:=GQ (.inl hdu);exact aU (by decide) ⟨p,d,e,l,rfl,tD.keep (s7.trans lT),hL,lT _ _ ET,λRT _ hs=>⟨_,rfl,bL (fin _ (lT.trans (hs (.inl hdu))))⟩⟩
   |name =>
    have s7:=GQ (.inr hdu);exact aU (by decide) ⟨p,d,e,l,rfl,tD.keep (s7.trans lT),hL,lT _ _ ET,λRT _ hs=>⟨_,rfl,bL (fin _ (lT.trans (hs (.inr hdu))))⟩⟩
  ·rintro σ G ⟨v2,v3,v4,v5,rfl,g1⟩;refine λp dx hp HA cY=>⟨p,dx,rfl,au,λd H5 hd hD hk=>⟨rfl,?_⟩⟩
   nomatch p,d,rfl,hD,λH'=>kq H'
end
set_option maxHeartbeats 0 in
set_option tactic.hygienic true in
def XA(X:(K w.params).In h)(G:h.Ns mainGlobals mg):Txt w (K w.params) mg:=by
 constructor
 case nf_Desk_forms=>show _=_;kernel_rfl
 case q_MADE_0=>exact iC ["name","name"] [793,794] rfl (by decide) (by kernel_rfl)
 case q_MADE_1=>exact iC ["name","name"] [796,797] rfl (by decide) (by kernel_rfl)
 case q_MADE_2=>exact iC ["name","name"] [799,800] rfl (by decide) (by kernel_rfl)
 case q_MADE_3=>exact iC ["name","letter","bit"] [802,803,804] rfl (by decide) (by kernel_rfl)
 case q_MADE_4=>exact iC ["name","letter","name"] [806,807,808] rfl (by decide) (by kernel_rfl)
 case q_MADE=>exact mY.of (ts:=[792,795,798,801,805]) (n:=5) rfl rfl (by decide+kernel) (by kernel_rfl)
 case q_ASKED_0=>exact iC ["name"] [767] rfl (by decide) (by kernel_rfl)
 case q_ASKED_1=>exact iC ["name","number"] [769,770] rfl (by decide) (by kernel_rfl)
 case q_ASKED_2=>exact iC ["name","name"] [772,773] rfl (by decide) (by kernel_rfl)
 case q_ASKED_3=>exact iC ["name","name","divisor"] [775,776,777] rfl (by decide) (by kernel_rfl)
 case q_ASKED_4=>exact iC ["name"] [779] rfl (by decide) (by kernel_rfl)
 case q_ASKED_5=>exact iC ["name"] [781] rfl (by decide) (by kernel_rfl)
 case q_ASKED_6=>exact iC ["name"] [783] rfl (by decide) (by kernel_rfl)
 case q_ASKED=>exact mY.of (ts:=[766,768,771,774,778,780,782]) (n:=7) rfl rfl (by decide+kernel) (by kernel_rfl)
 case q_SPACED=>exact iC ["not "," and "," or "," xor "] [595,596,597,598] rfl (by decide) (by kernel_rfl)
 case q_JOINING=>exact iC ["and","or","xor"] [591,592,593] rfl (by decide) (by kernel_rfl)
 all_goals first
  |exact Def.of X G (by first|exact NQ λ_=>rfl|exact HP λ_ _=>rfl|exact Gp λ_ _ _=>rfl|exact QR λ_ _ _ _=>rfl|exact us0 rfl) (by kernel_rfl) (by kernel_rfl) (by kernel_rfl) (by kernel_rfl) (by kernel_rfl)
  |exact nN.of (by first|exact NQ λ_=>rfl|exact HP λ_ _=>rfl|exact Gp λ_ _ _=>rfl|exact QR λ_ _ _ _=>rfl) (by kernel_rfl) (by kernel_rfl) (by kernel_rfl) (by kernel_rfl) (by kernel_rfl) (by kernel_rfl)
  |exact PySem.W.mg_none_of X G (by kernel_rfl)
  |exact Iz X G (by kernel_rfl)
  |exact⟨by kernel_rfl,by kernel_rfl,by kernel_rfl,by kernel_rfl⟩
  |kernel_rfl
def Tv{q:Program}{loose:List Str}{XP:(Str->Option Value)->Heap->Prop}{d:DefRec}(AX:d.params.defaults=[])(hnm:d.name = "law") :
  PySem.W.WalkO q loose XP (PySem.W.InK K) PySem.Challenge.rw_onceform_k82_lines_read.row.toRowW d [] (λf vs=>PySem.call f vs) :=
 L2.Sa (l:=PySem.Challenge.rw_onceform_k82_lines_read) (n:=63) (k:=12) (x := "_law_script") (CX:=λ_=>pM) (sp:=λw=>Oe (K w.params)) rfl (by decide) AX ⟨rfl,by decide,by decide⟩ (λw h Y=>Y) (λw mg fa h KX G yA=>by
  have T:=XA KX G;rw[hnm]at yA;cases yA.symm.trans T.d_law.m;nomatch oS.fd,λs v=>.of_eq rfl,λbase _ _=>zbv T) (λ_ _ a ns hl hb _ hS=>⟨a,ns,rfl,hS,hl,hb,λ_=>rfl⟩) λ_ _ _ _ _ z=>z
end My
open PySem PySem.W PyProof.Rows
set_option maxRecDepth 100000 in
set_option maxHeartbeats 0 in
set_option tactic.hygienic true in
theorem PySem.Challenge.cw_onceform_k82_lines_read_holds : PySem.Challenge.rw_onceform_k82_lines_read.Holds := by
 w_on
 refine PySem.W.holds_law My.FO λFO=>?_
 refine PySem.W.holds_open (q:=My.Q) (loose:=My.lo) (Xt:=My.Xq) (XP:=PySem.W.XL My.Q []) (Yf:=My.Hk.obs) (Ya:=My.Hk.val) (YP:=PySem.W.InK My.K) (N:=10038) (d:=⟨"law",L2.uO My.oS.s,L2.ni My.oS.s,L2.cL My.oS.s,My.Tj My.oS.s⟩) (kwd:=[]) My.left My.Hk.of My.Hk.keeps
  (λs e=>PySem.W.xl_of s (uL.mp e).1) XO (by kernel_rfl) (by kernel_rfl) (by kernel_rfl) (λs e=>PySem.W.recFacts_of (uL.mp e).2) (by kernel_rfl) FO (by decide+kernel) ⟨rfl,rfl,rfl,rfl,rfl,by decide+kernel⟩ ?hw ?hc
 case hw=>w_witness2
 exact My.Tv rfl rfl
#print axioms PySem.Challenge.cw_onceform_k82_lines_read_holds
