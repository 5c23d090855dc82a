import PyProof.Rows.All
import Wide.All
import OpenK.AllK
import Wide.FinOn
import Lean
import PyProof.EqAt
import PyProof.EqKinds
import PyProof.TupleCall
import PyProof.NeKinds
import PyProof.WalksEnum
import PyProof.EnumMake
import PyProof.AttrMissHeap
import KE.KDictOf
import PyProof.ListNew
import PyProof.ZipIter
import PyProof.Rows.ZipGen
import KE.KIntText
import PyProof.StrLawsTight
import KE.KRevIter
import KE.KDictList
import KE.KEqDict
import PyProof.DictCopy
import KE.KSortTup
import PySem.Challenge.RW_onceform_k85_desk_too_many
set_option genSizeOf false
set_option compiler.extract_closed false
set_option bootstrap.genMatcherCode false
set_option Elab.async false
set_option linter.all false
open PySem.W(Frag kitOne)
open PySem.Builtin.Int(intBits)
open PySem.NumText(digitsVal)
open PySem.Str(ofString)
local macro_rules(kind:=Lean.Parser.Command.declaration)|s=>if s.getPos?.isSome then return s.rewriteBottomUp (·.setInfo .none)else Lean.Macro.throwUnsupported
local macro_rules|`(tactic|show $e)=>`(tactic|refine $e)
local macro_rules|`(tactic|exists $e,*)=>`(tactic|refine⟨$e,*⟩)
theorem Y{a:α}:a=a:=rfl
set_option maxRecDepth 100000
set_option maxHeartbeats 4000000
set_option exponentiation.threshold 5000
set_option tactic.hygienic false
open List renaming length_map->ar,length_append->aX,map_append->aN,getElem?_eq_some_iff->cq,length_cons->bf,mem_singleton->bH,mem_cons->aV,mem_map->aU,mem_append->bC,map_cons->bz,mem_cons_of_mem->cX,mem_of_getElem?->c8,getElem?_map->c9,getElem?_eq_getElem->fT,mem_append_right->ft,length_take->cZ,find?_cons->cO,take_of_length_le->f9,append_assoc->dG,take_add_one->dM,take_sublist->dQ,drop_eq_getElem_cons->jc,size_toArray->eR,map_map->cE,take_length->eV,pairwise_cons->fU,pairwise_map->fX,mem_range->eG,append_nil->gg,filter_append->iw,take_append_drop->j5,flatMap_cons->iZ,drop_eq_nil_of_le->mv,mem_cons_self->jP,range_succ->iA,length_filter_le->mO,nodup_cons->i8,pairwise_singleton->qt,reverse_append->mQ,eq_nil_of_length_eq_zero->uc,length_range->lh,not_mem_nil->ly,all_eq_true->kH,drop_sublist->lZ,mem_append_left->qr,pairwise_append->o8,length_drop->mW,map_congr_left->pO,any_eq_true->oI,getD_eq_getElem?_getD->zj,flatten_cons->qk,drop_zero->lS,getElem?_append_left->zM,cons_append->pK,mem_flatMap->qE,dropLast_concat->uY,replicate_succ->uN,getElem?_set_self->xa,getElem?_append_right->BN,length_replicate->yd,any_cons->ou,pairwise_iff_getElem->CG,replicate_succ'->yt,mem_of_mem_drop->wz,sum_append->rR,getElem?_take_of_lt->Cf,getElem_of_mem->xZ,getElem?_range->yn,range_succ_eq_map->Cm,map_nil->o6,perm_append_comm->Du,getElem?_eq_none->Co,mem_filter->tX,length_nil->ub,nodup_iff_pairwise_ne->Eo,extract_eq_take_drop->II,filter_cons->zu,drop_length->wk,replicate_zero->C5,filterMap_cons->Dt,filterMap_cons_some->Kj,getElem?_drop->DJ,of_mem_zip->wb,mem_filterMap->CY,map_take->tY,filter_cons_of_neg->El,drop_of_length_le->FE,reverse_cons->Al,mem_iff_getElem?->JC,drop_append_of_le_length->R7,lookup_cons->Br,mem_of_mem_take->JG,getElem?_set_ne->JO,sum_cons->yx,filter_sublist->Ii,nil_append->BP,forIn_cons->A8,takeWhile_cons->FD,take_take->Az,filterMap_cons_none->P7,nodup_append->Eb,filter_cons_of_pos->Wk,getElem?_replicate->Nj,map_snd_zip->Ie,zipIdx_cons->Kx,singleton_append->Q7,length_set->JQ,foldl_cons->JE,reverse_reverse->NH,length_take_le'->L9,drop_drop->Hr,flatMap_append->Tj,length_pos_iff->Qf,drop_succ_cons->LL,all_cons->IU,zip_cons_cons->NA,filterMap_map->PR,mem_replicate->VN,map_id'->Hu,map_flatMap->LW,getElem_mem->Ov,filter_nil->Mb,zipIdx_nil->QI,nodup_nil->ND,drop_left->Rx,take_zero->MR,forIn_nil->Nm,map_drop->NM,set_set->SH,all_map->Qq,map_id->Lx
open PySem renaming wpAny_bind->aq,wpAny_pure->aS,wpAny_mono->cC,wpAny_truthy_bool->mH,wpAny_call_entry->my,wpAny_callSpecial?_slot->tW,wpAny_field->iD,mem_of_lookup->qW,wpAny_holding->kI,wpAny_loadPart_at->rS,wpAny_newObj_type->qH,sizeLine_eq->jZ,wpAny_seqItems->qu,wpAny_passesOwn->qP,call_meets->jV,wpAny_execs_cons->vt,wpAny_Call_Name_kw->xk,wpAny_setField_rec->zi,wpAny_isTrue_Compare1->CC,wpAny_execs_nil->uf,wpAny_rule->mD,typeIs_str->lX,wpAny_pyIter_list->vZ,wpAny_comprehension_free->JI,tupleKind_room_in1->DC,wpAny_toks_of->wG,wpAny_newList->wY,typeIs_int->qM,codeAny_mono->yE,wpAny_Constant_int->HP,wpAny_newTuple->BF,wpAny_getItem_list_slice->Q0,wpAny_onRaise->Dh,wpAny_standAt->Ac,wpAny_eqBool_int->Kl,codeAny_builtin->JT,wpAny_typeOf->Dx,wpAny_BinOp->AY,wpAny_attempt->Il,evalPart_none->Iu,list_append->Mt
open Nat renaming le_refl->aC,le_trans->a9,lt_of_lt_of_le->cP,pow_le_pow_right->eO,zero_le->bJ,ne_of_lt->bR,lt_of_le_of_lt->gv,le_of_lt->dH,lt_succ_of_lt->gV,zero_add->d7,min_eq_left->gQ,min_eq_right->lM,mul_le_mul->jk,add_le_add_left->rq,pow_succ->jL,le_of_ble_eq_true->vo,lt_or_ge->lj,two_pow_add_eq_or_of_lt->BV,testBit_lt_two_pow->zl,lt_irrefl->nJ,lt_trans->nS,add_sub_cancel_left->AV,le_succ->mK,mul_comm->qA,two_pow_pos->uP,lt_pow_two_of_testBit->Fy,ne_of_gt->sC,testBit_eq_decide_div_mod_eq->UO,or_self->rB,lt_succ_self->B5,mul_le_mul_right->GZ,testBit_two_pow->E5,not_lt_zero->BH,add_zero->yo,toDigits_of_lt_base->Sr,div_div_eq_div_mul->LY,min_self->AE,pow_lt_pow_right->Qt,eq_of_testBit_eq->RG,testBit_or->Gz,add_le_add->GH,pow_add->Dp,add_mul->Bo,mul_add->CS,pow_pos->Bt,log2_lt->BS,mod_lt->Bu,or_assoc->KG,le_of_eq->Ji,add_comm->Ju,min_le_right->RF,succ_le_succ->Wj,le_add_left->UL,one_mul->Jc,min_le_left->Ob,or_comm->IC,div_add_mod->Lc,mul_assoc->Qg,pow_zero->Lf,succ_mul->O0,sub_zero->PX,sub_self->Of,mul_zero->Pe,succ_pos->UD,div_one->Rt,mul_one->Pt,not_lt->Pk
open PySem.Heap renaming get?_push_of_some->bZ,lt_size->bh,get?_push_size->cQ,get?_push_ne->j9,get?_none_of_le->uH,get?_update_ne->uE,size_update->uW,size_push->rK,get?_update_other->Oh,get?_update_self->RD
open PyProof.Rows renaming wpS_bind->aB,wpS_pure->aM,callWith_type1->su,wpS_forRange->gE,boot_sorted->qG,type_int_bit_length->Ar,slot_int_bit_length->zU,boot_int->yf,boot_str->yu,wpS_mono->iF,boot_abs->AW,wpS_modify->og,listUpdate_at->uK,slot_tuple_getitem->K7,boot_sum->Kg,size_push'->sv,seqEpoch_at->ui,get?_update_seq->Dw,wpS_get->j1,sortedHeap_old->Aj,Subscript_->tZ,sortedHeap_at->BM,list_sort_plain->Gp,wpS_lift->rN,wpS_reverse->zR,callWith_builtin1->jgl,boot_isinstance->jgA,mulOk_of_bits->jgR,digit_range->jg9,getItem_str->W3,bitAnd_nn->jhv,boot_dict->jhw,split_pos->jhx,bitAnd_pp->jhy,boot_min->jhB,boot_all->jhK,boot_any->jhO,lt_int->Y0
open Bool renaming false_ne_true->dj,false_eq_true->eP,and_eq_true->iY,eq_iff_iff->oQ,and_eq_true_iff->ya,eq_false_iff->Cc,and_false->yv,not_true->vU,or_eq_true->Hn,false_and->Hg,true_and->Fh,not_eq_true'->QZ,false_or->V5,or_false->U8
open Option.some renaming inj->di
open Array renaming toList_append->fW,length_toList->gy,getElem?_eq_getElem->mP,getElem?_toList->rE,mem_toList_iff->uj,perm_iff_toList_perm->IS,toList_reverse->CT,toList_push->Bh,getElem?_eq_none->RO,getElem?_extract->Rj,mem_of_getElem?->MG,toList_extract->SK,toList_map->Pu,toList_zip->Ss
open PySem.F renaming plainAttrs_str->ie,plainAttrs_list->qV,slot_tuple_iterator_next->Dv,slot_str_join->yR,slot_dict_get->yh,type_str_join->xU,plainAttrs_int->Bj,type_str_split->He,entry_dict_get->Gd,slot_str_split->EF,type_str_find->FK,slot_str_find->EU,typeOf_object_class->Ff,args_tuple_iterator_next_1->UN,slot_str_startswith->Ls,slot_zip_next->Dm,type_str_startswith->Uw,entry_tuple_iterator_next->U7,args_str_split_2->Jz,entry_str_split->KU,args_tuple_add_2->TQ,slot_list_insert->Sa,type_list_insert->SQ,type_list_index->Uk,slot_list_index->U2,args_dict_get_3->PZ,plainAttrs_dict->Qm,entry_tuple_add->LQ,slot_str_split->Gh,slot_tuple_add->Oo,slot_str_strip->LD,type_str_strip->VG,type_dict_get->Uq,args_list_append_2->S9,args_list_index_2->U9,entry_list_append->Uv,slot_list_append->Ng,entry_list_index->L6,slot_list_index->Mf,args_zip_next_1->SX,entry_zip_next->Mn,slot_int_rmul->U1,slot_int_repr->R5,slot_int_str->LA
open PySem.Paired renaming length->eo,snoc->VZ
open Int renaming toNat_natCast->iu,natCast_nonneg->jI,zero_add->jf,le_refl->ik,eq_ofNat_of_zero_le->xD,toNat_of_nonneg->vg,natAbs_natCast->zw,le_of_lt->ph,natAbs_mul->wV,le_trans->uu,mul_le_mul_of_nonneg_right->Nb,natCast_mul->A9,add_mul_emod_self_left->NU,emod_lt_of_pos->Fn,max_eq_right->Ep,emod_nonneg->Im,natCast_add->KJ,not_lt->yj,emod_eq_of_lt->Nu,lt_trichotomy->LV,mul_ne_zero->Ro,one_mul->Kh,min_eq_left->PF,add_mul->EL,ofNat_le->Ld,ne_of_gt->U5,add_zero->V8,mul_add->VU
open PySem.Calls renaming spliced_cons->qf,callWith_builtin->xp,evalArgs_plain->zp,spliced_nil->xo,Name_function_global->Nn,call_function_entry->Th
open List.Pairwise renaming imp_of_mem->xG,map->X0
open PySem.PassesOwn renaming never->sU
open Option renaming map_eq_some_iff->DM,isSome_map->Cw,getD_some->Ax,isSome_iff_exists->OK,getD_none->Wm
open PySem.W renaming callWith_K->Ae,hideAll_none->Jy,plainGet_of->Ib,hideAll_get->Jd,of_hideAll->Fm,funFrames_hide->OL,cellsFrom_some->Q6,methodCall_KW->VW,kia_one->VY,mg_of->Vc
open PySem.SeqAt.EqAt renaming same->Dk,int_str->OZ,str_int->QN,of_refs->QM,bool_none->Yz,bool_bool->jhR,none_bool->jhS,str_none->jhU,bool_int->jhV,none_str->jhW,none_int->jhX,int_none->jhY,bool_str->YT,int_bool->jh3,str_bool->jh5,int_int->jib,str_str->jic
open PySem.Code renaming quiet_builtin->FC
open Classical renaming byContradiction->MU
open Array.Perm renaming refl->DU
open PySem.StrLaws renaming glued_eq_join->SV,subAt_eq->Ph
open PySem.W.Fast renaming te14364793385576792824->jfH,te11892475500146522536->jfK,te10156331382660048174->jfL,te9446332074065402090->jfU,te4187177175401517315->Zu,te6613529449190102663->jfW
open PySem.Heap.SameBut renaming update->RK
open PySem.Heap.IsSliceOf renaming new->Od
open PySem.Obj renaming data_mapFields->SS
open PySem.SeqAt renaming list_indexAt->Mg
open PySem.Value renaming isInt_shape->Nc
open List.Sublist renaming refl->Ub
open Nat.succ renaming inj->GV
open Sum.inr renaming inj->Ih
open PySem.Heap.DictOf renaming new->MP
open PySem.SeqAt.RcNeAt renaming lists_lengths->jgS,tuples->jh7,lists->jia
open PySem.EqMixed renaming eq_bool_str->jgV,eq_str_bool->jgX,ne_str_bool->YM,ne_bool_str->Z4,ne_str_int->YQ,ne_int_str->jhd,eq_int_str->jhe,eq_str_int->jhh
open PySem.EqNone renaming ne_none_bool->jgY,eq_none_none->jg0,eq_none_bool->jg3,ne_none_none->Zs,ne_bool_none->jg7,eq_bool_none->jg8,eq_str_none->jhb,eq_none_str->jhf,ne_none_int->jhg,ne_int_none->jhi,eq_int_none->jhj,eq_none_int->XB,ne_str_none->jhl,ne_none_str->jhn
open List.Perm renaming refl->UW
open PySem.SeqAt.RcAt renaming lists_lengths->Wt,tuples->jik,lists->jio
open List.cons renaming inj->Ti
open Prod.mk renaming injEq->OB
open PySem.W.KIN renaming signs_num->Zy,call_text->jhG,val_back->jhQ
open PySem.IsRange renaming new->RN
open PySem.Walks renaming range->UU,list->Va
open PySem.W.Dflts renaming none->jid,noKw->Y7
open Prod renaming ext->Hl
open PySem.W.Looks renaming here->jif,ld->jin
open PySem.Within renaming cons->jij
open PySem.W.XL renaming keeps->jim
open PySem.Heap.IsList renaming push->jip
open PyProof.Rows.IsTup renaming new->Mc
noncomputable section
abbrev aR:=@decide_eq_true
abbrev ah:=@if_neg
abbrev aj:=@if_pos
abbrev bw:=@decide_eq_false
abbrev cx:=@of_decide_eq_true
abbrev dw:=@if_false
abbrev lx:=@decide_false
abbrev k7:=@decide_true
abbrev eS:=@if_true
abbrev xM:=@beq_eq_false_iff_ne
abbrev kR:=@beq_iff_eq
abbrev lQ:=@or_false
abbrev EA:=@ne_true_of_eq_false
abbrev Fw:=@decide_eq_true_eq
abbrev Eu:=@decide_eq_decide
def tD{p:Prop}(h:p:=by decide):p:=h
def tL{p:Prop}(h:p:=by lia):p:=h
def tS{p:Prop}(h:p:=by simp):p:=h
def tK{p:Prop}(h:p:=by kernel_rfl):p:=h
def tO{p:Prop}(h:p:=by omega):p:=h
def tE{p:Prop}(h:p:=by decide+kernel):p:=h
def tF{p:Prop}(h:p:=by first|show .inl rfl|show .inr rfl|assumption):p:=h
def tG{p:Prop}(h:p:=by first|show Or.inl rfl|show Or.inr (Or.inl Y)|show Or.inr (Or.inr Y)):p:=h
def tH{p:Prop}(h:p:=by first|show Or.inl rfl|show Or.inr Y):p:=h
def tI{p:Prop}(h:p:=by intro _;rfl):p:=h
def tJ{p:Prop}(h:p:=by show λ_ _=>rfl):p:=h
def tR{p:Prop}(h:p:=by rfl):p:=h
namespace L2
open PySem
noncomputable def xw(s:Stmt)(j:Nat):Stmt:=match s with
 |.ClassDef _ _ _ body _ _ _ _ _ _ _=>body.getD j (.Pass ⟨0,0,0,0⟩)
 |_=>.Pass ⟨0,0,0,0⟩
noncomputable def yI(s:Stmt):Arguments:=match s with
 |.FunctionDef _ a _ _ _ _ _ _ _ _=>a
 |_=>{posonlyargs:=[],args:=[],vararg:=none,kwonlyargs:=[],kw_defaults:=[],kwarg:=none,defaults:=[]}
noncomputable def lP(s:Stmt):List Stmt:=match s with
 |.FunctionDef _ _ b _ _ _ _ _ _ _=>b
 |_=>[]
noncomputable def bX(s:Stmt):Scope:=match s with
 |.FunctionDef _ _ _ _ _ _ sc _ _ _=>sc
 |_=>{kind:=.function,names:=[],isGenerator:=false,isCoroutine:=false}
end L2
namespace My
open PySem L2
noncomputable def aP:List Stmt->Stmt
 |x::_=>x
 |[]=>.Pass ⟨0,0,0,0⟩
noncomputable def av:List Stmt->List Stmt
 |_::r=>r
 |[]=>[]
noncomputable def zbL(s:Stmt):Pos:=match s with
 |.FunctionDef _ _ _ _ _ _ _ _ _ p=>p
 |_=>⟨0,0,0,0⟩
structure Rw where
 n:Str
 q:Str
 N:List Str
 k:Nat
 s:Stmt
 a:Addr
 m:Value
 t:Nat
 l:Nat
 x:Nat
namespace Rw
noncomputable abbrev ps(r:Rw):List Str:=r.N.take r.k
abbrev fd(r:Rw):FuncData:=PySem.W.fnOf r.n r.q (yI r.s) (lP r.s) (bX r.s) .none .none .none r.m none (.ref (r.a-1)) .none
noncomputable def KS:Str := "/claim/cut.py"
noncomputable def z(n:Nat):Value:=.int (Int.ofNat n) 0
noncomputable def few(r:Rw):Bool:=Nat.beq r.x 3
def rows(r:Rw):List (Addr×Obj) :=
 [(r.a-1,⟨.type "code",none,.fields #[.str r.n r.t,.str r.q (r.t+1),.str KS (r.t+2),z r.l,z r.k,z 0,z 0,z 3,.ref (bif r.few then r.a-4 else r.a-6),.bool true,z 181,.ref (bif r.few then r.a-3 else r.a-5),.none,
   bif r.few then .none else .ref (r.a-4),bif r.few then .none else .ref (r.a-3),.ref (r.a-2),z (r.t+r.x),z r.l,.str KS (r.t+r.x+1)],#[]⟩),
  (r.a,⟨.type "function",none,.func r.fd,#[]⟩)]
end Rw
noncomputable abbrev en(P:Params)(x:Str)(t:Nat)(v:Value):DictEntry:=⟨PyData.keyHash P x,.str x t,v⟩
end My
namespace OH
open PySem PySem.W PyProof.Rows
noncomputable def yy(tb:String->Option Builtin)(p:Program)(w:World)(n₀:Nat)(ann:Option Value):Nat->SharedT->Thread->Option SharedT
 |0,_,_=>none
 |n+1,s,t=>match through t with
  |true=>some s
  |false=>match stepOk n₀ ann t with
   |false=>none
   |true=>match stepT (denote tb) p w s t with
    |some x=>yy tb p w n₀ ann n x.1 x.2
    |none=>none
def zec:∀{s r:SharedT}{t:Thread},yy tb p w n₀ ann n s t=some r->topRun tb p w n₀ ann n s.abs t=some r.abs:=by
 induction n with
 |zero=>intro s r t h;cases h
 |succ n ih =>
  intro s r t h;unfold yy at h;unfold topRun;cases a:through t with
  |true=>rw[a]at h;cases h;rfl
  |false =>
   rw[a]at h;cases b:stepOk n₀ ann t with
   |false=>rw[b]at h;cases h
   |true =>
    rw[b]at h;cases c:stepT (denote tb) p w s t with
    |none=>rw[c]at h;cases h
    |some x=>rw[c]at h;rw[stepT_spec c];show ih h
noncomputable def wK(p:Program)(w:World)(n₀:Nat)(ann:Option Value):Nat->SharedT->Thread->Option SharedT
 |0,_,_=>none
 |n+1,s,t=>match through t with
  |true=>some s
  |false=>match PySem.W.Fast.tw6613529449190102663 n₀ ann t with
   |false=>none
   |true=>match PySem.W.Fast.tw10156331382660048174 (PySem.W.Fast.tw11892475500146522536 PySem.W.Fast.tw14364793385576792824) p w s t with
    |some x=>wK p w n₀ ann n x.1 x.2
    |none=>none
def WE:∀{s:SharedT}{t:Thread},wK p w n₀ ann n s t=yy treeTable p w n₀ ann n s t:=by
 induction n with
 |zero=>intro s t;rfl
 |succ n ih =>
  intro s t;unfold wK yy;rw[<-jfW,<-jfL,<-jfK,<-jfH];cases through t<;>cases stepOk n₀ ann t<;>try rfl
  cases stepT (denote treeTable) p w s t with
  |none=>rfl
  |some x=>show ih
noncomputable def IP(P:Params):BT :=
 .node (boot_o_0 P)
  (.node (boot_o_1 P) (.node (boot_o_3 P) (.node (boot_o_7 P) .nil .nil) .nil) (.node (boot_o_5 P) (.node (boot_o_9 P) .nil .nil) .nil))
  (.node (boot_o_2 P) (.node (boot_o_4 P) (.node (boot_o_8 P) .nil .nil) .nil) (.node (boot_o_6 P) (.node (boot_o_10 P) .nil .nil) .nil))
def zdW(P:Params):boot_heap P=absHeap (IP P) 11 (boot_heap P).life:=by kernel_rfl
def zas(w:World):((boot_heap w.params).isNs mainGlobals,(boot_heap w.params).objs.size,(boot_heap w.params).nsMap mainGlobals "__annotations__")=(true,11,some (.ref 6)):=by kernel_rfl
abbrev FA(P:Params)(os:OsState):SharedT:=⟨IP P,11,(boot_heap P).life,#[],boot_drawn,boot_toks,os⟩
def left
  (e:opening p=plainProg p.main.scope.names) (hN:Nat.ble 600 N=true) (f:∀s,fenceModules? p s=some s)
  (run:∀w:World,(λos=>(wK p w 11 (some (.ref 6)) N (FA w.params os) (topStub p)).map λs =>
    (staticsOk (importedModules p.main.body) (boot_heap w.params) s.abs.heap&&namesBound p s.abs.heap&&gensDone s.abs&&laidKept (boot_heap w.params) s.abs.heap,PySem.W.Fast.tw4187177175401517315 q loose (importedModules p.main.body) Xt true s.abs,Yf s.abs))=λ_=>some (true,openGood q loose,Ya w)):LeftO p q loose Xt Yf Ya N:=λw=>by
 obtain⟨⟨h,gs,d,k,os⟩,x,x'⟩:=DM.mp (boot_open e hN f w);obtain⟨rfl,rfl,rfl,rfl⟩:h=boot_heap w.params/\gs=Array.mk []/\d=boot_drawn/\k=boot_toks:=by simpa using x'
 obtain⟨z1,z2,z3⟩:_/\_/\_:=by simpa only [OB] using zas w
 obtain⟨s,r,l⟩:=DM.mp (congrFun (run w) os);rw[<-Zu]at l;obtain⟨l1,l2,l3⟩:_/\_/\_:=by simpa only [OB] using l
 have t:=zec (WE.symm.trans r);have b:(FA w.params os).abs=⟨boot_heap w.params,Array.mk [],boot_drawn,boot_toks,os⟩:=by
  show (⟨absHeap (IP w.params) 11 (boot_heap w.params).life,_,_,_,_⟩:Shared)=_;rw[<-zdW]
 rw[b]at t;have y:topFrom treeTable p w N ⟨boot_heap w.params,Array.mk [],boot_drawn,boot_toks,os⟩=some s.abs:=by
  unfold topFrom;dsimp only;rw[z1,z2,z3,t];show (match staticsOk (importedModules p.main.body) (boot_heap w.params) s.abs.heap&&namesBound p s.abs.heap&&gensDone s.abs&&laidKept (boot_heap w.params) s.abs.heap with|true=>_|false=>_)=_;rw[l1]
 unfold openEnds;rw[x];show (topFrom treeTable p w N _).map _=_;rw[y];show congrArg some (Hl l2 l3)
end OH
namespace My
open PySem L2
noncomputable def bd0:List Stmt:=PySem.Challenge.pw_onceform_k85_desk_too_many.main.body
def Ue:=av bd0
def Tn:=av Ue
def Om:=av Tn
def bd4:=av Om
def Qr:=av bd4
def Sl:=av Qr
def Vv:=av Sl
def Rm:=av Vv
def LK:=av Rm
def OV:=av LK
def ZC:=av OV
def N1:=av ZC
def O1:=av N1
def Zn:=av O1
def Tu:=av Zn
def RT:=av Tu
def zgz:=av RT
def LF:=av zgz
def PH:=av LF
def zaN:=av PH
def zgv:=av zaN
def X5:=av zgv
def zeZ:=av X5
def Yo:=av zeZ
def za6:=av Yo
def zds:=av za6
def zbo:=av zds
def Y1:=av zbo
def za3:=av Y1
def zgV:=av za3
def zbr:=av zgV
def Z0:=av zbr
def Tz:=av Z0
def Oa:=av Tz
def Oq:=av Oa
def zaz:=av Oq
def UZ:=av zaz
def Pm:=av UZ
def zea:=av Pm
def VJ:=av zea
def SN:=av VJ
def Wg:=av SN
def zbX:=av Wg
def X7:=av zbX
def zgn:=av X7
def N7:=av zgn
def Oj:=av N7
def zeI:=av Oj
def zbI:=av zeI
def zdJ:=av zbI
def zeJ:=av zdJ
def Qa:=av zeJ
def O2:=av Qa
def Qn:=av O2
def Q8:=av Qn
def Vf:=av Q8
def PM:=av Vf
def LG:=av PM
def Uy:=av LG
def RH:=av Uy
def UC:=av RH
def Yq:=av UC
def ZA:=av Yq
def PY:=av ZA
def UJ:=av PY
def L7:=av UJ
def Lb:=av L7
def Lo:=av Lb
def Nx:=av Lo
def Ry:=av Nx
def QD:=av Ry
def zaU:=av QD
def zdO:=av zaU
def zd3:=av zdO
def zeh:=av zd3
def Wb:=av zeh
def Mu:=av Wb
def Pq:=av Mu
def O3:=av Pq
def Tv:=av O3
def Vz:=av Tv
def zc8:=av Vz
def Y3:=av zc8
def P1:=av Y3
def zel:=av P1
def uV:=av zel
def MK:=av uV
def O7:=av MK
def S7:=av O7
def RX:=av S7
def TR:=av RX
def Nv:=av TR
def zgW:=av Nv
def W5:=av zgW
def PQ:=av W5
def Nk:=av PQ
def Ly:=av Nk
def UT:=av Ly
def OA:=av UT
def zb2:=av OA
def zgL:=av zb2
def zaw:=av zgL
def WZ:=av zaw
def zdD:=av WZ
def WH:=av zdD
def zf5:=av WH
def zfC:=av zf5
def Wl:=av zfC
def NT:=av Wl
def Oc:=av NT
def K8:=av Oc
def Rg:=av K8
def Sb:=av Rg
def N3:=av Sb
def T3:=av N3
def Qe:=av T3
def zfL:=av Qe
noncomputable abbrev M0:Value:=.str "onceform.bits" 187
noncomputable abbrev M1:Value:=.str "onceform.forms" 214
noncomputable abbrev M2:Value:=.str "onceform.changes" 294
noncomputable abbrev M3:Value:=.str "onceform.tables" 488
noncomputable abbrev M4:Value:=.str "onceform.least" 531
noncomputable abbrev M5:Value:=.str "onceform.words" 560
noncomputable abbrev M6:Value:=.str "onceform.statements" 587
noncomputable abbrev M7:Value:=.str "onceform.text" 694
noncomputable abbrev M8:Value:=.str "onceform.lines" 762
noncomputable abbrev M9:Value:=.str "onceform.trees" 867
noncomputable abbrev kU:Value:=.str "onceform.desk" 877
noncomputable abbrev iC:Value:=.str "law_onceform_k85_desk_too_many" 1001
abbrev A5:Rw:=⟨"_law_columns_of","_law_columns_of",["_law_number","_law_first","_law_step"],1,aP Qe,720,iC,1160,584,3⟩
abbrev Am:Rw:=⟨"_law_sets","_law_sets",["_law_many","_law_letters","_law_found","_law_s"],2,aP NT,683,iC,1112,510,3⟩
abbrev DR:Rw:=⟨"__init__","Desk.__init__",["self"],1,xw (aP uV) 0,512,kU,891,350,4⟩
abbrev CA:Rw:=⟨"is_name","is_name",["word"],1,aP Vz,486,M8,855,338,3⟩
abbrev KC:Rw:=⟨"is_of","is_of",["kind","word"],2,aP Tv,481,M8,847,330,5⟩
abbrev FT:Rw:=⟨"thing_read","thing_read",["kind","word"],2,aP O3,474,M8,839,322,5⟩
abbrev Bi:Rw:=⟨"things_read","things_read",["kinds","words"],2,aP Pq,467,M8,833,318,3⟩
abbrev Ft:Rw:=⟨"kept_read","kept_read",["name","sign","text","words"],3,aP Mu,462,M8,823,313,7⟩
abbrev IE:Rw:=⟨"line_read","line_read",["line","words"],1,aP Wb,455,M8,815,308,5⟩
abbrev K2:Rw:=⟨"kept","Desk.kept",["self","name"],2,xw (aP uV) 2,526,kU,910,362,5⟩
abbrev Aa:Rw:=⟨"form_from","form_from",["numbers"],1,aP Qr,38,M1,216,16,3⟩
abbrev Fc:Rw:=⟨"times","times",["one","other","numbers","members","number","others","factor","both"],2,aP LK,66,M1,248,27,11⟩
abbrev KA:Rw:=⟨"made","made",["some","numbers","members","number"],1,aP Sl,45,M1,222,18,7⟩
abbrev HM:Rw:=⟨"plus","plus",["one","other"],2,aP Vv,52,M1,232,23,5⟩
abbrev Dd:Rw:=⟨"scaled","scaled",["form","number"],2,aP OV,71,M1,262,34,3⟩
abbrev Ik:Rw:=⟨"less","less",["one","other"],2,aP Rm,59,M1,240,25,5⟩
abbrev JH:Rw:=⟨"combined","combined",["word","one","other"],3,aP S7,568,kU,962,397,6⟩
abbrev GF:Rw:=⟨"read_number","read_number",["figures","letters","number","figure"],2,aP Ry,427,M7,741,285,7⟩
abbrev KQ:Rw:=⟨"doubled","doubled",["many","size","turn"],1,aP Ue,21,M0,189,2,6⟩
abbrev J0:Rw:=⟨"read_set","read_set",["letters","members","last","letter","k"],1,aP QD,434,M7,751,294,8⟩
abbrev GS:Rw:=⟨"read_tuple","read_tuple",["sign","word","letters","number"],2,aP Nx,420,M7,731,279,7⟩
abbrev Ip:Rw:=⟨"is_form","is_form",["some","last","members","number"],1,aP O1,90,M1,284,43,7⟩
abbrev Ak:Rw:=⟨"form_read","form_read",["text","words","form"],1,aP Lo,413,M7,725,264,3⟩
abbrev FU:Rw:=⟨"token_at","token_at",["text","place","token"],2,aP PM,356,M6,650,211,6⟩
abbrev HH:Rw:=⟨"tokens_of","tokens_of",["text","tokens","place","token"],1,aP Vf,349,M6,640,203,7⟩
abbrev Ku:Rw:=⟨"with_joining","with_joining",["part","begun"],2,aP UC,384,M6,686,244,5⟩
abbrev Je:Rw:=⟨"with_nots","with_nots",["part","begun"],2,aP RH,377,M6,678,240,5⟩
abbrev Hd:Rw:=⟨"part_from","part_from",["token","begun","k"],2,aP LG,363,M6,659,216,6⟩
abbrev Ec:Rw:=⟨"part_after","part_after",["token","part","begun","word"],3,aP Uy,370,M6,668,226,7⟩
abbrev FN:Rw:=⟨"read","read",["text","begun","part","token"],1,aP Q8,342,M6,630,189,7⟩
abbrev Ky:Rw:=⟨"parts_of","parts_of",["statement","parts","waiting","part"],1,aP O2,328,M6,611,174,7⟩
abbrev Fg:Rw:=⟨"unknowns","unknowns",["form","together","members","number"],1,aP N1,83,M1,274,38,7⟩
abbrev F6:Rw:=⟨"paired_tables","paired_tables",["one","other","many"],2,aP Oq,254,M3,502,98,6⟩
abbrev Kk:Rw:=⟨"joined","joined",["word","one","other","both","taken"],3,aP Oj,312,M5,576,150,8⟩
abbrev KZ:Rw:=⟨"form_of_word","form_of_word",["word","parts","tables"],2,aP N7,305,M5,570,143,3⟩
abbrev Ek:Rw:=⟨"form_of_statement","form_of_statement",["statement","forms","part","word","last"],1,aP Qa,321,M6,600,160,8⟩
abbrev Js:Rw:=⟨"bits_in","bits_in",["statement","bits","part"],1,aP Qn,335,M6,621,183,6⟩
abbrev Ei:Rw:=⟨"form_of_text","form_of_text",["text","statement"],1,aP MK,554,kU,947,388,5⟩
abbrev AI:Rw:=⟨"without","without",["form","bit"],2,aP Tu,95,M2,296,51,3⟩
abbrev B6:Rw:=⟨"freed","freed",["form","bit"],2,aP RT,100,M2,302,53,3⟩
abbrev EE:Rw:=⟨"put_in","put_in",["form","k","other","own"],3,aP PH,121,M2,325,62,7⟩
abbrev DX:Rw:=⟨"is_yes_no","is_yes_no",["form"],1,aP LF,114,M2,318,60,4⟩
abbrev Ha:Rw:=⟨"yes_no","yes_no",["form"],1,aP O7,561,kU,955,393,4⟩
abbrev GL:Rw:=⟨"form_for","Desk.form_for",["self","word","things","form"],3,xw (aP uV) 3,533,kU,918,367,7⟩
abbrev Cv:Rw:=⟨"refuse_great","refuse_great",["form","bound"],1,aP RX,573,kU,971,403,3⟩
abbrev Dc:Rw:=⟨"gathered","gathered",["numbers","sign","turns","turn","without"],2,aP Tz,242,M3,490,89,3⟩
abbrev AD:Rw:=⟨"table_of","table_of",["form","many","numbers"],2,aP Oa,247,M3,496,95,3⟩
abbrev Au:Rw:=⟨"floor","floor",["form"],1,aP VJ,276,M4,533,114,3⟩
abbrev FL:Rw:=⟨"paper_for","paper_for",["form","number","k"],2,aP Wg,288,M4,545,122,6⟩
abbrev Bd:Rw:=⟨"least","least",["form","many","table","number","size","inside"],2,aP SN,281,M4,539,116,3⟩
abbrev FY:Rw:=⟨"shown_sign","shown_sign",["number"],1,aP UJ,396,M7,704,256,4⟩
abbrev HZ:Rw:=⟨"bits_of","bits_of",["given","many","bits","k"],2,aP Tn,28,M0,198,7,7⟩
abbrev Ci:Rw:=⟨"listed","listed",["members"],1,aP Om,33,M0,208,13,3⟩
abbrev DO:Rw:=⟨"shown_set","shown_set",["members"],1,aP Lb,408,M7,719,262,3⟩
abbrev ET:Rw:=⟨"shown_tuple","shown_tuple",["members","number"],2,aP L7,403,M7,711,258,5⟩
abbrev CP:Rw:=⟨"form_shown","form_shown",["form","parts","ahead"],1,aP PY,389,M7,698,250,3⟩
abbrev Hq:Rw:=⟨"few_unknowns","few_unknowns",["form","many"],1,aP Nv,587,kU,986,418,5⟩
abbrev GJ:Rw:=⟨"holders","holders",["members","size"],2,aP Pm,271,M3,523,108,5⟩
abbrev C1:Rw:=⟨"whole_sum","whole_sum",["form","many","size"],2,aP UZ,264,M3,517,105,3⟩
abbrev Gj:Rw:=⟨"ways","ways",["form","many"],2,aP P1,498,M9,869,345,5⟩
abbrev JR:Rw:=⟨"told_of","told_of",["word","form","found"],2,aP TR,580,kU,977,409,6⟩
abbrev Hc:Rw:=⟨"answer","Desk.answer",["self","word","things","form"],3,xw (aP uV) 4,540,kU,928,379,7⟩
abbrev Ks:Rw:=⟨"say","Desk.say",["self","line","name","word","things","form"],2,xw (aP uV) 1,519,kU,898,353,9⟩
abbrev Ao:Rw:=⟨"_law_says","_law_says",["_law_desk","_law_line","_law_caught","_law_found","e","_law_sorts"],2,aP Wl,678,iC,1106,495,3⟩
abbrev Cd:Rw:=⟨"_law_letters_of","_law_letters_of",["_law_one"],1,aP UT,618,iC,1026,439,3⟩
abbrev Ed:Rw:=⟨"_law_shown","_law_shown",["_law_form","_law_words","_law_one","_law_number","_law_figures"],1,aP OA,625,iC,1032,441,8⟩
abbrev E1:Rw:=⟨"_law_in_parts","_law_in_parts",["_law_desk","_law_form","_law_there","_law_at_here","_law_part","_law_due"],2,aP Oc,690,iC,1118,515,9⟩
abbrev GX:Rw:=⟨"_law_mixed","_law_mixed",["_law_cell","_law_k","_law_number"],2,aP Nk,608,iC,1011,430,6⟩
abbrev IV:Rw:=⟨"_law_at","_law_at",["_law_script","_law_k"],2,aP PQ,601,iC,1003,426,5⟩
abbrev Cp:Rw:=⟨"_law_bits","_law_bits",["_law_desk","_law_number","_law_letters","_law_some","_law_text","_law_sign"],2,aP N3,710,iC,1148,564,3⟩
abbrev Bx:Rw:=⟨"_law_unknowns","_law_unknowns",["_law_desk","_law_number","_law_sign","_law_line","_law_due","_law_asked"],2,aP T3,715,iC,1154,575,3⟩
abbrev Bc:Rw:=⟨"_law_made","_law_made",["_law_some","_law_numbers","_law_one","_law_number"],1,aP Ly,613,iC,1020,434,3⟩
abbrev oF:Rw:=⟨"_law_columns","_law_columns",["_law_desk","_law_many","_law_others","_law_one","_law_other","_law_due"],3,aP K8,695,iC,1130,531,3⟩
abbrev BY:Rw:=⟨"_law_short","_law_short",["_law_many","_law_there","_law_i","_law_j","_law_k"],1,aP Rg,700,iC,1136,542,3⟩
abbrev ug:Rw:=⟨"_law_bounds","_law_bounds",["_law_desk","_law_number","_law_some","_law_asked","_law_pairs","_law_form"],2,aP Sb,705,iC,1142,549,3⟩
abbrev pM:Rw:=⟨"law","law",["_law_script","_law_letters","_law_form","_law_desk","_law_there","_law_number"],1,aP zfL,727,iC,1166,588,9⟩
def rws:List Rw:=[A5,Am,DR,CA,KC,FT,Bi,Ft,IE,K2,Aa,Fc,KA,HM,Dd,Ik,JH,GF,KQ,J0,GS,Ip,Ak,FU,HH,Ku,Je,Hd,Ec,FN,Ky,Fg,F6,Kk,KZ,Ek,Js,Ei,AI,B6,EE,DX,Ha,GL,Cv,Dc,AD,Au,FL,Bd,FY,HZ,Ci,DO,ET,CP,Hq,GJ,C1,Gj,JR,Hc,Ks,Ao,Cd,Ed,E1,GX,IV,Cp,Bx,Bc,oF,BY,ug,pM]
def K (P:Params):Frag:=(3,⟨.type "dict",none,.dict #[en P "__name__" 165 (.str "law_onceform_k85_desk_too_many" 1001),en P "__doc__" 166 .none,en P "__package__" 167 .none,en P "__loader__" 168 (.builtin "__main__.__loader__#opaque"),en P "__spec__" 169 .none,en P "__annotations__" 170 (.ref 6),en P "__builtins__" 171 (.ref 4),en P "__file__" 173 (.str "/claim/cut.py" 172),en P "__cached__" 174 .none,en P "doubled" 197 (.ref 21),en P "bits_of" 207 (.ref 28),en P "listed" 213 (.ref 33),en P "form_from" 221 (.ref 38),en P "made" 231 (.ref 45),en P "plus" 239 (.ref 52),en P "less" 247 (.ref 59),en P "times" 261 (.ref 66),en P "scaled" 267 (.ref 71),en P "worth" 273 (.ref 76),en P "unknowns" 283 (.ref 83),en P "is_form" 293 (.ref 90),en P "without" 301 (.ref 95),en P "freed" 307 (.ref 100),en P "fixed" 317 (.ref 107),en P "is_yes_no" 324 (.ref 114),en P "put_in" 334 (.ref 121),en P "unlike" 342 (.ref 128),en P "unlike_by" 348 (.ref 133),en P "first_set" 355 (.ref 140),en P "FormError" 375 (.ref 150),en P "NoStatement" 391 (.ref 163),en P "NoPull" 407 (.ref 175),en P "NoForm" 423 (.ref 187),en P "NoLine" 439 (.ref 199),en P "NoName" 455 (.ref 211),en P "NoYesNo" 471 (.ref 223),en P "TooMany" 487 (.ref 235),en P "gathered" 495 (.ref 242),en P "table_of" 501 (.ref 247),en P "paired_tables" 510 (.ref 254),en P "form_of" 516 (.ref 259),en P "whole_sum" 522 (.ref 264),en P "holders" 530 (.ref 271),en P "floor" 538 (.ref 276),en P "least" 544 (.ref 281),en P "paper_for" 553 (.ref 288),en P "heaviest" 559 (.ref 293),en P "bit_of_word" 569 (.ref 300),en P "form_of_word" 575 (.ref 305),en P "joined" 586 (.ref 312),en P "LETTERS" 590 (.str "abcdefghijklmnop" 589),en P "JOINING" 594 (.ref 313),en P "SPACED" 599 (.ref 314),en P "form_of_statement" 610 (.ref 321),en P "parts_of" 620 (.ref 328),en P "bits_in" 629 (.ref 335),en P "read" 639 (.ref 342),en P "tokens_of" 649 (.ref 349),en P "token_at" 658 (.ref 356),en P "part_from" 667 (.ref 363),en P "part_after" 677 (.ref 370),en P "with_nots" 685 (.ref 377),en P "with_joining" 693 (.ref 384),en P "FIGURES" 697 (.str "0123456789" 696),en P "form_shown" 703 (.ref 389),en P "shown_sign" 710 (.ref 396),en P "shown_tuple" 718 (.ref 403),en P "shown_set" 724 (.ref 408),en P "form_read" 730 (.ref 413),en P "read_tuple" 740 (.ref 420),en P "read_number" 750 (.ref 427),en P "read_set" 761 (.ref 434),en P "SMALL_LETTERS" 765 (.str "abcdefghijklmnopqrstuvwxyz" 764),en P "ASKED" 791 (.ref 435),en P "MADE" 814 (.ref 443),en P "line_read" 822 (.ref 455),en P "kept_read" 832 (.ref 462),en P "things_read" 838 (.ref 467),en P "thing_read" 846 (.ref 474),en P "is_of" 854 (.ref 481),en P "is_name" 860 (.ref 486),en P "is_number" 866 (.ref 491),en P "ways" 876 (.ref 498),en P "Desk" 946 (.ref 543),en P "form_of_text" 954 (.ref 554),en P "yes_no" 961 (.ref 561),en P "combined" 970 (.ref 568),en P "refuse_great" 976 (.ref 573),en P "told_of" 985 (.ref 580),en P "few_unknowns" 993 (.ref 587),en P "told_place" 1000 (.ref 594),en P "_law_at" 1010 (.ref 601),en P "_law_mixed" 1019 (.ref 608),en P "_law_made" 1025 (.ref 613),en P "_law_letters_of" 1031 (.ref 618),en P "_law_shown" 1042 (.ref 625),en P "_law_names" 1048 (.ref 630),en P "_law_plus" 1054 (.ref 635),en P "_law_times" 1060 (.ref 640),en P "_law_parted" 1066 (.ref 645),en P "_law_fixed" 1077 (.ref 652),en P "_law_put" 1088 (.ref 659),en P "_law_yes_no" 1095 (.ref 666),en P "_law_stated" 1105 (.ref 673),en P "_law_says" 1111 (.ref 678),en P "_law_sets" 1117 (.ref 683),en P "_law_in_parts" 1129 (.ref 690),en P "_law_columns" 1135 (.ref 695),en P "_law_short" 1141 (.ref 700),en P "_law_bounds" 1147 (.ref 705),en P "_law_bits" 1153 (.ref 710),en P "_law_unknowns" 1159 (.ref 715),en P "_law_columns_of" 1165 (.ref 720),en P "law" 1177 (.ref 727)] 114,#[]⟩) :: (rws.flatMap Rw.rows ++ [(2,⟨.none,none,.dict #[] 0,#[]⟩),(149,⟨.type "dict",none,.dict #[en P "__module__" 365 (.str "onceform.errors" 356),en P "__firstlineno__" 369 (.int 72 368),en P "__static_attributes__" 370 (.ref 148),en P "__weakref__" 372 (.ref 151),en P "__doc__" 373 .none] 3,#[]⟩),(150,⟨.type "type",none,.cls ⟨"FormError",[.type "ValueError"],[.ref 150,.type "ValueError",.type "Exception",.type "BaseException",.type "object"],149,"FormError",true,[],[.ref 163,.ref 175,.ref 187,.ref 199,.ref 211,.ref 223,.ref 235],false,none,false⟩,#[some (.ref 141),none,some (.str "FormError" 358),some (.str "FormError" 366),some (.builtin "ValueError.__new__"),some (.bool true)]⟩),(162,⟨.type "dict",none,.dict #[en P "__module__" 383 (.str "onceform.errors" 356),en P "__firstlineno__" 387 (.int 74 386),en P "__static_attributes__" 388 (.ref 161),en P "__doc__" 389 .none] 2,#[]⟩),(163,⟨.type "type",none,.cls ⟨"NoStatement",[.ref 150],[.ref 163,.ref 150,.type "ValueError",.type "Exception",.type "BaseException",.type "object"],162,"NoStatement",true,[],[],false,none,false⟩,#[some (.ref 154),none,some (.str "NoStatement" 376),some (.str "NoStatement" 384),some (.builtin "ValueError.__new__"),some (.bool true)]⟩),(174,⟨.type "dict",none,.dict #[en P "__module__" 399 (.str "onceform.errors" 356),en P "__firstlineno__" 403 (.int 76 402),en P "__static_attributes__" 404 (.ref 173),en P "__doc__" 405 .none] 2,#[]⟩),(175,⟨.type "type",none,.cls ⟨"NoPull",[.ref 150],[.ref 175,.ref 150,.type "ValueError",.type "Exception",.type "BaseException",.type "object"],174,"NoPull",true,[],[],false,none,false⟩,#[some (.ref 166),none,some (.str "NoPull" 392),some (.str "NoPull" 400),some (.builtin "ValueError.__new__"),some (.bool true)]⟩),(186,⟨.type "dict",none,.dict #[en P "__module__" 415 (.str "onceform.errors" 356),en P "__firstlineno__" 419 (.int 78 418),en P "__static_attributes__" 420 (.ref 185),en P "__doc__" 421 .none] 2,#[]⟩),(187,⟨.type "type",none,.cls ⟨"NoForm",[.ref 150],[.ref 187,.ref 150,.type "ValueError",.type "Exception",.type "BaseException",.type "object"],186,"NoForm",true,[],[],false,none,false⟩,#[some (.ref 178),none,some (.str "NoForm" 408),some (.str "NoForm" 416),some (.builtin "ValueError.__new__"),some (.bool true)]⟩),(198,⟨.type "dict",none,.dict #[en P "__module__" 431 (.str "onceform.errors" 356),en P "__firstlineno__" 435 (.int 80 434),en P "__static_attributes__" 436 (.ref 197),en P "__doc__" 437 .none] 2,#[]⟩),(199,⟨.type "type",none,.cls ⟨"NoLine",[.ref 150],[.ref 199,.ref 150,.type "ValueError",.type "Exception",.type "BaseException",.type "object"],198,"NoLine",true,[],[],false,none,false⟩,#[some (.ref 190),none,some (.str "NoLine" 424),some (.str "NoLine" 432),some (.builtin "ValueError.__new__"),some (.bool true)]⟩),(210,⟨.type "dict",none,.dict #[en P "__module__" 447 (.str "onceform.errors" 356),en P "__firstlineno__" 451 (.int 82 450),en P "__static_attributes__" 452 (.ref 209),en P "__doc__" 453 .none] 2,#[]⟩),(211,⟨.type "type",none,.cls ⟨"NoName",[.ref 150],[.ref 211,.ref 150,.type "ValueError",.type "Exception",.type "BaseException",.type "object"],210,"NoName",true,[],[],false,none,false⟩,#[some (.ref 202),none,some (.str "NoName" 440),some (.str "NoName" 448),some (.builtin "ValueError.__new__"),some (.bool true)]⟩),(222,⟨.type "dict",none,.dict #[en P "__module__" 463 (.str "onceform.errors" 356),en P "__firstlineno__" 467 (.int 84 466),en P "__static_attributes__" 468 (.ref 221),en P "__doc__" 469 .none] 2,#[]⟩),(223,⟨.type "type",none,.cls ⟨"NoYesNo",[.ref 150],[.ref 223,.ref 150,.type "ValueError",.type "Exception",.type "BaseException",.type "object"],222,"NoYesNo",true,[],[],false,none,false⟩,#[some (.ref 214),none,some (.str "NoYesNo" 456),some (.str "NoYesNo" 464),some (.builtin "ValueError.__new__"),some (.bool true)]⟩),(234,⟨.type "dict",none,.dict #[en P "__module__" 479 (.str "onceform.errors" 356),en P "__firstlineno__" 483 (.int 86 482),en P "__static_attributes__" 484 (.ref 233),en P "__doc__" 485 .none] 2,#[]⟩),(235,⟨.type "type",none,.cls ⟨"TooMany",[.ref 150],[.ref 235,.ref 150,.type "ValueError",.type "Exception",.type "BaseException",.type "object"],234,"TooMany",true,[],[],false,none,false⟩,#[some (.ref 226),none,some (.str "TooMany" 472),some (.str "TooMany" 480),some (.builtin "ValueError.__new__"),some (.bool true)]⟩),(313,⟨.type "tuple",none,.seq #[.str "and" 591,.str "or" 592,.str "xor" 593] 0,#[]⟩),(314,⟨.type "tuple",none,.seq #[.str "not " 595,.str " and " 596,.str " or " 597,.str " xor " 598] 0,#[]⟩),(435,⟨.type "dict",none,.dict #[en P "show" 766 (.ref 436),en P "worth" 768 (.ref 437),en P "alike" 771 (.ref 438),en P "rest" 774 (.ref 439),en P "least" 778 (.ref 440),en P "ways" 780 (.ref 441),en P "unknowns" 782 (.ref 442)] 7,#[]⟩),(436,⟨.type "tuple",none,.seq #[.str "name" 767] 0,#[]⟩),(437,⟨.type "tuple",none,.seq #[.str "name" 769,.str "number" 770] 0,#[]⟩),(438,⟨.type "tuple",none,.seq #[.str "name" 772,.str "name" 773] 0,#[]⟩),(439,⟨.type "tuple",none,.seq #[.str "name" 775,.str "name" 776,.str "divisor" 777] 0,#[]⟩),(440,⟨.type "tuple",none,.seq #[.str "name" 779] 0,#[]⟩),(441,⟨.type "tuple",none,.seq #[.str "name" 781] 0,#[]⟩),(442,⟨.type "tuple",none,.seq #[.str "name" 783] 0,#[]⟩),(443,⟨.type "dict",none,.dict #[en P "plus" 792 (.ref 444),en P "less" 795 (.ref 445),en P "times" 798 (.ref 446),en P "fixed" 801 (.ref 447),en P "put" 805 (.ref 448)] 5,#[]⟩),(444,⟨.type "tuple",none,.seq #[.str "name" 793,.str "name" 794] 0,#[]⟩),(445,⟨.type "tuple",none,.seq #[.str "name" 796,.str "name" 797] 0,#[]⟩),(446,⟨.type "tuple",none,.seq #[.str "name" 799,.str "name" 800] 0,#[]⟩),(447,⟨.type "tuple",none,.seq #[.str "name" 802,.str "letter" 803,.str "bit" 804] 0,#[]⟩),(448,⟨.type "tuple",none,.seq #[.str "name" 806,.str "letter" 807,.str "name" 808] 0,#[]⟩),(542,⟨.type "dict",none,.dict #[en P "__module__" 886 (.str "onceform.desk" 877),en P "__firstlineno__" 890 (.int 348 889),en P "__init__" 897 (.ref 512),en P "say" 909 (.ref 519),en P "kept" 917 (.ref 526),en P "form_for" 927 (.ref 533),en P "answer" 937 (.ref 540),en P "__static_attributes__" 939 (.ref 541),en P "__dict__" 941 (.ref 544),en P "__weakref__" 943 (.ref 545),en P "__doc__" 944 .none] 4,#[]⟩),(543,⟨.type "type",none,.cls ⟨"Desk",[.type "object"],[.ref 543,.type "object"],542,"Desk",true,[],[],false,none,false⟩,#[none,none,some (.str "Desk" 879),some (.str "Desk" 887),some (.builtin "object.__new__"),some (.bool true)]⟩)])
def as:List Addr:=3::(rws.flatMap (λr=>[r.a-1,r.a])++[2,149,150,162,163,174,175,186,187,198,199,210,211,222,223,234,235,313,314,435,436,437,438,439,440,441,442,443,444,445,446,447,448,542,543])
noncomputable def lo:List Str := "doubled" :: "bits_of" :: "listed" :: "form_from" :: "made" :: "plus" :: "less" :: "times" :: "scaled" :: "worth" :: "unknowns" :: "is_form" :: "without" :: "freed" :: "fixed" :: "is_yes_no" :: "put_in" :: "unlike" :: "unlike_by" :: "first_set" :: "FormError" :: "NoStatement" :: "NoPull" :: "NoForm" :: "NoLine" :: "NoName" :: "NoYesNo" :: "TooMany" :: "gathered" :: "table_of" :: "paired_tables" :: "form_of" :: "whole_sum" :: "holders" :: "floor" :: "least" :: "paper_for" :: "heaviest" :: "bit_of_word" :: "form_of_word" :: "joined" :: "LETTERS" :: "JOINING" :: "SPACED" :: "form_of_statement" :: "parts_of" :: "bits_in" :: "read" :: "tokens_of" :: "token_at" :: "part_from" :: "part_after" :: "with_nots" :: "with_joining" :: "FIGURES" :: "form_shown" :: "shown_sign" :: "shown_tuple" :: "shown_set" :: "form_read" :: "read_tuple" :: "read_number" :: "read_set" :: "SMALL_LETTERS" :: "ASKED" :: "MADE" :: "line_read" :: "kept_read" :: "things_read" :: "thing_read" :: "is_of" :: "is_name" :: "is_number" :: "ways" :: "Desk" :: "form_of_text" :: "yes_no" :: "combined" :: "refuse_great" :: "told_of" :: "few_unknowns" :: "told_place" :: "_law_at" :: "_law_mixed" :: "_law_made" :: "_law_letters_of" :: "_law_shown" :: "_law_names" :: "_law_plus" :: "_law_times" :: "_law_parted" :: "_law_fixed" :: "_law_put" :: "_law_yes_no" :: "_law_stated" :: "_law_says" :: "_law_sets" :: "_law_in_parts" :: "_law_columns" :: "_law_short" :: "_law_bounds" :: "_law_bits" :: "_law_unknowns" :: "_law_columns_of" :: []
noncomputable abbrev Pg:Program:=PySem.Challenge.rw_onceform_k85_desk_too_many.row.toRowW.prog
abbrev Q:Program:=PySem.W.view Pg [117]
def za4(P:Params):as=(K P).map (·.1):=by kernel_rfl
abbrev Hk:PySem.W.Hook:=PySem.W.kHook K as za4
abbrev Xq:Shared->Bool:=λs=>PySem.W.xlAt Q [] s&&PySem.W.recOk (PySem.W.RowW.records PySem.Challenge.rw_onceform_k85_desk_too_many.row.toRowW) s
open PySem.W PyProof.Rows in
abbrev Q9(w:World):Prop:=(λos=>(OH.wK Pg w 11 (some (.ref 6)) 10184 (OH.FA w.params os) (topStub Pg)).map λs =>
  (staticsOk (importedModules Pg.main.body) (boot_heap w.params) s.abs.heap&&namesBound Pg s.abs.heap&&gensDone s.abs&&laidKept (boot_heap w.params) s.abs.heap,PySem.W.Fast.tw4187177175401517315 Q lo (importedModules Pg.main.body) Xq true s.abs,Hk.obs s.abs))=λ_=>some (true,openGood Q lo,Hk.val w)
set_option maxHeartbeats 0 in
def zdL(w:World):Q9 (w.withFollow "special-get-raises" false):=by kernel_rfl
set_option maxHeartbeats 0 in
def zaQ(w:World):Q9 (w.withFollow "special-get-raises" true):=by kernel_rfl
set_option maxHeartbeats 0 in
def left:PySem.W.LeftO Pg Q lo Xq Hk.obs Hk.val 10184:=OH.left (by kernel_rfl) (by decide) (λs=>by kernel_rfl) (PySem.W.byRow2 "special-get-raises" zdL zaQ)
set_option maxHeartbeats 0 in
def Kq:PySem.Challenge.rw_onceform_k85_desk_too_many.wellSaid=true:=(congrFun jfU _).trans (by kernel_rfl)
end My
namespace L2
open PySem PySem.Spec PyProof.Rows
abbrev bM:=Sum Int Str
noncomputable def vS:bM->Value->Bool
 |.inl k,v=>Value.isInt k v
 |.inr x,v=>Value.isStrOf x v
noncomputable def YS(w:World):bM->Int
 |.inl k=>hashInt k
 |.inr x=>hashStr w x
theorem n9:∀{k:bM}{v:Value},vS k v=true->(∃i t,k=Sum.inl i/\v=Value.int i t)\/(∃x t,k=Sum.inr x/\v=Value.str x t)
 |.inl i,v,h=>by
  obtain⟨t,e⟩:=Nc (k:=i) (v:=v) h;show .inl ⟨i,t,Y,e⟩
 |.inr x,v,h=>by
  obtain⟨t,e⟩:=Value.isStrOf_shape (x:=x) (v:=v) h;show .inr ⟨x,t,Y,e⟩
def zcS(i:Int)(t:Tok):vS (.inl i) (.int i t)=true:=by simp[vS,Value.isInt]
def zgU(x:Str)(t:Tok):vS (.inr x) (.str x t)=true:=by simp[vS,Value.isStrOf]
def X8(a b:Int):decide ((Sum.inl a:bM)=Sum.inl b)=(a == b):=by lia
def zap(a b:Str):decide ((Sum.inr a:bM)=Sum.inr b)=decide (a=b):=by simp
def Wu(a:Int)(b:Str):decide ((Sum.inl a:bM)=Sum.inr b)=false:=bw (λq=>nomatch q)
def XM(a:Str)(b:Int):decide ((Sum.inr a:bM)=Sum.inl b)=false:=bw (λq=>nomatch q)
def fu(prog:Program)(w:World):PySem.KeyKind prog w bM where
 is:=vS
 hash:=YS w
 inj:=λv a b ha hb=>by
  rcases n9 ha with ⟨i,t,rfl,rfl⟩|⟨x,t,rfl,rfl⟩
  .rcases n9 hb with ⟨j,u,rfl,e⟩|⟨y,u,rfl,e⟩
   .injection e with e1 _;rw[e1]
   .exact nomatch e
  .rcases n9 hb with ⟨j,u,rfl,e⟩|⟨y,u,rfl,e⟩
   .exact nomatch e
   .injection e with e1 _;rw[e1]
 byValue:=λk v h=>by
  rcases n9 h with ⟨i,t,rfl,rfl⟩|⟨x,t,rfl,rfl⟩<;>rfl
 pyHash:=λhv h=>by
  rcases n9 hv with ⟨i,t,rfl,rfl⟩|⟨x,t,rfl,rfl⟩
  .exact wpAny_pyHash_int h
  .exact wpAny_pyHash_str h
 eqBool:=λhu hv h=>by
  rcases n9 hu with ⟨i,t,rfl,rfl⟩|⟨x,t,rfl,rfl⟩
  .rcases n9 hv with ⟨j,u,rfl,rfl⟩|⟨y,u,rfl,rfl⟩
   .rw[X8]at h;show Kl h
   .rw[Wu]at h;show OZ i t y u _ _ _ _ h
  .rcases n9 hv with ⟨j,u,rfl,rfl⟩|⟨y,u,rfl,rfl⟩
   .rw[XM]at h;show QN x t j u _ _ _ _ h
   .rw[zap]at h;show wpAny_eqBool_str h
 «strs» := λk x t v h=>by
  rcases n9 h with ⟨i,u,rfl,e⟩|⟨y,u,rfl,e⟩
  .exact nomatch e
  .injection e with e1 _
   subst e1;cases v<;>rfl
def QK(prog:Program)(w:World)(i:Int)(t:Tok):(fu prog w).is (.inl i) (.int i t)=true:=zcS i t
def vC(prog:Program)(w:World)(x:Str)(t:Tok):(fu prog w).is (.inr x) (.str x t)=true:=zgU x t
inductive V where
 |non|bl (b:Bool)|int (i:Int)|str (x:Str)|byt (b:Array UInt8)|flt (b:UInt64)|ref (a:Addr)|ty (n:String)
 deriving DecidableEq
def RelV:V->Value->Prop
 |.non,u=>u=Value.none
 |.bl b,u=>u=Value.bool b
 |.int i,u=>∃t,u=Value.int i t
 |.str x,u=>∃t,u=Value.str x t
 |.byt b,u=>∃t,u=Value.bytes b t
 |.flt b,u=>∃t,u=Value.float b t
 |.ref a,u=>u=Value.ref a
 |.ty n,u=>u=Value.type n
abbrev Vals:List V->List Value->Prop:=Paired RelV
def Vals.length(r:Vals xs us):xs.length=us.length:=eo r
theorem Vals.get:∀{xs:List V}{us:List Value}{i:Nat}{x:V},Vals xs us->xs[i]?=some x->∃u,us[i]?=some u/\RelV x u
 |_,_,_,_,.nil,e=>by simp at e
 |_,_,0,_,.cons r _,e=>by simp at e;subst e;exists _,Y,r
 |_,_,i+1,x,.cons _ t,e=>by
  obtain⟨u,Z,M⟩:=Vals.get (i:=i) (x:=x) t (by simpa using e);exists u,by simpa using Z,M
theorem Vals.set(r:RelV x u):∀{xs:List V}{us:List Value} (i:Nat),Vals xs us->Vals (xs.set i x) (us.set i u)
 |_,_,_,.nil=>.nil
 |_,_,0,.cons _ t=>.cons r t
 |_,_,i+1,.cons q t=>.cons q (Vals.set r i t)
theorem Vals.append:∀{xs ys:List V}{us ws:List Value},Vals xs us->Vals ys ws->Vals (xs++ys) (us++ws)
 |_,_,_,_,.nil,s=>s
 |_,_,_,_,.cons r t,s=>.cons r (Vals.append t s)
theorem Vals.take:∀{xs:List V}{us:List Value} (n:Nat),Vals xs us->Vals (xs.take n) (us.take n)
 |_,_,0,_=>.nil
 |_,_,_+1,.nil=>.nil
 |_,_,n+1,.cons r t=>.cons r (Vals.take n t)
theorem Vals.drop:∀{xs:List V}{us:List Value} (n:Nat),Vals xs us->Vals (xs.drop n) (us.drop n)
 |_,_,0,r=>r
 |_,_,_+1,.nil=>.nil
 |_,_,n+1,.cons _ t=>Vals.drop n t
def gz:Option V->Option Value->Prop
 |some v,some u=>RelV v u
 |none,none=>True
 |_,_=>False
def KV{κ:Type}:List (κ×V)->List (κ×Value)->Prop:=Paired λ(p:κ×V) (q:κ×Value)=>p.1=q.1/\RelV p.2 q.2
noncomputable def kV:bM->V
 |.inl i=>.int i
 |.inr x=>.str x
inductive HO where
 |lst (xs:List V)
 |tup (xs:List V)
 |dK (kvs:List (bM×V))|dT (kvs:List (List bM×V))
 |set (S:Int->Bool) (n:Nat)
 |ins (C dx:Addr) (fs:List (Str×V))
 |own (x:Addr)
 |xd (fs:List (Str×V))
 |met (f x:Addr)
 |rng (lo hi:Int)
 |frz (o:Obj) (u:HO)
 |tbl (ps:Array Value)
 |ext (φ:Heap->Prop)
abbrev Hp:=Addr->Option HO
noncomputable def upd(H:Hp)(a:Addr)(o:HO):Hp:=λb=>if b=a then some o else H b
def ao:upd H a o a=some o:=by unfold upd;rw[aj rfl]
def aG(h:b≠a):upd H a o b=H b:=by unfold upd;rw[ah h]
def yp:upd (upd H a o) a u=upd H a u:=by
 funext b;unfold upd;split<;>rfl
def CF{H:Hp}{a b:Addr}{o u:HO}(h:H a=some o)(h':H b=some u)(d:o≠u):a≠b:=by
 intro e;subst e;rw[h]at h';show d (di h')
def de{H:Hp}{a b:Addr}{o:HO}(h:H a=some o)(h':H b=none):a≠b:=by lia
section
variable(P:Program)(w:World)
def cI(H:Hp)(h:Heap)(a:Addr):HO->Prop
 |.lst xs=>xs.length<=sizeLine/\∃(ae:List Value) (n:Nat),Vals xs ae/\h.get? a=some {cls:=.type "list",data:=.seq ae.toArray n}
 |.tup xs=>xs.length<=sizeLine/\∃ae:List Value,Vals xs ae/\IsTup h a ae.toArray
 |.dK kvs=>kvs.length<=sizeLine/\(a == sysModules)=false/\∃vs,KV kvs vs/\h.DictOf (fu P w) a vs
 |.dT kvs=>kvs.length<=sizeLine/\(a == sysModules)=false/\∃xs:List (List bM×Addr×Value),
   Paired (λ(p:List bM×V) (q:List bM×Addr×Value)=>p.1=q.1/\H q.2.1=some (.tup (p.1.map kV))/\RelV p.2 q.2.2) kvs xs /\
   ∃o es ep,h.get? a=some o/\o.ExactDict/\o.data=.dict es ep/\es.toList=xs.map (entryOfKey (tupleKind (fu P w)))/\(xs.map (·.1)).Nodup
 |.set S n=>h.SetOf (intKind P w) a S n
 |.ins C dx fs=>H dx=some (.own a)/\fs.length<=1000/\dx≠a/\h.get? a=some (PySem.W.instObj C dx) /\
   ∃mA,h.Ns1 dx mA/\(∀f,gz (fs.lookup f) (mA f))/\PySem.Within mA (fs.map (·.1))
 |.own _=>∃o,h.get? a=some o
 |.xd fs=>∃mA,h.Ns1 a mA/\∀f,gz (fs.lookup f) (mA f)
 |.rng lo hi=>∃t u v,h.get? a=some {cls:=.type "range",data:=.fields #[.int lo t,.int hi u,.int 1 v]}
 |.frz o u=>h.get? a=some o/\cI H h a u
 |.tbl ps=>h.get? a=some {cls:=.none,data:=.fields ps}
 |.met f x=>h.get? a=some (PySem.W.methodObj (.ref f) (.ref x))
 |.ext φ=>φ h/\(∃o,h.get? a=some o)/\∀Z M:Heap,φ Z->(∀o,Z.get? a=some o->M.get? a=some o)->φ M
def cz(H:Hp)(h:Heap):Prop:=∀a o,H a=some o->cI P w H h a o
end
section
variable{P:Program}{w:World}{H O:Hp}{h h':Heap}{a:Addr}{o:HO}
def cI.lt(x:cI P w H h a o):a<h.objs.size:=by
 cases o with
 |lst xs=>obtain⟨_,_,_,_,e⟩:=x;show bh e
 |tup xs=>obtain⟨_,_,_,p⟩:=x;show p.lt
 |dK kvs=>obtain⟨_,_,_,_,o,_,_,e,_⟩:=x;show bh e
 |dT kvs=>obtain⟨_,_,_,_,o,_,_,e,_⟩:=x;show bh e
 |set S n=>obtain⟨o,_,_,_,e,_⟩:=x;show bh e
 |ins C dx fs=>obtain⟨_,_,_,e,_⟩:=x;show bh e
 |own y=>obtain⟨_,e⟩:=x;show bh e
 |xd fs=>obtain⟨_,⟨_,_,_,e,_⟩,_⟩:=x;show bh e
 |rng lo hi=>obtain⟨_,_,_,e⟩:=x;show bh e
 |frz ob u=>obtain⟨e,_⟩:=x;show bh e
 |tbl ps=>show bh (show h.get? a=some _ from x)
 |met f y=>show bh (show h.get? a=some _ from x)
 |ext φ=>obtain⟨_,⟨_,e⟩,_⟩:=x;show bh e
theorem Paired.mapP:∀{l₁:List α}{l₂:List β},Paired F l₁ l₂->(∀a b,F a b->G a b)->Paired G l₁ l₂
 |_,_,.nil,_=>.nil
 |_,_,.cons r t,f=>.cons (f _ _ r) (Paired.mapP t f)
def cI.stay(x:cI P w H h a o)(k:∀b u,(b=a\/H b=some (.own a))->h.get? b=some u->h'.get? b=some u)
  (ho:∀b,H b=some (.own a)->O b=some (.own a)) (ht:∀b xs,H b=some (.tup xs)->O b=some (.tup xs)):cI P w O h' a o:=by
 induction o with
 |lst xs=>obtain⟨z,ae,n,r,e⟩:=x;exists z,ae,n,r,k _ _ (.inl Y) e
 |tup xs=>obtain⟨z,ae,r,ob,e,c⟩:=x;exists z,ae,r,ob,k _ _ (.inl Y) e,c
 |dK kvs=>obtain⟨z,y,vs,r,ob,es,ep,e,c⟩:=x;exists z,y,vs,r,ob,es,ep,k _ _ (.inl Y) e,c
 |dT kvs =>
  obtain⟨z,y,xs,r,ob,es,ep,e,c⟩:=x;exists z,y,xs,Paired.mapP r λp q z=>⟨z.1,ht _ _ z.2.1,z.2.2⟩,ob,es,ep,k _ _ (.inl Y) e,c
 |set S n=>obtain⟨ob,es,ep,t,e,c⟩:=x;exists ob,es,ep,t,k _ _ (.inl Y) e,c
 |ins C dx fs =>
  obtain⟨d,z,ne,e,mA,⟨od,es,ep,e2,c⟩,r⟩:=x;exists ho _ d,z,ne,k _ _ (.inl Y) e,mA,⟨od,es,ep,k _ _ (.inr d) e2,c⟩,r
 |own y=>obtain⟨ob,e⟩:=x;exists ob,k _ _ (.inl Y) e
 |xd fs=>obtain⟨mA,⟨od,es,ep,e,c⟩,r⟩:=x;exists mA,⟨od,es,ep,k _ _ (.inl Y) e,c⟩,r
 |rng lo hi=>obtain⟨t,u,v,e⟩:=x;exists t,u,v,k _ _ (.inl Y) e
 |frz ob u ih=>obtain⟨e,q⟩:=x;exists k _ _ (.inl Y) e,ih q
 |tbl ps =>
  have e:=x;show k a _ (.inl Y) e
 |met f y =>
  have e:=x;show k a _ (.inl Y) e
 |ext φ=>obtain⟨p,⟨o,e⟩,st⟩:=x;exists st _ _ p λo q=>k _ _ (.inl Y) q,⟨o,k _ _ (.inl Y) e⟩,st
def cz.lt(x:cz P w H h)(e:H a=some o):a<h.objs.size:=(x a o e).lt
def cz.fresh(x:cz P w H h)(e:h.objs.size<=a):H a=none:=by
 cases q:H a with
 |none=>rfl
 |some u=>show absurd (cP (x.lt q) e) (nJ _)
def cz.kept(x:cz P w H h)(k:∀b u,h.get? b=some u->h'.get? b=some u):cz P w H h':=λa o e =>
 (x a o e).stay (λb u _ q=>k b u q) (λ_ q=>q) λ_ _ q=>q
def cz.laid(x:cz P w H h)(k:∀b u,h.get? b=some u->h'.get? b=some u)(hp:h.objs.size<=a)(new:cI P w (upd H a o) h' a o):cz P w (upd H a o) h':=λb u e=>by
 have hn:=x.fresh hp;by_cases hb:b=a
 .subst hb;rw[ao]at e;cases e;show new
 .rw[aG hb]at e;show (x b u e).stay (λc v _ q=>k c v q) (λc q=>by rw[aG (de q hn)];show q) λc xs q=>by rw[aG (de q hn)];show q
end
def Rd(H:Hp)(a:Addr)(u:HO):Prop:=H a=some u\/∃o,H a=some (.frz o u)
def Rd.ok(r:Rd H a u)(x:cz P w H h):cI P w H h a u:=by
 rcases r with r|⟨o,r⟩
 .exact x a u r
 .obtain⟨_,q⟩:=x a _ r;show q
def vT:Option HO->Prop
 |some (.lst _)=>True
 |some (.dK _)=>True
 |some (.dT _)=>True
 |some (.set _ _)=>True
 |some (.ins _ _ _)=>True
 |some (.ext _)=>True
 |_=>False
section
variable{P:Program}{w:World}{H:Hp}{h h':Heap}{x e:Addr}{o':HO}
def cz.write(ok:cz P w H h)(mu:vT (H x))(he:e=x\/H e=some (.own x))(k:∀b u,b≠e->h.get? b=some u->h'.get? b=some u)(ud:∃u,h'.get? e=some u)
  (new:cI P w (upd H x o') h' x o'):cz P w (upd H x o') h':=λb u q=>by
 have Lj:∀c y,H c=some (.own y)->c≠x:=λc y r z=>by subst z;rw[r]at mu;show mu
 have ntup:∀c xs,H c=some (.tup xs)->c≠x:=λc xs r z=>by subst z;rw[r]at mu;show mu
 by_cases hb:b=x
 .subst hb;rw[ao]at q;cases q;show new
 .rw[aG hb]at q;by_cases hbe:b=e
  .have q':H b=some (.own x):=by
    rcases he with z|z
    .exact absurd (hbe.trans z) hb
    .rw[hbe];show z
   rw[q]at q';cases q';obtain⟨v,hv⟩:=ud;show⟨v,by rw[hbe];show hv⟩
  .refine (ok b u q).stay (λc v hc r=>k c v ?_ r) (λc r=>by rw[aG (Lj c b r)];show r) λc xs r=>by rw[aG (ntup c xs r)];show r
   rcases hc with rfl|hc
   .exact hbe
   .rintro rfl;rcases he with z|z
    .exact Lj c b hc z
    .rw[hc]at z;cases z;show hb rfl
end
structure Un(fs ex:List Addr)(H O:Hp)(h h':Heap):Prop where
 keep:∀b o,h.get? b=some o->H b=none->b∉fs->b∉ex->h'.get? b=some o
 slot:∀b o,h.get? b=some o->H b=none->b∈fs->b∉ex->∃sl,h'.get? b=some {o with slots:=sl}
 free:∀b o,h.get? b=some o->H b=none->b∉ex->O b=none
 there:∀b o,h.get? b=some o->b∉ex->∃o',h'.get? b=some o'
 tups:∀b xs,H b=some (.tup xs)->O b=some (.tup xs)
 frzs:∀b o u,H b=some (.frz o u)->O b=some (.frz o u)
 tbls:∀b ps,H b=some (.tbl ps)->∃more,O b=some (.tbl (ps++more))
section
variable{fs fs' ex ex':List Addr}{H H1 H2:Hp}{h Z M h':Heap}{a x e:Addr}{o:HO}
def Un.any(u:Un fs ex H H1 h Z)(q:h.get? b=some ob)(n:H b=none)(hx:b∉ex):∃sl,Z.get? b=some {ob with slots:=sl}:=by
 by_cases hb:b∈fs
 .exact u.slot b ob q n hb hx
 .exists ob.slots,u.keep b ob q n hb hx
def Un.kept(k:∀b u,h.get? b=some u->h'.get? b=some u):Un fs ex H H h h' :=
 ⟨λb ob q _ _ _=>k b ob q,λb ob q _ _ _=>⟨ob.slots,k b ob q⟩,λ_ _ _ n _=>n,λb ob q _=>⟨ob,k b ob q⟩,λ_ _ q=>q,λ_ _ _ q=>q,λ_ ps q=>⟨#[],by rw[q];simp⟩⟩
def Un.refl:Un fs ex H H h h:=Un.kept λ_ _ q=>q
def Un.laid(k:∀b u,h.get? b=some u->h'.get? b=some u)(hp:h.objs.size<=a)(hn:H a=none):Un fs ex H (upd H a o) h h' where
 keep:=λb u q _ _ _=>k b u q
 slot:=λb u q _ _ _=>⟨u.slots,k b u q⟩
 free:=λb u q n _=>by rw[aG (bR (cP (bh q) hp))];show n
 there:=λb u q _=>⟨u,k b u q⟩
 tups:=λb xs q=>by rw[aG (de q hn)];show q
 frzs:=λb u xs q=>by rw[aG (de q hn)];show q
 tbls:=λb ps q=>⟨#[],by rw[aG (de q hn),q];simp⟩
def Un.write(mu:vT (H x))(he:e=x\/H e=some (.own x))(k:∀b u,b≠e->h.get? b=some u->h'.get? b=some u)(ud:∃u,h'.get? e=some u):Un fs ex H (upd H x o) h h':=by
 have hx:∀b,H b=none->b≠x:=λb n z=>by subst z;rw[n]at mu;show mu
 have hb:∀b,H b=none->b≠e:=λb n z=>by simp_all
 have hm:∀b u,H b=some u->¬vT (some u)->b≠x:=λb u q nm z=>by simp_all
 show⟨λb u q n _ _=>k b u (hb b n) q,λb u q n _ _=>⟨u.slots,k b u (hb b n) q⟩,λb u q n _=>by rw[aG (hx b n)];show n,λb u q _=>?_,
  λb xs q=>by rw[aG (hm b _ q λz=>z)];show q,λb u xs q=>by rw[aG (hm b _ q λz=>z)];show q,λb ps q=>⟨#[],by rw[aG (hm b _ q λz=>z),q];simp⟩⟩
 by_cases hbe:b=e
 .subst hbe;show ud
 .exists u,k b u hbe q
end
noncomputable def uk(h:Heap)(H:Hp):List Addr:=(List.range h.objs.size).filter λa=>(H a).isSome
def nN(h:Heap)(H:Hp):Heap:=PySem.W.hideAll h (uk h H)
def zco(h:Heap)(H:Hp):(nN h H).objs.size=h.objs.size:=PySem.W.hideAll_size _ _
def zdl(e:h.get? b=some o)(n:H b=none):(nN h H).get? b=some o :=
 Jd _ e λhm=>by
  have q:=(tX.mp hm).2;rw[n]at q;simp at q
def Za(e:(nN h H).get? b=some o):h.get? b=some o/\H b=none:=by
 have e':=Fm (uk h H) e;exists e',?_;cases q:H b with
 |none=>rfl
 |some x =>
  have hm:b∈uk h H:=tX.mpr ⟨eG.mpr (bh e'),by simp[q]⟩;have z:(nN h H).get? b=none:=Jy (uk h H) hm;rw[z]at e;cases e
structure Mod(K:Frag)(mg:Str->Option Value)(base:Heap):Prop where
 kin:K.In base
 glob:base.Ns mainGlobals mg
 blt:∃mb,base.Ns builtinsNs mb/\∀x:Str,x ≠ "__name__" -> mb x=bootBuiltins x
 nolimit:base.NoLimit
structure Cx where
 prog:Program
 w:World
 K:Frag
 mg:Str->Option Value
 base:Heap
 A:Around
 N:List Str
 s₀:Shared
 H₀:Hp
 env:Env
 outer:List Env
 stack:List Env
 ex:List Addr
 fn:Str->Bool
 calm:Bool
 pn:List (Addr×Obj)
 xe:Value->Shared->Prop
noncomputable def bT(l:List Env):List Addr:=l.filterMap (·.frame)
abbrev Cx.fs(X:Cx):List Addr:=bT X.outer
def zL(sc:Scope)(x:Str):Prop:=sc.names.lookup x=some .local\/sc.names.lookup x=some .cell\/sc.names.lookup x=some .free
def oY(sc:Scope)(x:Str):Prop:=sc.names.lookup x=some .local\/sc.names.lookup x=some .cell
def QV(env:Env)(h:Heap)(m:Str->Option Value)(x:Str)(u:Value):Prop :=
 (env.kindOf x=some .local/\m x=some u)\/((env.kindOf x=some .cell\/env.kindOf x=some .free)/\∃c,env.cells.lookup x=some c/\h.IsCell c (some u))
structure Cx.Ok(X:Cx):Prop where
 mod:Mod X.K X.mg X.base
 kind:X.env.scope.kind=.function
 glob:X.env.globals=mainGlobals
 blt:X.env.builtins=builtinsNs
 above:X.s₀.heap.objs.size<=X.env.locals
 inj:∀x y c,X.env.cells.lookup x=some c->X.env.cells.lookup y=some c->x=y
 has:∀x,(X.env.kindOf x=some .cell\/X.env.kindOf x=some .free)->∃c,X.env.cells.lookup x=some c
 cab:∀x c,X.fn x=true->X.env.cells.lookup x=some c->X.s₀.heap.objs.size<=c
 hd:X.calm=true->X.A.handled=none
 frames:X.A.frames=some X.stack
 stk:X.stack=X.outer\/(X.stack=X.env::X.outer/\X.env.frame=some X.env.locals)
 exf:∀b∈X.ex,b≠X.env.locals/\∀x c,X.env.cells.lookup x=some c->c≠b
 bs:∀b o,X.base.get? b=some o->X.s₀.heap.get? b=some o/\X.H₀ b=none
 bsz:X.base.objs.size<=X.s₀.heap.objs.size
 noex:∀b o,X.base.get? b=some o->b∉X.ex
 exfs:∀b∈X.ex,b∉X.fs
 funs:X.s₀.heap.FunFrames X.base X.outer
 frf:∀b∈X.fs,X.H₀ b=none
structure Inv(X:Cx)(J:List (Addr×Obj))(σ:List (Option V))(H:Hp)(s:Shared):Prop where
 ok:X.Ok
 os:s.os=X.s₀.os
 bare:AllBare s.gens
 base:Un X.fs X.ex X.H₀ H X.s₀.heap s.heap
 loc:∃m,s.heap.Ns X.env.locals m/\∀(i:Nat) (x:Str) (v:V),X.N[i]?=some x->σ[i]?=some (some v)->zL X.env.scope x->∃u,RelV v u/\QV X.env s.heap m x u
 cell:∀x c,X.env.cells.lookup x=some c->∃v,s.heap.IsCell c v
 free:H X.env.locals=none
 freeC:∀x c,X.env.cells.lookup x=some c->H c=none
 pin:∀p∈X.pn++J,s.heap.get? p.1=some p.2/\H p.1=none/\p.1≠X.env.locals/\p.1∉X.fs/\∀v,p.2.data≠.cell v
 hok:cz X.prog X.w H s.heap
 len:σ.length=X.N.length
section
variable{X:Cx}{J:List (Addr×Obj)}{σ:List (Option V)}{H O:Hp}{s:Shared}{h':Heap}
def Cx.Ok.nofr(ok:X.Ok)(e:X.base.get? b=some o):b∉X.fs:=λhb=>by
 have:=(ok.funs.mem hb).1
 rw[e]at this;cases this
def Inv.bs(I:Inv X J σ H s):∀b o,X.base.get? b=some o->s.heap.get? b=some o/\H b=none:=λb o e =>
 ⟨I.base.keep b o (I.ok.bs b o e).1 (I.ok.bs b o e).2 (I.ok.nofr e) (I.ok.noex b o e),I.base.free b o (I.ok.bs b o e).1 (I.ok.bs b o e).2 (I.ok.noex b o e)⟩
def Inv.bk(I:Inv X J σ H s):∀b o,X.base.get? b=some o->s.heap.get? b=some o:=λb o e=>(I.bs b o e).1
def Inv.mod(I:Inv X J σ H s):Mod X.K X.mg X.base:=I.ok.mod
def Inv.kIn(I:Inv X J σ H s):X.K.In s.heap:=I.ok.mod.kin.keeps I.bk
def Inv.lt(I:Inv X J σ H s):X.env.locals<s.heap.objs.size:=let ⟨_,hn,_⟩:=I.loc;hn.lt
def Inv.sz(I:Inv X J σ H s):X.s₀.heap.objs.size<=s.heap.objs.size:=a9 I.ok.above (dH I.lt)
def Inv.nofs(I:Inv X J σ H s)(h:s.heap.objs.size<=a):a∉X.fs:=λhb=>by
 obtain⟨_,o,ho,_⟩:=I.ok.funs.mem hb;show absurd (cP (bh ho) (a9 I.sz h)) (nJ _)
def Inv.cne(I:Inv X J σ H s):∀x c,X.env.cells.lookup x=some c->c≠X.env.locals:=λx c e z=>by
 obtain⟨v,o,ho,hd⟩:=I.cell x c e;obtain⟨m,⟨o',es,ep,gJ,qz,_⟩,_⟩:=I.loc;rw[z,gJ]at ho;cases ho;rw[qz]at hd;cases hd
def Inv.funs(I:Inv X J σ H s):s.heap.FunFrames X.base X.outer:=by
 have all:∀(l:List Env),(∀b∈bT l,b∈X.fs)->X.s₀.heap.FunFrames X.base l->s.heap.FunFrames X.base l:=by
  intro l;induction l with
  |nil=>intro _ _;trivial
  |cons env r ih =>
   intro hs hl;obtain⟨hk,⟨L,o,hf,hn,ho,hd⟩,hr⟩:=hl;have hL:=hs L (by unfold bT;rw[Dt,hf];show jP);obtain⟨sl,e⟩:=I.base.slot L o ho (I.ok.frf L hL) hL λz=>I.ok.exfs L z hL
   exists hk,⟨L,_,hf,hn,e,hd⟩,ih (λb hb=>hs b (by unfold bT;rw[Dt,hf];show cX _ hb)) hr
 show all X.outer (λ_ hb=>hb) I.ok.funs
def Inv.stack(I:Inv X J σ H s):s.heap.FunFrames X.base X.stack:=by
 rcases I.ok.stk with e|⟨e,hf⟩
 .rw[e];show I.funs
 .rw[e];obtain⟨m,hn,_⟩:=I.loc;show .cons (by rw[I.ok.kind];decide) hf hn ?_ I.funs;show uH (a9 I.ok.bsz I.ok.above)
def Inv.stkSub(I:Inv X J σ H s):∀b∈bT X.stack,b∈X.env.locals::X.fs:=λb hb=>by
 rcases I.ok.stk with e|⟨e,hf⟩
 .rw[e]at hb;show cX _ hb
 .rw[e]at hb;unfold bT at hb;rw[Dt,hf]at hb;show hb
def Inv.stkFree(I:Inv X J σ H s):∀b∈bT X.stack,H b=none:=λb hb=>by
 rcases aV.mp (I.stkSub b hb)with e|hb
 .rw[e];show I.free
 .obtain⟨_,o,ho,_⟩:=I.ok.funs.mem hb;show I.base.free b o ho (I.ok.frf b hb) λz=>I.ok.exfs b z hb
def Inv.step{g':Array GenState}{t':Nat}{d':Drawn}{ch:List Addr}(I:Inv X J σ H s)
  (jS:∀b∈ch,(b∈X.ex\/X.s₀.heap.objs.size<=b)/\b≠X.env.locals/\(∀x c,X.env.cells.lookup x=some c->c≠b)/\∀p∈X.pn++J,p.1≠b)
  (keep:∀b o,b≠X.env.locals->b∉X.fs->b∉ch->s.heap.get? b=some o->H b=none->h'.get? b=some o)
  (slot:∀b o,b≠X.env.locals->b∈X.fs->b∉ch->s.heap.get? b=some o->H b=none->∃sl,h'.get? b=some {o with slots:=sl}) (free:∀b o,b∉ch->s.heap.get? b=some o->H b=none->O b=none)
  (there:∀b o,b∉ch->s.heap.get? b=some o->∃o',h'.get? b=some o')
  (tups:∀b xs,H b=some (.tup xs)->O b=some (.tup xs)) (frzs:∀b o u,H b=some (.frz o u)->O b=some (.frz o u)) (tbls:∀b ps,H b=some (.tbl ps)->∃more,O b=some (.tbl (ps++more)))
  (ns:∀m,s.heap.Ns X.env.locals m->h'.Ns X.env.locals m) (hok:cz X.prog X.w O h') (hg:AllBare g') :
  Inv X J σ O {s with heap:=h',gens:=g',drawn:=d',toks:=t'}:=by
 have za:∀b o,X.s₀.heap.get? b=some o->b≠X.env.locals:=λb o e=>bR (cP (bh e) I.ok.above)
 have AO:∀b o,X.s₀.heap.get? b=some o->b∉X.ex->b∉ch:=λb o e hx hb=>by
  rcases (jS b hb).1 with z|z
  .exact hx z
  .exact absurd (cP (bh e) z) (nJ _)
 have cellK:∀x c,X.env.cells.lookup x=some c->∀v,s.heap.IsCell c v->h'.IsCell c v:=λx c e v ⟨o,ho,hd⟩=>by
  have xv:c∉ch:=λz=>(jS c z).2.2.1 x c e rfl
  by_cases hc:c∈X.fs
  .obtain⟨sl,q⟩:=slot c o (I.cne x c e) hc xv ho (I.freeC x c e);exists _,q,hd
  .exists o,keep c o (I.cne x c e) hc xv ho (I.freeC x c e),hd
 exists I.ok,I.os,hg,⟨λb o e n hb hx=>?_,λb o e n hb hx=>?_,λb o e n hx=>?_,λb o e hx=>?_,λb xs e=>tups b xs (I.base.tups b xs e),λb o xs e=>frzs b o xs (I.base.frzs b o xs e),λb ps e=>?_⟩,?_,λx c e=>?_,?_,λx c e=>?_,λp hp=>?_,hok,I.len
 .exact keep b o (za b o e) hb (AO b o e hx) (I.base.keep b o e n hb hx) (I.base.free b o e n hx)
 .obtain⟨sl,e1⟩:=I.base.slot b o e n hb hx;obtain⟨yD,e2⟩:=slot b _ (za b o e) hb (AO b o e hx) e1 (I.base.free b o e n hx);exists yD,e2
 .obtain⟨o',e1⟩:=I.base.there b o e hx;show free b o' (AO b o e hx) e1 (I.base.free b o e n hx)
 .obtain⟨o',e1⟩:=I.base.there b o e hx;show there b o' (AO b o e hx) e1
 .obtain⟨m1,e1⟩:=I.base.tbls b ps e;obtain⟨m2,e2⟩:=tbls b _ e1;show⟨m1++m2,by simp_all⟩
 .obtain⟨m,hn,hl⟩:=I.loc;exists m,ns m hn,λi x v e1 e2 e3=>?_;obtain⟨u,r,l⟩:=hl i x v e1 e2 e3;exists u,r,?_;rcases l with l|⟨k,c,e,z⟩
  .exact .inl l
  .exact .inr ⟨k,c,e,cellK x c e _ z⟩
 .obtain⟨v,z⟩:=I.cell x c e;exists v,cellK x c e v z
 .obtain⟨m,⟨o,_,_,ho,_⟩,_⟩:=I.loc;show free _ o (λz=>(jS _ z).2.1 Y) ho I.free
 .obtain⟨v,o,ho,hd⟩:=I.cell x c e;show free c o (λz=>(jS c z).2.2.1 x c e Y) ho (I.freeC x c e)
 .obtain⟨e,n,ne,nf,d⟩:=I.pin p hp;have xv:p.1∉ch:=λz=>(jS p.1 z).2.2.2 p hp rfl
  exists keep p.1 p.2 ne nf xv e n,free p.1 p.2 xv e n,ne,nf,d
def Inv.un{t':Nat}(I:Inv X J σ H s)(u:Un X.fs [] H O s.heap h')(hok:cz X.prog X.w O h'):Inv X J σ O {s with heap:=h',toks:=t'}:=by
 obtain⟨m,⟨o,es,ep,ho,r⟩,_⟩:=id I.loc;obtain⟨sl,hL⟩:=u.any ho I.free tS;show I.step (g':=s.gens) (d':=s.drawn) (ch:=[]) (λ_ z=>nomatch z) (λb o _ hb _ e n=>u.keep b o e n hb tS) (λb o _ hb _ e n=>u.slot b o e n hb tS) (λb o _ e n=>u.free b o e n tS) (λb o _ e=>u.there b o e tS) u.tups u.frzs u.tbls (λm' hm=>by
  obtain⟨o',ES,Gx,gJ,r'⟩:=hm;rw[ho]at gJ;cases gJ;exists _,ES,Gx,hL,r') hok I.bare
def Inv.call{g':Array GenState}{t':Nat}{d':Drawn}{ch:List Addr}(I:Inv X J σ H s)(u:Un (bT X.stack) ch H O s.heap h')(hok:cz X.prog X.w O h')(hg:AllBare g')
  (jS:∀b∈ch,(b∈X.ex\/X.s₀.heap.objs.size<=b)/\b≠X.env.locals/\(∀x c,X.env.cells.lookup x=some c->c≠b)/\∀p∈X.pn++J,p.1≠b) :
  Inv X J σ O {s with heap:=h',gens:=g',drawn:=d',toks:=t'}:=by
 obtain⟨m,⟨o,es,ep,ho,r⟩,_⟩:=id I.loc;obtain⟨sl,hL⟩:=u.any ho I.free λz=>(jS _ z).2.1 rfl
 show I.step (ch:=ch) jS (λb o hL hb hc e n=>u.keep b o e n (λz=>(aV.mp (I.stkSub b z)).elim hL hb) hc) (λb o _ _ hc e n=>u.any e n hc) (λb o hc e n=>u.free b o e n hc) (λb o hc e=>u.there b o e hc) u.tups u.frzs u.tbls (λm' hm=>by
  obtain⟨o',ES,Gx,gJ,r'⟩:=hm;rw[ho]at gJ;cases gJ;exists _,ES,Gx,hL,r') hok hg
def Inv.turned{t':Nat}{it:Addr}(I:Inv X J σ H s)(k:∀b o,b≠it->s.heap.get? b=some o->h'.get? b=some o)(hn:H it=none)(hL:it≠X.env.locals)
  (Z:it∈X.ex\/X.s₀.heap.objs.size<=it) (M:∀x c,X.env.cells.lookup x=some c->c≠it) (h3:∀p∈X.pn++J,p.1≠it):Inv X J σ H {s with heap:=h',toks:=t'}:=by
 have L8:∀b u,H b=some u->b≠it:=λb u e z=>by simp_all
 show I.step (g':=s.gens) (d':=s.drawn) (ch:=[it]) (λb hb=>?_) (λb o _ _ hc e _=>k b o (λz=>hc (by simp[z])) e) (λb o _ _ hc e _=>⟨o.slots,k b o (λz=>hc (by simp[z])) e⟩) (λ_ _ _ _ n=>n)
  (λb o hc e=>⟨o,k b o (λz=>hc (by simp[z])) e⟩) (λ_ _ e=>e) (λ_ _ _ e=>e) (λb ps e=>⟨#[],by rw[e];simp⟩) (λm hm=>?_) (λb u e=>?_) I.bare
 .have e:b=it:=by simpa using hb
  subst e;exists Z,hL,M,h3
 .obtain⟨o,es,ep,ho,r⟩:=hm;exists o,es,ep,k _ o (Ne.symm hL) ho,r
 .refine (I.hok b u e).stay (λc v hc q=>k c v ?_ q) (λ_ q=>q) λ_ _ q=>q
  rcases hc with z|z
  .rw[z];show L8 b u e
  .exact L8 c _ z
def Inv.tok(I:Inv X J σ H s)(t:Nat):Inv X J σ H {s with toks:=t}:=I.un (h':=s.heap) (t':=t) Un.refl I.hok
def Inv.kept(I:Inv X J σ H s)(k:∀b u,s.heap.get? b=some u->h'.get? b=some u):Inv X J σ H {s with heap:=h',toks:=t'}:=I.un (Un.kept k) (I.hok.kept k)
def Inv.laid(I:Inv X J σ H s)(k:∀b u,s.heap.get? b=some u->h'.get? b=some u)(hp:s.heap.objs.size<=a)(new:cI X.prog X.w (upd H a o) h' a o) :
  Inv X J σ (upd H a o) {s with heap:=h',toks:=t'}:=I.un (Un.laid k hp (I.hok.fresh hp)) (I.hok.laid k hp new)
def Inv.write(I:Inv X J σ H s)(mu:vT (H x))(he:e=x\/H e=some (.own x))(k:∀b u,b≠e->s.heap.get? b=some u->h'.get? b=some u)(ud:∃u,h'.get? e=some u)
  (new:cI X.prog X.w (upd H x o) h' x o):Inv X J σ (upd H x o) {s with heap:=h',toks:=t'}:=I.un (Un.write mu he k ud) (I.hok.write mu he k ud new)
def Inv.pins_of(I:Inv X J σ H s)(h:∀p∈pins',s.heap.get? p.1=some p.2/\H p.1=none/\p.1≠X.env.locals/\p.1∉X.fs/\∀v,p.2.data≠.cell v):Inv X pins' σ H s :=
 ⟨I.ok,I.os,I.bare,I.base,I.loc,I.cell,I.free,I.freeC,λp hp=>(bC.mp hp).elim (λz=>I.pin p (qr _ z)) (h p),I.hok,I.len⟩
def Ij{N:List Str}(hN:N.Nodup){i j:Nat}{x:Str}(a:N[i]?=some x)(b:N[j]?=some x):i=j:=by
 obtain⟨Z,e1⟩:=cq.mp a;obtain⟨M,e2⟩:=cq.mp b;show (List.getElem_inj hN).mp (e1.trans e2.symm)
def zcs{qad:Model}{A:Around}{E:Value->Shared->Prop}{i:Nat}{x:Str}{v:V}{u:Value}{Q:Unit->Shared->Prop}(I:Inv X J σ H s)(hN:X.N.Nodup)(hi:X.N[i]?=some x)(hx:oY X.env.scope x)(r:RelV v u)
  (h:∀s',Inv X J (σ.set i (some v)) H s'->(∃a,Heap.SameBut a s.heap s'.heap/\(a=X.env.locals\/X.env.cells.lookup x=some a))->Q () s') (hf:autoParam (X.fn x=true\/X.env.scope.names.lookup x=some .local) tF._auto_1):wpAny qad A (storeName X.env x u) Q E s:=by
 obtain⟨m,hn,hl⟩:=id I.loc;have hcls:(X.env.scope.kind == .class || (X.env.scope.kind == .module&&X.env.locals != X.env.globals))=false:=by rw[I.ok.kind];rfl
 have hiσ:i<σ.length:=by rw[I.len];show (cq.mp hi).1
 have cne:=I.cne;have tracked:∀{a:Addr}{h':Heap},(∃o,s.heap.get? a=some o/\H a=none)->Heap.SameBut a s.heap h'->cz X.prog X.w H h':=fun {a h'} ha hs b ob e=>by
  obtain⟨_,_,si⟩:=ha;show (I.hok b ob e).stay (λc w' hc q=>(hs.2 c ?_).trans q) (λ_ q=>q) λ_ _ q=>q
  rintro rfl;rcases hc with rfl|hc
  .rw[si]at e;cases e
  .rw[si]at hc;cases hc
 rcases hx with hk|hk
 .refine wpAny_storeName_local hk hn (λh' sW hs=>?_) hcls;obtain⟨oL,_,_,iV,_⟩:=id hn;show h _ ⟨I.ok,I.os,I.bare,⟨λb o e n hb hx=>?_,λb o e n hb hx=>?_,I.base.free,λb o e hx=>?_,I.base.tups,I.base.frzs,I.base.tbls⟩,⟨_,sW,λj y v' e1 e2 e3=>?_⟩,λy c e=>?_,I.free,I.freeC,λp hp=>?_,tracked ⟨oL,iV,I.free⟩ hs,by simpa using I.len⟩ ⟨_,hs,.inl Y⟩
  .exact (hs.2 b (bR (cP (bh e) I.ok.above))).trans (I.base.keep b o e n hb hx)
  .obtain⟨sl,e1⟩:=I.base.slot b o e n hb hx;exists sl,(hs.2 b (bR (cP (bh e) I.ok.above))).trans e1
  .obtain⟨o',e1⟩:=I.base.there b o e hx;exists o',(hs.2 b (bR (cP (bh e) I.ok.above))).trans e1
  .by_cases hj:j=i
   .subst hj;rw[hi]at e1;cases e1;rw[xa hiσ]at e2;cases e2;exists u,r,.inl ⟨hk,tS⟩
   .rw[JO (Ne.symm hj)]at e2;obtain⟨u',r',q⟩:=hl j y v' e1 e2 e3;exists u',r',?_;rcases q with ⟨k,e⟩|⟨k,c,e,z⟩
    .refine .inl ⟨k,?_⟩
     have:y≠x:=λe=>hj (Ij hN e1 (e ▸ hi))
     simp[this,e]
    .exact .inr ⟨k,c,e,z.sameBut hs (cne y c e)⟩
  .obtain⟨w',z⟩:=I.cell y c e;exists w',z.sameBut hs (cne y c e)
  .obtain⟨e,n,ne,nf,d⟩:=I.pin p hp;exists (hs.2 p.1 ne).trans e,n,ne,nf,d
 .have ve:X.fn x=true:=by simp_all
  obtain⟨c,hc⟩:=I.ok.has x (.inl hk);obtain⟨w',z⟩:=I.cell x c hc;show wpAny_storeName_cell I.ok.kind hk hc z (λh' oE hs=>?_);obtain⟨oc,zG,Yw⟩:=id z;show h {s with heap:=h'} ⟨I.ok,I.os,I.bare,⟨λb o e n hb hx=>?_,λb o e n hb hx=>?_,I.base.free,λb o e hx=>?_,I.base.tups,I.base.frzs,I.base.tbls⟩,⟨m,hn.sameBut hs (Ne.symm (cne x c hc)),λj y v' e1 e2 e3=>?_⟩,λy c' e=>?_,I.free,I.freeC,λp hp=>?_,tracked ⟨oc,zG,I.freeC x c hc⟩ hs,by simpa using I.len⟩ ⟨c,hs,.inr hc⟩
  .exact (hs.2 b (bR (cP (bh e) (I.ok.cab x c ve hc)))).trans (I.base.keep b o e n hb hx)
  .obtain⟨sl,e1⟩:=I.base.slot b o e n hb hx;exists sl,(hs.2 b (bR (cP (bh e) (I.ok.cab x c ve hc)))).trans e1
  .obtain⟨o',e1⟩:=I.base.there b o e hx;exists o',(hs.2 b (bR (cP (bh e) (I.ok.cab x c ve hc)))).trans e1
  .by_cases hj:j=i
   .subst hj;rw[hi]at e1;cases e1;rw[xa hiσ]at e2;cases e2;exists u,r,.inr ⟨.inl hk,c,hc,oE⟩
   .rw[JO (Ne.symm hj)]at e2;obtain⟨u',r',q⟩:=hl j y v' e1 e2 e3;exists u',r',?_;rcases q with q|⟨k,c',e,z'⟩
    .exact .inl q
    .refine .inr ⟨k,c',e,z'.sameBut hs ?_⟩;rintro rfl;show hj (Ij hN e1 (I.ok.inj _ _ _ e hc ▸ hi))
  .by_cases j4:c'=c
   .subst j4;exists _,oE
   .obtain⟨w2,z2⟩:=I.cell y c' e;exists w2,z2.sameBut hs j4
  .obtain⟨e,n,ne,nf,d⟩:=I.pin p hp;exists (hs.2 p.1 ?_).trans e,n,ne,nf,d;intro q;rw[q,zG]at e;have q':=di e;show d w' (by rw[<-q'];show Yw)
def wj(I:Inv X J σ H s)(hN:X.N.Nodup)(hi:X.N[i]?=some x)(hx:oY X.env.scope x)(r:RelV v u)
  (h:∀s',Inv X J (σ.set i (some v)) H s'->Q () s') (hf:autoParam (X.fn x=true\/X.env.scope.names.lookup x=some .local) tF._auto_1):wpAny qad A (storeName X.env x u) Q E s :=
 zcs I hN hi hx r (λs' I' _=>h s' I') hf
def Inv.call'(I:Inv X J σ H s)(ho:s'.os=s.os)(u:Un (bT X.stack) ch H O s.heap s'.heap)(hok:cz X.prog X.w O s'.heap)(hg:AllBare s'.gens)
  (jS:∀b∈ch,(b∈X.ex\/X.s₀.heap.objs.size<=b)/\b≠X.env.locals/\(∀x c,X.env.cells.lookup x=some c->c≠b)/\∀p∈X.pn++J,p.1≠b):Inv X J σ O s':=by
 obtain⟨h',g',d',t',o'⟩:=s';have e:=ho;subst e;show I.call (g':=g') (t':=t') (d':=d') u hok hg jS
end
abbrev XK:=Value->Option Addr->Hp->Prop
abbrev St:=List (Option V)
abbrev VK:=V->Hp->Prop
abbrev TE:=St->Hp->VK->Prop
abbrev TT:=St->Hp->(Bool->Hp->Prop)->Prop
abbrev TA:=St->Hp->(List V->Hp->Prop)->Prop
structure je where
 nx:St->Hp->Prop
 rt:VK
 bk:St->Hp->Prop:=λ_ _=>False
 ct:St->Hp->Prop:=λ_ _=>False
abbrev TS:=je->St->Hp->Prop
def EP(X:Cx)(J:List (Addr×Obj))(σ:St)(Q:VK)(u:Value)(s':Shared):Prop:=∃v O,Inv X J σ O s'/\RelV v u/\Q v O
def TP(X:Cx)(J:List (Addr×Obj))(σ:St)(Q:Bool->Hp->Prop)(b:Bool)(s':Shared):Prop:=∃O,Inv X J σ O s'/\Q b O
def AP(X:Cx)(J:List (Addr×Obj))(σ:St)(Q:List V->Hp->Prop)(us:List Value)(s':Shared):Prop:=∃vs O,Inv X J σ O s'/\Vals vs us/\Q vs O
set_option tactic.hygienic true in
def SP(X:Cx)(J:List (Addr×Obj))(D:je)(f:Flow)(s':Shared):Prop :=
 match f with
 |.next=>∃σ' O,Inv X J σ' O s'/\D.nx σ' O
 |.brk=>∃σ' O,Inv X J σ' O s'/\D.bk σ' O
 |.cont=>∃σ' O,Inv X J σ' O s'/\D.ct σ' O
 |.ret u=>∃v σ' O,Inv X J σ' O s'/\RelV v u/\D.rt v O
def PE(X:Cx)(e:Expr)(t:TE):Prop :=
 ∀(J:List (Addr×Obj)) (s:Shared) (σ:St) (H:Hp) (Q:VK),Inv X J σ H s->t σ H Q->wpAny (model X.prog X.w) X.A (eval e X.env) (EP X J σ Q) X.xe s
def PT(X:Cx)(e:Expr)(t:TT):Prop :=
 ∀(J:List (Addr×Obj)) (s:Shared) (σ:St) (H:Hp) (Q:Bool->Hp->Prop),Inv X J σ H s->t σ H Q->wpAny (model X.prog X.w) X.A (isTrue e X.env (eval e X.env)) (TP X J σ Q) X.xe s
def PW(X:Cx)(e:Expr)(t:TT):Prop :=
 ∀(whole:Sem Value) (J:List (Addr×Obj)) (s:Shared) (σ:St) (H:Hp) (Q:Bool->Hp->Prop),Inv X J σ H s->t σ H Q->wpAny (model X.prog X.w) X.A (isTrue e X.env whole) (TP X J σ Q) X.xe s
def PW.pt(h:PW X e t):PT X e t:=h _
def PA(X:Cx)(es:List Expr)(t:TA):Prop :=
 ∀(pos:Pos) (J:List (Addr×Obj)) (s:Shared) (σ:St) (H:Hp) (Q:List V->Hp->Prop),Inv X J σ H s->t σ H Q->wpAny (model X.prog X.w) X.A (spliced (backTo pos (starEach es X.env))) (AP X J σ Q) X.xe s
def PS(X:Cx)(st:Stmt)(t:TS):Prop :=
 ∀(J:List (Addr×Obj)) (s:Shared) (σ:St) (H:Hp) (D:je),Inv X J σ H s->t D σ H->wpAny (model X.prog X.w) X.A (exec st X.env) (SP X J D) X.xe s
def dg(X:Cx)(st:List Stmt)(t:TS):Prop :=
 ∀(J:List (Addr×Obj)) (s:Shared) (σ:St) (H:Hp) (D:je),Inv X J σ H s->t D σ H->wpAny (model X.prog X.w) X.A (execs st X.env) (SP X J D) X.xe s
def ax(h:wpAny qad A t Q E s)(hQ:∀a s,Q a s->Q' a s):wpAny qad A t Q' E s:=cC h hQ λ_ _ x=>x
section
variable{X:Cx}
def iH(i:Nat):TE:=λσ H Q=>∃v,σ[i]?=some (some v)/\Q v H
def tC(v:V):TE:=λ_ H Q=>Q v H
def VR(hN:X.N[i]?=some x)(hv:zL X.env.scope x)(hd:autoParam ((x == ("__debug__" : Str))=false) tD._auto_1)(jl:autoParam ((x == ("__classdict__" : Str))=false) tD._auto_1):PE X (.Name x pos) (iH i):=by
 intro J s σ H Q I h;obtain⟨v,e,h⟩:=h;obtain⟨m,hn,hl⟩:=I.loc;obtain⟨u,r,l⟩:=hl i x v hN e hv;have fin:EP X J σ Q u s:=⟨v,H,I,r,h⟩;rcases l with ⟨hk,hm⟩|⟨hk,c,hc,j3⟩
 .exact wpAny_Name (wpAny_loadName_local I.ok.kind hk hn hm fin) hd
 .rcases hk with hk|hk
  .exact wpAny_Name (wpAny_loadName_cell I.ok.kind hk hc j3 fin) hd
  .exact wpAny_Name (wpAny_loadName_free I.ok.kind hk hc j3 fin jl) hd
def eY{i j pos}:PE X (.Constant (.int i) j pos) (tC (.int i)):=λ_ _ _ H _ I h=>HP ⟨.int i,H,I.tok _,⟨_,Y⟩,h⟩
def yQ{b j pos}:PE X (.Constant (.bool b) j pos) (tC (.bl b)):=λ_ _ _ H _ I h=>Constant_bool ⟨.bl b,H,I,Y,h⟩
def T9{j pos}:PE X (.Constant .none j pos) (tC .non):=λ_ _ _ H _ I h=>Constant_none ⟨.non,H,I,Y,h⟩
def gZ{x j pos}:PE X (.Constant (.str x) j pos) (tC (.str x)):=λ_ _ _ H _ I h=>Calls.Constant_str ⟨.str x,H,I.tok _,⟨_,Y⟩,h⟩
def Gl(X:Cx)(x:Str):Prop:=X.env.kindOf x=some .globalImplicit
def uA(I:Inv X J σ H s)(hg:Gl X x)(hm:X.mg x=some u)(h:Q u s)
  (hd:autoParam ((x == ("__debug__" : Str))=false) tD._auto_1):wpAny (model X.prog X.w) X.A (eval (.Name x pos) X.env) Q E s :=
 Nn I.ok.kind hg (Calls.loadGlobal_global (by rw[I.ok.glob];show I.mod.glob.keeps I.bk) hm h) hd
def nq(I:Inv X J σ H s)(hg:Gl X x)(hm:X.mg x=none)(hv:bootBuiltins x=some u)(h:Q u s)
  (hn:autoParam (x ≠ "__name__") tD._auto_1) (hd:autoParam ((x == ("__debug__" : Str))=false) tD._auto_1):wpAny (model X.prog X.w) X.A (eval (.Name x pos) X.env) Q E s:=by
 obtain⟨mb,Z,M⟩:=I.mod.blt;show Nn I.ok.kind hg (Calls.loadGlobal_builtin (by rw[I.ok.glob];show I.mod.glob.keeps I.bk) hm (by rw[I.ok.blt];show Z.keeps I.bk) ((M x hn).trans hv) h) hd
def eK(hg:Gl X x)(hm:X.mg x=some u)(r:RelV v u)(hd:autoParam ((x == ("__debug__" : Str))=false) tD._auto_1):PE X (.Name x pos) (tC v) :=
 λ_ _ _ H _ I h=>uA I hg hm ⟨v,H,I,r,h⟩ hd
def zdo(hg:Gl X x)(hm:X.mg x=none)(hv:bootBuiltins x=some u)(r:RelV v u)(hn:autoParam (x ≠ "__name__") tD._auto_1)(hd:autoParam ((x == ("__debug__" : Str))=false) tD._auto_1):PE X (.Name x pos) (tC v) :=
 λ_ _ _ H _ I h=>nq I hg hm hv ⟨v,H,I,r,h⟩ hn hd
variable{a b:Expr}{ta tb:TE}{pos:Pos}
def PC(X:Cx)(op:CmpOp)(a b:Expr)(t:TE):Prop :=
 ∀(J:List (Addr×Obj)) (s:Shared) (σ:St) (H:Hp) (Q:VK),Inv X J σ H s->t σ H Q ->
  wpAny (model X.prog X.w) X.A (eval a X.env) (λv s₁=>wpAny (model X.prog X.w) X.A (eval b X.env) (λu s₂=>wpAny (model X.prog X.w) X.A (compareOp op v u) (EP X J σ Q) X.xe s₂) X.xe s₁) X.xe s
def tB(t:TE):TT:=λσ H Q=>t σ H λx H1=>∃c,x=.bl c/\Q c H1
def QJ(h:PC X op a b t)(Z:behindInMarks op b=false:=by first|show nobehind _ tD tD|rfl):PT X (.Compare a [op] [b] pos) (tB t):=by
 intro J s σ H Q I hw;show CC (ax (h J s σ H _ I hw) λv s1 Z=>ax Z λu s2 M=>ax M ?_) Z;rintro c s3 ⟨x,H1,I1,r1,q1⟩;obtain⟨d,rfl,q⟩:=q1;cases r1;show mH ⟨H1,I1,q⟩
def lR(h:PE X e t)(he:autoParam (∀whole,isTrue e X.env whole=(do let v <-whole;standAt e.pos;holding [v] (truthy v))) tI._auto_1):PT X e (tB t):=by
 intro J s σ H Q I hw;show isTrue_plain (ax (h J s σ H _ I hw) ?_) (he _);rintro v s1 ⟨x,H1,I1,r1,q1⟩;obtain⟨d,rfl,q⟩:=q1;cases r1;show mH ⟨H1,I1,q⟩
variable{tA Dl:TT}{rest:List Expr}
def Z3(t u:TT):TT:=λσ H Q=>t σ H λc H1=>if c=true then u σ H1 Q else Q false H1
def tOr(t u:TT):TT:=λσ H Q=>t σ H λc H1=>if c=true then Q true H1 else u σ H1 Q
def zcj(t:TT):TT:=λσ H Q=>t σ H λc H1=>Q (!c) H1
def zc2(ha:PT X a tA):PW X (.BoolOp .And [a] pos) tA:=by
 intro wh J s σ H Q I h;show isTrue_and (ax (ha J s σ H Q I h) λc s1 e=>?_);cases c with
 |true=>show isTrue_and_nil e
 |false=>show e
def Ho(ha:PT X a tA):PW X (.BoolOp .Or [a] pos) tA:=by
 intro wh J s σ H Q I h;show isTrue_or (ax (ha J s σ H Q I h) λc s1 e=>?_);cases c with
 |false=>show isTrue_or_nil e
 |true=>show e
def zf4(ha:PT X a tA)(hb:PW X (.BoolOp .And (b::rest) pos) Dl):PW X (.BoolOp .And (a::b::rest) pos) (Z3 tA Dl):=by
 intro wh J s σ H Q I h;show isTrue_and (ax (ha J s σ H _ I h) ?_);rintro c s1 ⟨H1,I1,q1⟩;cases c with
 |true=>show hb wh J s1 σ H1 Q I1 q1
 |false=>exists H1,I1,q1
def JU(ha:PT X a tA)(hb:PW X (.BoolOp .Or (b::rest) pos) Dl):PW X (.BoolOp .Or (a::b::rest) pos) (tOr tA Dl):=by
 intro wh J s σ H Q I h;show isTrue_or (ax (ha J s σ H _ I h) ?_);rintro c s1 ⟨H1,I1,q1⟩;cases c with
 |true=>exists H1,I1,q1
 |false=>show hb wh J s1 σ H1 Q I1 q1
def KN(ha:PT X a tA):PT X (.UnaryOp .Not a pos) (zcj tA):=by
 intro J s σ H Q I h;show isTrue_not (ha J s σ H (λc H1=>Q (!c) H1) I h)
def zgB(ta tb:TE):TE:=λσ H Q=>ta σ H λx H1=>∃c,x=.bl c/\if c=true then tb σ H1 Q else Q (.bl false) H1
def Hz{op}(h:PE X a t):PE X (.BoolOp op [a] pos) t:=λJ s σ H Q I hw=>BoolOp_one (h J s σ H Q I hw)
def Af(ha:PE X a ta)(hb:PE X (.BoolOp .And (b::rest) pos) tb):PE X (.BoolOp .And (a::b::rest) pos) (zgB ta tb):=by
 intro J s σ H Q I h;show BoolOp_and (ax (ha J s σ H _ I h) ?_);rintro v s1 ⟨x,H1,I1,r1,q1⟩;obtain⟨c,rfl,q1⟩:=q1;cases r1;show mH ?_;cases c with
 |true=>show hb J s1 σ H1 Q I1 q1
 |false=>exists .bl false,H1,I1,Y,q1
def tIf(t:TT)(ta tb:TE):TE:=λσ H Q=>t σ H λc H1=>if c=true then ta σ H1 Q else tb σ H1 Q
def C9(hc:PT X c tA)(ha:PE X a ta)(hb:PE X b tb):PE X (.IfExp c a b pos) (tIf tA ta tb):=by
 intro J s σ H Q I h;show wpAny_IfExp (ax (hc J s σ H _ I h) ?_);rintro d s1 ⟨H1,I1,q1⟩;cases d with
 |true=>show ha J s1 σ H1 Q I1 q1
 |false=>show hb J s1 σ H1 Q I1 q1
end
def ai(K:Frag)(H:Hp)(a:Addr)(xs:List V):Prop :=
 Rd H a (.lst xs) \/
  ∃(o:Obj) (ae:Array Value) (n:Nat),K.lookup a=some o/\o.cls=.type "list" /\ o.dict=none/\o.data=.seq ae n/\ae.size<=sizeLine/\Vals xs ae.toList
def aD(K:Frag)(H:Hp)(a:Addr)(xs:List V):Prop :=
 Rd H a (.tup xs) \/
  ∃(o:Obj) (ae:Array Value) (n:Nat),K.lookup a=some o/\o.cls=.type "tuple" /\ o.data=.seq ae n/\ae.size<=sizeLine/\Vals xs ae.toList
noncomputable def zg8:Value->Option V
 |.none=>some .non
 |.bool b=>some (.bl b)
 |.int i _=>some (.int i)
 |.str x _=>some (.str x)
 |.bytes b _=>some (.byt b)
 |.float b _=>some (.flt b)
 |.ref a=>some (.ref a)
 |.type n=>some (.ty n)
 |_=>none
def RelV.abs(r:RelV x u):zg8 u=some x:=by
 cases x with
 |non=>cases r;rfl
 |bl _=>cases r;rfl
 |int _=>obtain⟨t,rfl⟩:=r;rfl
 |str _=>obtain⟨t,rfl⟩:=r;rfl
 |byt _=>obtain⟨t,rfl⟩:=r;rfl
 |flt _=>obtain⟨t,rfl⟩:=r;rfl
 |ref _=>cases r;rfl
 |ty _=>cases r;rfl
def RelV.inj(r:RelV x u)(q:RelV y u):x=y:=di (r.abs.symm.trans q.abs)
def Vals.inj(h:Vals xs us)(h':Vals ys us):xs=ys:=by
 induction h generalizing ys with
 |nil=>cases h';rfl
 |cons r t ih=>cases h' with|cons r' t'=>rw[r.inj r',ih t']
section
variable{X:Cx}{J:List (Addr×Obj)}{σ:St}{H:Hp}{s:Shared}{a:Addr}{xs ys:List V}
def ai.of{K:Frag}(h:H a=some (.lst xs)):ai K H a xs:=.inl (.inl h)
def aD.of{K:Frag}(h:H a=some (.tup xs)):aD K H a xs:=.inl (.inl h)
def Inv.list(I:Inv X J σ H s)(h:ai X.K H a xs):∃ae:List Value,Vals xs ae/\PlainL s.heap a ae.toArray/\xs.length<=sizeLine:=by
 rcases h with h|⟨o,ae,n,hk,hc,hd,hs,hz,r⟩
 .obtain⟨z,ae,n,r,e⟩:=h.ok I.hok;exists ae,r,⟨_,n,e,Y,Y,Y⟩,z
 .exists ae.toList,r,⟨o,n,I.kIn a o hk,hc,hd,by simpa using hs⟩,?_;have e:=r.length;simp only[gy]at e;lia
def Inv.tuple(I:Inv X J σ H s)(h:aD X.K H a xs):∃ae:List Value,Vals xs ae/\IsTup s.heap a ae.toArray/\xs.length<=sizeLine:=by
 rcases h with h|⟨o,ae,n,hk,hc,hs,hz,r⟩
 .obtain⟨z,ae,r,p⟩:=h.ok I.hok;exists ae,r,p,z
 .exists ae.toList,r,⟨o,I.kIn a o hk,hc,n,by simpa using hs⟩,?_;have e:=r.length;simp only[gy]at e;lia
def Inv.list_inj(I:Inv X J σ H s)(h:ai X.K H a xs)(h':ai X.K H a ys):xs=ys:=by
 obtain⟨ae,r,⟨o,n,e,_,_,d⟩,_⟩:=I.list h;obtain⟨its',r',⟨o',n',e',_,_,d'⟩,_⟩:=I.list h';rw[e]at e';cases e';rw[d]at d';injection d' with d1 _
 have:ae=its':=by simp_all
 subst this;show r.inj r'
def Inv.tuple_inj(I:Inv X J σ H s)(h:aD X.K H a xs)(h':aD X.K H a ys):xs=ys:=by
 obtain⟨ae,r,⟨o,e,_,n,d⟩,_⟩:=I.tuple h;obtain⟨its',r',⟨o',e',_,n',d'⟩,_⟩:=I.tuple h';rw[e]at e';cases e';rw[d]at d';injection d' with d1 _
 have:ae=its':=by simp_all
 subst this;show r.inj r'
end
noncomputable abbrev Cx.wish(X:Cx)(E:Value->Shared->Prop):Cx:={X with xe:=E}
abbrev Cx.nox(X:Cx):Cx:=X.wish λ_ _=>False
def Cx.Ok.wish{X:Cx}(ok:X.Ok)(E:Value->Shared->Prop):(X.wish E).Ok :=
 ⟨ok.mod,ok.kind,ok.glob,ok.blt,ok.above,ok.inj,ok.has,ok.cab,ok.hd,ok.frames,ok.stk,ok.exf,ok.bs,ok.bsz,ok.noex,ok.exfs,ok.funs,ok.frf⟩
def Cx.Ok.unwish{X:Cx}{E:Value->Shared->Prop}(ok:(X.wish E).Ok):X.Ok :=
 ⟨ok.mod,ok.kind,ok.glob,ok.blt,ok.above,ok.inj,ok.has,ok.cab,ok.hd,ok.frames,ok.stk,ok.exf,ok.bs,ok.bsz,ok.noex,ok.exfs,ok.funs,ok.frf⟩
section
variable{X:Cx}{J:List (Addr×Obj)}{σ:St}{H:Hp}{s:Shared}{E:Value->Shared->Prop}
def Inv.wish(I:Inv X J σ H s)(E:Value->Shared->Prop):Inv (X.wish E) J σ H s:=⟨I.ok.wish E,I.os,I.bare,I.base,I.loc,I.cell,I.free,I.freeC,I.pin,I.hok,I.len⟩
def Inv.unwish(I:Inv (X.wish E) J σ H s):Inv X J σ H s:=⟨I.ok.unwish,I.os,I.bare,I.base,I.loc,I.cell,I.free,I.freeC,I.pin,I.hok,I.len⟩
set_option tactic.hygienic true in
def SP.unwish(h:SP (X.wish E) J D f s'):SP X J D f s':=by
 cases f with
 |next=>obtain⟨σ',O,I,q⟩:=h;exists σ',O,I.unwish,q
 |brk=>obtain⟨σ',O,I,q⟩:=h;exists σ',O,I.unwish,q
 |cont=>obtain⟨σ',O,I,q⟩:=h;exists σ',O,I.unwish,q
 |ret u=>obtain⟨v,σ',O,I,r,q⟩:=h;exists v,σ',O,I.unwish,r,q
def PT.nox(h:PT X.nox e t):PT X e t:=λJ s σ H Q I hw =>
 cC (h J s σ H Q (I.wish _) hw) (by rintro _ _ ⟨O,I',q⟩;exists O,I'.unwish,q) λ_ _ z=>False.elim z
def dg.nox{st:List Stmt}{t:TS}(h:dg X.nox st t):dg X st t:=λJ s σ H D I hw =>
 cC (h J s σ H D (I.wish _) hw) (λ_ _ q=>q.unwish) λ_ _ z=>False.elim z
end
section
variable{X:Cx}{st:Stmt}{rest:List Stmt}{t u:TS}{e:Expr}{te:TE}{pos:Pos}
def WO:TS:=λD σ H=>D.nx σ H
def aE(t u:TS):TS:=λD σ H=>t {D with nx:=u D} σ H
def yA:dg X [] WO:=λ_ _ σ H _ I h=>uf ⟨σ,H,I,h⟩
set_option tactic.hygienic true in
def aO(Z:PS X st t)(M:dg X rest u):dg X (st::rest) (aE t u):=by
 intro J s σ H D I h;show vt (ax (Z J s σ H {D with nx:=u D} I h) λf s1 q=>?_);cases f with
 |next =>
  obtain⟨σ',O,I',q⟩:=q;show M J s1 σ' O D I' q
 |ret v=>show q
 |brk=>show q
 |cont=>show q
set_option tactic.hygienic true in
def bQ(Z:PS X st t):dg X [st] t:=by
 intro J s σ H D I h;show vt (ax (Z J s σ H D I h) λf s1 q=>?_);cases f with
 |next=>show uf q
 |ret v=>show q
 |brk=>show q
 |cont=>show q
def Inv.quiet(I:Inv X J σ H s):interactive X.env=false:=by simp[interactive,I.ok.kind]
def WU(te:TE):TS:=λD σ H=>te σ H λ_ H1=>D.nx σ H1
def XG(he:PE X e te)(hs:autoParam (swapsWith e none pos.line X.env=pure false) tR._auto_1):PS X (.Expr e pos) (WU te):=by
 intro J s σ H D I h;show wpAny_Expr_any (ax (he J s σ H _ I h) (by rintro v s1 ⟨x,H1,I1,r1,q1⟩;exists σ,H1,I1,q1)) I.quiet hs
def KH(te:TE):TS:=λD σ H=>te σ H D.rt
def sD(he:PE X e te):PS X (.Return (some e) pos) (KH te):=by
 intro J s σ H D I h;show wpAny_Return_some (ax (he J s σ H _ I h) (by rintro v s1 ⟨x,H1,I1,r1,q1⟩;exists x,σ,H1,I1,r1,q1))
def UB(c:TT)(t u:TS):TS:=λD σ H=>c σ H λb H1=>if b=true then t D σ H1 else u D σ H1
def bD(hc:PT X c tc)(ha:dg X a t)(hb:dg X b u):PS X (.If c a b pos) (UB tc t u):=by
 intro J s σ H D I h;show wpAny_If (ax (hc J s σ H _ I h) ?_);rintro d s1 ⟨H1,I1,q1⟩;cases d with
 |true=>show ha J s1 σ H1 D I1 q1
 |false=>show hb J s1 σ H1 D I1 q1
end
abbrev TG:=V->St->Hp->(St->Hp->Prop)->Prop
abbrev oG:=List V->St->Hp->(St->Hp->Prop)->Prop
def PG(X:Cx)(target:Expr)(t:TG):Prop :=
 ∀(J:List (Addr×Obj)) (s:Shared) (σ:St) (H:Hp) (v:V) (u:Value) (Q:St->Hp->Prop),Inv X J σ H s->RelV v u->t v σ H Q ->
  wpAny (model X.prog X.w) X.A (assign target X.env u) (λ_ s'=>∃σ' O,Inv X J σ' O s'/\Q σ' O) X.xe s
def lI(X:Cx)(ts:List Expr)(t:oG):Prop :=
 ∀(J:List (Addr×Obj)) (s:Shared) (σ:St) (H:Hp) (vs:List V) (us:List Value) (Q:St->Hp->Prop),Inv X J σ H s->Vals vs us->t vs σ H Q ->
  wpAny (model X.prog X.w) X.A (assignInOrder ((assignEach ts X.env).map (·.2)) us) (λ_ s'=>∃σ' O,Inv X J σ' O s'/\Q σ' O) X.xe s
abbrev LB:=V->V->V->Hp->(Hp->Prop)->Prop
def Vx(X:Cx)(t:LB):Prop :=
 ∀(J:List (Addr×Obj)) (s:Shared) (σ:St) (H:Hp) (o i v:V) (ov iv u:Value) (Q:Hp->Prop),Inv X J σ H s->RelV o ov->RelV i iv->RelV v u->t o i v H Q ->
  wpAny (model X.prog X.w) X.A (setItem ov iv u) (λ_ s'=>∃O,Inv X J σ O s'/\Q O) X.xe s
section
variable{X:Cx}{pos:Pos}
def aQ(i:Nat):TG:=λv σ H Q=>Q (σ.set i (some v)) H
def Ka(hN:X.N.Nodup)(hi:X.N[i]?=some x)(hx:oY X.env.scope x)(hf:autoParam (X.fn x=true\/X.env.scope.names.lookup x=some .local) tF._auto_1):PG X (.Name x pos) (aQ i):=by
 intro J s σ H v u Q I r h;show wpAny_assign_Name (wj I hN hi hx r (λs' I'=>⟨_,H,I',h⟩) hf)
def gc:oG:=λvs σ H Q=>vs=[]/\Q σ H
def bW(t:TG)(u:oG):oG:=λvs σ H Q=>∃v r,vs=v::r/\t v σ H λσ' O=>u r σ' O Q
def uT:lI X [] gc:=by
 intro J s σ H vs us Q I r h;obtain⟨e,h⟩:=h;subst e;cases r;show assignInOrder_nil ⟨σ,H,I,h⟩
def rf(Z:PG X e t)(M:lI X es u)
  (hs:autoParam ((assignEach (e::es) X.env).map (·.2)=assign e X.env::(assignEach es X.env).map (·.2)) tR._auto_1):lI X (e::es) (bW t u):=by
 intro J s σ H vs us Q I r h;obtain⟨v,vr,e1,h⟩:=h;subst e1;cases r with
 |cons r rr =>
  rw[hs];show assignInOrder_cons (ax (Z J s σ H _ _ _ I r h) ?_);rintro _ s1 ⟨σ1,H1,I1,q1⟩;show M J s1 σ1 H1 _ _ Q I1 rr q1
def gd(K:Frag)(n:Nat)(t:oG):TG:=λv σ H Q=>∃a xs,v=.ref a/\aD K H a xs/\xs.length=n/\t xs σ H Q
def tu(hc:X.calm=true)(h:lI X es t)
  (hn:autoParam ((assignEach es X.env).length=n) tR._auto_1) (bp:autoParam ((assignEach es X.env).findIdx? (·.1)=none) tR._auto_1):PG X (.Tuple es k pos) (gd X.K n t):=by
 intro J s σ H v u Q I r hw;obtain⟨a,xs,e1,hq,hl,hw⟩:=hw;subst e1;cases r;obtain⟨ae,rv,ht,hz⟩:=I.tuple hq;show assign_Tuple_tuple (I.ok.hd hc) ht (by simp[hn,<-hl,rv.length]) bp λh' hx=>?_
 have I1:=I.kept (t':=s.toks) λb o e=>hx b o (bR (bh e)) e
 show h J _ σ H xs _ Q I1 (by simpa using rv) hw
def ze5(to ti:TE)(t:LB):TG:=λv σ H Q=>to σ H λo H1=>ti σ H1 λi H2=>t o i v H2 λH3=>Q σ H3
def V9(ho:PE X o to)(hi:PE X i ti)(hs:Vx X t)
  (ha:autoParam (∀ v,assign (.Subscript o i pos) X.env v=(do
   let ov <-holding [v] (eval o X.env)
   let iv <-holding [v,ov] (eval i X.env)
   standAt pos
   holding [v,ov,iv] (setItem ov iv v)
   release [v,ov,iv] [])) tI._auto_1):PG X (.Subscript o i pos) (ze5 to ti t):=by
 intro J s σ H v u Q I r h;rw[ha];show aq (kI (ax (ho J s σ H _ I h) ?_));rintro ov s1 ⟨x,H1,I1,r1,q1⟩;show aq (kI (ax (hi J s1 σ H1 _ I1 q1) ?_));rintro iv s2 ⟨y,H2,I2,r2,q2⟩;show aq (Ac (aq (kI (ax (hs J s2 σ H2 x y v ov iv u _ I2 r1 r2 r q2) ?_))));rintro _ s3 ⟨H3,I3,q3⟩;show wpAny_release ⟨σ,H3,I3,q3⟩
def tQ(te:TE)(g:TG):TS:=λD σ H=>te σ H λx H1=>g x σ H1 D.nx
def Hs(he:PE X e te)(hg:PG X tg g)(hs:autoParam (swapsWithSole [tg] e pos.line X.env=pure false) tR._auto_1)(hw:autoParam (swappedStores [tg] e X.env=pure none) tR._auto_1)
  (Z:autoParam ((assignEach [tg] X.env).map (·.2)=[assign tg X.env]) tR._auto_1):PS X (.Assign [tg] e pos) (tQ te g):=by
 intro J s σ H D I h;show wpAny_Assign_stores (ax (he J s σ H _ I h) ?_) hs hw;rintro v s1 ⟨x,H1,I1,r1,q1⟩;rw[Z];show ax (hg J s1 σ H1 x v _ I1 r1 q1) λ_ s2 q=>q
def QW(hN:X.N.Nodup)(hi:X.N[i]?=some x)(hx:oY X.env.scope x)(he:PE X e te)(hs:autoParam (swapsWith e (some (.Name x pos')) pos.line X.env=pure false) tR._auto_1)(hf:autoParam (X.fn x=true\/X.env.scope.names.lookup x=some .local) tF._auto_1) :
  PS X (.Assign [.Name x pos'] e pos) (tQ te (aQ i)):=by
 intro J s σ H D I h;show wpAny_Assign_Name (ax (he J s σ H _ I h) ?_) hs;rintro v s1 ⟨y,H1,I1,r1,q1⟩;show wj I1 hN hi hx r1 (λs2 I2=>⟨_,H1,I2,q1⟩) hf
end
section
variable{X:Cx}{pos:Pos}
def Ux(c:TT)(tb:TS):TS:=λD σ H=>∃W:Nat->St->Hp->Prop,(∃m,W m σ H)/\∀m σ H,W m σ H ->
 c σ H λb H1=>if b=true then ∃N:St->Hp->Prop,(∀σ' O,N σ' O->∃m',m'<m/\W m' σ' O)/\tb {D with nx:=N,ct:=N,bk:=D.nx} σ H1 else D.nx σ H1
set_option tactic.hygienic true in
def As(hp:PassesOwn (model X.prog X.w) X.A X.env X.xe)(hc:PT X c tc)(hb:dg X body tb):PS X (.While c body [] pos) (Ux tc tb):=by
 intro J s σ H D I h;obtain⟨W,⟨m0,w0⟩,turn⟩:=h;show wpAny_While (codeAny_whileLoop (λn s'=>∃σ' O,Inv X J σ' O s'/\W n σ' O) ?_ m0 ⟨σ,H,I,w0⟩);rintro n s1 ⟨σ1,H1,I1,w1⟩;show qP hp (ax (hc J s1 σ1 H1 _ I1 (turn n σ1 H1 w1)) ?_);rintro b s2 ⟨H2,I2,q2⟩;cases b with
 |true =>
  obtain⟨N,hN,q2⟩:=q2;rw[aj rfl];show qP hp (ax (hb J s2 σ1 H2 _ I2 q2) λf s3 q3=>?_);cases f with
  |next =>
   obtain⟨σ3,H3,I3,n3⟩:=q3;obtain⟨m',hm,w3⟩:=hN σ3 H3 n3;exists m',hm,σ3,H3,I3,w3
  |cont =>
   obtain⟨σ3,H3,I3,n3⟩:=q3;obtain⟨m',hm,w3⟩:=hN σ3 H3 n3;exists m',hm,σ3,H3,I3,w3
  |brk=>show q3
  |ret v=>show q3
 |false =>
  rw[ah dj];show uf ⟨σ1,H2,I2,q2⟩
end
structure It where
 go:Nat->Hp->Prop
 yld:Nat->Hp->V->Hp->Prop
 stop:Nat->Hp->Prop
def gB(X:Cx)(J:List (Addr×Obj))(H:Hp)(b:Addr):Prop :=
 H b=none/\b≠X.env.locals/\b∉X.fs/\(b∈X.ex\/X.s₀.heap.objs.size<=b)/\(∀x c,X.env.cells.lookup x=some c->c≠b)/\∀p∈X.pn++J,p.1≠b
def Inv.fpOk(I:Inv X J σ H s)(hb:s.heap.objs.size<=b)(hn:O b=none):gB X J O b:=by
 exists hn,sC (cP I.lt hb),I.nofs hb,.inr (a9 I.sz hb),λx c e z=>?_,λp hp z=>?_
 .obtain⟨v,q⟩:=I.cell x c e;show absurd (cP q.lt (by simp_all)) (nJ _)
 .exact absurd (cP (bh (I.pin p hp).1) (by simp_all)) (nJ _)
structure mf(P:Program)(w:World)(K:Frag)(tg:Expr)(qae:It)(fp:List Addr)(it:Addr)(tn:Nat->Heap->Prop):Prop where
 mem:it∈fp
 obj:∀i h,tn i h->∀b∈fp,∃o,h.get? b=some o/\∀v,o.data≠.cell v
 keep:∀i h h',tn i h->(∀b∈fp,∀o,h.get? b=some o->h'.get? b=some o)->tn i h'
 item:∀(X:Cx),X.prog=P->X.w=w->X.K=K->X.calm=true->∀(i:Nat) (J:List (Addr×Obj)) (s:Shared) (σ:St) (H:Hp) (E:Value->Shared->Prop),Inv X J σ H s->(∀b∈fp,gB X J H b)->tn i s.heap->qae.go i H ->
  wpAny (model P w) X.A (pyNext (.ref it)) (fun r s1=>∃ u,r=some u /\ wpAny (model P w) X.A (letOwnedTupleGo tg (.ref it) u) (λ_ s2=>∃x O,Inv X J σ O s2/\RelV x u/\qae.yld i H x O/\tn (i+1) s2.heap/\∀b∈fp,O b=none) E s1) E s
 done:∀(X:Cx),X.prog=P->X.w=w->X.K=K->X.calm=true->∀(i:Nat) (J:List (Addr×Obj)) (s:Shared) (σ:St) (H:Hp) (E:Value->Shared->Prop),Inv X J σ H s->(∀b∈fp,gB X J H b)->tn i s.heap->qae.stop i H ->
  wpAny (model P w) X.A (pyNext (.ref it)) (λr s1=>r=none/\Inv X J σ H s1) E s
 self:∀(A:Around) (i:Nat) (s:Shared) (Q:Value->Shared->Prop) (E:Value->Shared->Prop),tn i s.heap->Q (.ref it) s->wpAny (model P w) A (pyIter (.ref it)) Q E s
abbrev TI:=St->Hp->(It->Hp->Prop)->Prop
def Kb(X:Cx)(J:List (Addr×Obj))(σ:St)(tg:Expr)(R:It->Hp->Prop)(zb:Value)(s2:Shared):Prop :=
 ∃(it:Addr) (fp:List Addr) (tn:Nat->Heap->Prop) (qae:It) (O:Hp),zb=.ref it/\Inv X J σ O s2/\mf X.prog X.w X.K tg qae fp it tn/\tn 0 s2.heap/\(∀b∈fp,gB X J O b)/\R qae O
def PI(X:Cx)(tg iter:Expr)(wi:TI):Prop :=
 ∀(J:List (Addr×Obj)) (s:Shared) (σ:St) (H:Hp) (R:It->Hp->Prop),Inv X J σ H s->wi σ H R ->
  wpAny (model X.prog X.w) X.A (eval iter X.env) (λv s1=>wpAny (model X.prog X.w) X.A (pyIter v) (Kb X J σ tg R) X.xe s1) X.xe s
def uo(ho:s.heap.get? it=some o)(hc:o.cls=.type n)(hd:o.data=.fields vs)
    (hn:["enumerate","zip","dict_itemiterator","dict_reverseitemiterator","odict_iterator","itertools.zip_longest","itertools.pairwise"].contains n=false) (hQ:Q () s):wpAny qad A (letOwnedTupleGo tg (.ref it) u) Q E s:=by
  cases tg<;>first
    |show aS hQ
    | (cases u <;> first
        |show aS hQ
        | (show aq (wpAny_load ho ?_)
           rw [hc,hd]
           show wpAny qad A (if (["enumerate","zip","dict_itemiterator","dict_reverseitemiterator","odict_iterator","itertools.zip_longest","itertools.pairwise"].contains n&&vs[0]? == some (rawInt _))=true then _ else _) Q E s
           rw [ah (by intro h;rw [hn,Hg]at h;cases h)]
           show aS hQ))
def gq(K:Frag)(a:Addr):It :=
 ⟨λi H=>∃xs x,ai K H a xs/\xs[i]?=some x,λi H x O=>O=H/\∀xs,ai K H a xs->xs[i]?=some x,λi H=>∃xs,ai K H a xs/\xs.length<=i⟩
def xj(K:Frag)(a:Addr):It :=
 ⟨λi H=>∃xs x,aD K H a xs/\xs[i]?=some x,λi H x O=>O=H/\∀xs,aD K H a xs->xs[i]?=some x,λi H=>∃xs,aD K H a xs/\xs.length<=i⟩
def jC(lo:Int)(n:Nat):It:=⟨λi _=>i<n,λi H x O=>O=H/\x=.int (lo+i),λi _=>n<=i⟩
def ZH{P:Program}{w:World}{K:Frag}{tg:Expr}(a it:Addr):mf P w K tg (gq K a) [it] it (λi h=>h.IsListIter it a i) where
 mem:=by simp
 obj:=λi h st b hb=>by
  have e:b=it:=by simpa using hb
  subst e;obtain⟨o,e,c,d⟩:=st;show⟨o,e,λv z=>by simp_all⟩
 keep:=λi h h' st k=>st.at λo e=>k it tS o e
 item:=by
  intro X hP hw hK hc i J s σ H E I hf st hg;subst hP hw hK;obtain⟨xs,x,hq,hx⟩:=hg;obtain⟨ae,rv,p,hz⟩:=I.list hq;obtain⟨u,hu,ru⟩:=rv.get hx;obtain⟨f0,f1,f2,f3,f4,f5⟩:=hf it tS;show wpAny_pyNext_list_item st p.isList (x:=u) (by simpa using hu) λh' af sb=>?_
  have I1:=I.turned (t':=s.toks) (λb o hb e=>(sb.2 b hb).trans e) f0 f1 f3 f4 f5;obtain⟨o,e,c,d⟩:=id af;exists u,Y,uo (s:={s with heap:=h'}) e c d tD ⟨x,H,I1,ru,⟨Y,λys hy=>by rw[I.list_inj hy hq];show hx⟩,af,λb hb=>(hf b hb).1⟩
 done:=by
  intro X hP hw hK hc i J s σ H E I hf st hg;subst hP hw hK;obtain⟨xs,hq,hx⟩:=hg;obtain⟨ae,rv,p,hz⟩:=I.list hq;obtain⟨f0,f1,f2,f3,f4,f5⟩:=hf it tS;have hl:=rv.length;show wpAny_pyNext_list_end (I.ok.hd hc) st p.isList (by simp;lia) λh' eb=>⟨Y,I.turned (t':=s.toks) (λb o hb e=>eb b o hb e) f0 f1 f3 f4 f5⟩
 self:=λ_ _ _ _ _ st h=>wpAny_pyIter_listiter st h
def YL{P:Program}{w:World}{K:Frag}{tg:Expr}(a it:Addr):mf P w K tg (xj K a) [it] it (λi h=>h.IsTupleIter it a i) where
 mem:=by simp
 obj:=λi h st b hb=>by
  have e:b=it:=by simpa using hb
  subst e;obtain⟨o,e,c,d⟩:=st;show⟨o,e,λv z=>by simp_all⟩
 keep:=λi h h' st k=>st.at λo e=>k it tS o e
 item:=by
  intro X hP hw hK hc i J s σ H E I hf st hg;subst hP hw hK;obtain⟨xs,x,hq,hx⟩:=hg;obtain⟨ae,rv,p,hz⟩:=I.tuple hq;obtain⟨u,hu,ru⟩:=rv.get hx;obtain⟨f0,f1,f2,f3,f4,f5⟩:=hf it tS;show wpAny_pyNext_tuple_item st (show s.heap.IsTuple a ae.toArray from p) (x:=u) (by simpa using hu) λh' af sb=>?_
  have I1:=I.turned (t':=s.toks) (λb o hb e=>(sb.2 b hb).trans e) f0 f1 f3 f4 f5;obtain⟨o,e,c,d⟩:=id af;exists u,Y,uo (s:={s with heap:=h'}) e c d tD ⟨x,H,I1,ru,⟨Y,λys hy=>by rw[I.tuple_inj hy hq];show hx⟩,af,λb hb=>(hf b hb).1⟩
 done:=by
  intro X hP hw hK hc i J s σ H E I hf st hg;subst hP hw hK;obtain⟨xs,hq,hx⟩:=hg;obtain⟨ae,rv,p,hz⟩:=I.tuple hq;obtain⟨f0,f1,f2,f3,f4,f5⟩:=hf it tS;have hl:=rv.length;show wpAny_pyNext_tuple_end (I.ok.hd hc) st (show s.heap.IsTuple a ae.toArray from p) (by simp;lia) λh' eb=>⟨Y,I.turned (t':=s.toks) (λb o hb e=>eb b o hb e) f0 f1 f3 f4 f5⟩
 self:=λ_ _ _ _ _ st h=>wpAny_pyIter_tupleiter st h
def zbG{P:Program}{w:World}{K:Frag}{tg:Expr}(it:Addr)(lo:Int)(n:Nat):mf P w K tg (jC lo n) [it] it (λi h=>IsRangeIter h it (lo+(i:Nat)*1) ((n:Int)-(i:Nat)) 1) where
 mem:=by simp
 obj:=λi h st b hb=>by simp_all
 keep:=λi h h' st k=>k it tS _ st
 item:=by
  intro X hP hw hK hc i J s σ H E I hf st hg;subst hP hw hK;obtain⟨f0,f1,f2,f3,f4,f5⟩:=hf it tS;have W:=UU (prog:=X.prog) (w:=X.w) (I.ok.hd hc) it lo 1 n;show W.item i s _ _ hg st λv h' tk hv af kk=>?_
  obtain⟨t,rfl⟩:=hv;have I1:Inv X J σ H {s with heap:=h',toks:=tk}:=I.turned (λb o hb e=>kk b o (by simpa using hb) e) f0 f1 f3 f4 f5;exists _,Y,uo (s:={s with heap:=h',toks:=tk}) (n := "range_iterator") af Y Y tD ⟨.int (lo+i),H,I1,⟨t,?_⟩,⟨Y,Y⟩,af,λb hb=>(hf b hb).1⟩;rw[Int.mul_one]
 done:=by
  intro X hP hw hK hc i J s σ H E I hf st hg;subst hP hw hK;obtain⟨f0,f1,f2,f3,f4,f5⟩:=hf it tS;show wpAny_pyNext_range_end (I.ok.hd hc) st (by have:n<=i:=hg;lia) λh' eb=>⟨Y,I.turned (t':=s.toks) (λb o hb e=>eb b o hb e) f0 f1 f3 f4 f5⟩
 self:=λ_ _ _ _ _ st h=>wpAny_pyIter_rangeiter st h
section
variable{X:Cx}{tg:Expr}
def zdw(K:Frag)(tl:TE):TI:=λσ H R=>tl σ H λx H1=>∃a,x=.ref a/\(∃xs,ai K H1 a xs)/\R (gq K a) H1
def zbZ(K:Frag)(tl:TE):TI:=λσ H R=>tl σ H λx H1=>∃a,x=.ref a/\(∃xs,aD K H1 a xs)/\R (xj K a) H1
def rJ{l:Expr}{tl:TE}(hl:PE X l tl):PI X tg l (zdw X.K tl):=by
 intro J s σ H R I h;show ax (hl J s σ H _ I h) ?_;rintro v s1 ⟨x,H1,I1,r1,q1⟩;obtain⟨a,e,⟨xs,hq⟩,q⟩:=q1;subst e;cases r1;obtain⟨ae,rv,p,hz⟩:=I1.list hq;show vZ p.isList ?_;exists s1.heap.objs.size,[s1.heap.objs.size],_,_,H1,Y,I1.kept (t':=s1.toks) λb o e=>bZ _ e,ZH a _,⟨_,cQ _ Y,Y,Y⟩,λb hb=>?_,q;have e:b=s1.heap.objs.size:=by simpa using hb
 subst e;show I1.fpOk (aC _) (I1.hok.fresh (aC _))
def zgH{l:Expr}{tl:TE}(hl:PE X l tl):PI X tg l (zbZ X.K tl):=by
 intro J s σ H R I h;show ax (hl J s σ H _ I h) ?_;rintro v s1 ⟨x,H1,I1,r1,q1⟩;obtain⟨a,e,⟨xs,hq⟩,q⟩:=q1;subst e;cases r1;obtain⟨ae,rv,p,hz⟩:=I1.tuple hq;show wpAny_pyIter_tuple (show s1.heap.IsTuple a ae.toArray from p) ?_;exists s1.heap.objs.size,[s1.heap.objs.size],_,_,H1,Y,I1.kept (t':=s1.toks) λb o e=>bZ _ e,YL a _,⟨_,cQ _ Y,Y,Y⟩,λb hb=>?_,q;have e:b=s1.heap.objs.size:=by simpa using hb
 subst e;show I1.fpOk (aC _) (I1.hok.fresh (aC _))
def NW{J:List (Addr×Obj)}{σ:St}{H:Hp}{s:Shared}{R:It->Hp->Prop}{E:Value->Shared->Prop}{lo hi:Int}{t u v:Tok}{tk:Nat}(I:Inv X J σ H s)(Z : -(2^62)<=lo)(M:lo<2^62)(h3 : -(2^62)<=hi)(h4:hi<2^62)
  (q:R (jC lo (hi-lo).toNat) H):wpAny (model X.prog X.w) X.A (pyIter (.ref s.heap.objs.size)) (Kb X J σ tg R) E {s with heap:=s.heap.push {cls:=.type "range",data:=.fields #[.int lo t,.int hi u,.int 1 v]},toks:=tk}:=by
 show wpAny_pyIter_range (RN ..) (small_one Z M h3 h4) ?_;have I1:Inv X J σ H {s with heap:=s.heap.push {cls:=.type "range",data:=.fields #[.int lo t,.int hi u,.int 1 v]},toks:=tk}:=I.kept λb o e=>bZ _ e
 show⟨(s.heap.push {cls:=.type "range",data:=.fields #[.int lo t,.int hi u,.int 1 v]}).objs.size,[(s.heap.push {cls:=.type "range",data:=.fields #[.int lo t,.int hi u,.int 1 v]}).objs.size],_,_,H,Y,I1.kept (t':=tk) λb o e=>bZ _ e,zbG _ lo (hi-lo).toNat,?_,λb hb=>?_,q⟩
 .have e1:lo+((0:Nat):Int)*1=lo:=by simp
  have e2:(((hi-lo).toNat:Nat):Int)-((0:Nat):Int)=Builtin.Range.rangeSize lo hi 1:=by rw[rangeSize_one];split<;>lia
  rw[e1,e2];show cQ _ rfl
 .have e:b=(s.heap.push {cls:=.type "range",data:=.fields #[.int lo t,.int hi u,.int 1 v]}).objs.size:=by simpa using hb
  subst e;show I1.fpOk (aC _) (I1.hok.fresh (aC _))
def zgj(ta:TA):TI:=λσ H R=>ta σ H λvs H1=>∃j:Int,vs=[.int j] /\ -(2^62)<=j/\j<2^62/\R (jC 0 j.toNat) H1
def zdj(ta:TA):TI:=λσ H R=>ta σ H λvs H1=>∃i j:Int,vs=[.int i,.int j]/\(-(2^62)<=i/\i<2^62 /\ -(2^62)<=j/\j<2^62)/\R (jC i (j-i).toNat) H1
def SJ{a:Expr}{ta:TA}{p pos:Pos}(hg:Gl X "range")(hm:X.mg "range" = none)(ha:PA X [a] ta)(hs:autoParam (starEach [a] X.env=[(false,eval a X.env)]) tR._auto_1):PI X tg (.Call (.Name "range" p) [a] [] pos) (zgj ta):=by
 intro J s σ H R I h;show Call_ (nq I hg hm boot_range (su (ax (ha pos J s σ H _ I h) ?_) hs Y));rintro us s1 ⟨vs,H1,I1,r1,q1⟩;obtain⟨j,e,q1,q2,q⟩:=q1;subst e;cases r1 with
 |cons r rr =>
  cases rr;obtain⟨t,rfl⟩:=r;show call_range_1 (NW I1 tL tL q1 q2 (by simpa using q))
def Gu(hg:Gl X "range")(hm:X.mg "range" = none)(ha:PA X [a,b] ta)(hs:autoParam (starEach [a,b] X.env=[(false,eval a X.env),(false,eval b X.env)]) tR._auto_1)(iy:autoParam (starEach [b] X.env=[(false,eval b X.env)]) tR._auto_1) :
  PI X tg (.Call (.Name "range" p) [a,b] [] pos) (zdj ta):=by
 intro J s σ H R I h;show Call_ (nq I hg hm boot_range (su (ax (ha pos J s σ H _ I h) λus s1 ⟨vs,H1,I1,r1,q1⟩=>?_) (by rw[hs,iy]) (by rw[iy];rfl)));obtain⟨i,j,e,⟨q1,q2,q3,q4⟩,q⟩:=q1;subst e;cases r1 with
 |cons r rr =>
  cases rr with
  |cons r' rr =>
   cases rr;obtain⟨t,rfl⟩:=r;obtain⟨t',rfl⟩:=r';show call_range_2 (NW I1 q1 q2 q3 q4 q)
def Ta(wi:TI)(g:TG)(tb:TS):TS:=λD σ H=>wi σ H λqae H1=>∃W:Nat->Nat->St->Hp->Prop,(∃m,W 0 m σ H1)/\∀i m σ H,W i m σ H ->
 (qae.stop i H/\D.nx σ H)\/(qae.go i H/\∃N:St->Hp->Prop,(∀σ' O,N σ' O->∃m',m'<m/\W (i+1) m' σ' O)/\∀x O,qae.yld i H x O->g x σ O λσ2 H2=>tb {D with nx:=N,ct:=N,bk:=D.nx} σ2 H2)
noncomputable def se(fp:List Addr)(h:Heap):List (Addr×Obj):=fp.filterMap λb=>(h.get? b).map λo=>(b,o)
def vj(hb:b∈fp)(e:h.get? b=some o):(b,o)∈se fp h:=CY.mpr ⟨b,hb,by rw[e];rfl⟩
def Mv(hp:p∈se fp h):p.1∈fp/\h.get? p.1=some p.2:=by
 obtain⟨b,hb,e⟩:=CY.mp hp;cases q:h.get? b with
 |none=>rw[q]at e;cases e
 |some o =>
  rw[q]at e;have e':=di e;subst e';exists hb,q
def Inv.pinned(I:Inv X J σ H s)(hf:∀b∈fp,gB X J H b)(ho:∀b∈fp,∃o,s.heap.get? b=some o/\∀v,o.data≠.cell v):Inv X (J++se fp s.heap) σ H s :=
 I.pins_of λp hp=>(bC.mp hp).elim (λz=>I.pin p (ft _ z)) λz=>by
  obtain⟨hb,e⟩:=Mv z;obtain⟨f0,f1,f2,_⟩:=hf p.1 hb;obtain⟨o,e',d⟩:=ho p.1 hb;rw[e]at e';cases e';exists e,f0,f1,f2,d
def Inv.unpinned(I:Inv X (J++pl) σ H s):Inv X J σ H s:=I.pins_of λp hp=>I.pin p (ft _ (qr _ hp))
set_option tactic.hygienic true in
def HY(hp:PassesOwn (model X.prog X.w) X.A X.env X.xe)(hc:X.calm=true)(hi:PI X tg iter wi)(hg:PG X tg g)(hb:dg X body tb)
  (hs:autoParam (∀x,foldedSetIterable iter X.env x=pure x) tI._auto_1):PS X (.For tg iter body [] pos) (Ta wi g tb):=by
 intro J s σ H D I h;show wpAny_For (ax (hi J s σ H _ I h) λv s1 Z=>ax Z λzb s2 M=>?_) hs;obtain⟨it,fp,tn,qae,H2,e,I2,T,bg,f2,W,⟨m0,w0⟩,turn⟩:=M;subst e;have stat:∀{O:Hp},(∀b∈fp,O b=none)->∀b∈fp,gB X J O b:=λhn b hb=>⟨hn b hb,(f2 b hb).2⟩
 show codeAny_forLoop_any (λn s'=>∃i σ' O,Inv X J σ' O s'/\tn i s'.heap/\(∀b∈fp,O b=none)/\W i n σ' O) ?_ m0 ⟨0,σ,H2,I2,bg,λb hb=>(f2 b hb).1,w0⟩;rintro n s3 ⟨i,σ3,H3,I3,cg,wJ,w3⟩;rcases turn i n σ3 H3 w3 with ⟨stop,qn⟩|⟨go,N,hN,step⟩
 .refine qP hp (ax (T.done X Y Y Y hc i J s3 σ3 H3 X.xe I3 (stat wJ) cg stop) λr s4 ⟨hr,I4⟩=>?_);subst hr;show uf ⟨σ3,H3,I4,qn⟩
 .refine qP hp (ax (T.item X Y Y Y hc i J s3 σ3 H3 X.xe I3 (stat wJ) cg go) λr s4 ⟨u,hr,h4⟩=>?_);subst hr;show qP hp (ax h4 ?_);rintro _ s5 ⟨x,H5,I5,r5,y5,nQ,Jg⟩;have GY:=I5.pinned (stat Jg) (T.obj _ _ nQ);show qP hp (ax (hg _ s5 σ3 H5 x u _ GY r5 (step x H5 y5)) ?_);rintro _ s6 ⟨σ6,H6,I6,q6⟩;show qP hp (ax (hb _ s6 σ6 H6 _ I6 q6) λf s7 q7=>?_);have again:∀{σ7:St}{H7:Hp},Inv X (J++se fp s5.heap) σ7 H7 s7->N σ7 H7->∃m,m<n/\∃i σ' O,Inv X J σ' O s7/\tn i s7.heap/\(∀b∈fp,O b=none)/\W i m σ' O:=fun {σ7 H7} I7 n7=>by
   obtain⟨m',hm,w7⟩:=hN σ7 H7 n7;exists m',hm,i+1,σ7,H7,I7.unpinned,T.keep _ _ _ nQ λb hb o e=>(I7.pin (b,o) (ft _ (ft _ (vj hb e)))).1,λb hb=>?_,w7;obtain⟨o,e,d⟩:=T.obj _ _ nQ b hb;show (I7.pin (b,o) (ft _ (ft _ (vj hb e)))).2.1
  cases f with
  |next=>obtain⟨σ7,H7,I7,n7⟩:=q7;show again I7 n7
  |cont=>obtain⟨σ7,H7,I7,n7⟩:=q7;show again I7 n7
  |brk=>obtain⟨σ7,H7,I7,q7⟩:=q7;exists σ7,H7,I7.unpinned,q7
  |ret v=>obtain⟨x7,σ7,H7,I7,r7,q7⟩:=q7;exists x7,σ7,H7,I7.unpinned,r7,q7
end
def kP{K:Frag}{a:Addr}{xs:List V}{g:TG}{tb:TS}{D:je}{σ:St}{H:Hp}(Pv:Nat->St->Hp->Prop)(h0:Pv 0 σ H)(hl:∀i σ H,i<=xs.length->Pv i σ H->ai K H a xs)
  (hs:∀i x σ H,xs[i]?=some x->Pv i σ H->g x σ H λσ2 H2=>tb {D with nx:=Pv (i+1),ct:=Pv (i+1),bk:=D.nx} σ2 H2) (hd:∀σ H,Pv xs.length σ H->D.nx σ H) :
  ∃W:Nat->Nat->St->Hp->Prop,(∃m,W 0 m σ H)/\∀i m σ H,W i m σ H ->
   ((gq K a).stop i H/\D.nx σ H)\/((gq K a).go i H/\∃N:St->Hp->Prop,(∀σ' O,N σ' O->∃m',m'<m/\W (i+1) m' σ' O)/\∀x O,(gq K a).yld i H x O->g x σ O λσ2 H2=>tb {D with nx:=N,ct:=N,bk:=D.nx} σ2 H2):=by
 exists λi m σ H=>m=xs.length-i/\i<=xs.length/\Pv i σ H,⟨xs.length,tS,bJ _,h0⟩,?_;rintro i m σ H ⟨rfl,hi,p⟩;have q:=hl i σ H hi p;by_cases aF:i<xs.length
 .refine .inr ⟨⟨xs,xs[i],q,by simp[aF]⟩,Pv (i+1),λσ' O p'=>⟨xs.length-(i+1),tO,Y,aF,p'⟩,λx O y=>?_⟩;obtain⟨e,y⟩:=y;subst e;show hs i x σ _ (y xs q) p
 .have e:i=xs.length:=by lia
  subst e;show .inl ⟨⟨xs,q,aC _⟩,hd σ H p⟩
def zeQ{K:Frag}{a:Addr}{xs:List V}{g:TG}{tb:TS}{D:je}{σ:St}{H:Hp}(Pv:Nat->St->Hp->Prop)(h0:Pv 0 σ H)(hl:∀i σ H,i<=xs.length->Pv i σ H->aD K H a xs)
  (hs:∀i x σ H,xs[i]?=some x->Pv i σ H->g x σ H λσ2 H2=>tb {D with nx:=Pv (i+1),ct:=Pv (i+1),bk:=D.nx} σ2 H2) (hd:∀σ H,Pv xs.length σ H->D.nx σ H) :
  ∃W:Nat->Nat->St->Hp->Prop,(∃m,W 0 m σ H)/\∀i m σ H,W i m σ H ->
   ((xj K a).stop i H/\D.nx σ H)\/((xj K a).go i H/\∃N:St->Hp->Prop,(∀σ' O,N σ' O->∃m',m'<m/\W (i+1) m' σ' O)/\∀x O,(xj K a).yld i H x O->g x σ O λσ2 H2=>tb {D with nx:=N,ct:=N,bk:=D.nx} σ2 H2):=by
 exists λi m σ H=>m=xs.length-i/\i<=xs.length/\Pv i σ H,⟨xs.length,tS,bJ _,h0⟩,?_;rintro i m σ H ⟨rfl,hi,p⟩;have q:=hl i σ H hi p;by_cases aF:i<xs.length
 .refine .inr ⟨⟨xs,xs[i],q,by simp[aF]⟩,Pv (i+1),λσ' O p'=>⟨xs.length-(i+1),tO,Y,aF,p'⟩,λx O y=>?_⟩;obtain⟨e,y⟩:=y;subst e;show hs i x σ _ (y xs q) p
 .have e:i=xs.length:=by lia
  subst e;show .inl ⟨⟨xs,q,aC _⟩,hd σ H p⟩
def rY{lo:Int}{n:Nat}{g:TG}{tb:TS}{D:je}{σ:St}{H:Hp}(Pv:Nat->St->Hp->Prop)(h0:Pv 0 σ H)
  (hs:∀i σ H,i<n->Pv i σ H->g (.int (lo+i)) σ H λσ2 H2=>tb {D with nx:=Pv (i+1),ct:=Pv (i+1),bk:=D.nx} σ2 H2) (hd:∀σ H,Pv n σ H->D.nx σ H) :
  ∃W:Nat->Nat->St->Hp->Prop,(∃m,W 0 m σ H)/\∀i m σ H,W i m σ H ->
   ((jC lo n).stop i H/\D.nx σ H)\/((jC lo n).go i H/\∃N:St->Hp->Prop,(∀σ' O,N σ' O->∃m',m'<m/\W (i+1) m' σ' O)/\∀x O,(jC lo n).yld i H x O->g x σ O λσ2 H2=>tb {D with nx:=N,ct:=N,bk:=D.nx} σ2 H2):=by
 exists λi m σ H=>m=n-i/\i<=n/\Pv i σ H,⟨n,tS,bJ _,h0⟩,?_;rintro i m σ H ⟨rfl,hi,p⟩;by_cases aF:i<n
 .refine .inr ⟨aF,Pv (i+1),λσ' O p'=>⟨n-(i+1),tL,Y,aF,p'⟩,λx O y=>?_⟩;obtain⟨e,y⟩:=y;subst e y;show hs i σ _ aF p
 .have e:i=n:=by lia
  subst e;show .inl ⟨aC _,hd σ H p⟩
def zei(Pv:St->Hp->Prop)(μ:St->Hp->Nat)(h0:Pv σ H)
  (hs:∀σ H,Pv σ H->c σ H λb H1=>if b=true then tb {D with nx:=λσ' O=>Pv σ' O/\μ σ' O<μ σ H,ct:=λσ' O=>Pv σ' O/\μ σ' O<μ σ H,bk:=D.nx} σ H1 else D.nx σ H1)
  (mono:∀σ H Q Q',(∀b H1,Q b H1->Q' b H1)->c σ H Q->c σ H Q'):Ux c tb D σ H:=by
 exists λm σ H=>m=μ σ H/\Pv σ H,⟨_,Y,h0⟩,?_;rintro m σ H ⟨rfl,p⟩;show mono σ H _ _ (λb H1 q=>?_) (hs σ H p);cases b with
 |true=>exists _,λσ' O ⟨p',l⟩=>⟨_,l,Y,p'⟩,q
 |false=>show q
abbrev R2:=V->V->Hp->VK->Prop
def bx(X:Cx)(f:Value->Value->Sem Value)(r:R2):Prop :=
 ∀(J:List (Addr×Obj)) (s:Shared) (σ:St) (H:Hp) (x y:V) (v u:Value) (Q:VK),Inv X J σ H s->RelV x v->RelV y u->r x y H Q ->
  wpAny (model X.prog X.w) X.A (f v u) (EP X J σ Q) X.xe s
def FW(X:Cx)(f:Value->Sem Value)(r:V->Hp->VK->Prop):Prop :=
 ∀(J:List (Addr×Obj)) (s:Shared) (σ:St) (H:Hp) (x:V) (v:Value) (Q:VK),Inv X J σ H s->RelV x v->r x H Q ->
  wpAny (model X.prog X.w) X.A (f v) (EP X J σ Q) X.xe s
def gA(X:Cx)(f:Value)(r:List V->Hp->VK->Prop):Prop :=
 ∀(J:List (Addr×Obj)) (s:Shared) (σ:St) (H:Hp) (xs:List V) (us:List Value) (Q:VK),Inv X J σ H s->Vals xs us->r xs H Q ->
  wpAny (model X.prog X.w) X.A (call f us) (EP X J σ Q) X.xe s
def Z5(X:Cx)(r:V->Hp->(Bool->Hp->Prop)->Prop):Prop :=
 ∀(J:List (Addr×Obj)) (s:Shared) (σ:St) (H:Hp) (x:V) (v:Value) (Q:Bool->Hp->Prop),Inv X J σ H s->RelV x v->r x H Q ->
  wpAny (model X.prog X.w) X.A (truthy v) (TP X J σ Q) X.xe s
def fL(r:R2)(ta tb:TE):TE:=λσ H Q=>ta σ H λx H1=>tb σ H1 λy H2=>r x y H2 Q
def tUn(r:V->Hp->VK->Prop)(ta:TE):TE:=λσ H Q=>ta σ H λx H1=>r x H1 Q
def rI(C:Int->Int->Prop)(g:Int->Int->V):R2:=λx y H Q=>∃i j,x=.int i/\y=.int j/\C i j/\Q (g i j) H
def jO(g:Int->Int->V):R2:=λx y H Q=>∃i j,x=.int i/\y=.int j/\Q (g i j) H
def rU(g:Int->V):V->Hp->VK->Prop:=λx H Q=>∃i,x=.int i/\Q (g i) H
section
variable{X:Cx}{a b c:Expr}{ta tb tc:TE}{pos:Pos}
def IG(ha:PE X a ta)(hb:PE X b tb){J:List (Addr×Obj)}{s:Shared}{σ:St}{H:Hp}{R:V->V->Hp->Prop}(I:Inv X J σ H s)
  (h:ta σ H λx H1=>tb σ H1 λy H2=>R x y H2) {Q:Value->Shared->Prop}{f:Value->Value->Sem Value}
  (hf:∀v u s2 x y H2,Inv X J σ H2 s2->RelV x v->RelV y u->R x y H2->wpAny (model X.prog X.w) X.A (f v u) Q X.xe s2) :
  wpAny (model X.prog X.w) X.A (eval a X.env) (λv s₁=>wpAny (model X.prog X.w) X.A (eval b X.env) (λu s₂=>wpAny (model X.prog X.w) X.A (f v u) Q X.xe s₂) X.xe s₁) X.xe s:=by
 show ax (ha J s σ H _ I h) ?_;rintro v s1 ⟨x,H1,I1,r1,q1⟩;show ax (hb J s1 σ H1 _ I1 q1) ?_;rintro u s2 ⟨y,H2,I2,r2,q2⟩;show hf v u s2 x y H2 I2 r1 r2 q2
def gD{op:Operator}{r:R2}(ho:bx X (binaryOp op) r)(ha:PE X a ta)(hb:PE X b tb):PE X (.BinOp a op b pos) (fL r ta tb):=by
 intro J s σ H Q I h;show AY (IG ha hb I h λv u s2 x y H2 I2 rx ry q=>ho J s2 σ H2 x y v u Q I2 rx ry q)
def zcM(ho:FW X (unaryOp op) r)(ha:PE X a ta):PE X (.UnaryOp op a pos) (tUn r ta):=by
 intro J s σ H Q I h;show UnaryOp_ (ax (ha J s σ H _ I h) (by rintro v s1 ⟨x,H1,I1,r1,q1⟩;show ho J s1 σ H1 x v Q I1 r1 q1))
def u9{f:Value->Value->Sem Value}{C:Int->Int->Prop}{g:Int->Int->Int}
  (rule:∀(i j:Int) (t u:Tok) (s:Shared) (Q:Value->Shared->Prop) (E:Value->Shared->Prop),C i j->Q (.int (g i j) s.toks) {s with toks:=s.toks+1}->wpAny (model X.prog X.w) X.A (f (.int i t) (.int j u)) Q E s) :
  bx X f (rI C λi j=>.int (g i j)):=by
 intro J s σ H x y v u Q I rx ry h;obtain⟨i,j,rfl,rfl,hc,q⟩:=h;obtain⟨t,rfl⟩:=rx;obtain⟨t',rfl⟩:=ry;show rule i j t t' s _ _ hc ⟨.int (g i j),H,I.tok _,⟨_,Y⟩,q⟩
def AZ{f:Value->Value->Sem Value}{g:Int->Int->Int}
  (rule:∀(i j:Int) (t u:Tok) (s:Shared) (Q:Value->Shared->Prop) (E:Value->Shared->Prop),Q (.int (g i j) s.toks) {s with toks:=s.toks+1}->wpAny (model X.prog X.w) X.A (f (.int i t) (.int j u)) Q E s) :
  bx X f (jO λi j=>.int (g i j)):=by
 intro J s σ H x y v u Q I rx ry h;obtain⟨i,j,rfl,rfl,q⟩:=h;obtain⟨t,rfl⟩:=rx;obtain⟨t',rfl⟩:=ry;show rule i j t t' s _ _ ⟨.int (g i j),H,I.tok _,⟨_,Y⟩,q⟩
def Aq{f:Value->Value->Sem Value}{g:Int->Int->Bool}
  (rule:∀(i j:Int) (t u:Tok) (s:Shared) (Q:Value->Shared->Prop) (E:Value->Shared->Prop),Q (.bool (g i j)) s->wpAny (model X.prog X.w) X.A (f (.int i t) (.int j u)) Q E s) :
  bx X f (jO λi j=>.bl (g i j)):=by
 intro J s σ H x y v u Q I rx ry h;obtain⟨i,j,rfl,rfl,q⟩:=h;obtain⟨t,rfl⟩:=rx;obtain⟨t',rfl⟩:=ry;show rule i j t t' s _ _ ⟨.bl (g i j),H,I,Y,q⟩
def JX(i j:Int):Prop:=0<=j/\j<=1000000/\i.natAbs<2^64
def Dn(i j:Int):Prop:=(-(2^64)<i/\i<2^64)\/(-(2^64)<j/\j<2^64)
def Dn.ok(h:Dn i j):IntMulOk i j:=by
 rcases h with ⟨Z,M⟩|⟨Z,M⟩
 .exact .of_left (intBits_le_64 Z M)
 .exact .of_right (intBits_le_64 Z M)
def dA:bx X (binaryOp .Add) (jO λi j=>.int (i+j)):=AZ λ_ _ _ _ _ _ _ q=>add_int q
def zr:bx X (binaryOp .Sub) (jO λi j=>.int (i-j)):=AZ λ_ _ _ _ _ _ _ q=>sub_int q
def fY:bx X (binaryOp .Mod) (rI (λ_ j=>0<j) λi j=>.int (i%j)):=u9 λi j _ _ _ _ _ hc q=>by
 have Z:=hc;show mod_int' tL (by rw[Int.fmod_eq_emod_of_nonneg i tL];show q)
def ZX:bx X (binaryOp .Pow) (rI JX λi j=>.int (i^j.toNat)):=u9 λ_ _ _ _ _ _ _ hc q=>pow_int_small hc.1 hc.2.1 hc.2.2 q
def j2:bx X (binaryOp .LShift) (rI JX λi j=>.int (i*2^j.toNat)):=u9 λ_ _ _ _ _ _ _ hc q=>lshift_int_small hc.1 hc.2.1 hc.2.2 q
def wL:bx X (binaryOp .BitAnd) (jO λi j=>.int (Builtin.bitAnd i j)):=AZ λ_ _ _ _ _ _ _ q=>and_int q
def yX:bx X (binaryOp .BitOr) (jO λi j=>.int (Builtin.bitOr i j)):=AZ λ_ _ _ _ _ _ _ q=>or_int q
def unI{f:Value->Sem Value}{g:Int->Int}
  (rule:∀(i:Int) (t:Tok) (s:Shared) (Q:Value->Shared->Prop) (E:Value->Shared->Prop),Q (.int (g i) s.toks) {s with toks:=s.toks+1}->wpAny (model X.prog X.w) X.A (f (.int i t)) Q E s) :
  FW X f (rU λi=>.int (g i)):=by
 intro J s σ H x v Q I rx h;obtain⟨i,rfl,q⟩:=h;obtain⟨t,rfl⟩:=rx;show rule i t s _ _ ⟨.int (g i),H,I.tok _,⟨_,Y⟩,q⟩
def nL:FW X (unaryOp .USub) (rU λi=>.int (-i)):=unI λ_ _ _ _ _ q=>neg_int q
end
noncomputable def wF:V->V->Bool
 |.non,.non=>true|.non,.int _=>true|.int _,.non=>true|.non,.bl _=>true|.bl _,.non=>true|.non,.str _=>true|.str _,.non=>true
 |.int _,.int _=>true|.bl _,.bl _=>true|.str _,.str _=>true|.byt _,.byt _=>true
 |.int _,.str _=>true|.str _,.int _=>true|.bl _,.str _=>true|.str _,.bl _=>true
 |_,_=>false
def rEq:R2:=λx y H Q=>wF x y=true/\Q (.bl (decide (x=y))) H
def rNe:R2:=λx y H Q=>wF x y=true/\Q (.bl (!decide (x=y))) H
def Ra:decide (V.int i=V.int j)=(i == j):=by
 rw[oQ];simp
def LM:decide (V.bl i=V.bl j)=(i == j):=by
 rw[oQ];simp
def QG:decide (V.str i=V.str j)=(i == j):=by
 rw[oQ];simp
def V7:decide (V.byt i=V.byt j)=(i.toList == j.toList):=by
 rw[oQ];cases i;cases j;simp
section
variable{X:Cx}{a b c:Expr}{ta tb tc:TE}{pos:Pos}
def cG(I:Inv X J σ H s)(q:Q (.bl k) H)(e:k=k'):EP X J σ Q (.bool k') s:=by
 subst e;exists .bl k,H,I,Y,q
def kK:bx X (compareOp .Eq) rEq:=by
 intro J s σ H x y v u Q I rx ry h;obtain⟨hs,q⟩:=h;cases x with
 |non =>
  cases rx;cases y with
  |non=>cases ry;show jg0 (cG I q tS)
  |bl j=>cases ry;show jg3 (cG I q tS)
  |int j=>obtain⟨t',rfl⟩:=ry;show XB (cG I q tS)
  |str j=>obtain⟨t',rfl⟩:=ry;show jhf (cG I q tS)
  |_=>show absurd (show false=true from hs) dj
 |bl i =>
  cases rx;cases y with
  |non=>cases ry;show jg8 (cG I q tS)
  |bl j=>cases ry;show eq_bool (cG I q LM)
  |str j=>obtain⟨t',rfl⟩:=ry;show jgV (cG I q tS)
  |_=>show absurd (show false=true from hs) dj
 |int i =>
  obtain⟨t,rfl⟩:=rx;cases y with
  |non=>cases ry;show jhj (cG I q tS)
  |int j=>obtain⟨t',rfl⟩:=ry;show eq_int (cG I q Ra)
  |str j=>obtain⟨t',rfl⟩:=ry;show jhe (cG I q tS)
  |_=>show absurd (show false=true from hs) dj
 |str i =>
  obtain⟨t,rfl⟩:=rx;cases y with
  |non=>cases ry;show jhb (cG I q tS)
  |bl j=>cases ry;show jgX (cG I q tS)
  |int j=>obtain⟨t',rfl⟩:=ry;show jhh (cG I q tS)
  |str j=>obtain⟨t',rfl⟩:=ry;show eq_str (cG I q QG)
  |_=>show absurd (show false=true from hs) dj
 |byt i =>
  obtain⟨t,rfl⟩:=rx;cases y with
  |byt j=>obtain⟨t',rfl⟩:=ry;show PySem.W.eq_bytes (cG I q V7)
  |_=>show absurd (show false=true from hs) dj
 |_=>cases y<;>show absurd (show false=true from hs) dj
def Bv:bx X (compareOp .NotEq) rNe:=by
 intro J s σ H x y v u Q I rx ry h;obtain⟨hs,q⟩:=h;cases x with
 |non =>
  cases rx;cases y with
  |non=>cases ry;show Zs (cG I q tS)
  |bl j=>cases ry;show jgY (cG I q tS)
  |int j=>obtain⟨t',rfl⟩:=ry;show jhg (cG I q tS)
  |str j=>obtain⟨t',rfl⟩:=ry;show jhn (cG I q tS)
  |_=>show absurd (show false=true from hs) dj
 |bl i =>
  cases rx;cases y with
  |non=>cases ry;show jg7 (cG I q tS)
  |bl j=>cases ry;show ne_bool (cG I q (congrArg not LM))
  |str j=>obtain⟨t',rfl⟩:=ry;show Z4 (cG I q tS)
  |_=>show absurd (show false=true from hs) dj
 |int i =>
  obtain⟨t,rfl⟩:=rx;cases y with
  |non=>cases ry;show jhi (cG I q tS)
  |int j=>obtain⟨t',rfl⟩:=ry;show ne_int (cG I q (congrArg not Ra))
  |str j=>obtain⟨t',rfl⟩:=ry;show jhd (cG I q tS)
  |_=>show absurd (show false=true from hs) dj
 |str i =>
  obtain⟨t,rfl⟩:=rx;cases y with
  |non=>cases ry;show jhl (cG I q tS)
  |bl j=>cases ry;show YM (cG I q tS)
  |int j=>obtain⟨t',rfl⟩:=ry;show YQ (cG I q tS)
  |str j=>obtain⟨t',rfl⟩:=ry;show ne_str (cG I q (congrArg not QG))
  |_=>show absurd (show false=true from hs) dj
 |byt i =>
  obtain⟨t,rfl⟩:=rx;cases y with
  |byt j=>obtain⟨t',rfl⟩:=ry;show PySem.W.ne_bytes (cG I q (congrArg not V7))
  |_=>show absurd (show false=true from hs) dj
 |_=>cases y<;>show absurd (show false=true from hs) dj
def oq:bx X (compareOp .Lt) (jO λi j=>.bl (decide (i<j))):=Aq λ_ _ _ _ _ _ _ q=>lt_int q
def rX:bx X (compareOp .LtE) (jO λi j=>.bl (decide (i<=j))):=Aq λ_ _ _ _ _ _ _ q=>le_int q
def sQ:bx X (compareOp .Gt) (jO λi j=>.bl (decide (j<i))):=Aq λ_ _ _ _ _ _ _ q=>gt_int q
def Vs:bx X (compareOp .GtE) (jO λi j=>.bl (decide (j<=i))):=Aq λ_ _ _ _ _ _ _ q=>ge_int q
def Mp:bx X (compareOp .In) (λx y H Q=>∃i j,x=.str i/\y=.str j/\Q (.bl (!(Builtin.Str.occurrences j i 0 j.length 1).isEmpty)) H):=by
 intro J s σ H x y v u Q I rx ry h;obtain⟨i,j,rfl,rfl,q⟩:=h;obtain⟨t,rfl⟩:=rx;obtain⟨t',rfl⟩:=ry;show in_str (cG I q Y)
def rV:bx X (compareOp .Is) (λx y H Q=>y=.non/\Q (.bl (decide (x=.non))) H):=by
 intro J s σ H x y v u Q I rx ry h;obtain⟨rfl,q⟩:=h;cases ry;show is_none_gen (cG I q ?_);cases x<;>first
  |(cases rx;rfl)
  |(obtain⟨t,rfl⟩:=rx;rfl)
def B4(b:Expr)(h:autoParam (op≠.In) tD._auto_1)(M:autoParam (op≠.NotIn) tD._auto_1):behindInMarks op b=false:=by
 have e1:(op == CmpOp.In)=false:=by simp_all
 have e2:(op == CmpOp.NotIn)=false:=by simp_all
 cases b with
 |Set elts k pos=>show (k == 0&&(op == CmpOp.In || op == CmpOp.NotIn)&&_)=false;rw[e1,e2,U8,yv,Hg]
 |_=>rfl
def Hv(ho:bx X (compareOp op) r)(ha:PE X a ta)(hb:PE X b tb)(hm:behindInMarks op b=false):PE X (.Compare a [op] [b] pos) (fL r ta tb):=by
 intro J s σ H Q I h;show wpAny_Compare1 (IG ha hb I h λv u s2 x y H2 I2 rx ry q=>ho J s2 σ H2 x y v u Q I2 rx ry q) hm
def Bw(t:TE):TT:=λσ H Q=>t σ H λx O=>∃k,x=.bl k/\Q k O
def uh(ho:bx X (compareOp op) r)(ha:PE X a ta)(hb:PE X b tb)(hm:behindInMarks op b=false):PT X (.Compare a [op] [b] pos) (Bw (fL r ta tb)):=by
 intro J s σ H Q I h;show CC (ax (ha J s σ H _ I h) λv s1 ⟨x,H1,I1,r1,q1⟩=>ax (hb J s1 σ H1 _ I1 q1) λu s2 ⟨y,H2,I2,r2,q2⟩ =>
  ax (ho J s2 σ H2 x y v u _ I2 r1 r2 q2) λc s3 ⟨z,H3,I3,r3,k,e,q3⟩=>?_) hm
 subst e;cases r3;show mH ⟨H3,I3,q3⟩
def Xj(r r':R2)(ta tb tc:TE):TE:=λσ H Q=>ta σ H λx H1=>tb σ H1 λy H2=>r x y H2 λz H3=>∃k,z=.bl k /\
 (if k=true then tc σ H3 λw' H4=>r' y w' H4 Q else Q (.bl false) H3)
def zcN(ho:bx X (compareOp op) r)(gJ:bx X (compareOp op') r')(ha:PE X a ta)(hb:PE X b tb)(hc:PE X c tc)
  (hm:lastMarks [op,op'] [b,c]=false:=by with_unfolding_all rfl):PE X (.Compare a [op,op'] [b,c] pos) (Xj r r' ta tb tc):=by
 intro J s σ H Q I h;show Compare_chain (ax (ha J s σ H _ I h) λv s1 ⟨x,H1,I1,r1,q1⟩=>chain_link (ax (hb J s1 σ H1 _ I1 q1) λu s2 ⟨y,H2,I2,r2,q2⟩ =>
  ax (ho J s2 σ H2 x y v u _ I2 r1 r2 q2) λd s3 ⟨z,H3,I3,r3,k,e,q3⟩=>?_)) hm
 subst e;cases r3;show mH ?_;cases k with
 |false=>show ite_ff ⟨.bl false,H3,I3,Y,q3⟩
 |true=>show ite_tt (chain_last (ax (hc J s3 σ H3 _ I3 q3) (by rintro w' s4 ⟨z',H4,I4,r4,q4⟩;show gJ J s4 σ H4 y z' u w' Q I4 r2 r4 q4)))
def Vt(K:Frag)(x:V)(H:Hp)(k:Bool):Prop :=
 match x with
 |.non=>k=false
 |.bl b=>k=b
 |.int i=>k=(i != 0)
 |.str y=>y.length<=sizeLine/\k=((y.length:Int) != 0)
 |.byt y=>y.size<=sizeLine/\k=((y.size:Int) != 0)
 |.ref p=>(∃xs,ai K H p xs/\k = !xs.isEmpty)\/(∃xs,aD K H p xs/\k = !xs.isEmpty)\/∃kvs,H p=some (.dK kvs)/\k = !kvs.isEmpty
 |_=>False
def WJ(r:KV kvs vs):(!vs.isEmpty) = !kvs.isEmpty:=by
 cases r<;>rfl
def Ot(r:Vals xs ae):(!ae.toArray.isEmpty) = !xs.isEmpty:=by
 cases r<;>simp
def mL:(sizeLine:Nat)<2^63:=by rw[jZ];decide
def zbS:Z5 X (λx H Q=>∃k,Vt X.K x H k/\Q k H):=by
 intro J s σ H x v Q I rx h;obtain⟨k,e,q⟩:=h;have hl:=mL;have hs:=jZ;cases x with
 |non =>
  cases rx;have e':=e;subst e';show truthy_none ⟨H,I,q⟩
 |bl b =>
  cases rx;have e':=e;subst e';show mH ⟨H,I,q⟩
 |int i =>
  obtain⟨t,rfl⟩:=rx;have e':=e;subst e';show PySem.P.truthy_int ⟨H,I,q⟩
 |str y =>
  obtain⟨t,rfl⟩:=rx;obtain⟨hy,e'⟩:=e;subst e';show PySem.P.truthy_str tL ⟨H,I.tok _,q⟩
 |byt y =>
  obtain⟨t,rfl⟩:=rx;obtain⟨hy,e'⟩:=e;subst e';show PySem.W.truthy_bytes tL ⟨H,I.tok _,q⟩
 |ref p =>
  cases rx;have e':=e;rcases e' with ⟨xs,hx,e'⟩|⟨xs,hx,e'⟩|⟨kvs,hx,e'⟩
  .subst e';obtain⟨ae,r,pl,hz⟩:=I.list hx;have aL:=r.length;show wpAny_truthy_list pl.isList (by simp only[eR];lia) ⟨H,I.tok _,by rw[Ot r];show q⟩
  .subst e';obtain⟨ae,r,pl,hz⟩:=I.tuple hx;have aL:=r.length;show truthy_tuple pl (by grind) ⟨H,I.tok _,by rw[Ot r];show q⟩
  .subst e';obtain⟨hz,hS,vs,r,m⟩:=I.hok p _ hx;have aL:=eo r;show wpAny_truthy_dict hS m tL ⟨H,I.tok _,by rw[WJ r];show q⟩
 |_=>show (show False from e).elim
def rg(ha:PE X a ta)(he:∀whole,isTrue a X.env whole=(do let v <-whole;standAt a.pos;holding [v] (truthy v))) :
  PT X a (λσ H Q=>ta σ H λx O=>∃k,Vt X.K x O k/\Q k O):=by
 intro J s σ H Q I h;show isTrue_plain (ax (ha J s σ H _ I h) (by rintro v s1 ⟨x,H1,I1,r1,q1⟩;show zbS J s1 σ H1 x v Q I1 r1 q1)) (he _)
def cU:bx X (binaryOp .Add) (λx y H Q=>∃i j,x=.str i/\y=.str j/\i.length+j.length<=sizeLine/\Q (.str (i++j)) H):=by
 intro J s σ H x y v u Q I rx ry h;obtain⟨i,j,rfl,rfl,hz,q⟩:=h;obtain⟨t,rfl⟩:=rx;obtain⟨t',rfl⟩:=ry;show add_str (λt' tk=>⟨.str (i++j),H,I.tok _,⟨_,Y⟩,q⟩) hz
def gF(r:Vals [x] us):∃u,us=[u]/\RelV x u:=by
 cases r with
 |cons r1 r2=>cases r2;exists _,Y,r1
def xY(r:Vals [x,y] us):∃u w',us=[u,w']/\RelV x u/\RelV y w':=by
 cases r with
 |cons r1 r2 =>
  cases r2 with
  |cons r3 r4=>cases r4;exists _,_,Y,r1,r3
def BZ:gA X (.builtin "abs") (λxs H Q=>∃i,xs=[.int i]/\Q (.int (if i<0 then -i else i)) H):=by
 intro J s σ H xs us Q I r h;obtain⟨i,rfl,q⟩:=h;obtain⟨u,rfl,t,rfl⟩:=gF r;show call_abs_int λu tk=>⟨.int (if i<0 then -i else i),H,I.tok _,⟨_,Y⟩,q⟩
def GA:gA X (.type "int") (λxs H Q=>(∃i,xs=[.int i]/\Q (.int i) H)\/∃k,xs=[.bl k]/\Q (.int (if k then 1 else 0)) H):=by
 intro J s σ H xs us Q I r h;rcases h with ⟨i,rfl,q⟩|⟨k,rfl,q⟩
 .obtain⟨u,rfl,t,rfl⟩:=gF r;show call_int_int ⟨.int i,H,I,⟨_,Y⟩,q⟩
 .obtain⟨u,rfl,r1⟩:=gF r;cases r1;show call_int_bool ⟨.int (if k then 1 else 0),H,I.tok _,⟨_,Y⟩,q⟩
end
structure sy(h:Heap)(x dx C:Addr)(mA:Str->Option Value):Prop where
 obj:h.get? x=some (PySem.W.instObj C dx)
 ns:h.Ns1 dx mA
 ne:dx≠x
set_option tactic.hygienic true in
def XF{h:Heap}{dx:Addr}{mA:Str->Option Value}(n:h.Ns1 dx mA):∃od,h.get? dx=some od/\∀name,PySem.W.lookIn name od=some (mA name):=by
 obtain⟨o,es,ep,ho,hd,hk,_,hm⟩:=n;exists o,ho,λname=>?_;have e:=hm name;unfold nsFind findBy at e;rw[<-Array.find?_toList]at e;unfold PySem.W.lookIn;rw[hd];dsimp only;split
 .rename_i y q;rw[q]at e;show congrArg some e
 .rename_i q;rw[q]at e;have a:es.toList.any (·.refKey)=false:=by
   rw[List.any_eq_false];intro y hy;obtain⟨z,t,Zv⟩:=hk y (uj.mp hy);simp[DictEntry.refKey,Zv]
  have a':¬es.toList.any (·.refKey)=true:=by rw[a];show dj
  rw[ah a'];show congrArg some e
def sy.look(I:sy h x dx C mA):∃od,PySem.W.InstAt h x (PySem.W.instObj C dx) C (some od)/\∀name,PySem.W.lookIn name od=some (mA name) :=
 let ⟨od,ho,hl⟩:=XF I.ns
 ⟨od,⟨I.obj,Y,Y,ho⟩,hl⟩
section
variable{prog:Program}{w:World}{A:Around}{E:Value->Shared->Prop}{s:Shared}{K:Frag}{x dx C f:Addr}{mA:Str->Option Value}{name:Str}{v:Value}
def zfc(X:K.In s.heap)(I:sy s.heap x dx C mA)(hg:PySem.W.plainGet K C name=true)(hh:PySem.W.hasDictIn K C=true)
  (ha:PySem.W.findIn K (.ref C) name=some none) (hv:mA name=some v) (hv':PySem.W.handedIn v=true) (h:Q v {s with toks:=s.toks+1}) :
  wpAny (model prog w) A (getAttr (.ref x) name expr) Q E s:=by
 obtain⟨od,qae,hl⟩:=I.look;show PySem.W.get_value X qae (Ib hg).1 (PySem.W.findObj_own hh ha Y (by rw[hl,hv])) hv' h
def zbq(X:K.In s.heap)(I:sy s.heap x dx C mA)(hg:PySem.W.plainGet K C name=true)
  (hf:PySem.W.findIn K (.ref C) name=some (some (.ref f))) (ht:PySem.W.isFn K (.ref f)=true) (hv:mA name=none) (h:Q (.ref f,[.ref x]) s) :
  wpAny (model prog w) A (getMethod (.ref x) name pl) Q E s:=by
 obtain⟨od,qae,hl⟩:=I.look;show PySem.W.method_fn X qae (Ib hg).1 (Ib hg).2 hf (kR.mp ht) (by show (PySem.W.lookIn name od).map (·.isSome)=some false;rw[hl,hv];rfl) h
def zeR(X:K.In s.heap)(I:sy s.heap x dx C mA)
  (hs:PySem.W.findIn K (.ref C) "__setattr__" = some (some (.builtin "object.__setattr__"))) (hp:PySem.W.plainOver K C=true) (ht:PySem.W.takerIn K C name=some none) (hh:PySem.W.hasDictIn K C=true)
  (hw:PySem.Within mA ns) (hsz:ns.length<=sizeLine)
  (h:∀h',sy h' x dx C (λy=>if y=name then some v else mA y)->Heap.SameBut dx s.heap h'->Q () {s with heap:=h',toks:=s.toks+2}) :
  wpAny (model prog w) A (setAttr (.ref x) name v) Q E s:=by
 obtain⟨od,qae,hl⟩:=I.look;show PySem.W.set_plain X qae hs (PySem.W.osa_open (s:={s with toks:=s.toks+1}) (r:=none) X qae hp ht λb=>?_);obtain⟨cd,hc,qz⟩:=PySem.W.any_some hh;have hx:=I.obj;show aq (aS (aq (aq (wpAny_loadPart hx (aq (jif (s:={s with toks:=s.toks+1}) (PySem.W.looks_clsIn X hc) ?_))))));rw[qz];show aS (a:=some dx) (aq (aS (aq ?_)));show wpAny_nsSet1 (s:={s with toks:=s.toks+1}) I.ns λh' df iy=>?_
 obtain⟨oD,esD,epD,Zk,hdD,hcD⟩:=df.count (jij name v hw);show aq (wpAny_lookBehind Zk (by rw[hdD];show pastItsLine_dict (a9 hcD (by simp_all))) ?_);show aS (h _ ⟨(iy.2 _ (Ne.symm I.ne)).trans I.obj,df,I.ne⟩ iy)
def zbb(X:K.In s.heap)(hm:PySem.W.makesIn K C=true)
  (hi:PySem.W.findIn K (.ref C) "__init__" = some (some (.ref f))) (hf:PySem.W.typeIn K (.ref f)=some (.type "function"))
  (h:codeAny (model prog w) (A.under (.builtin "type.__call__" ⟨.ref C :: vs,kw⟩)) (.call (.ref f) ⟨.ref (s.heap.objs.size+1) :: vs,kw⟩) (PySem.W.InitBack (s.heap.objs.size+1) R) {s with heap:=(s.heap.push PySem.W.emptyDict).push (PySem.W.instObj C s.heap.objs.size)}) :
  codeAny (model prog w) A (.call (.ref C) ⟨vs,kw⟩) R s:=by
 obtain⟨hh,g,d,t,os⟩:=s;show PySem.W.make_core (PySem.W.makes_of X hm) (PySem.W.looks_findIn X hi) (λself=>PySem.W.bind_fn X self hf) (.inl Y) h
end
noncomputable def gS(f:Str)(v:V):List (Str×V)->List (Str×V)
 |[]=>[(f,v)]
 |(g,x)::r=>if g=f then (g,v)::r else (g,x)::gS f v r
theorem Qb(f g:Str)(v:V):∀fs:List (Str×V),(gS f v fs).lookup g=if g=f then some v else fs.lookup g
 |[]=>by
  show List.lookup g [(f,v)]=_;by_cases h:g=f
  .have hb:=kR.mpr h;simp only[List.lookup,hb,aj h]
  .have hb:=xM.mpr h;simp only[List.lookup,hb,ah h]
 |(k,x)::r=>by
  have ih:=Qb f g v r;rw[show gS f v ((k,x)::r)=(if k=f then (k,v)::r else (k,x)::gS f v r) from rfl];by_cases hk:k=f
  .rw[aj hk];by_cases h:g=k
   .have hb:=kR.mpr h;simp only[List.lookup,hb,aj (h.trans hk)]
   .have hb:=xM.mpr h;simp only[List.lookup,hb,ah (λe:g=f=>h (e.trans hk.symm))]
  .rw[ah hk];by_cases h:g=k
   .have hb:=kR.mpr h;simp only[List.lookup,hb,ah (λe:g=f=>hk (h.symm.trans e))]
   .have hb:=xM.mpr h;simp only[List.lookup,hb];show ih
theorem En(f:Str)(v:V):∀fs:List (Str×V),f∈(gS f v fs).map (·.1)/\∀g,g∈fs.map (·.1)->g∈(gS f v fs).map (·.1)
 |[]=>⟨by simp[gS],λg h=>by simp at h⟩
 |(k,x)::r=>by
  obtain⟨i1,i2⟩:=En f v r;rw[show gS f v ((k,x)::r)=(if k=f then (k,v)::r else (k,x)::gS f v r) from rfl];by_cases hk:k=f
  .rw[aj hk];subst hk;show⟨tS,λg h=>by simpa using h⟩
  .rw[ah hk];exists ?_,λg h=>?_
   .rw[bz];show cX _ i1
   .rw[bz]at h ⊢;rcases aV.mp h with e|e
    .exact aV.mpr (.inl e)
    .exact cX _ (i2 g e)
theorem RL(f:Str)(v:V):∀fs:List (Str×V),(gS f v fs).length<=fs.length+1
 |[]=>by simp[gS]
 |(k,x)::r=>by
  have ih:=RL f v r;rw[show gS f v ((k,x)::r)=(if k=f then (k,v)::r else (k,x)::gS f v r) from rfl];by_cases hk:k=f
  .rw[aj hk,bf,bf];lia
  .rw[ah hk,bf,bf];lia
def gz.some_of(r:gz (some v) o):∃u,o=some u/\RelV v u:=by
 cases o with
 |none=>show (show False from r).elim
 |some u=>exists u,Y,r
def gz.none_of(r:gz none o):o=none:=by
 cases o with
 |none=>rfl
 |some u=>show (show False from r).elim
def zbA(r:RelV v u):PySem.W.handedIn u=true:=by
 cases v with
 |non=>cases (show u=Value.none from r);rfl
 |bl b=>cases (show u=Value.bool b from r);rfl
 |int i=>obtain⟨t,e⟩:=(show ∃t,u=Value.int i t from r);cases e;rfl
 |str x=>obtain⟨t,e⟩:=(show ∃t,u=Value.str x t from r);cases e;rfl
 |byt b=>obtain⟨t,e⟩:=(show ∃t,u=Value.bytes b t from r);cases e;rfl
 |flt b=>obtain⟨t,e⟩:=(show ∃t,u=Value.float b t from r);cases e;rfl
 |ref a=>cases (show u=Value.ref a from r);rfl
 |ty n=>cases (show u=Value.type n from r);rfl
section
variable{P:Program}{w:World}{H O:Hp}{h h':Heap}{a C dx:Addr}{fs fs':List (Str×V)}
def Fs(hok:cz P w H h)(e:H a=some (.ins C dx fs)):∃mA,sy h a dx C mA/\(∀f,gz (fs.lookup f) (mA f))/\PySem.Within mA (fs.map (·.1))/\fs.length<=1000/\H dx=some (.own a):=by
 obtain⟨d,z,ne,ob,mA,n,r,q⟩:=(show cI P w H h a (.ins C dx fs) from hok a _ e);exists mA,⟨ob,n,ne⟩,r,q,z,d
end
structure lH(K:Frag)(C:Addr):Prop where
 pg:PySem.W.plainGet K C Str.empty=true
 hd:PySem.W.hasDictIn K C=true
 po:PySem.W.plainOver K C=true
 sa:PySem.W.findIn K (.ref C) "__setattr__" = some (some (.builtin "object.__setattr__"))
def lH.get{K:Frag}{C:Addr}(c:lH K C)(f:Str):PySem.W.plainGet K C f=true:=c.pg
def qS(K:Frag)(C:Addr)(f:Str):Prop:=PySem.W.findIn K (.ref C) f=some none
def qS.taker{K:Frag}{C:Addr}{f:Str}(n:qS K C f):PySem.W.takerIn K C f=some none:=by
 unfold PySem.W.takerIn;rw[show PySem.W.findIn K (.ref C) f=some none from n];rfl
structure yr(K:Frag)(C:Addr)(m:Str)(f:Addr):Prop where
 at_:PySem.W.findIn K (.ref C) m=some (some (.ref f))
 fn:PySem.W.isFn K (.ref f)=true
 kp:PySem.W.keepIn K (.ref f)=true
section
variable{X:Cx}{J:List (Addr×Obj)}{σ:St}{H:Hp}{s:Shared}{a C dx:Addr}{fs:List (Str×V)}{f:Str}{v:V}{A:Around}{E:Value->Shared->Prop}
def zaC(I:Inv X J σ H s)(e:H a=some (.ins C dx fs))(c:lH X.K C)(n:qS X.K C f)(l:fs.lookup f=some v)
  (h:∀u s',Inv X J σ H s'->RelV v u->Q u s'):wpAny (model X.prog X.w) A (getAttr (.ref a) f b) Q E s:=by
 obtain⟨mA,qac,r,_,_,_⟩:=Fs I.hok e;obtain⟨u,hu,ru⟩:=gz.some_of (v:=v) (o:=mA f) (by rw[<-l];show r f);show zfc I.kIn qac (c.get f) c.hd n hu (zbA ru) (h u _ (I.tok _) ru)
def Qo(I:Inv X J σ H s)(e:H a=some (.ins C dx fs))(c:lH X.K C)(k:yr X.K C m g)(l:fs.lookup m=none)
  (h:Q (.ref g,[.ref a]) s):wpAny (model X.prog X.w) A (getMethod (.ref a) m pl) Q E s:=by
 obtain⟨mA,qac,r,_,_,_⟩:=Fs I.hok e;have hn:=gz.none_of (by rw[<-l];show r m);show zbq I.kIn qac (c.get m) k.at_ k.fn hn h
def zdZ(I:Inv X J σ H s)(e:H a=some (.ins C dx fs))(c:lH X.K C)(n:qS X.K C f)(hl:fs.length<1000)(ry:RelV y u)
  (h:∀s',Inv X J σ (upd H a (.ins C dx (gS f y fs))) s'->Q () s'):wpAny (model X.prog X.w) A (setAttr (.ref a) f u) Q E s:=by
 obtain⟨mA,qac,r,wi,_,ho⟩:=Fs I.hok e;have hz:(fs.map (·.1)).length<=sizeLine:=by rw[ar,jZ];lia
 show zeR I.kIn qac c.sa c.po n.taker c.hd wi hz λh' O' sb=>h _ ?_
 have hd:∃o,h'.get? dx=some o:=let ⟨o,_,_,e',_⟩:=O'.ns; ⟨o,e'⟩
 show I.write (x:=a) (e:=dx) (by rw[e];show True.intro) (.inr ho) (λb q hb z=>(sb.2 b hb).trans z) hd ?_;exists by rw[aG qac.ne];show ho,?_,qac.ne,O'.obj,_,O'.ns,λg=>?_,λg hg=>?_
 .have:=RL f y fs;lia
 .show gz ((gS f y fs).lookup g) (if g=f then some u else mA g);rw[Qb];by_cases q:g=f
  .rw[aj q,aj q];show ry
  .rw[ah q,ah q];show r g
 .by_cases q:g=f
  .rw[q];show (En f y fs).1
  .refine (En f y fs).2 g (wi g λz=>hg ?_);show (if g=f then some u else mA g)=none;rw[ah q];show z
def Inv.made(I:Inv X J σ H s):Inv X J σ (upd (upd H s.heap.objs.size (.own (s.heap.objs.size+1))) (s.heap.objs.size+1) (.ins C s.heap.objs.size []))
  {s with heap:=(s.heap.push PySem.W.emptyDict).push (PySem.W.instObj C s.heap.objs.size)}:=by
 have e1:(s.heap.push PySem.W.emptyDict).get? s.heap.objs.size=some PySem.W.emptyDict:=cQ s.heap rfl;have e2:((s.heap.push PySem.W.emptyDict).push (PySem.W.instObj C s.heap.objs.size)).get? (s.heap.objs.size+1)=some (PySem.W.instObj C s.heap.objs.size):=by
  have:=cQ (s.heap.push PySem.W.emptyDict) (o:=PySem.W.instObj C s.heap.objs.size) rfl
  rwa [rK]at this
 have e3:(s.heap.push PySem.W.emptyDict).Ns s.heap.objs.size (λ_=>none):=⟨PySem.W.emptyDict,#[],_,e1,Y,(λe he=>absurd he tS),λ_=>rfl⟩;have I1:=I.laid (a:=s.heap.objs.size) (o:=.own (s.heap.objs.size+1)) (h':=s.heap.push PySem.W.emptyDict) (t':=s.toks) (λb u q=>bZ _ q) (aC _) ⟨_,e1⟩;show I1.laid (a:=s.heap.objs.size+1) (o:=.ins C s.heap.objs.size []) (t':=s.toks) (λb u q=>bZ _ q) (Ji (rK _ _)) ?_;have ne:s.heap.objs.size≠s.heap.objs.size+1:=bR (B5 _);exists by rw[aG ne,ao],bJ _,ne,e2,λ_=>none,(Heap.Ns1.of_empty e3).at λo q=>bZ _ q,λ_=>True.intro,λy hy=>absurd rfl hy
def Yd(hb:attributeBase e f env (eval e env)=eval e env)
  (h:wpAny (model prog w) A (eval e env) (λo s₁=>wpAny (model prog w) A (getAttr o f true) Q E s₁) E s):wpAny (model prog w) A (eval (.Attribute e f pos) env) Q E s :=
 Attribute_any_ h (by rw[arm_eval_Attribute,hb])
end
def ze2(K:Frag)(ta:TE)(f:Str):TE:=λσ H Q=>ta σ H λx H1=>∃a C dx fs v,x=.ref a/\H1 a=some (.ins C dx fs)/\lH K C/\qS K C f/\fs.lookup f=some v/\Q v H1
def zfa(K:Frag)(ta tv:TE)(f:Str):TS:=λD σ H=>tv σ H λy H1=>ta σ H1 λx H2=>∃a C dx fs,x=.ref a/\H2 a=some (.ins C dx fs)/\lH K C/\qS K C f/\fs.length<1000 /\
 D.nx σ (upd H2 a (.ins C dx (gS f y fs)))
section
variable{X:Cx}{o e value:Expr}{f:Str}{pos pos' tpos:Pos}{ta tv:TE}
def Jm(he:PE X e ta)(hb:attributeBase e f X.env (eval e X.env)=eval e X.env):PE X (.Attribute e f pos) (ze2 X.K ta f):=by
 intro J s σ H Q I h;show Yd hb (ax (he J s σ H _ I h) ?_);rintro u s1 ⟨x,H1,I1,rx,a,C,dx,fs,v,ex,ea,c,n,l,q⟩;subst ex;obtain rfl:u=Value.ref a:=rx;show zaC I1 ea c n l λu' s2 I2 ru=>⟨v,H1,I2,ru,q⟩
def YY(ha:PE X o ta)(hv:PE X value tv)(hs:swapsWith value (some (.Attribute o f pos')) pos.line X.env=pure false):PS X (.Assign [.Attribute o f pos'] value pos) (zfa X.K ta tv f):=by
 intro J s σ H D I h;show plainObj_wpAny_Assign_Attribute (ax (hv J s σ H _ I h) ?_) hs;rintro u s1 ⟨y,H1,I1,ry,q⟩;show ax (ha J s1 σ H1 _ I1 q) ?_;rintro ov s2 ⟨x,H2,I2,rx,a,C,dx,fs,ex,ea,c,n,l,q2⟩;subst ex;obtain rfl:ov=Value.ref a:=rx;show zdZ I2 ea c n l ry λs3 I3=>⟨σ,_,I3,q2⟩
end
structure bY(k:Nat)(A:Around):Prop where
 hd:A.handled=none
 dp:A.depth+3*k+5<recursionLimit
 un:A.units+16*k+200<cLine
def bY.mono(r:bY k A)(h:j<=k):bY j A:=⟨r.hd,by have:=r.dp;lia,by have:=r.un;lia⟩
def bY.deeper(r:bY (k+1) A)(env:Env):bY k (A.deeper env) :=
 ⟨r.hd,by have:=r.dp;show A.depth+1+3*k+5<_;lia,by have:=r.un;show A.units+3+16*k+200<_;lia⟩
def zbf{A:Around}{C:Addr}{us:List Value}{kw:List (Str×Value)}:(A.under (.builtin "type.__call__" ⟨.ref C::us,kw⟩)).depth=A.depth+1:=by
 first|rfl|simp[Around.under,Code.weight,Code.isCreation,Code.isGuard,Code.isCaller,Code.frames,Code.isFrame,guardIds]
def zdT{A:Around}{C:Addr}{us:List Value}{kw:List (Str×Value)}:(A.under (.builtin "type.__call__" ⟨.ref C::us,kw⟩)).units=A.units+1:=by
 first|rfl|simp[Around.under,Code.cUnits,Code.frames,Code.isFrame]
def bY.make(r:bY (k+1) A)(C:Addr)(us:List Value)(kw:List (Str×Value)):bY k (A.under (.builtin "type.__call__" ⟨.ref C::us,kw⟩)) :=
 ⟨r.hd,by have:=r.dp;rw[zbf];lia,by have:=r.un;rw[zdT];lia⟩
def bY.depth(r:bY k A):A.depth<recursionLimit:=by have:=r.dp;lia
def bY.units(r:bY k A):A.units+64<cLine:=by have:=r.un;lia
def nV:TA:=λ_ H Q=>Q [] H
def jw(ta:TE)(tr:TA):TA:=λσ H Q=>ta σ H λx H1=>tr σ H1 λxs H2=>Q (x::xs) H2
section
variable{X:Cx}{e:Expr}{es:List Expr}{te:TE}{t:TA}{pos:Pos}
def dC:PA X [] nV:=λ_ _ _ _ H Q I h=>xo ⟨[],H,I,.nil,h⟩
def bN(ha:PE X e te)(hr:PA X es t)(hs:autoParam (starEach (e::es) X.env=(false,eval e X.env)::starEach es X.env) tR._auto_1):PA X (e::es) (jw te t):=by
 intro pos J s σ H Q I h;rw[hs];show qf (ax (ha J s σ H _ I h) ?_);rintro u s1 ⟨x,H1,I1,r1,q1⟩;show ax (hr pos J s1 σ H1 _ I1 q1) (by rintro us s2 ⟨xs,H2,I2,r2,q2⟩;exists x::xs,H2,I2,.cons r1 r2,q2)
def Jj(t:TA):TE:=λσ H Q=>t σ H λxs H1=>xs.length<=sizeLine/\∀p,H1 p=none->Q (.ref p) (upd H1 p (.tup xs))
def Sd(t:TA):TE:=λσ H Q=>t σ H λxs H1=>xs.length<=sizeLine/\∀p,H1 p=none->Q (.ref p) (upd H1 p (.lst xs))
def zcB{x1}(h:PA X es t):PE X (.Tuple es x1 pos) (Jj t):=by
 intro J s σ H Q I hq;show wpAny_Tuple_spliced (ax (h pos J s σ H _ I hq) λus s1 ⟨xs,H1,I1,r,z,q⟩=>⟨by rw[<-r.length];show z,?_⟩);have hf:=I1.hok.fresh (aC _);exists .ref s1.heap.objs.size,upd H1 s1.heap.objs.size (.tup xs),I1.laid (t':=s1.toks) (λb u e=>bZ _ e) (aC _) ?_,Y,q _ hf;exists z,us,r,⟨_,cQ _ Y,Y,_,Y⟩
def V2(h:PA X es t):PE X (.List es pos) (Sd t):=by
 intro J s σ H Q I hq;show wpAny_List_spliced (ax (h pos J s σ H _ I hq) λus s1 ⟨xs,H1,I1,r,z,q⟩=>⟨by rw[<-r.length];show z,?_⟩);have hf:=I1.hok.fresh (aC _);exists .ref s1.heap.objs.size,upd H1 s1.heap.objs.size (.lst xs),I1.laid (t':=s1.toks) (λb u e=>bZ _ e) (aC _) ?_,Y,q _ hf;exists z,us,0,r,cQ _ rfl
end
abbrev Sp:=List V->Hp->VK->XK->Prop
abbrev kd:=List Env->Hp->Shared->XK->Value->Shared->Prop
structure sZ(P:Program)(w:World)(K:Frag)(mg:Str->Option Value)(base:Heap)(A:Around)(outer:List Env)(s:Shared)(H:Hp):Prop where
 frames:A.frames=some outer
 mod:Mod K mg base
 bs:∀b o,base.get? b=some o->s.heap.get? b=some o/\H b=none
 bsz:base.objs.size<=s.heap.objs.size
 funs:s.heap.FunFrames base outer
 frf:∀b∈bT outer,H b=none
 hok:cz P w H s.heap
 bare:AllBare s.gens
def CE(outer:List Env)(P:Program)(w:World)(H:Hp)(s:Shared)(Q:VK)(u:Value)(s':Shared):Prop :=
 ∃v O,s'.os=s.os/\AllBare s'.gens/\Un (bT outer) [] H O s.heap s'.heap/\cz P w O s'.heap/\RelV v u/\Q v O
def CR(CX:kd)(outer:List Env)(P:Program)(w:World)(H:Hp)(s:Shared)(Q:VK)(E:XK)(r:Result)(s':Shared):Prop :=
 match r with
 |.ok (.ret u)=>CE outer P w H s Q u s'
 |.ok _=>False
 |.error e=>CX outer H s E e s'
structure hV(P:Program)(w:World)(K:Frag)(mg:Str->Option Value)(base:Heap)(CX:kd)(k:Nat)(f:Addr)(fd:FuncData)(ps:List Str)(sp:Sp):Prop where
 len:∀vs H Q E,sp vs H Q E->vs.length=ps.length
 run:∀(A:Around) (outer:List Env) (s:Shared) (H:Hp) (args:Args) (us:List Value) (vs:List V) (Q:VK) (E:XK),bY k A->sZ P w K mg base A outer s H->BindsTo s fd args (ps.zip us)->Vals vs us->sp vs H Q E ->
  codeAny (model P w) A (.call (.ref f) args) (CR CX outer P w H s Q E) s
def sZ.make{P:Program}{w:World}{K:Frag}{mg:Str->Option Value}{base:Heap}{A:Around}{outer:List Env}{s:Shared}{H:Hp}(e:sZ P w K mg base A outer s H)(C:Addr)(us:List Value)(kw:List (Str×Value)) :
  sZ P w K mg base (A.under (.builtin "type.__call__" ⟨.ref C::us,kw⟩)) outer s H:=⟨by first|show e.frames|(simpa [Around.under,Code.envs,Code.isFrame,pushEnvs] using e.frames),e.mod,e.bs,e.bsz,e.funs,e.frf,e.hok,e.bare⟩
section
variable{X:Cx}{J:List (Addr×Obj)}{σ:St}{H:Hp}{s s':Shared}
def Inv.env0(I:Inv X J σ H s):sZ X.prog X.w X.K X.mg X.base X.A X.stack s H :=
 ⟨I.ok.frames,I.ok.mod,I.bs,a9 I.ok.bsz I.sz,I.stack,I.stkFree,I.hok,I.bare⟩
def Inv.after(I:Inv X J σ H s)(h:CE X.stack X.prog X.w H s Q u s'):EP X J σ Q u s':=by
 obtain⟨v,O,os,bare,un,hok,r,q⟩:=h;obtain⟨hh,g,d,t,os'⟩:=s';obtain rfl:os'=s.os:=os;exists v,O,I.call (h':=hh) (g':=g) (d':=d) (t':=t) (ch:=[]) un hok bare (λb z=>absurd z tS),r,q
end
def AM(sp:Sp)(eX:List V)(E:XK)(t:TA):TE:=λσ H Q=>t σ H λvs H1=>sp (vs++eX) H1 Q E
def zbE(C:Addr)(m:Str)(sp:Sp)(eX:List V)(E:XK)(ta:TE)(t:TA):TE:=λσ H Q=>ta σ H λx H1=>∃a dx fs,x=.ref a/\H1 a=some (.ins C dx fs)/\fs.lookup m=none /\
 t σ H1 λvs H2=>sp (x::(vs++eX)) H2 Q E
def zck(C:Addr)(sp:Sp)(eX:List V)(E:XK)(t:TA):TE:=λσ H Q=>t σ H λvs H1=>∀x dx,H1 x=none->H1 dx=none->dx≠x ->
 sp (.ref x::(vs++eX)) (upd (upd H1 dx (.own x)) x (.ins C dx [])) (λv H2=>v=.non/\Q (.ref x) H2) E
def Binds(K:Frag)(fd:FuncData)(ps:List Str)(ds:List Value):Prop :=
 ∀(s:Shared) (us:List Value),K.In s.heap->(us++ds).length=ps.length->BindsTo s fd ⟨us,[]⟩ (ps.zip (us++ds))
def Binds.all{K:Frag}{fd:FuncData}{ps:List Str}(h:∀us:List Value,us.length=ps.length->bindArgs fd ⟨us,[]⟩=pure (ps.zip us)):Binds K fd ps []:=λs us _ hl=>by
 rw[gg]at hl ⊢;show .of_eq (h us hl)
def qg(CX:kd)(X:Cx)(E:XK):Prop:=∀(J:List (Addr×Obj)) (σ:St) (H:Hp) (s:Shared) (e:Value) (s':Shared),Inv X J σ H s->CX X.stack H s E e s'->X.xe e s'
section
variable{X:Cx}{CX:kd}{k:Nat}{f C:Addr}{fd:FuncData}{ps:List Str}{sp:Sp}{eX:List V}{ds:List Value}{E:XK}{x m:Str}{p pos da:Pos}{e o:Expr}{es:List Expr}{ta:TE}{t:TA}
set_option tactic.hygienic true in
def Hi(F:hV X.prog X.w X.K X.mg X.base CX k f fd ps sp)(hr:bY k X.A)(hb:Binds X.K fd ps ds)(hd:Vals eX ds)(hx:qg CX X E)
  (I:Inv X J σ H s) (r:Vals vs us) (h:sp (vs++eX) H Q E):wpAny (model X.prog X.w) X.A (call (.ref f) us) (EP X J σ Q) X.xe s:=by
 have r2:=r.append hd;have hl:(us++ds).length=ps.length:=by rw[<-r2.length];show F.len _ _ _ _ h
 show wpAny_call (yE (F.run X.A X.stack s H ⟨us,[]⟩ (us++ds) (vs++eX) Q E hr I.env0 (hb s us I.kIn hl) r2 h) λr s' hq=>?_);cases r with
 |error e=>show hx J σ H s e s' I hq
 |ok fl =>
  cases fl with
  |ret u=>show I.after hq
  |next=>show False.elim hq
  |brk=>show False.elim hq
  |cont=>show False.elim hq
def oU(F:hV X.prog X.w X.K X.mg X.base CX k f fd ps sp)(hr:bY k X.A)(hg:Gl X x)(hm:X.mg x=some (.ref f))(hk:PySem.W.keepIn X.K (.ref f)=true)(hb:Binds X.K fd ps ds)(hd:Vals eX ds)(hx:qg CX X E)
  (ha:PA X (e::es) t) (kN:autoParam ((x == ("__debug__" : Str))=false) tD._auto_1) (he:autoParam (starEach (e::es) X.env=(false,eval e X.env)::starEach es X.env) tR._auto_1) (cj:autoParam ((backTo pos (starEach es X.env)).any (·.1)=false) tR._auto_1) :
  PE X (.Call (.Name x p) (e::es) [] pos) (AM sp eX E t):=by
 intro J s σ H Q I h;show xk (uA I hg hm ?_ kN);show Ae (h₀:=X.base) I.ok.mod.kin hk (ax (ha pos J s σ H _ I h) ?_) he cj;rintro us s1 ⟨vs,H1,I1,r,q⟩;exists I1.kIn,?_;show Hi F hr hb hd hx I1 r q
def vA(he:PE X o ta)(c:lH X.K C)(hm:yr X.K C m f)(F:hV X.prog X.w X.K X.mg X.base CX k f fd ps sp)(hr:bY k X.A)(hb:Binds X.K fd ps ds)(hd:Vals eX ds)(hx:qg CX X E)(ha:PA X (e::es) t)
  (bp:autoParam (starEach (e::es) X.env=(false,eval e X.env)::starEach es X.env) tR._auto_1) (cj:autoParam ((backTo pos (starEach es X.env)).any (·.1)=false) tR._auto_1)
  (ht:autoParam (eval (.Call (.Attribute o m da) (e :: es) [] pos) X.env=(do
   let ov <-eval o X.env
   standAt da.atName
   let (f,first) <-holding [ov] (getMethod ov m pl)
   callWith pos f first (backTo pos (starEach (e::es) X.env)) (backToKw pos (keywordEach [] X.env)))) tR._auto_1) :
  PE X (.Call (.Attribute o m da) (e::es) [] pos) (zbE C m sp eX E ta t):=by
 intro J s σ H Q I h;show VW (pl:=pl) (ax (he J s σ H _ I h) ?_) ht;rintro u s1 ⟨x,H1,I1,rx,a,dx,fs,ex,ea,l,q⟩;subst ex;obtain rfl:u=Value.ref a:=rx;show Qo I1 ea c hm l ?_;show Ae (first:=[.ref a]) (h₀:=X.base) I.ok.mod.kin hm.kp (ax (ha pos J s1 σ H1 _ I1 q) ?_) bp cj;rintro us s2 ⟨vs,H2,I2,r,q2⟩;exists I2.kIn,?_;show Hi (us:=.ref a::us) (vs:=.ref a::vs) F hr hb hd hx I2 (.cons Y r) q2
structure Mk(K:Frag)(C f:Addr):Prop where
 makes:PySem.W.makesIn K C=true
 init:PySem.W.findIn K (.ref C) "__init__" = some (some (.ref f))
 fn:PySem.W.isFn K (.ref f)=true
 kp:PySem.W.keepIn K (.ref C)=true
set_option tactic.hygienic true in
def zaO(qad:Mk X.K C f)(F:hV X.prog X.w X.K X.mg X.base CX k f fd ps sp)(hr:bY (k+1) X.A)(hb:Binds X.K fd ps ds)(hd:Vals eX ds)
  (hx:qg CX X E) (I:Inv X J σ H s) (r:Vals vs us)
  (h:∀x dx,H x=none->H dx=none->dx≠x->sp (.ref x::(vs++eX)) (upd (upd H dx (.own x)) x (.ins C dx [])) (λv H2=>v=.non/\Q (.ref x) H2) E) :
  wpAny (model X.prog X.w) X.A (call (.ref C) us) (EP X J σ Q) X.xe s:=by
 have hq:=h (s.heap.objs.size+1) s.heap.objs.size (I.hok.fresh (mK _)) (I.hok.fresh (aC _)) (bR (B5 _));have I2:=Inv.made (C:=C) I;have r2:Vals (V.ref (s.heap.objs.size+1)::(vs++eX)) (Value.ref (s.heap.objs.size+1)::(us++ds)):=.cons Y (r.append hd);have hl:(Value.ref (s.heap.objs.size+1)::us++ds).length=ps.length:=by
  have e:=r2.length;rw[F.len _ _ _ _ hq]at e;show e.symm
 show wpAny_call (zbb (f:=f) I.kIn qad.makes qad.init (kR.mp qad.fn) (yE (F.run _ X.stack _ _ ⟨Value.ref (s.heap.objs.size+1) :: us,[]⟩ (Value.ref (s.heap.objs.size+1) :: (us++ds)) _ _ E (hr.make C us []) (I2.env0.make C us []) (hb _ (Value.ref (s.heap.objs.size+1)::us) I2.kIn hl) r2 hq) λr s' ke=>?_))
 cases r with
 |error e=>show hx J σ _ _ e s' I2 ke
 |ok fl =>
  cases fl with
  |ret u =>
   obtain⟨v,O,I3,rv,ev,q3⟩:=I2.after ke;subst ev;exists rv,⟨V.ref (s.heap.objs.size+1),O,I3,Y,q3⟩
  |next=>show False.elim ke
  |brk=>show False.elim ke
  |cont=>show False.elim ke
def zfH(qad:Mk X.K C f)(F:hV X.prog X.w X.K X.mg X.base CX k f fd ps sp)(hr:bY (k+1) X.A)(hg:Gl X x)(hm:X.mg x=some (.ref C))(hb:Binds X.K fd ps ds)(hd:Vals eX ds)(hx:qg CX X E)
  (kN:autoParam ((x == ("__debug__" : Str))=false) tD._auto_1):PE X (.Call (.Name x p) [] [] pos) (zck C sp eX E nV):=by
 intro J s σ H Q I h;show xk (uA I hg hm ?_ kN);show PySem.W.callWith_K0 I.kIn qad.kp (zaO (us:=[]) qad F hr hb hd hx I .nil h)
end
structure nM(N P:List Str)(sc:Scope):Prop where
 kind:sc.kind=.function
 co:sc.isCoroutine=false
 gen:sc.isGenerator=false
 nd:N.Nodup
 pre:N.take P.length=P
 par:∀x∈P,sc.names.lookup x=some .local\/sc.names.lookup x=some .cell
 nofree:∀y∈sc.names,y.2≠.free
theorem Vi{kindOf:Str->Option NameKind}{x:Str}:∀{binds:List (Str×Value)}{m:Str->Option Value},(∀v,(x,v)∉binds)->bindL kindOf binds m x=m x
 |[],_,_=>rfl
 |(n,v)::r,m,h=>by
  unfold bindL;rw[Vi λw hw=>h w (cX _ hw)];split
  .have:x≠n:=by rintro rfl;show h v jP
   simp[this]
  .rfl
theorem Td{kindOf:Str->Option NameKind}{x:Str}:∀{binds:List (Str×Value)}{m:Str->Option Value},(∀v,(x,v)∉binds)->bindC kindOf binds m x=m x
 |[],_,_=>rfl
 |(n,v)::r,m,h=>by
  unfold bindC;rw[Td λw hw=>h w (cX _ hw)];split
  .rfl
  .have:x≠n:=by rintro rfl;show h v jP
   simp[this]
theorem MW{kindOf:Str->Option NameKind}{x:Str}{v:Value}:∀{P:List Str}{vs:List Value}{i:Nat}{m:Str->Option Value},P.Nodup->P[i]?=some x->vs[i]?=some v->kindOf x=some .local ->
  bindL kindOf (P.zip vs) m x=some v
 |[],_,_,_,_,h,_,_=>by simp at h
 |_::_,[],_,_,_,_,h,_=>by simp at h
 |p::P,w::vs,0,m,nd,Z,M,hk=>by
  simp at Z M;subst Z;subst M;show bindL kindOf ((p,w)::P.zip vs) m p=_;unfold bindL;rw[Vi λv hv=>(i8.mp nd).1 (wb hv).1,aj hk];simp
 |p::P,w::vs,i+1,m,nd,Z,M,hk=>by
  unfold bindL;show MW (i:=i) (i8.mp nd).2 (by simpa using Z) (by simpa using M) hk
theorem UR{kindOf:Str->Option NameKind}{x:Str}{v:Value}:∀{P:List Str}{vs:List Value}{i:Nat}{m:Str->Option Value},P.Nodup->P[i]?=some x->vs[i]?=some v->kindOf x≠some .local ->
  bindC kindOf (P.zip vs) m x=some v
 |[],_,_,_,_,h,_,_=>by simp at h
 |_::_,[],_,_,_,_,h,_=>by simp at h
 |p::P,w::vs,0,m,nd,Z,M,hk=>by
  simp at Z M;subst Z;subst M;show bindC kindOf ((p,w)::P.zip vs) m p=_;unfold bindC;rw[Td λv hv=>(i8.mp nd).1 (wb hv).1,ah hk];simp
 |p::P,w::vs,i+1,m,nd,Z,M,hk=>by
  unfold bindC;show UR (i:=i) (i8.mp nd).2 (by simpa using Z) (by simpa using M) hk
noncomputable def jF(N:List Str)(vs:List V):St:=vs.map some++List.replicate (N.length-vs.length) none
def jh(CX:kd)(P:Program)(w:World)(K:Frag)(mg:Str->Option Value)(base:Heap)(N:List Str)(qual:Str)(scope:Scope)(f:Addr)(cd:Value)(A:Around)(outer:List Env)(s:Shared)(H:Hp)(E:XK):Cx where
 prog:=P
 w:=w
 K:=K
 mg:=mg
 base:=base
 A:=A.deeper (envOfC qual scope s.heap.objs.size f cd)
 N:=N
 s₀:=s
 H₀:=H
 env:=envOfC qual scope s.heap.objs.size f cd
 outer:=outer
 stack:=envOfC qual scope s.heap.objs.size f cd::outer
 ex:=[]
 calm:=true
 fn:=λ_=>true
 pn:=[]
 xe:=λe s'=>wpAny (model P w) (A.deeper (envOfC qual scope s.heap.objs.size f cd)) (leaving (envOfC qual scope s.heap.objs.size f cd) e) (λ_ mZ=>CX outer H s E e mZ) (λe' mZ=>CX outer H s E e' mZ) s'
def Uc{sc:Scope}{n:Nat}{x:Str}(h:sc.names.lookup x=some .cell):∃c,(cellsFrom n sc.names []).lookup x=some c:=by
 have q:=Q6 sc.names n [] (.inl h);show OK.mp q
def zdP{CX:kd}{P:Program}{w:World}{K:Frag}{mg:Str->Option Value}{base:Heap}{N ps:List Str}{qual:Str}{scope:Scope}{f:Addr}{cd:Value}{A:Around}{outer:List Env}{s s1:Shared}{H:Hp}{E:XK}{us:List Value}{vs:List V}
  (S:nM N ps scope) (hd:A.handled=none) (e0:sZ P w K mg base A outer s H) (hl:vs.length=ps.length) (r:Vals vs us)
  (x:InCallC s s.heap.objs.size (bindL (envOfC qual scope s.heap.objs.size f cd).kindOf (ps.zip us) λ_=>none) (cellsFrom (s.heap.objs.size+1) scope.names []) (bindC (envOfC qual scope s.heap.objs.size f cd).kindOf (ps.zip us) λ_=>none) s1) :
  Inv (jh CX P w K mg base N qual scope f cd A outer s H E) [] (jF N vs) H s1:=by
 have cj:ps.length<=N.length:=by have:=congrArg List.length S.pre;rw[cZ]at this;lia
 obtain⟨Z,tk,rfl,hk⟩:=x.done;have xR:∀b:Addr,b∉(jh CX P w K mg base N qual scope f cd A outer s H E).ex:=λb z=>absurd (show b∈([]:List Addr) from z) tS
 show⟨⟨e0.mod,S.kind,Y,Y,aC _,λy z c Z M=>?_,λy hy=>?_,λy c _ h=>?_,λ_=>hd,Around.frames_deeper e0.frames,.inr ⟨Y,Y⟩,λb z=>absurd z (xR b),e0.bs,e0.bsz,λb _ _=>xR b,λb z=>absurd z (xR b),e0.funs,e0.frf⟩,Y,e0.bare,Un.kept hk,⟨_,x.toInCall.ns,λi y v Z M h3=>?_⟩,λy c h=>⟨_,x.cell y c h⟩,e0.hok.fresh (aC _),λy c h=>?_,λp hp=>absurd (show p∈([]:List (Addr×Obj)) from hp) tS,e0.hok.kept hk,?_⟩
 .exact name_of_addr x.apart (qW Z) (qW M)
 .have hy:=hy;rcases hy with hy|hy
  .exact Uc hy
  .exact absurd Y (S.nofree _ (qW hy))
 .exact dH (x.above y c (qW h))
 .have hi:i<vs.length:=by
   unfold jF at M;by_cases hi:i<vs.length
   .exact hi
   .rw[BN (by simpa using hi)]at M;rw[Nj]at M;split at M<;>cases M
  have ha:vs[i]?=some v:=by
   unfold jF at M;rw[zM (by simpa using hi),c9]at M;cases e:vs[i]? with
   |none=>rw[e]at M;cases M
   |some a=>rw[e]at M;cases M;rfl
  obtain⟨u,hu,rv⟩:=r.get ha;have hp:ps[i]?=some y:=by
   rw[<-S.pre,Cf tL];show Z
  have Sj:ps.Nodup:=by rw[<-S.pre];show S.nd.sublist (dQ _ _)
  exists u,rv,?_;rcases S.par y (c8 hp)with k|k
  .exact .inl ⟨k,MW Sj hp hu k⟩
  .obtain⟨c,e⟩:=Uc (n:=s.heap.objs.size+1) k;show .inr ⟨.inl k,c,e,?_⟩;have q:=x.cell y c e;rw[UR Sj hp hu (by show scope.names.lookup y≠_;rw[k];decide)]at q;show q
 .exact e0.hok.fresh (dH (x.above y c (qW h)))
 .unfold jF;show _=N.length;rw[aX,ar,yd];lia
set_option tactic.hygienic true in
def Wi{CX:kd}{P:Program}{w:World}{K:Frag}{mg:Str->Option Value}{base:Heap}{k:Nat}{f:Addr}{name qual:Str}{params:Arguments}{body:List Stmt}{scope:Scope}{dV kV doc pm bL ct oc:Value}{an od:Option Addr}
  {oK:Array (Option Value)}{N ps:List Str}{sp:Sp} (lk:K.lookup f=some ⟨oc,od,.func (PySem.W.fnOf name qual params body scope dV kV doc pm an bL ct),oK⟩) (jl:PySem.W.codeIn K bL qual=true) (S:nM N ps scope)
  (len:∀vs H Q E,sp vs H Q E->vs.length=ps.length)
  (Fx:∀ (A:Around) (outer:List Env) (s:Shared) (H:Hp) (vs:List V) (Q:VK) (E:XK),bY k (A.deeper (envOfC qual scope s.heap.objs.size f bL))->sp vs H Q E -> ∃t,dg (jh CX P w K mg base N qual scope f bL A outer s H E) body t/\t {nx:=λ_ O=>Q .non O,rt:=Q} (jF N vs) H) :
  hV P w K mg base CX (k+1) f (PySem.W.fnOf name qual params body scope dV kV doc pm an bL ct) ps sp:=by
 exists len,λA outer s H args us vs Q E hr e0 hb r gU=>?_;have hl:=len _ _ _ _ gU;have KX:=e0.mod.kin.keeps λb o e=>(e0.bs b o e).1
 have lim:=e0.mod.nolimit.keeps λb o e=>(e0.bs b o e).1
 have Gs:∀y∈ps.zip us,scope.names.lookup y.1=some .local\/(scope.names.lookup y.1=some .cell/\((cellsFrom (s.heap.objs.size+1) scope.names []).lookup y.1).isSome=true):=λ⟨n,v⟩ hy=>by
  rcases S.par n (wb hy).1 with q|q
  .exact .inl q
  .exact .inr ⟨q,Q6 _ _ _ (.inl q)⟩
 show codeAny_call_function hr.depth (KX _ _ lk) Y S.co S.gen Y (PySem.W.codeRec_of KX jl) (hb _ _ _ _ ?_);show wpAny_newFunctionEnv_cells S.kind Gs λenv he s1 x=>?_
 subst he;exists lim.keeps x.toInCall.keep,codeAny_func ?_;obtain⟨t,ht,hq⟩:=Fx A outer s H vs Q E (hr.deeper _) gU;have I:Inv (jh CX P w K mg base N qual scope f bL A outer s H E) [] (jF N vs) H s1:=zdP S hr.hd e0 hl r x;show cC (ht [] s1 (jF N vs) H _ I hq) (λfl s' hs=>?_) λe s' hs=>hs
 have fin:∀{σ':St}{O:Hp}{v:V}{u:Value},Inv (jh CX P w K mg base N qual scope f bL A outer s H E) [] σ' O s'->RelV v u->Q v O->CE outer P w H s Q u s' :=
  fun {σ' O v u} qae rv q=>⟨v,O,qae.os,qae.bare,qae.base,qae.hok,rv,q⟩
 cases fl with
 |ret u =>
  obtain⟨v,σ',O,qae,rv,q⟩:=hs;show fin qae rv q
 |next =>
  obtain⟨σ',O,qae,q⟩:=hs;show fin (v:=V.non) (u:=Value.none) qae Y q
 |brk =>
  obtain⟨_,_,_,q⟩:=hs;show False.elim q
 |cont =>
  obtain⟨_,_,_,q⟩:=hs;show False.elim q
section
variable{X:Cx}{x:Str}{p pos:Pos}{e:Expr}{es:List Expr}{t:TA}{id T:String}{r:List V->Hp->VK->Prop}
def F7(r:List V->Hp->VK->Prop)(t:TA):TE:=λσ H Q=>t σ H λvs H1=>r vs H1 Q
def gj(hc:gA X (.builtin id) r)(hg:Gl X x)(hm:X.mg x=none)(hv:bootBuiltins x=some (.builtin id))(ha:PA X (e::es) t)(hn:autoParam (x ≠ "__name__") tD._auto_1)(kN:autoParam ((x == ("__debug__" : Str))=false) tD._auto_1)
  (he:autoParam (starEach (e::es) X.env=(false,eval e X.env)::starEach es X.env) tR._auto_1) (cj:autoParam ((backTo pos (starEach es X.env)).any (·.1)=false) tR._auto_1):PE X (.Call (.Name x p) (e::es) [] pos) (F7 r t):=by
 intro J s σ H Q I h;show xk (nq I hg hm hv ?_ hn kN);show jgl (ax (ha pos J s σ H _ I h) (by rintro us s1 ⟨vs,H1,I1,r1,q1⟩;show hc J s1 σ H1 vs us Q I1 r1 q1)) he cj
def kr(hc:gA X (.type T) r)(hg:Gl X x)(hm:X.mg x=none)(hv:bootBuiltins x=some (.type T))(ha:PA X (e::es) t)(hn:autoParam (x ≠ "__name__") tD._auto_1)(kN:autoParam ((x == ("__debug__" : Str))=false) tD._auto_1)
  (he:autoParam (starEach (e::es) X.env=(false,eval e X.env)::starEach es X.env) tR._auto_1) (cj:autoParam ((backTo pos (starEach es X.env)).any (·.1)=false) tR._auto_1):PE X (.Call (.Name x p) (e::es) [] pos) (F7 r t):=by
 intro J s σ H Q I h;show xk (nq I hg hm hv ?_ hn kN);show su (ax (ha pos J s σ H _ I h) (by rintro us s1 ⟨vs,H1,I1,r1,q1⟩;show hc J s1 σ H1 vs us Q I1 r1 q1)) he cj
end
end L2
namespace HT
open PySem PyProof.Rows
section
variable{prog:Program}{w:World}{A:Around}{E:Value->Shared->Prop}{s:Shared}
def cat_tup(ht:IsTup s.heap t vs.toArray)(hb:IsTup s.heap b ws.toArray)(hv:vs≠[])
  (Z:ws=[]->Q (.ref t) s) (M:ws≠[]->Q (.ref s.heap.objs.size) {s with heap:=s.heap.push {cls:=.type "tuple",data:=.seq (vs++ws).toArray}})
  (hsz:vs.length+ws.length<=sizeLine):wpAny (model prog w) A (binaryOp .Add (.ref t) (.ref b)) Q E s:=by
 obtain⟨⟨cls,dd,data,sl⟩,ho,hc,n,hd⟩:=id ht;obtain⟨⟨cls2,pU,data2,fK⟩,j7,oh,n2,hd2⟩:=id hb;simp only at hc hd oh hd2;subst hc hd oh hd2;have e:vs.toArray++ws.toArray=(vs++ws).toArray:=by simp
 by_cases hw:ws=[]
 .exact concat_meets ⟨_,ho,Y⟩ ⟨_,j7,Y⟩ noFill_tuple_add seq_tuple_add Oo LQ (TQ _ _)
   (tuple_addW1 t b vs.toArray ws.toArray n n2 dd pU sl fK (by simpa using hv) (by simp[hw])) ⟨ho,j7,Z hw⟩
 .refine concat_meets ⟨_,ho,Y⟩ ⟨_,j7,Y⟩ noFill_tuple_add seq_tuple_add Oo LQ (TQ _ _)
   (tuple_addW2 t b vs.toArray ws.toArray n n2 dd pU sl fK (by simpa using hv) (by simpa using hw) (by assumption)) ⟨ho,j7,?_⟩
  rw[e];show M hw
noncomputable def sIx(n d:Nat):Option Int->Nat
 |none=>d
 |some v=>if v<0 then (v+(n:Int)).toNat else min v.toNat n
def sIx_none(n d:Nat):sIx n d none=d:=rfl
def sIx_nat(n d k:Nat):sIx n d (some (k:Int))=min k n:=by
 show (if (k:Int)<0 then ((k:Int)+(n:Int)).toNat else min (k:Int).toNat n)=min k n;rw[ah tL,iu]
def zat(n d:Nat)(hd:d<=n)(o:Option Int):sIx n d o<=n:=by
 cases o with
 |none=>show hd
 |some v =>
  show (if v<0 then (v+(n:Int)).toNat else min v.toNat n)<=n;by_cases hv:v<0
  .rw[aj hv];lia
  .rw[ah hv];show RF _ _
def Md(v:Int)(n d:Nat):(if v<0 then max (v+(n:Int)) 0 else min v (n:Int))=((sIx n d (some v):Nat):Int):=by
 show (if v<0 then max (v+(n:Int)) 0 else min v (n:Int))=(((if v<0 then (v+(n:Int)).toNat else min v.toNat n):Nat):Int);by_cases hv:v<0
 .simp only[aj hv];lia
 .simp only[ah hv];lia
def XI(lo hi:Option Int)(n:Nat):Builtin.Slice.sliceAdjust lo hi 1 (n:Int)=(((sIx n 0 lo:Nat):Int),((sIx n n hi:Nat):Int)):=by
 have Z:¬((1:Int)<0):=by lia
 unfold Builtin.Slice.sliceAdjust;simp only[Z,dw];show Hl ?_ ?_
 .cases lo with
  |none=>rfl
  |some v=>show Md v n 0
 .cases hi with
  |none=>rfl
  |some v=>show Md v n n
def zeS(i j:Nat):Builtin.Slice.slicePlaces (i:Int) (j:Int) 1=j-i:=by
 unfold Builtin.Slice.slicePlaces;have Z:(1:Int)>0:=by lia
 simp only[Z,eS,Int.ediv_one];split<;>lia
def Ru(p:IsPart v o)(h:Q o s):wpAny (model prog w) A (Builtin.Slice.slicePartIndex v) Q E s:=by
 cases p with
 |none=>show slicePart_none h
 |int i t=>show slicePart_int h
def zcQ{sl:Addr}{vl vu:Value}{lo hi:Option Int}{n:Nat}{Q:Int×Int×Nat->Shared->Prop}(hs:s.heap.IsSliceOf sl vl vu .none)(pl:IsPart vl lo)(pu:IsPart vu hi)
  (h:Q (((sIx n 0 lo:Nat):Int),1,sIx n n hi-sIx n 0 lo) s):wpAny (model prog w) A (Builtin.Slice.sliceApplied (.ref sl) (pure (n:Int))) Q E s:=by
 obtain⟨os,xV,lV,sJ⟩:=id hs;show aq (aq (iD xV sJ (x:=vl) Y (aq (iD xV sJ (x:=vu) Y (aq (iD xV sJ (x:=.none) Y (aS ?_)))))));show aq (slicePart_none ?_);rw[ah tD];show aq (Ru pl (aq (Ru pu (aq (aS ?_)))));show wpAny _ _ (match Builtin.Slice.sliceAdjust lo hi 1 (n:Int)with|(lo,hi)=>pure (lo,(1:Int),Builtin.Slice.slicePlaces lo hi 1)) _ _ s;rw[XI lo hi n];show wpAny _ _ (pure (((sIx n 0 lo:Nat):Int),(1:Int),Builtin.Slice.slicePlaces ((sIx n 0 lo:Nat):Int) ((sIx n n hi:Nat):Int) 1)) _ _ s;rw[zeS];show aS h
def ZV(xs:Array Value)(i k:Nat):((List.range k).filterMap λ(m:Nat)=>xs[((i:Int)+(m:Int)*1).toNat]?).toArray=((xs.toList.drop i).take k).toArray:=by
 have e:(λ(m:Nat)=>xs[((i:Int)+(m:Int)*1).toNat]?)=λm=>xs[i+m]?:=by grind
 rw[e]
 have:=pick_run xs i k
 rw[PR]at this;have e2:((λx=>xs[x]?) ∘ λx=>i+x)=λm=>xs[i+m]?:=rfl
 rw[e2]at this;rw[this]
def getItem_tuple_cut{t sl:Addr}{items:Array Value}{vl vu:Value}{lo hi:Option Int}{Q:Value->Shared->Prop}(ht:IsTup s.heap t items)(hs:s.heap.IsSliceOf sl vl vu .none)(pl:IsPart vl lo)(pu:IsPart vu hi)
  (hw:¬(sIx items.size 0 lo=0/\sIx items.size items.size hi=items.size))
  (h:Q (.ref s.heap.objs.size) {s with heap:=s.heap.push {cls:=.type "tuple",data:=.seq ((items.toList.drop (sIx items.size 0 lo)).take (sIx items.size items.size hi-sIx items.size 0 lo)).toArray}})
  (hsz:items.size<=sizeLine):wpAny (model prog w) A (getItem (.ref t) (.ref sl)) Q E s:=by
 have B9:sizeOk (.seq ((items.toList.drop (sIx items.size 0 lo)).take (sIx items.size items.size hi-sIx items.size 0 lo)).toArray):=by
  show ((items.toList.drop (sIx items.size 0 lo)).take (sIx items.size items.size hi-sIx items.size 0 lo)).toArray.size<=sizeLine;rw[eR,cZ,mW,gy];clear h hw;lia
 have hj:sIx items.size items.size hi<=items.size:=zat _ _ (aC _) hi;obtain⟨os,xV,lV,sJ⟩:=id hs;have hTs:s.TypeIs (.ref sl) "slice" := ⟨os,xV,lV⟩;unfold getItem
 try with_reducible show kI ?_
 first|show aq (aS ?_)|skip
 show aq (wpAny_sequenceKey ht.typeIs tD ?_);show aq (tW (name:=ofString "__getitem__") ht.typeIs K7 (my K7 ht.typeIs entry_tuple_getitem ?_ (args_tuple_getitem _ _)))
 show wpAny _ _ (Builtin.Tuple.tupleItemsOf (.ref t) >>= _) _ _ s;show aq (tupleItemsOf_ ht ?_);show aq (Dx hTs ?_);rw[aj tD];show aq (zcQ hs pl pu ?_);have zB:¬((((sIx items.size 0 lo:Nat):Int) == 0&&(1:Int) == 1&&(sIx items.size items.size hi-sIx items.size 0 lo) == items.size)=true):=by simp_all
 show wpAny _ _ (if (((sIx items.size 0 lo:Nat):Int) == 0&&(1:Int) == 1&&(sIx items.size items.size hi-sIx items.size 0 lo) == items.size)=true then _ else _) _ _ s;rw[ah zB,ZV]
 first
  |show aq (m:=Builtin.Tuple.tupleExact _) (qH (aS ⟨_,Y,aS h⟩) B9)
  |show aq (m:=Builtin.Tuple.tupleExact _) (qH (aq (aS (aS ⟨_,Y,aS h⟩))) B9)
  |show aq (aq (m:=Builtin.Tuple.tupleExact _) (qH (aS (aS ⟨_,Y,aS h⟩)) B9))
  |show aq (aq (m:=Builtin.Tuple.tupleExact _) (qH (aS ⟨_,Y,aS h⟩) B9))
end
end HT
namespace L2
open PySem PySem.Spec PyProof.Rows
abbrev TO:=St->Hp->(Option Int->Hp->Prop)->Prop
def PO(X:Cx)(e:Option Expr)(t:TO):Prop :=
 ∀(J:List (Addr×Obj)) (s:Shared) (σ:St) (H:Hp) (Q:Option Int->Hp->Prop),Inv X J σ H s->t σ H Q ->
  wpAny (model X.prog X.w) X.A (evalPart e X.env) (λu s'=>∃o O,Inv X J σ O s'/\IsPart u o/\Q o O) X.xe s
def zfP:TO:=λ_ H Q=>Q none H
def YF(t:TE):TO:=λσ H Q=>t σ H λx H1=>∃i,x=.int i/\Q (some i) H1
def wu:∀{us:List Value},Vals (ns.map V.int) us->IntsAre us ns:=by
 induction ns with
 |nil=>intro us r;rw[o6]at r;cases r;show .nil
 |cons n ns ih =>
  intro us r;rw[bz]at r;cases r with
  |cons r1 r2 =>
   obtain⟨t,e⟩:=r1;subst e;show .cons n t (ih r2)
section
variable{X:Cx}{e:Expr}{te:TE}{lo hi:Option Expr}{tl th:TO}{pos p2:Pos}
def MC:PO X none zfP:=by
 intro J s σ H Q I h;rw[Iu];show aS ⟨none,H,I,.none,h⟩
def lD(h:PE X e te):PO X (some e) (YF te):=by
 intro J s σ H Q I hw;rw[evalPart_some];show ax (h J s σ H _ I hw) ?_;rintro u s1 ⟨x,H1,I1,r1,q1⟩;obtain⟨i,rfl,q⟩:=q1;obtain⟨t,rfl⟩:=r1;exists some i,H1,I1,.int i t,q
def AL(X:Cx)(r:V->Option Int->Option Int->Hp->VK->Prop):Prop :=
 ∀(J:List (Addr×Obj)) (s:Shared) (σ:St) (H:Hp) (x:V) (v vl vu:Value) (lo hi:Option Int) (sl:Addr) (Q:VK),Inv X J σ H s->RelV x v->s.heap.IsSliceOf sl vl vu .none->IsPart vl lo->IsPart vu hi->r x lo hi H Q ->
  ∃T id,typeLookup (.type T) "__getitem__" = pure (some (.builtin id))/\s.TypeIs v T/\wpAny (model X.prog X.w) X.A (getItem v (.ref sl)) (EP X J σ Q) X.xe s
def X3(r:V->Option Int->Option Int->Hp->VK->Prop)(te:TE)(tl th:TO):TE:=λσ H Q=>te σ H λx H1=>tl σ H1 λl H2=>th σ H2 λu H3=>r x l u H3 Q
def fI(hr:AL X r)(he:PE X e te)(hl:PO X lo tl)(hu:PO X hi th):PE X (.Subscript e (.Slice lo hi none p2) pos) (X3 r te tl th):=by
 intro J s σ H Q I h;show tZ (ax (he J s σ H _ I h) ?_);rintro v s1 ⟨x,H1,I1,r1,q1⟩;show wpAny_Slice (ax (hl J s1 σ H1 _ I1 q1) ?_);rintro vl s2 ⟨l,H2,I2,pl,q2⟩;show ax (hu J s2 σ H2 _ I2 q2) ?_;rintro vu s3 ⟨u,H3,I3,pu,q3⟩;rw[Iu];show aS ?_;have I4:Inv X J σ H3 {s3 with heap:=s3.heap.push {cls:=.type "slice",data:=.fields #[vl,vu,.none]}}:=I3.kept (t':=s3.toks) λb ob q=>bZ _ q
 obtain⟨T,id,hT,ht,hg⟩:=hr J {s3 with heap:=s3.heap.push {cls:=.type "slice",data:=.fields #[vl,vu,.none]}} σ H3 x v vl vu l u s3.heap.objs.size Q I4 r1 (Od ..) pl pu q3;show tail_any (ops:=[.ref s3.heap.objs.size,v]) ht hT hg (by with_unfolding_all rfl)
def dy(xs:List V)(lo hi:Option Int):List V:=(xs.drop (HT.sIx xs.length 0 lo)).take (HT.sIx xs.length xs.length hi-HT.sIx xs.length 0 lo)
def V6(xs:List V)(lo hi:Option Int):(dy xs lo hi).length<=xs.length:=by
 unfold dy;rw[cZ,mW];show a9 (RF _ _) (Nat.sub_le _ _)
def X1(K:Frag):V->Option Int->Option Int->Hp->VK->Prop:=λx lo hi H Q=>∃a xs,x=.ref a/\aD K H a xs /\
 ¬(HT.sIx xs.length 0 lo=0/\HT.sIx xs.length xs.length hi=xs.length)/\∀p,H p=none->Q (.ref p) (upd H p (.tup (dy xs lo hi)))
def zbm:AL X (X1 X.K):=by
 intro J s σ H x v vl vu lo hi sl Q I rx hs pl pu h;obtain⟨a,xs,rfl,hx,hw,q⟩:=h;cases rx;obtain⟨ae,r,ht,hz⟩:=I.tuple hx;have aL:ae.toArray.size=xs.length:=by rw[eR];show r.length.symm
 exists "tuple",_,PyProof.Rows.slot_tuple_getitem.lookup,ht.typeIs,?_;show HT.getItem_tuple_cut ht hs pl pu (by rw[aL];show hw) ?_ (by rw[aL];show hz);rw[aL];exists .ref s.heap.objs.size,_,I.laid (t':=s.toks) (o:=.tup (dy xs lo hi)) (λb ob q=>bZ _ q) (aC _) ?_,Y,q _ (I.hok.fresh (aC _));exists a9 (V6 xs lo hi) hz,_,(r.drop (HT.sIx xs.length 0 lo)).take (HT.sIx xs.length xs.length hi-HT.sIx xs.length 0 lo),Mc _ _
def WC(K:Frag):R2:=λx y H Q=>∃a b xs ys,x=.ref a/\y=.ref b/\aD K H a xs/\aD K H b ys/\xs≠[]/\xs.length+ys.length<=sizeLine /\
 (ys=[]->Q (.ref a) H)/\(ys≠[]->∀p,H p=none->Q (.ref p) (upd H p (.tup (xs++ys))))
def Vals.nil_iff(r:Vals xs us):us=[]↔xs=[]:=by
 cases r with
 |nil=>simp
 |cons _ _=>simp
def LH:bx X (binaryOp .Add) (WC X.K):=by
 intro J s σ H x y v u Q I rx ry h;obtain⟨a,b,xs,ys,rfl,rfl,ha,hb,hx,hz,q1,q2⟩:=h;cases rx;cases ry;obtain⟨ae,r1,p1,_⟩:=I.tuple ha;obtain⟨dB,r2,p2,_⟩:=I.tuple hb;show HT.cat_tup p1 p2 (λz=>hx (r1.nil_iff.mp z)) (λz=>⟨.ref a,H,I,Y,q1 (r2.nil_iff.mp z)⟩) (λz=>?_) (by rw[<-r1.length,<-r2.length];show hz);exists .ref s.heap.objs.size,_,I.laid (t':=s.toks) (o:=.tup (xs++ys)) (λb ob q=>bZ _ q) (aC _) ?_,Y,q2 (λw=>z (r2.nil_iff.mpr w)) _ (I.hok.fresh (aC _));exists by simp_all,_,r1.append r2,Mc _ _
end
noncomputable def jE(n:Nat)(i:Int):Option Nat:=if 0<=i then (if i<n then some i.toNat else none)else if -(n:Int)<=i then some (i+n).toNat else none
def gN{α:Type}(xs:List α)(i:Int):Option α:=(jE xs.length i).bind λj=>xs[j]?
def PN(h:jE n i=some j):seqIndex? i n=some j/\j<n /\ -(n:Int)<=i/\i<n:=by
 unfold jE at h;by_cases h0:0<=i
 .rw[aj h0]at h;by_cases Z:i<n
  .rw[aj Z]at h;have e:=di h;exists by rw[seqIndex_of h0 Z,e],tL,tL,Z
  .rw[ah Z]at h;cases h
 .rw[ah h0]at h;by_cases Z : -(n:Int)<=i
  .rw[aj Z]at h;have e:=di h;exists by rw[seqIndex_neg tL Z,e],tL,Z,tL
  .rw[ah Z]at h;cases h
def Cq(h:gN xs i=some v):∃j,seqIndex? i xs.length=some j/\xs[j]?=some v/\j<xs.length /\ -(xs.length:Int)<=i/\i<xs.length:=by
 unfold gN at h;cases e:jE xs.length i with
 |none=>rw[e]at h;cases h
 |some j =>
  rw[e]at h;obtain⟨Z,M,h3,h4⟩:=PN e;exists j,Z,h,M,h3,h4
def cf{α:Type}{xs:List α}{j:Nat}{v:α}(h:xs[j]?=some v):gN xs (j:Int)=some v:=by
 have hj:=(cq.mp h).1;have e:jE xs.length (j:Int)=some j:=by
  unfold jE;rw[aj tL,aj tL];simp
 unfold gN;rw[e];show h
def uX(b:Expr):Prop:=∀o i,subscripted b false o i=operate [o,i] (getItem o i)
def kD(X:Cx)(r:R2):Prop :=
 ∀(value slice:Expr) (J:List (Addr×Obj)) (s:Shared) (σ:St) (H:Hp) (x y:V) (v u:Value) (Q:VK),Inv X J σ H s->RelV x v->RelV y u->r x y H Q ->
  subscripted slice false v u=operate [v,u] (getItem v u)->wpAny (model X.prog X.w) X.A (subscriptTail value slice v u) (EP X J σ Q) X.xe s
def N2(X:Cx)(id:String)(r:V->List V->Hp->VK->Prop):Prop :=
 ∀(J:List (Addr×Obj)) (s:Shared) (σ:St) (H:Hp) (x:V) (xs:List V) (v:Value) (us:List Value) (Q:VK),Inv X J σ H s->RelV x v->Vals xs us->r x xs H Q ->
  wpAny (model X.prog X.w) X.A (call (.builtin id) (v::us)) (EP X J σ Q) X.xe s
section
variable{X:Cx}{a b:Expr}{ta tb:TE}{pos:Pos}
def BQ(hr:kD X r)(ha:PE X a ta)(hb:PE X b tb)(hs:uX b):PE X (.Subscript a b pos) (fL r ta tb):=by
 intro J s σ H Q I h;show tZ (IG ha hb I h λv u s2 x y H2 I2 rx ry q=>hr a b J s2 σ H2 x y v u Q I2 rx ry q (hs _ _))
def VA(K:Frag):R2:=λx y H Q=>∃p xs i v,x=.ref p/\y=.int i/\ai K H p xs/\gN xs i=some v/\Q v H
def zc5(K:Frag):R2:=λx y H Q=>∃p xs i v,x=.ref p/\y=.int i/\aD K H p xs/\gN xs i=some v/\Q v H
def LP:R2:=λx y H Q=>∃z i c,x=.str z/\y=.int i/\z.length<=sizeLine/\gN z.cps.toList i=some c/\Q (.str ⟨#[c]⟩) H
def Pa:kD X (VA X.K):=by
 intro value slice J s σ H x y v u Q I rx ry h hs;obtain⟨p,xs,i,z,rfl,rfl,hq,he,q⟩:=h;cases rx;obtain⟨t,rfl⟩:=ry;obtain⟨ae,r,pl,hz⟩:=I.list hq;obtain⟨j,Z,M,h3,h4,h5⟩:=Cq he;obtain⟨w,ew,fS⟩:=r.get M;have hl:=r.length;have hn:=mL;have fin:EP X J σ Q w s:=⟨z,H,I,fS,q⟩;by_cases h0:0<=i
 .have hj:i.toNat=j:=by
   rw[seqIndex_of h0 h5]at Z;show di Z
  show item_listR pl.isList h0 tL (by rw[hj];simpa using ew) fin hs
 .have hj:(i+(ae.toArray.size:Int)).toNat=j:=by
   rw[seqIndex_neg tL h4]at Z;rw[eR,<-hl];show di Z
  show subscriptTail_builtinR (x:=w) pl.isList.typeIs slot_list_getitem.lookup
   (wpAny_getItem_list_neg (Q:=λr s'=>r=w/\EP X J σ Q r s') pl.isList tL (by simp_all) tL (by rw[hj];simpa using ew) ⟨Y,fin⟩) hs
def zbk:kD X (zc5 X.K):=by
 intro value slice J s σ H x y v u Q I rx ry h hs;obtain⟨p,xs,i,z,rfl,rfl,hq,he,q⟩:=h;cases rx;obtain⟨t,rfl⟩:=ry;obtain⟨ae,r,pl,hz⟩:=I.tuple hq;obtain⟨j,Z,M,h3,h4,h5⟩:=Cq he;obtain⟨w,ew,fS⟩:=r.get M;have hl:=r.length;have hn:=mL;have fin:EP X J σ Q w s:=⟨z,H,I,fS,q⟩;show subscriptTail_builtinR (x:=w) pl.typeIs slot_tuple_getitem.lookup
  (getItem_tuple (j:=j) (Q:=λr s'=>r=w/\EP X J σ Q r s') pl tL tL (by simp_all) (by simpa using ew) ⟨Y,fin⟩) hs
def zO:kD X LP:=by
 intro value slice J s σ H x y v u Q I rx ry h hs;obtain⟨z,i,c,rfl,rfl,hz,he,q⟩:=h;obtain⟨t,rfl⟩:=rx;obtain⟨t',rfl⟩:=ry;obtain⟨j,Z,M,h3,h4,h5⟩:=Cq he;have hl:z.cps.toList.length=z.length:=by simp[Str.length]
 rw[hl]at Z h4 h5;have hn:=mL;show tail_any (lX s z t) slot_str_getitem.lookup (getItem_str (c:=c) (by lia) (by rw[Z];simpa using M) ⟨.str ⟨#[c]⟩,H,I.tok _,⟨_,Y⟩,q⟩) hs
def W0(ae:List Value)(n j:Nat)(u:Value):Obj.mapSeq (·.setIfInBounds j u) {cls:=.type "list",data:=.seq ae.toArray n}={cls:=.type "list",data:=.seq (ae.set j u).toArray n}:=by
 simp[Obj.mapSeq]
def Inv.lst(I:Inv X J σ H s)(h:H p=some (.lst xs)) :
  ∃(ae:List Value) (n:Nat),Vals xs ae/\s.heap.get? p=some {cls:=.type "list",data:=.seq ae.toArray n}/\xs.length<=sizeLine:=by
 obtain⟨z,ae,n,r,e⟩:=I.hok p _ h;exists ae,n,r,e,z
def Inv.lstUpd{J:List (Addr×Obj)}{σ:St}{H:Hp}{s:Shared}{p:Addr}{xs ys:List V}{ae its':List Value}{n n':Nat}{f:Obj->Obj}(I:Inv X J σ H s)(h:H p=some (.lst xs))
  (ho:s.heap.get? p=some {cls:=.type "list",data:=.seq ae.toArray n}) (hf:f {cls:=.type "list",data:=.seq ae.toArray n}={cls:=.type "list",data:=.seq its'.toArray n'}) (r:Vals ys its') (hz:ys.length<=sizeLine) (t:Nat) :
  Inv X J σ (upd H p (.lst ys)) {s with heap:=s.heap.update p f,toks:=t}:=by
 have e:(s.heap.update p f).get? p=some {cls:=.type "list",data:=.seq its'.toArray n'}:=by
  rw[RD f ho (by rw[hf]<;>rfl),hf]
 show I.write (x:=p) (e:=p) (by rw[h];trivial) (.inl Y) (λb u hb q=>(Oh _ _ (Ne.symm hb)).trans q) ⟨_,e⟩ ?_;exists hz,its',n',r,e
def zgf:V->V->V->Hp->(Hp->Prop)->Prop:=λo i v H Q=>∃p xs k j,o=.ref p/\i=.int k/\H p=some (.lst xs)/\jE xs.length k=some j/\Q (upd H p (.lst (xs.set j v)))
def TB:Vx X zgf:=by
 intro J s σ H o i v ov iv u Q I ro ri rv h;obtain⟨p,xs,k,j,rfl,rfl,hp,hj,q⟩:=h;cases ro;obtain⟨t,rfl⟩:=ri;obtain⟨ae,n,r,ho,hz⟩:=I.lst hp;obtain⟨Z,M,h3,h4⟩:=PN hj;have hl:=r.length;have hn:=mL;have I':Inv X J σ (upd H p (.lst (xs.set j v))) {s with heap:=s.heap.update p (Obj.mapSeq (·.setIfInBounds j u))} :=
  I.lstUpd hp ho (W0 ae n j u) (r.set rv j) (by rw[JQ];show hz) s.toks
 by_cases h0:0<=k
 .have hk:k.toNat=j:=by
   rw[seqIndex_of h0 h4]at Z;show di Z
  show PySem.W.ki_setAt ho h0 tL (by simp_all) (by rw[hk];exists _,I',q)
 .have hk:(k+(ae.toArray.size:Int)).toNat=j:=by
   rw[seqIndex_neg tL h3]at Z;rw[eR,<-hl];show di Z
  show PySem.W.ki_setBack ho tL (by simp_all) tL (by rw[hk];exists _,I',q)
def VP(h:i<0):max 0 (min (i+(n:Int)) n)=(((i+n).toNat:Nat):Int):=by
 rw[PF tL,Int.ofNat_toNat,Int.max_comm]
def Se{i:Int}{n:Nat}(h:¬i<0):max 0 (min i (n:Int))=((min i.toNat n:Nat):Int):=by
 obtain⟨k,rfl⟩:=xD (yj.mp h);rw[iu];rcases Nat.le_total k n with h|h
 .rw[gQ h,PF (Ld.mpr h),Ep (jI _)]
 .rw[lM h,Int.min_eq_right (Ld.mpr h),Ep (jI _)]
def zcW(lo hi:Option Int)(n:Nat):(sliceBounds lo hi none n).1=((HT.sIx n 0 lo:Nat):Int)/\(sliceBounds lo hi none n).2.1=((HT.sIx n n hi:Nat):Int)/\(sliceBounds lo hi none n).2.2=1:=by
 exists ?_,?_,rfl
 .cases lo with
  |none=>simp[sliceBounds,HT.sIx]
  |some i =>
   simp only[sliceBounds,HT.sIx,Wm,show (1:Int)>0 by decide,eS];by_cases h:i<0
   .simp only[h,eS];show VP h
   .simp only[h,dw];show Se h
 .cases hi with
  |none=>simp[sliceBounds,HT.sIx]
  |some i =>
   simp only[sliceBounds,HT.sIx,Wm,show (1:Int)>0 by decide,eS];by_cases h:i<0
   .simp only[h,eS];show VP h
   .simp only[h,dw];show Se h
def Z7(ae:List Value)(lo hi:Option Int):slicePick ae.toArray lo hi none=((ae.drop (HT.sIx ae.length 0 lo)).take (HT.sIx ae.length ae.length hi-HT.sIx ae.length 0 lo)).toArray:=by
 obtain⟨Z,M,h3⟩:=zcW lo hi ae.toArray.size;unfold slicePick;rw[Z,M,h3];simp only[sliceRange_one,pick_run,eR]<;>rfl
def zcE(K:Frag):V->Option Int->Option Int->Hp->VK->Prop:=λx lo hi H Q=>∃a xs,x=.ref a/\ai K H a xs/\∀p,H p=none->Q (.ref p) (upd H p (.lst (dy xs lo hi)))
def iK:AL X (zcE X.K):=by
 intro J s σ H x v vl vu lo hi sl Q I rx hs pl pu h;obtain⟨a,xs,rfl,hx,q⟩:=h;cases rx;obtain⟨ae,r,ht,hz⟩:=I.list hx;have aL:=r.length;exists "list",_,slot_list_getitem.lookup,ht.isList.typeIs,?_;show Q0 ht.isList hs pl pu .none tS ?_ (by simp_all);rw[Z7,<-aL];exists .ref s.heap.objs.size,_,I.laid (t':=s.toks) (o:=.lst (dy xs lo hi)) (λb ob q=>bZ _ q) (aC _) ?_,Y,q _ (I.hok.fresh (aC _));exists a9 (V6 xs lo hi) hz,_,0,(r.drop (HT.sIx xs.length 0 lo)).take (HT.sIx xs.length xs.length hi-HT.sIx xs.length 0 lo),cQ _ rfl
noncomputable def ml:V->Bool
 |.non=>true
 |.bl _=>true
 |.int _=>true
 |.str _=>true
 |_=>false
noncomputable def ka:V->V->Bool
 |.non,.non=>true
 |.bl a,.bl b=>a == b
 |.bl a,.int b=>(if a then 1 else 0) == b
 |.int a,.bl b=>a == (if b then 1 else 0)
 |.int a,.int b=>a == b
 |.str a,.str b=>a == b
 |_,_=>false
def Xc(ry:RelV y u)(rx:RelV x v)(fy:ml y=true)(fx:ml x=true):SeqAt.EqAt A s u v (ka y x):=by
 cases y with
 |non =>
  cases ry;cases x with
  |non=>cases rx;show Dk _
  |bl b=>cases rx;show jhS b
  |int b=>obtain⟨t,rfl⟩:=rx;show jhX b t
  |str b=>obtain⟨t,rfl⟩:=rx;show jhW b t
  |_=>show absurd (show false=true from fx) dj
 |bl a =>
  cases ry;cases x with
  |non=>cases rx;show Yz a
  |bl b=>cases rx;show jhR a b
  |int b=>obtain⟨t,rfl⟩:=rx;show jhV a b t
  |str b=>obtain⟨t,rfl⟩:=rx;show YT a b t
  |_=>show absurd (show false=true from fx) dj
 |int a =>
  obtain⟨t',rfl⟩:=ry;cases x with
  |non=>cases rx;show jhY a t'
  |bl b=>cases rx;show jh3 a t' b
  |int b=>obtain⟨t,rfl⟩:=rx;show jib a t' b t
  |str b=>obtain⟨t,rfl⟩:=rx;show OZ a t' b t
  |_=>show absurd (show false=true from fx) dj
 |str a =>
  obtain⟨t',rfl⟩:=ry;cases x with
  |non=>cases rx;show jhU a t'
  |bl b=>cases rx;show jh5 a t' b
  |int b=>obtain⟨t,rfl⟩:=rx;show QN a t' b t
  |str b=>obtain⟨t,rfl⟩:=rx;show jic a t' b t
  |_=>show absurd (show false=true from fx) dj
 |_=>show absurd (show false=true from fy) dj
def jy(x:V)(u:Value):Bool:=match u with
 |.none=>ka .non x
 |.bool b=>ka (.bl b) x
 |.int i _=>ka (.int i) x
 |.str z _=>ka (.str z) x
 |_=>false
def Fj(r:RelV y u)(f:ml y=true):jy x u=ka y x:=by
 cases y with
 |non=>cases r;rfl
 |bl b=>cases r;rfl
 |int i=>obtain⟨t,rfl⟩:=r;rfl
 |str z=>obtain⟨t,rfl⟩:=r;rfl
 |_=>show absurd (show false=true from f) dj
theorem JF:∀{xs:List V}{us:List Value},Vals xs us->xs.all ml=true->us.any (jy x)=xs.any λy=>ka y x
 |_,_,.nil,_=>rfl
 |y::xs,u::us,.cons r t,f=>by
  rw[IU,iY]at f;rw[ou,ou,Fj r f.1,JF t f.2]
theorem Dj(rx:RelV x v)(fx:ml x=true):∀{xs:List V}{us:List Value},Vals xs us->xs.all ml=true->∀u∈us,SeqAt.EqAt A s u v (jy x u)
 |_,_,.nil,_=>λu hu=>by cases hu
 |y::xs,u::us,.cons r t,f=>λu' hu=>by
  rw[IU,iY]at f;rcases aV.mp hu with rfl|hu
  .rw[Fj r f.1];show Xc r rx f.1 fx
  .exact Dj rx fx t f.2 u' hu
def nY(x:V)(xs:List V):Bool:=xs.any λy=>ka y x
def ZO(K:Frag)(neg:Bool):R2:=λx y H Q=>∃p xs,y=.ref p/\(ai K H p xs\/aD K H p xs)/\ml x=true/\xs.all ml=true/\Q (.bl (if neg then !nY x xs else nY x xs)) H
def zh:bx X (compareOp .In) (ZO X.K false):=by
 intro J s σ H x y v u Q I rx ry h;obtain⟨p,xs,rfl,hq,fx,fs,q⟩:=h;cases ry;rcases hq with hq|hq
 .obtain⟨ae,r,pl,hz⟩:=I.list hq;show SeqAt.in_listAt (jy x) pl.isList (λw hw=>Dj rx fx r fs w (by simpa using hw)) ⟨.bl _,H,I,Y,?_⟩;rw[show ae.toArray.any (jy x)=ae.any (jy x) by simp,JF r fs];show q
 .obtain⟨ae,r,pl,hz⟩:=I.tuple hq;show SeqAt.in_tupleAt (jy x) pl (λw hw=>Dj rx fx r fs w (by simpa using hw)) ⟨.bl _,H,I,Y,?_⟩;rw[show ae.toArray.any (jy x)=ae.any (jy x) by simp,JF r fs];show q
def fN:gA X (.builtin "len") (λxs H Q=>∃p ys,xs=[.ref p]/\(ai X.K H p ys\/aD X.K H p ys)/\Q (.int ys.length) H):=by
 intro J s σ H xs us Q I r h;obtain⟨p,ys,rfl,hq,q⟩:=h;obtain⟨u,rfl,rx⟩:=gF r;cases rx;have hn:=mL;rcases hq with hq|hq
 .obtain⟨ae,r',pl,hz⟩:=I.list hq;have aL:=r'.length;show Calls.call_len_list pl.isList (by simp only[eR]<;>lia) ⟨.int ys.length,H,I.tok _,⟨s.toks+1,by simp_all⟩,q⟩
 .obtain⟨ae,r',pl,hz⟩:=I.tuple hq;have aL:=r'.length;show len_tuple pl (by grind) ⟨.int ys.length,H,I.tok _,⟨s.toks+1,by simp_all⟩,q⟩
def oo:gA X (.builtin "len") (λxs H Q=>∃z,xs=[.str z]/\z.length<=sizeLine/\Q (.int z.length) H):=by
 intro J s σ H xs us Q I r h;obtain⟨z,rfl,hz,q⟩:=h;obtain⟨u,rfl,t,rfl⟩:=gF r;have hn:=mL;show len_str tL ⟨.int z.length,H,I.tok _,⟨_,Y⟩,q⟩
def BC(K:Frag)(T:String)(x:V)(H:Hp):Prop:=match x with
 |.str _=>T = "str"
 |.int _=>T = "int"
 |.ref p=>(T = "list" /\ ∃xs,ai K H p xs)\/(T = "tuple" /\ ∃o,K.lookup p=some o/\o.cls=.type "tuple" /\ o.dict=none) \/
   (T = "dict" /\ ((∃kvs,H p=some (.dK kvs))\/∃kvs,H p=some (.dT kvs)))\/(T = "set" /\ ∃S n,H p=some (.set S n))
 |_=>False
def ED(I:Inv X J σ H s)(r:RelV x v)(ty:BC X.K T x H) :
  s.TypeIs v T/\∀a,v=.ref a->∃ob,s.heap.get? a=some ob/\ob.dict=none:=by
 cases x with
 |str z =>
  obtain⟨t,rfl⟩:=r;cases (show T = "str" from ty);exists lX s z t,λ_ e=>nomatch e
 |int i =>
  obtain⟨t,rfl⟩:=r;cases (show T = "int" from ty);exists qM s i t,λ_ e=>nomatch e
 |ref p =>
  cases r;rcases ty with ⟨rfl,xs,hq⟩|⟨rfl,o,hk,hc,hd⟩|⟨rfl,hk⟩|⟨rfl,S,n,hk⟩
  .obtain⟨ae,_,pl,_⟩:=I.list hq;exists pl.isList.typeIs,λa e=>?_;cases e;obtain⟨o,n,e,c,hd,_⟩:=pl;exists o,e,hd
  .exists ⟨o,I.kIn p o hk,hc⟩,λa e=>?_;cases e;exists o,I.kIn _ o hk,hd
  .have z:∃o,s.heap.get? p=some o/\o.ExactDict:=by
    rcases hk with ⟨kvs,hk⟩|⟨kvs,hk⟩
    .obtain⟨_,_,_,_,o,_,_,e,ex,_⟩:=I.hok p _ hk;exists o,e,ex
    .obtain⟨_,_,_,_,o,_,_,e,ex,_⟩:=I.hok p _ hk;exists o,e,ex
   obtain⟨o,e,ex⟩:=z;exists ⟨o,e,ex.1⟩,λa e2=>?_;cases e2;exists o,e,ex.2.1
  .obtain⟨o,_,_,_,e,ex,_⟩:=I.hok p _ hk;exists ⟨o,e,ex.1⟩,λa e2=>?_;cases e2;exists o,e,ex.2.1
 |_=>show False.elim ty
def YN(K:Frag)(T:String)(r:V->List V->Hp->VK->Prop)(to:TE):TE:=λσ H Q=>to σ H λx H1=>BC K T x H1/\r x [] H1 Q
def tBM(K:Frag)(T:String)(r:V->List V->Hp->VK->Prop)(to:TE)(t:TA):TE:=λσ H Q=>to σ H λx H1=>BC K T x H1/\t σ H1 λxs H2=>r x xs H2 Q
variable{o e:Expr}{es:List Expr}{to:TE}{t:TA}{name:Str}{da bG:Pos}{T id:String}{r:V->List V->Hp->VK->Prop}
def qI(pa:PlainAttrs T)(slot:Slot T name id)(Gf:typeOf (.builtin id)=pure (.type "method_descriptor"))(hm:N2 X id r)(ho:PE X o to)
  (wN:autoParam (attributeBase o name X.env (eval o X.env)=eval o X.env) tR._auto_1) (wQ:autoParam ((da.endLine == bG.line)=true) tR._auto_1):PE X (.Call (.Attribute o name da) [] [] bG) (YN X.K T r to):=by
 intro J s σ H Q I h;show wpAny_Call_method0_late wN wQ (ax (ho J s σ H _ I h) ?_);rintro v s1 ⟨x,H1,I1,r1,ty,q1⟩;obtain⟨Z,M⟩:=ED I1 r1 ty;exists T,id,pa,slot,Gf,Z,M,xp Y (PySem.evalArgs_none (hm J s1 σ H1 x [] v [] Q I1 r1 .nil q1))
def fF(pa:PlainAttrs T)(slot:Slot T name id)(Gf:typeOf (.builtin id)=pure (.type "method_descriptor"))(hm:N2 X id r)(ho:PE X o to)(ha:PA X (e::es) t)
  (wN:autoParam (attributeBase o name X.env (eval o X.env)=eval o X.env) tR._auto_1)
  (IX:autoParam (((backTo bG (starEach (e :: es) X.env)).all (fun x => !x.1) && (backToKw bG (keywordEach [] X.env)).all (fun x=>x.1.isSome) && decide ((e::es).length+([]:List Keyword).length+(if ([]:List Keyword).isEmpty then 0 else 1)<30))=true) tR._auto_1)
  (wQ:autoParam ((da.endLine == bG.line)=true) tR._auto_1) (hs:autoParam (starEach (e::es) X.env=(false,eval e X.env)::starEach es X.env) tR._auto_1) (hplain:autoParam ((backTo bG (starEach es X.env)).any (·.1)=false) tR._auto_1) :
  PE X (.Call (.Attribute o name da) (e::es) [] bG) (tBM X.K T r to t):=by
 intro J s σ H Q I h;show wpAny_Call_method_late wN IX wQ Y (ax (ho J s σ H _ I h) ?_);rintro v s1 ⟨x,H1,I1,r1,ty,q1⟩;obtain⟨Z,M⟩:=ED I1 r1 ty;exists T,id,pa,slot,Gf,Z,M,?_;have hA:=ha bG J s1 σ H1 _ I1 q1;rw[hs]at hA ⊢;show xp (by assumption) (zp ?_);show ax hA (by rintro us s2 ⟨vs,H2,I2,r2,q2⟩;show hm J s2 σ H2 x vs v us Q I2 r1 r2 q2)
end
def gn(X:Cx)(id:String)(r:V->List V->Hp->VK->Prop):Prop :=
 ∀(J:List (Addr×Obj)) (s:Shared) (σ:St) (H:Hp) (x:V) (xs:List V) (v:Value) (us:List Value) (Q:VK),Inv X J σ H s->RelV x v->Vals xs us->r x xs H Q ->
  wpAny (model X.prog X.w) X.A (call (.builtin id) (v::us)) (EP X J σ Q) X.xe s
def Vals.one(h:Vals [x] us):∃u,us=[u]/\RelV x u:=by
 cases h with|cons r t=>cases t;exists _,Y,r
def Vals.two(h:Vals [x,y] us):∃u v,us=[u,v]/\RelV x u/\RelV y v:=by
 cases h with|cons r t=>cases t with|cons q t=>cases t;exists _,_,Y,r,q
theorem Vals.zero:∀{us:List Value},Vals [] us->us=[]
 |_,.nil=>rfl
def Vals.dropLast(h:Vals xs us):Vals xs.dropLast us.dropLast:=by
 induction h with
 |nil=>show .nil
 |cons r t ih =>
  cases t with
  |nil=>show .nil
  |cons q t'=>show .cons r ih
theorem Vals.rep(h:Vals xs us):∀k:Nat,Vals (List.replicate k xs).flatten (List.replicate k us).flatten
 |0=>.nil
 |k+1=>by
  rw[uN,uN,qk,qk];show Vals.append h (Vals.rep h k)
def ZJ(l:List α):l.eraseIdx (l.length-1)=l.dropLast:=by simp
theorem Ol(ae:List Value):∀(k:Nat) (acc:List Value),
  List.foldl (λx1 x2=>x1++x2) acc.toArray (List.replicate k ae.toArray)=(acc++(List.replicate k ae).flatten).toArray
 |0,acc=>by simp
 |k+1,acc=>by
  have e:acc.toArray++ae.toArray=(acc++ae).toArray:=by simp
  have e2:(acc++ae)++(List.replicate k ae).flatten=acc++(List.replicate (k+1) ae).flatten:=by grind
  rw[<-e2,<-Ol ae k (acc++ae),<-e,uN,JE]
section
variable{X:Cx}{J:List (Addr×Obj)}{σ:St}{H:Hp}{s:Shared}{l b:Addr}{xs ys zs:List V}
def Inv.lset{ae its':List Value}{n:Nat}{f:Array Value->Array Value}{t':Nat}(I:Inv X J σ H s)(hH:H l=some (.lst xs))
  (e:s.heap.get? l=some {cls:=.type "list",data:=.seq ae.toArray n}) (hf:f ae.toArray=its'.toArray) (hv:Vals ys its') (hz:ys.length<=sizeLine) :
  Inv X J σ (upd H l (.lst ys)) {s with heap:=s.heap.update l (Obj.mapSeq f),toks:=t'}:=by
 have q:=PySem.IsL.update e f;rw[hf]at q;show I.write (x:=l) (e:=l) (by rw[hH];show trivial) (.inl Y) (λb' u hb hu=>(Oh s.heap (Obj.mapSeq f) (Ne.symm hb)).trans hu) ⟨_,q⟩ ?_;exists hz,its',_,hv,q
def Inv.lnew(I:Inv X J σ H s)(hv:Vals ys ae)(hz:ys.length<=sizeLine) :
  Inv X J σ (upd H s.heap.objs.size (.lst ys)) {s with heap:=s.heap.push {cls:=.type "list",data:=.seq ae.toArray},toks:=t'} :=
 I.laid (λ_ _ q=>bZ _ q) (aC _) ⟨hz,ae,0,hv,cQ _ Y⟩
def Inv.fresh(I:Inv X J σ H s):H s.heap.objs.size=none:=I.hok.fresh (aC _)
def Inv.lstM(I:Inv X J σ H s)(hH:H l=some (.lst xs)):xs.length<=sizeLine/\∃(ae:List Value) (n:Nat),Vals xs ae/\xs.length=ae.length/\s.heap.get? l=some {cls:=.type "list",data:=.seq ae.toArray n}:=by
 obtain⟨z,ae,n,r,e⟩:=I.hok l _ hH;exists z,ae,n,r,r.length,e
def VL(h:n<=sizeLine):Builtin.List.listTooLong n=false:=by
 show bw tL
end
section
variable{X:Cx}
def ZU:V->List V->Hp->VK->Prop:=λx vs H Q=>∃l xs y,x=.ref l/\vs=[y]/\H l=some (.lst xs)/\xs.length<sizeLine/\Q .non (upd H l (.lst (xs++[y])))
def Sx:gn X "list.append" ZU:=by
 intro J s σ H x vs v us Q I rx rv h;obtain⟨l,xs,y,rfl,rfl,hH,hz,q⟩:=h;cases rx;obtain⟨u,rfl,ru⟩:=rv.one;obtain⟨z,ae,n,r,hl,e⟩:=I.lstM hH;show jV Ng ⟨_,e,Y⟩ Uv (S9 _ _) (Mt l ae.toArray n u (by simp_all)) ⟨e,?_⟩;exists .non,_,I.lset (its':=ae++[u]) hH e tS (r.append (.cons ru .nil)) ?_,Y,q;rw[aX,List.length_singleton];assumption
def ze1:V->List V->Hp->VK->Prop:=λx vs H Q=>∃l xs y,x=.ref l/\vs=[]/\H l=some (.lst xs)/\xs[xs.length-1]?=some y/\Q y (upd H l (.lst xs.dropLast))
def zbT:gn X "list.pop" ze1:=by
 intro J s σ H x vs v us Q I rx rv h;obtain⟨l,xs,y,rfl,rfl,hH,hy,q⟩:=h;cases rx;have hus:=rv.zero;subst hus;obtain⟨z,ae,n,r,hl,e⟩:=I.lstM hH;obtain⟨u,hu,ru⟩:=r.get hy;have oA:ae.toArray[ae.toArray.size-1]?=some u:=by simp_all
 show jV F.slot_list_pop ⟨_,e,Y⟩ F.entry_list_pop (F.args_list_pop_1 _) (MeetsSeq.list_pop_last l ae.toArray n u oA (by simp_all)) ⟨e,?_⟩;exists y,_,I.lset (its':=ae.dropLast) hH e ?_ r.dropLast ?_,ru,q
 .show ae.toArray.eraseIdxIfInBounds (ae.toArray.size-1)=ae.dropLast.toArray;rw[eR,List.eraseIdxIfInBounds_toArray,ZJ]
 .rw[List.length_dropLast];lia
def zdR:R2:=λx y H Q=>∃l b xs zs,x=.ref l/\y=.ref b/\H l=some (.lst xs)/\H b=some (.lst zs)/\xs.length+zs.length<=sizeLine/\∀p,H p=none->Q (.ref p) (upd H p (.lst (xs++zs)))
def gf:bx X (binaryOp .Add) zdR:=by
 intro J s σ H x y v u Q I rx ry h;obtain⟨l,b,xs,zs,rfl,rfl,hH,hB,hz,q⟩:=h;cases rx;cases ry;obtain⟨z,ae,n,r,hl,e⟩:=I.lstM hH;obtain⟨z2,dB,n2,r2,dO,e2⟩:=I.lstM hB;show PySem.P.add_list e e2 ?_ (by simp_all);have ea:ae.toArray++dB.toArray=(ae++dB).toArray:=by simp
 rw[ea];exists .ref _,_,I.lnew (t':=s.toks) (r.append r2) (by rw[aX];assumption),Y,q _ I.fresh
def zfF:R2:=λx y H Q=>∃l k xs,x=.ref l/\y=.int k/\H l=some (.lst xs) /\ -(2^63)<=k/\k<2^63/\xs.length*k.toNat<=sizeLine /\
 ∀p,H p=none->Q (.ref p) (upd H p (.lst (List.replicate k.toNat xs).flatten))
def zgY(xs:List α)(k:Nat):(List.replicate k xs).flatten.length=k*xs.length:=by simp
def Ys:bx X (binaryOp .Mult) zfF:=by
 intro J s σ H x y v u Q I rx ry h;obtain⟨l,k,xs,rfl,rfl,hH,Z,M,hz,q⟩:=h;cases rx;obtain⟨t,rfl⟩:=ry;obtain⟨z,ae,n,r,hl,e⟩:=I.lstM hH;have aL:ae.toArray.size*k.toNat<=sizeLine:=by simp_all
 have YZ:¬ae.toArray.size*k.toNat>(2^63-1)/8:=by
  have:(sizeLine:Nat)<=(2^63-1)/8:=by decide
  lia
 have mB:¬(!Builtin.List.listFitsIndex k)=true:=by
  rw[fitsIndex_both Z M];show dj
 have FH:¬Builtin.List.listTooLong (ae.toArray.size*k.toNat)=true:=by
  rw[VL aL];show dj
 have BO:List.foldl (λx1 x2=>x1++x2) #[] (List.replicate (if ae.toArray.isEmpty=true then 0 else k.toNat) ae.toArray)=(List.replicate k.toNat ae).flatten.toArray:=by
  have f0:∀m:Nat,List.foldl (λx1 x2=>x1++x2) #[] (List.replicate m ae.toArray)=(List.replicate m ae).flatten.toArray:=λm=>by
   have:=Ol ae m []
   rw[BP]at this;show this
  rw[f0];cases ae with
  |nil=>simp
  |cons a r'=>rw[ah tS]
 show wpAny_binaryOp_repeat_ref (T := "list") (U := "int") tD ⟨_,e,Y⟩ (λs'=>qM s' k t) noFill_list_mul F.fills_int_mul U1 repeat_list F.slot_int_index.lookup
  (jV U1 (qM s k t) F.entry_int_rmul (F.args_int_rmul_2 _ _) (int___rmul___int_list k t l ae.toArray n) ⟨e,Y,⟨_,e,Y⟩,jV F.slot_list_mul ⟨_,e,Y⟩ F.entry_list_mul (F.args_list_mul_2 _ _) (AutoListH.list___mul___list_int_3 l ae.toArray n k t mB YZ FH) ⟨e,?_⟩⟩)
 rw[BO];exists .ref _,_,I.lnew (t':=s.toks) (r.rep k.toNat) (by rw[zgY,qA];show hz),Y,q _ I.fresh
end
section
variable{κ:Type}[DecidableEq κ]
noncomputable def gT(kvs:List (κ×V))(k:κ):Option V:=(kvs.find? λkv=>decide (kv.1=k)).map (·.2)
noncomputable def ff(kvs:List (κ×V))(k:κ)(v:V):List (κ×V) :=
 if (kvs.any λkv=>decide (kv.1=k))=true then kvs.map (λkv=>if kv.1=k then (kv.1,v)else kv)else kvs++[(k,v)]
def wI{p:κ×V}{r:List (κ×V)}{k:κ}(e:p.1=k):gT (p::r) k=some p.2:=by simp[gT,cO,e]
def yW{p:κ×V}{r:List (κ×V)}{k:κ}(e:¬p.1=k):gT (p::r) k=gT r k:=by simp[gT,cO,e]
theorem Eg(k:κ):∀kvs:List (κ×V),(kvs.any λkv=>decide (kv.1=k))=(gT kvs k).isSome
 |[]=>rfl
 |p::r=>by
  rw[ou];by_cases e:p.1=k
  .simp only[wI e,aR e,Bool.true_or,Option.isSome_some]
  .rw[yW e,bw e,V5];show Eg k r
def Pb(kvs:List (κ×V))(k:κ)(v:V):(ff kvs k v).length<=kvs.length+1:=by
 unfold ff;split
 .rw[ar];lia
 .rw[aX,bf,ub];lia
def gz.isSome_eq(r:gz o u):o.isSome=u.isSome:=by
 cases o with
 |none=>cases u with
  |none=>rfl
  |some _=>show (show False from r).elim
 |some _=>cases u with
  |none=>show (show False from r).elim
  |some _=>rfl
def gz.getD(r:gz o u)(rd:RelV d d'):RelV (o.getD d) (u.getD d'):=by
 cases o with
 |none=>cases u with
  |none=>show rd
  |some _=>show (show False from r).elim
 |some _=>cases u with
  |none=>show (show False from r).elim
  |some _=>show r
def KV.val{kvs:List (κ×V)}{vs:List (κ×Value)}(r:KV kvs vs)(k:κ):gz (gT kvs k) (valueAt vs k):=by
 induction r with
 |nil=>show True.intro
 |@cons p q ps qs h t ih =>
  obtain⟨Z,M⟩:=h;by_cases e:p.1=k
  .have e':=Z.symm.trans e;have b:valueAt (q::qs) k=some q.2:=by simp[valueAt,cO,e']
   rw[wI e,b];show M
  .have e':¬q.1=k:=λz=>e (Z.trans z)
   have b:valueAt (q::qs) k=valueAt qs k:=by simp[valueAt,cO,e']
   rw[yW e,b];show ih
def KV.any(r:KV kvs vs)(k:κ):(kvs.any λkv=>decide (kv.1=k))=vs.any λkv=>decide (kv.1=k):=by
 induction r with
 |nil=>rfl
 |cons h t ih=>rw[ou,ou,ih,h.1]
def KV.repl(r:KV kvs vs)(k:κ)(ry:RelV y u) :
  KV (kvs.map λkv=>if kv.1=k then (kv.1,y)else kv) (vs.map λkv=>if kv.1=k then (kv.1,u)else kv):=by
 induction r with
 |nil=>show .nil
 |@cons p q ps qs h t ih =>
  rw[bz,bz];show .cons ?_ ih;obtain⟨Z,M⟩:=h;by_cases e:p.1=k
  .rw[aj e,aj (Z.symm.trans e)];exists Z,ry
  .rw[ah e,ah (λz=>e (Z.trans z))];exists Z,M
def KV.put(r:KV kvs vs)(k:κ)(ry:RelV y u):KV (ff kvs k y) (stored vs k u):=by
 unfold ff stored;rw[r.any k];by_cases e:(vs.any λkv=>decide (kv.1=k))=true
 .rw[aj e,aj e];show r.repl k ry
 .rw[ah e,ah e];show VZ r ⟨Y,ry⟩
def KV.keys{kvs:List (κ×V)}{vs:List (κ×Value)}(r:KV kvs vs):kvs.map (·.1)=vs.map (·.1):=by
 induction r with
 |nil=>rfl
 |cons h t ih=>rw[bz,bz,ih,h.1]
def KV.length(r:KV kvs vs):kvs.length=vs.length:=eo r
end
def ye(r:RelV (kV k) u):(fu P w).is k u=true:=by
 cases k with
 |inl i=>obtain⟨t,e⟩:=(show ∃t,u=Value.int i t from r);subst e;show QK P w i t
 |inr x=>obtain⟨t,e⟩:=(show ∃t,u=Value.str x t from r);subst e;show vC P w x t
theorem Nz:∀{ks:List bM}{us:List Value},Vals (ks.map kV) us->ItemsAre (fu P w) ks us
 |[],_,r=>by rw[o6]at r;cases r;show .nil
 |k::ks,_,r=>by
  rw[bz]at r;cases r with
  |cons h t=>show .cons (ye h) (Nz t)
abbrev KT(H:Hp):List (List bM×V)->List (List bM×Addr×Value)->Prop:=Paired λp q=>p.1=q.1/\H q.2.1=some (.tup (p.1.map kV))/\RelV p.2 q.2.2
def KT.val(r:KT H kvs xs)(k:List bM):gz (gT kvs k) ((atKey xs k).map (·.2)):=by
 induction r with
 |nil=>show True.intro
 |@cons p q ps qs h t ih =>
  obtain⟨Z,_,M⟩:=h;by_cases e:p.1=k
  .have e':=Z.symm.trans e;have b:atKey (q::qs) k=some q.2:=by simp[atKey,cO,e']
   rw[wI e,b];show M
  .have e':¬q.1=k:=λz=>e (Z.trans z)
   have b:atKey (q::qs) k=atKey qs k:=by simp[atKey,cO,e']
   rw[yW e,b];show ih
def KT.repl(r:KT H kvs xs)(k:List bM)(ry:RelV y u) :
  KT H (kvs.map λkv=>if kv.1=k then (kv.1,y)else kv) (xs.map (putAt k u)):=by
 induction r with
 |nil=>show .nil
 |@cons p q ps qs h t ih =>
  rw[bz,bz];show .cons ?_ ih;obtain⟨Z,M,h3⟩:=h;unfold putAt;by_cases e:p.1=k
  .rw[aj e,aj (Z.symm.trans e)];exists Z,M,ry
  .rw[ah e,ah (λz=>e (Z.trans z))];exists Z,M,h3
def KT.put(r:KT H kvs xs)(k:List bM)(hb:H b=some (.tup (k.map kV)))(ry:RelV y u) :
  KT H (ff kvs k y) (storedH xs k b u):=by
 have e:(kvs.any λkv=>decide (kv.1=k))=(atKey xs k).isSome:=by
  rw[Eg,(r.val k).isSome_eq,Cw]
 unfold ff storedH;rw[e];by_cases q:(atKey xs k).isSome=true
 .rw[aj q,aj q];show r.repl k ry
 .rw[ah q,ah q];show VZ r ⟨Y,hb,ry⟩
def KT.keeps(r:KT H kvs xs)(ht:∀b ys,H b=some (.tup ys)->O b=some (.tup ys)):KT O kvs xs :=
 Paired.mapP r λ_ _ z=>⟨z.1,ht _ _ z.2.1,z.2.2⟩
section
variable{P:Program}{w:World}{H:Hp}{h:Heap}{a:Addr}
def Me(ok:cz P w H h)(e:Rd H a u):cI P w H h a u:=e.ok ok
def vD(ok:cz P w H h)(e:Rd H a (.dK kvs)):kvs.length<=sizeLine/\(a == sysModules)=false/\∃vs,KV kvs vs/\h.DictOf (fu P w) a vs :=
 show cI P w H h a (.dK kvs) from Me ok e
def Ay(ok:cz P w H h)(e:H a=some (.dK kvs)):kvs.length<=sizeLine/\(a == sysModules)=false/\∃vs,KV kvs vs/\h.DictOf (fu P w) a vs:=vD ok (.inl e)
def yU(ok:cz P w H h)(e:H a=some (.tup (ks.map kV))):(tupleKind (fu P w)).is h ks a:=by
 obtain⟨_,ae,r,o,Z,M,n,h3⟩:=(show cI P w H h a (.tup (ks.map kV)) from ok a _ e);show⟨o,ae.toArray,n,Z,M,h3,by simpa using Nz r⟩
def tP(ok:cz P w H h)(e:Rd H a (.dT kvs)):kvs.length<=sizeLine/\(a == sysModules)=false /\
  ∃xs,KT H kvs xs/\h.DictOfH (tupleKind (fu P w)) a xs:=by
 obtain⟨z,y,xs,r,o,es,ep,Z,M,h3,h4,h5⟩:=(show cI P w H h a (.dT kvs) from Me ok e);exists z,y,xs,r,o,es,ep,Z,M,h3,h4,λx hx=>?_,h5;have all:∀{l:List (List bM×V)}{m:List (List bM×Addr×Value)},KT H l m->∀x∈m,(tupleKind (fu P w)).is h x.1 x.2.1:=by
  intro l m q;induction q with
  |nil=>intro x hx;show nomatch hx
  |@cons p q ps qs hq t ih =>
   intro x hx;rcases aV.mp hx with e|hx
   .subst e;show yU ok (by simp_all)
   .exact ih x hx
 show all r x hx
def zcl(ok:cz P w H h)(e:H a=some (.dT kvs)):kvs.length<=sizeLine/\(a == sysModules)=false /\
  ∃xs,KT H kvs xs/\h.DictOfH (tupleKind (fu P w)) a xs:=tP ok (.inl e)
end
def fV(H:Hp)(a:Addr)(y:V)(r:Option V):Prop :=
 (∃kvs k,Rd H a (.dK kvs)/\y=kV k/\r=gT kvs k)\/∃kvs k b,Rd H a (.dT kvs)/\y=.ref b/\H b=some (.tup (k.map kV))/\r=gT kvs k
def jU(H:Hp)(a:Addr)(y v:V)(O:Hp):Prop :=
 (∃kvs k,H a=some (.dK kvs)/\y=kV k/\kvs.length<sizeLine/\O=upd H a (.dK (ff kvs k v))) \/
 ∃kvs k b,H a=some (.dT kvs)/\y=.ref b/\H b=some (.tup (k.map kV))/\kvs.length<sizeLine/\O=upd H a (.dT (ff kvs k v))
theorem fV.k{H:Hp}{a:Addr}{kvs:List (bM×V)}{k:bM}(e:H a=some (.dK kvs)):fV H a (kV k) (gT kvs k):=.inl ⟨kvs,k,.inl e,Y,Y⟩
theorem jU.k{H:Hp}{a:Addr}{kvs:List (bM×V)}{k:bM}{v:V}(e:H a=some (.dK kvs))(hl:kvs.length<sizeLine):jU H a (kV k) v (upd H a (.dK (ff kvs k v))):=.inl ⟨kvs,k,e,Y,hl,Y⟩
section
variable{X:Cx}{J:List (Addr×Obj)}{σ:St}{H:Hp}{s:Shared}{a:Addr}{y v:V}{u r:Value}{o:Option V}{A:Around}{E:Value->Shared->Prop}
def Inv.big(I:Inv X J σ H s):sysModules<s.heap.objs.size:=by
 have h:=(I.mod.glob.keeps I.bk).lt;show nS tD h
def zeg(hu:A.units+1<cLine)(I:Inv X J σ H s)(g:fV H a y (some v))(ry:RelV y u)(h:∀w' s',Inv X J σ H s'->RelV v w'->Q w' s') :
  wpAny (model X.prog X.w) A (getItem (.ref a) u) Q E s:=by
 rcases g with ⟨kvs,k,e,ey,l⟩|⟨kvs,k,b,e,ey,eb,l⟩
 .subst ey;obtain⟨z,hd,vs,rel,dd⟩:=vD I.hok e;obtain⟨w',hw,fS⟩:=gz.some_of (v:=v) (o:=valueAt vs k) (by rw[l];show rel.val k);show wpAny_getItem_of (ye ry) dd.mapOf hw (h w' _ (I.tok _) fS)
 .subst ey;cases (show u=Value.ref b from ry);obtain⟨z,hd,xs,rel,dd⟩:=tP I.hok e;obtain⟨w',hw,fS⟩:=gz.some_of (v:=v) (o:=(atKey xs k).map (·.2)) (by rw[l];show rel.val k);obtain⟨p,hp,gW⟩:=DM.mp hw;show wpAny_getItem_heap (DC hu) (yU I.hok eb) dd hp ?_;rw[gW];show h w' _ (I.tok _) fS
def zgg(hu:A.units+1<cLine)(I:Inv X J σ H s)(g:fV H a y o)(ry:RelV y u)(h:∀s',Inv X J σ H s'->Q (.bool (!o.isSome)) s') :
  wpAny (model X.prog X.w) A (compareOp .NotIn u (.ref a)) Q E s:=by
 rcases g with ⟨kvs,k,e,ey,l⟩|⟨kvs,k,b,e,ey,eb,l⟩
 .subst ey;obtain⟨z,hd,vs,rel,dd⟩:=vD I.hok e;show wpAny_notIn_of (ye ry) hd dd.mapOf ?_;rw[<- (rel.val k).isSome_eq,<-l];show h _ (I.tok _)
 .subst ey;cases (show u=Value.ref b from ry);obtain⟨z,hd,xs,rel,dd⟩:=tP I.hok e;show wpAny_notIn_heap (DC hu) (yU I.hok eb) hd dd ?_;have q:=(rel.val k).isSome_eq;rw[Cw]at q;rw[<-q,<-l];show h _ (I.tok _)
def JN(I:Inv X J σ H s)(mu:vT (H a))(hs:Heap.SameBut a s.heap h')(he:∃q,h'.get? a=some q)(new:cI X.prog X.w (upd H a ob) h' a ob) :
  Inv X J σ (upd H a ob) {s with heap:=h',toks:=t'} :=
 I.write (x:=a) (e:=a) mu (.inl Y) (λb q hb z=>(hs.2 b hb).trans z) he new
def Mi(z:kvs.length<=sizeLine)(hd:(a == sysModules)=false)(rel:KV kvs vs)(dd:h'.DictOf (fu P w) a vs) :
  cI P w O h' a (.dK kvs):=⟨z,hd,vs,rel,dd⟩
def zar(hu:A.units+1<cLine)(I:Inv X J σ H s)(g:jU H a y v O)(ry:RelV y u)(rv:RelV v r)(h:∀s',Inv X J σ O s'->Q () s') :
  wpAny (model X.prog X.w) A (setItem (.ref a) u r) Q E s:=by
 rcases g with ⟨kvs,k,e,ey,l,eH⟩|⟨kvs,k,b,e,ey,eb,l,eH⟩
 .subst ey eH;obtain⟨z,hd,vs,rel,dd⟩:=Ay I.hok e;have hz:vs.length<=sizeLine:=by rw[<-rel.length];show z
  have hl:(ff kvs k v).length<=sizeLine:=by have:=Pb kvs k v;lia
  show wpAny_setItem_pairs (hsz:=hz) (ye ry) dd λh' wW hs=>h _ ?_
  have he:∃q,h'.get? a=some q:=let ⟨q,_,_,hq,_⟩:=wW; ⟨q,hq⟩
  show JN I (by rw[e];show True.intro) hs he (Mi hl hd (rel.put k rv) wW)
 .subst ey eH;cases (show u=Value.ref b from ry);obtain⟨z,hd,xs,rel,dd⟩:=zcl I.hok e;have hz:xs.length<=sizeLine:=by rw[<-eo rel];show z
  have hl:(ff kvs k v).length<=sizeLine:=by have:=Pb kvs k v;lia
  show wpAny_setItem_heap (hsz:=hz) (DC hu) (yU I.hok eb) dd λh' wW hs=>h _ ?_
  obtain⟨q,es,ep,hq,M,h3,h4,_,h5⟩:=wW;show JN I (by rw[e];show True.intro) hs ⟨q,hq⟩ ⟨hl,hd,_,(rel.put k eb rv).keeps λc ys ec=>?_,q,es,ep,hq,M,h3,h4,h5⟩;rw[aG (CF ec e (λz=>nomatch z))];show ec
end
def Bg(i:Expr):Prop:=∀ov iv,subscripted i false ov iv=operate [ov,iv] (getItem ov iv)
def MJ{prog:Program}{w:World}{A:Around}{E:Value->Shared->Prop}{s:Shared}{env:Env}{value slice:Expr}{pos:Pos}{T id:String}{Q:Value->Shared->Prop}
  (hl:typeLookup (.type T) "__getitem__" = pure (some (.builtin id))) (hs:Bg slice)
  (h:wpAny (model prog w) A (eval value env) (λo s₁=>wpAny (model prog w) A (eval slice env) (λi s₂=>s₂.TypeIs o T/\wpAny (model prog w) A (getItem o i) Q E s₂) E s₁) E s) :
  wpAny (model prog w) A (eval (.Subscript value slice pos) env) Q E s:=by
 show tZ (cC h (λo s₁ h₁=>cC h₁ (λi s₂ h₂=>?_) λ_ _ x=>x) λ_ _ x=>x);obtain⟨hT,h₂⟩:=h₂;show aq ?_;rw[getitemInPython_of_ne hT.not_modules];show aq (wpAny_specialOf hT hl ?_);have fin:wpAny (model prog w) A (subscripted slice false o i) (λr s₃=>wpAny (model prog w) A (letTemporaryGo value o r >>= λ_=>pure r) Q E s₃) E s₂:=by
  rw[hs o i];show wpAny_operating (cC h₂ (λr s₃ h₃=>aq (wpAny_letTemporaryGo (aS h₃))) λ_ _ x=>x)
 first
  |show aS (aq fin)
  |show aq (aS (aq fin))
  |show aq fin
def zdV(I:Inv X J σ H s)(g:fV H a y o):s.TypeIs (.ref a) "dict" := by
 rcases g with ⟨kvs,k,e,_,_⟩|⟨kvs,k,b,e,_,_,_⟩
 .obtain⟨_,_,vs,_,dd⟩:=vD I.hok e;show dd.typeIs
 .obtain⟨_,_,xs,_,dd⟩:=tP I.hok e;show dd.typeIs
def zbg(td ty:TE):TE:=λσ H Q=>td σ H λx H1=>ty σ H1 λy H2=>∃a v,x=.ref a/\fV H2 a y (some v)/\Q v H2
def zdz(ty td:TE):TE:=λσ H Q=>ty σ H λy H1=>td σ H1 λx H2=>∃a o,x=.ref a/\fV H2 a y o/\Q (.bl (!o.isSome)) H2
def zfm(td ty tv:TE):TS:=λD σ H=>tv σ H λv H1=>td σ H1 λx H2=>ty σ H2 λy H3=>∃a H4,x=.ref a/\jU H3 a y v H4/\D.nx σ H4
section
variable{X:Cx}{o i e value:Expr}{pos pos' tpos:Pos}{td ty tv:TE}
def XS(hu:X.A.units+1<cLine)(ho:PE X o td)(hi:PE X i ty)(hs:Bg i):PE X (.Subscript o i pos) (zbg td ty):=by
 intro J s σ H Q I h;show MJ PySem.F.slot_dict_getitem.lookup hs (ax (ho J s σ H _ I h) ?_);rintro u s1 ⟨x,H1,I1,rx,q1⟩;show ax (hi J s1 σ H1 _ I1 q1) ?_;rintro iv s2 ⟨y,H2,I2,ry,a,v,ex,g,q2⟩;subst ex;obtain rfl:u=Value.ref a:=rx;exists zdV I2 g,zeg hu I2 g ry λw' s3 I3 fS=>⟨v,H2,I3,fS,q2⟩
def zgT(hu:X.A.units+1<cLine)(hi:PE X i ty)(ho:PE X o td):PC X .NotIn i o (zdz ty td):=by
 intro J s σ H Q I h;show ax (hi J s σ H _ I h) ?_;rintro iv s1 ⟨y,H1,I1,ry,q1⟩;show ax (ho J s1 σ H1 _ I1 q1) ?_;rintro u s2 ⟨x,H2,I2,rx,a,ov,ex,g,q2⟩;subst ex;obtain rfl:u=Value.ref a:=rx;show zgg hu I2 g ry λs3 I3=>⟨.bl (!ov.isSome),H2,I3,Y,q2⟩
def vc(hu:X.A.units+1<cLine)(ho:PE X o td)(hi:PE X i ty)(hv:PE X value tv)(hs:swapsWith value (some (.Subscript o i pos')) pos.line X.env=pure false) :
  PS X (.Assign [.Subscript o i pos'] value pos) (zfm td ty tv):=by
 intro J s σ H D I h;show wpAny_Assign_Subscript (ax (hv J s σ H _ I h) ?_) hs;rintro r s1 ⟨v,H1,I1,rv,q1⟩;show ax (ho J s1 σ H1 _ I1 q1) ?_;rintro u s2 ⟨x,H2,I2,rx,q2⟩;show ax (hi J s2 σ H2 _ I2 q2) ?_;rintro iv s3 ⟨y,H3,I3,ry,a,H4,ex,g,q3⟩;subst ex;obtain rfl:u=Value.ref a:=rx;show zar hu I3 g ry rv λs4 I4=>⟨σ,H4,I4,q3⟩
end
def MO(h:Heap)(hb:sysModules<h.objs.size):cI P w H (h.push {cls:=.type "dict",data:=.dict #[]}) h.objs.size (.dK []) :=
 ⟨bJ _,xM.mpr (Ne.symm (bR hb)),[],.nil,MP h⟩
def zfu:TE:=λ_ H Q=>∀p,H p=none->Q (.ref p) (upd H p (.dK []))
section
variable{X:Cx}{pos:Pos}
def uq:PE X (.Dict [] [] pos) zfu:=λJ s σ H Q I h =>
 wpAny_Dict_empty ⟨.ref s.heap.objs.size,_,I.laid (a:=s.heap.objs.size) (o:=.dK []) (t':=s.toks) (λ_ _ q=>bZ _ q) (aC _) (MO s.heap I.big),Y,h _ (I.hok.fresh (aC _))⟩
end
structure M1(X:Cx)(o:Expr)(m:Str)(da:Pos)(e:Expr)(bG:Pos):Prop where
 base:attributeBase o m X.env (eval o X.env)=eval o X.env
 few:((backTo bG (starEach [e] X.env)).all (fun x => !x.1) && (backToKw bG (keywordEach [] X.env)).all (fun x=>x.1.isSome) && decide (([e]:List Expr).length+([]:List Keyword).length+(if ([]:List Keyword).isEmpty then 0 else 1)<30))=true
 line:(da.endLine == bG.line)=true
 trees:backTo bG (starEach [e] X.env)=[(false,eval e X.env)]
structure M2(X:Cx)(o:Expr)(m:Str)(da:Pos)(e f:Expr)(bG:Pos):Prop where
 base:attributeBase o m X.env (eval o X.env)=eval o X.env
 few:((backTo bG (starEach [e,f] X.env)).all (fun x => !x.1) && (backToKw bG (keywordEach [] X.env)).all (fun x=>x.1.isSome) && decide (([e,f]:List Expr).length+([]:List Keyword).length+(if ([]:List Keyword).isEmpty then 0 else 1)<30))=true
 line:(da.endLine == bG.line)=true
 trees:backTo bG (starEach [e,f] X.env)=[(false,eval e X.env),(false,eval f X.env)]
def QB(H:Hp)(a:Addr):Prop:=(∃kvs,Rd H a (.dK kvs))\/∃kvs,Rd H a (.dT kvs)
def zaB(I:Inv X J σ H s)(d:QB H a) :
  s.TypeIs (.ref a) "dict" /\ (∀b,Value.ref a=.ref b->∃ob,s.heap.get? b=some ob/\ob.dict=none)/\(a == sysModules)=false:=by
 rcases d with ⟨kvs,e⟩|⟨kvs,e⟩
 .obtain⟨_,hd,vs,_,dd⟩:=vD I.hok e;exists dd.typeIs,λb q=>?_,hd;cases q;obtain⟨ob,_,_,Z,M,_⟩:=dd;exists ob,Z,M.2.1
 .obtain⟨_,hd,xs,_,dd⟩:=tP I.hok e;exists dd.typeIs,λb q=>?_,hd;cases q;obtain⟨ob,_,_,Z,M,_⟩:=dd;exists ob,Z,M.2.1
section
variable{X:Cx}{J:List (Addr×Obj)}{σ:St}{H:Hp}{s:Shared}{a:Addr}{y d:V}{u r:Value}{o:Option V}{A:Around}{E:Value->Shared->Prop}
def za5(hu:A.units+1<cLine)(I:Inv X J σ H s)(g:fV H a y o)(ry:RelV y u)(rd:RelV d r)(h:∀w' s',Inv X J σ H s'->RelV (o.getD d) w'->Q w' s') :
  wpAny (model X.prog X.w) A (call (.builtin "dict.get") [.ref a,u,r]) Q E s:=by
 rcases g with ⟨kvs,k,e,ey,l⟩|⟨kvs,k,b,e,ey,eb,l⟩
 .subst ey;obtain⟨z,hd,vs,rel,dd⟩:=vD I.hok e;show call_meetsIn yh dd.typeIs Gd (PZ _ _ _) (meets_dict_get_default (fu X.prog X.w) a (ye ry) hd r) ⟨_,dd.mapOf,h _ _ (I.tok _) ?_⟩;rw[l];show (rel.val k).getD rd
 .subst ey;cases (show u=Value.ref b from ry);obtain⟨z,hd,xs,rel,dd⟩:=tP I.hok e;show call_meetsIn yh dd.typeIs Gd (PZ _ _ _) (meetsH_dict_get_default (tupleKind (fu X.prog X.w)) a b hd r) ⟨DC hu,k,xs,yU I.hok eb,dd,h _ _ (I.tok _) ?_⟩;rw[l];show (rel.val k).getD rd
end
def zgl(td ty tx:TE):TE:=λσ H Q=>td σ H λx H1=>∃a,x=.ref a/\QB H1 a/\ty σ H1 λy H2=>tx σ H2 λz H3=>∃o,fV H3 a y o/\Q (o.getD z) H3
section
variable{X:Cx}{o e f:Expr}{da bG:Pos}{td ty tx:TE}
def CK(hu:X.A.units+1<cLine)(ho:PE X o td)(he:PE X e ty)(hf:PE X f tx)(m:M2 X o "get" da e f bG):PE X (.Call (.Attribute o "get" da) [e,f] [] bG) (zgl td ty tx):=by
 intro J s σ H Q I h;show wpAny_Call_method m.base m.few m.line Qm yh Uq (ax (ho J s σ H _ I h) ?_);rintro u s1 ⟨x,H1,I1,rx,a,ex,d,q1⟩;subst ex;obtain rfl:u=Value.ref a:=rx;obtain⟨t1,t2,_⟩:=zaB I1 d;exists t1,t2,?_;rw[m.trees];show xp Y (zp (qf (ax (he J s1 σ H1 _ I1 q1) λiv s2 ⟨y,H2,I2,ry,q2⟩ =>
  qf (ax (hf J s2 σ H2 _ I2 q2) λfv s3 ⟨z,H3,I3,rz,ov,g,q3⟩=>xo ?_))))
 show za5 hu I3 g ry rz λw' s4 I4 fS=>⟨_,H3,I4,fS,q3⟩
end
end L2
namespace Att
open PySem PySem.W PySem.Calls PyProof.Rows
def XT:∀(ns:List Int) (vs:List Value),WellAll P h vs (ns.map WData.int)->IntsAre vs ns:=by
 intro ns;induction ns with
 |nil =>
  intro vs w;rw[o6]at w;cases w;show .nil
 |cons n ns ih =>
  intro vs w;rw[bz]at w;cases w with
  |cons a b =>
   cases a;show .cons _ _ (ih _ b)
def script_of{l:OpenLaw}{n:Nat}(hn:l.most=some n){P:Params}{h:Heap}{args:List WData}{vals:List Value}
  (BU:l.row.toRowW.claim.pre args=true) (fH:WellAll P h vals args) :
  ∃a vs ns,vals=[Value.ref a]/\args=[WData.list (ns.map WData.int)]/\h.get? a=some {cls:=.type "list",data:=.seq vs.toArray}/\IntsAre vs ns/\ns.length<=n:=by
 have hsh:=(pre_splitW BU).1;have hc:=(pre_splitW BU).2;obtain⟨d,r,rfl,Z,M⟩:=hasAllW_cons hsh;obtain rfl:=hasAllW_nil M;obtain⟨xs,rfl,h3⟩:=hasW_list Z;obtain⟨ns,rfl⟩:=items_int h3;have aL:ns.length<=n:=by
  have h4:(WTm.not (.lt (.lit (.int (n:Int))) (.len (.arg 0)))).holds [] {args:=[.list (ns.map .int)]}=true:=by
   have h4:=(holds_andW hc).1;rw[hn]at h4;show h4
  have h5:=condW_of h4 (w_not (w_lt w_lit (w_len_list (w_arg Y))));rw[ar]at h5;show Nat.le_of_not_lt λq=>?_
  have q':(n:Int)<((ns.length:Nat):Int):=by omega
  first
   |(rw[aR q']at h5;show absurd h5 tD)
   |(simp at h5;omega)
 cases fH with
 |cons w1 w2 =>
  cases w2;cases w1 with
  |list ho fP=>exists _,_,ns,Y,Y,ho,XT ns _ fP,aL
def post_true(l:OpenLaw)(args:List WData):l.row.toRowW.claim.post args (.bool true) args=true :=
 postW_of (r:=l.row.toRowW) (X:=(true == true))
  (show WShape.has [] (.bool true) .bool=true by first|rfl|decide|simp[WShape.has,WShape.arms,WShape.armsAll])
  (show (WTm.eq .res (.lit (.bool true))).value [] {args:=args,res:=some (.bool true),after:=args}=some (.bool (true == true)) from w_eq_bool (w_res Y) w_lit) rfl
end Att
namespace L2
open PySem PySem.Spec PyProof.Rows
theorem CZ:∀{vs:List Value}{ns:List Int},IntsAre vs ns->Vals (ns.map V.int) vs
 |_,_,.nil=>.nil
 |_,_,.cons n t h=>.cons ⟨t,Y⟩ (CZ h)
def Km(H:Hp):Prop:=∀b,H b=none\/∃o xs,H b=some (.frz o (.lst xs))
set_option tactic.hygienic true in
def zbJ{P:Program}{w:World}{K:Frag}{mg mb:Str->Option Value}{CX:kd}{k:Nat}{fa a:Addr}{fd:FuncData}{x:Str}{sp:Sp}{s₁:Shared}{vs:List Value}{ns:List Int}
  (KX:K.In s₁.heap) (CL:s₁.heap.Ns mainGlobals mg) (hb:s₁.heap.Ns builtinsNs mb) (hbb:∀x:Str,x ≠ "__name__" -> mb x=bootBuiltins x) (hlim:s₁.heap.NoLimit) (hg:s₁.gens = #[])
  (ha:s₁.heap.get? a=some {cls:=.type "list",data:=.seq vs.toArray}) (hi:IntsAre vs ns) (hl:ns.length<=sizeLine) (hr:bY k callerA)
  (F:∀base:Heap,K.In base->base.Ns mainGlobals mg->hV P w K mg base CX k fa fd [x] sp) (hbind:∀(s:Shared) (u:Value),BindsTo s fd ⟨[u],[]⟩ [(x,u)])
  (gU:∀H:Hp,Km H->ai K H a (ns.map V.int)->sp [.ref a] H (λv _=>v=.bl true) λ_ _ _=>False)
  (Fb:∀H e s',CX [] H s₁ (λ_ _ _=>False) e s'->False) :
  codeAny (model P w) callerA (.call (.ref fa) ⟨[.ref a],[]⟩) (λr s'=>r=.ok (.ret (.bool true))/\OldK s₁.heap s'.heap/\s'.os=s₁.os/\AllBare s'.gens) s₁:=by
 have rv:=CZ hi;have lenV:=hi.length;have core:∀H:Hp,Km H->ai K H a (ns.map V.int)->cz P w H s₁.heap->(∀b,H b≠none->b=a)->(H a≠none->K.lookup a=none) ->
   codeAny (model P w) callerA (.call (.ref fa) ⟨[.ref a],[]⟩) (λr s'=>r=.ok (.ret (.bool true))/\OldK s₁.heap s'.heap/\s'.os=s₁.os/\AllBare s'.gens) s₁:=by
  intro H hO hS hok hA hK;have MV:∀{b:Addr}{o:Obj},s₁.heap.get? b=some o->H b=none->(nN s₁.heap H).get? b=some o:=λe n=>zdl e n
  have xR:∀{b:Addr}{o:Obj}{es:Array DictEntry}{ep:Nat},s₁.heap.get? b=some o->o.data=.dict es ep->H b=none:=fun {b o es ep} e d=>by grind
  have AR:∀{b:Addr}{m:Str->Option Value},s₁.heap.Ns b m->(nN s₁.heap H).Ns b m:=fun {b m} ⟨o,es,ep,e,d,r⟩=>⟨o,es,ep,MV e (xR e d),d,r⟩
  have Nw:K.In (nN s₁.heap H):=λb o e=>MV (KX b o e) (by grind)
  have hM:Mod K mg (nN s₁.heap H):=⟨Nw,AR CL,⟨mb,AR hb,hbb⟩,let ⟨mc,Z,M⟩:=hlim; ⟨mc,AR Z,M⟩⟩;have e0:sZ P w K mg (nN s₁.heap H) callerA [] s₁ H:=⟨Y,hM,λb o e=>Za e,Ji (zco _ _),trivial,λb hb=>absurd (show b∈([]:List Addr) from hb) tS,hok,.of_eq hg⟩;show yE ((F _ Nw (AR CL)).run callerA [] s₁ H ⟨[.ref a],[]⟩ [.ref a] [.ref a] _ _ hr e0 (hbind s₁ (.ref a)) (.cons Y .nil) (gU H hO hS)) λr s' h=>?_
  cases r with
  |error e=>show (Fb H e s' h).elim
  |ok fl =>
   cases fl with
   |next=>show False.elim h
   |brk=>show False.elim h
   |cont=>show False.elim h
   |ret u =>
    obtain⟨v,O,os,bare,un,hok',r',q⟩:=h;have q':=q;subst q';obtain rfl:u=Value.bool true:=r';exists Y,OldK.of_keep λb o e=>?_,os,bare;cases q:H b with
    |none=>show un.keep b o e q (by intro z;show absurd (show b∈([]:List Addr) from z) tS) tS
    |some u =>
     rcases hO b with z|⟨ob,xs,z⟩
     .rw[q]at z;cases z
     .have z2:=un.frzs b ob _ z;obtain⟨e1,_⟩:=hok b _ z;obtain⟨e2,_⟩:=hok' b _ z2;rw[e]at e1;cases e1;show e2
 cases hk:K.lookup a with
 |some o =>
  have e:=KX a o hk;rw[ha]at e;cases e;show core (λ_=>none) (λ_=>.inl Y) (.inr ⟨_,vs.toArray,_,hk,Y,Y,Y,by simp_all,by simpa using rv⟩) (λb u z=>by simp_all) (λb z=>absurd Y z) λz=>absurd Y z
 |none =>
  show core (λb=>if b=a then some (.frz {cls:=.type "list",data:=.seq vs.toArray} (.lst (ns.map V.int)))else none) (λb=>?_) (.inl (.inr ⟨{cls:=.type "list",data:=.seq vs.toArray},aj Y⟩)) (λb u z=>?_) (λb z=>?_) λ_=>hk
  .by_cases hb:b=a
   .exact .inr ⟨_,_,aj hb⟩
   .exact .inl (ah hb)
  .by_cases hb:b=a
   .have z':=(aj hb).symm.trans z;cases z';subst hb;exists ha,by simp_all,vs,_,rv,ha
   .have z':=(ah hb).symm.trans z;cases z'
  .by_cases hb:b=a
   .exact hb
   .exact absurd (ah hb) z
abbrev pz:kd:=λ_ _ _ _ _ _=>False
abbrev E0:XK:=λ_ _ _=>False
def F8:qg pz X E0:=λ_ _ _ _ _ _ _ h=>h.elim
structure mi(K:Frag)(x qual:Str)(st:Stmt)(f:Addr)(fd:FuncData):Prop where
 ex:∃(oc:Value) (od:Option Addr) (kV doc pm:Value) (an:Option Addr) (bL ct:Value) (oK:Array (Option Value)),
  fd=PySem.W.fnOf x qual (yI st) (lP st) (bX st) .none kV doc pm an bL ct/\K.lookup f=some ⟨oc,od,.func fd,oK⟩/\PySem.W.codeIn K bL qual=true
 kp:PySem.W.keepIn K (.ref f)=true
section
variable{P:Program}{w:World}{K:Frag}{mg:Str->Option Value}{base:Heap}
def mi.ok{x qual:Str}{st:Stmt}{f:Addr}{fd:FuncData}{N ps:List Str}{k:Nat}{sp:Sp}(F:mi K x qual st f fd)(S:nM N ps (bX st))(len:∀vs H Q E,sp vs H Q E->vs.length=ps.length)
  (Fx:∀ (bL:Value) (A:Around) (outer:List Env) (s:Shared) (H:Hp) (vs:List V) (Q:VK) (E:XK),bY k (A.deeper (envOfC qual (bX st) s.heap.objs.size f bL))->sp vs H Q E -> ∃t,dg (jh pz P w K mg base N qual (bX st) f bL A outer s H E).nox (lP st) t/\t {nx:=λ_ O=>Q .non O,rt:=Q} (jF N vs) H):hV P w K mg base pz (k+1) f fd ps sp:=by
 obtain⟨oc,od,kV,doc,pm,an,bL,ct,oK,rfl,lk,jl⟩:=F.ex;show Wi lk jl S len λA outer s H vs Q E hr gU=>?_
 obtain⟨t,h,q⟩:=Fx bL A outer s H vs Q E hr gU;exists t,h.nox,q
def zbM{x qual:Str}{st:Stmt}{f:Addr}{oc:Value}{od an:Option Addr}{oK:Array (Option Value)}{kV doc pm bL ct:Value}(l:K.lookup f=some ⟨oc,od,.func (PySem.W.fnOf x qual (yI st) (lP st) (bX st) .none kV doc pm an bL ct),oK⟩)
  (c:PySem.W.codeIn K bL qual=true) (k:PySem.W.keepIn K (.ref f)=true):mi K x qual st f (PySem.W.fnOf x qual (yI st) (lP st) (bX st) .none kV doc pm an bL ct):=⟨⟨oc,od,kV,doc,pm,an,bL,ct,oK,Y,l,c⟩,k⟩
end
def Mw(hr:bY k A):A.units+1<cLine:=gv (rq (by decide:1<=64) _) hr.units
section
variable{X:Cx}
def pv(i:Nat)(hN:autoParam (X.N[i]?=some x) tR._auto_1)(hv:autoParam (zL X.env.scope x) tG._auto_1)(hd:autoParam ((x == ("__debug__" : Str))=false) tD._auto_1)
  (jl:autoParam ((x == ("__classdict__" : Str))=false) tD._auto_1):PE X (.Name x pos) (iH i):=VR hN hv hd jl
end
def gC{A B:Prop}(h:B):if false=true then A else B:=by assumption
def il{A B:Prop}(h:A):if true=true then A else B:=by assumption
def md{c A B:Prop}[Decidable c](Z:c->A)(M:¬c->B):if c then A else B:=by simp_all
def O4{c A B:Prop}[Decidable c](hc:c)(h:B):if (!decide c)=true then A else B:=by simp_all
def ag(H O:Hp):Prop:=∀b o,H b=some o->O b=some o
def ag.refl(H:Hp):ag H H:=λ_ _ h=>h
def ag.trans(a:ag H H1)(b:ag H1 H2):ag H H2:=λc o h=>b c o (a c o h)
def ag.free(e:ag H O)(h:O l=Option.none):H l=Option.none:=by
 cases q:H l with
 |none=>rfl
 |some o =>
  rw[e l o q]at h;cases h
def ag.seq{K:Frag}{H O:Hp}{a:Addr}{xs:List V}(e:ag H O)(h:ai K H a xs):ai K O a xs:=by
 rcases h with (h|⟨o,h⟩)|h
 .exact .inl (.inl (e _ _ h))
 .exact .inl (.inr ⟨o,e _ _ h⟩)
 .exact .inr h
section
variable{κ:Type}[DecidableEq κ]
theorem MH:∀{l:List κ}{k:κ},l.Nodup->¬k∈l->(l++[k]).Nodup
 |[],k,_,_=>by simp
 |a::r,k,h,hk=>by
  obtain⟨Z,M⟩:=i8.mp h;show i8.mpr ⟨λm=>?_,MH M λm=>hk (aV.mpr (Or.inr m))⟩;rcases bC.mp m with q|q
  .exact Z q
  .exact hk (aV.mpr (Or.inl (bH.mp q).symm))
end
end L2
namespace OF
abbrev ak:=List (Int×Int)
noncomputable def aA:ak->Int->Int
 |[],_=>0
 |p::r,k=>(if p.1=k then p.2 else 0)+aA r k
structure IsForm(f:ak):Prop where
 rise:f.Pairwise (λa b=>a.1<b.1)
 nz:∀p∈f,p.2≠0
theorem gi:∀(a b:ak) (k:Int),aA (a++b) k=aA a k+aA b k
 |[],b,k=>by simp[aA]
 |p::r,b,k=>by
  have ih:=gi r b k;simp only[pK,aA,ih];lia
def zey(a:ak)(p:Int×Int)(k:Int):aA (a++[p]) k=aA a k+(if p.1=k then p.2 else 0):=by
 rw[gi];simp[aA]
theorem DI:∀(a:ak) (k:Int),aA (a.map λp=>(p.1,-p.2)) k = -aA a k
 |[],_=>rfl
 |p::r,k=>by
  simp only[bz,aA,DI r k];split<;>lia
theorem t9:∀(a:ak) (k:Int),(∀p∈a,p.1≠k)->aA a k=0
 |[],_,_=>rfl
 |p::r,k,h=>by
  have Z:=h p tS;simp only[aA,ah Z,t9 r k λq hq=>h q (by simp[hq])];rfl
def rh(h:∀q∈r,p.1<q.1):aA (p::r) p.1=p.2:=by
 simp only[aA,aj];rw[t9 r p.1 λq hq=>U5 (h q hq)];lia
theorem VB:∀{f g:ak},IsForm f->IsForm g->(∀k,aA f k=aA g k)->f=g
 |[],[],_,_,_=>rfl
 |[],q::s,_,hg,h=>by
  have Z:=fU.mp hg.rise;have M:=h q.1;rw[rh Z.1]at M;show absurd M.symm (hg.nz q tS)
 |p::r,[],hf,_,h=>by
  have Z:=fU.mp hf.rise;have M:=h p.1;rw[rh Z.1]at M;show absurd M (hf.nz p tS)
 |p::r,q::s,hf,hg,h=>by
  have f1:=fU.mp hf.rise;have g1:=fU.mp hg.rise;have k8:p.1=q.1:=by
   rcases LV p.1 q.1 with hl|he|hl
   .have M:=h p.1;rw[rh f1.1,t9 (q::s) p.1 (λz hz=>by grind)]at M;show absurd M (hf.nz p tS)
   .exact he
   .have M:=h q.1;rw[rh g1.1,t9 (p::r) q.1 (λz hz=>by grind)]at M;show absurd M.symm (hg.nz q tS)
  have hv:p.2=q.2:=by
   have M:=h p.1;rw[rh f1.1,k8,rh g1.1]at M;show M
  have e:=Hl k8 hv;subst e;have ih:=VB (f:=r) (g:=s) ⟨f1.2,λz hz=>hf.nz z (by simp[hz])⟩ ⟨g1.2,λz hz=>hg.nz z (by simp[hz])⟩ λk=>by
   have M:=h k;simp only[aA]at M;lia
  rw[ih]
noncomputable def look:ak->Int->Option Int
 |[],_=>none
 |p::r,k=>if p.1=k then some p.2 else look r k
def cK(d:ak)(k:Int):Int:=(look d k).getD 0
noncomputable def gm(d:ak)(k v:Int):ak:=if (d.any λp=>decide (p.1=k))=true then d.map (λp=>if p.1=k then (p.1,v)else p)else d++[(k,v)]
theorem wq(k:Int):∀d:ak,(d.any λp=>decide (p.1=k))=(look d k).isSome
 |[]=>rfl
 |p::r=>by
  rw[ou,look];by_cases e:p.1=k
  .simp[e]
  .simp[e,wq k r]
theorem Vu(k j v:Int):∀d:ak,look (d.map λp=>if p.1=k then (p.1,v)else p) j=(look d j).map λx=>if j=k then v else x
 |[]=>rfl
 |p::r=>by
  have ih:=Vu k j v r;rw[bz];by_cases h:p.1=k
  .rw[aj h];by_cases e:p.1=j
   .simp[look,e,show j=k from e.symm.trans h]
   .simp[look,e,ih]
  .rw[ah h];by_cases e:p.1=j
   .simp[look,e,show ¬j=k from λz=>h (e.trans z)]
   .simp[look,e,ih]
theorem Og(k j v:Int):∀d:ak,look d k=none->look (d++[(k,v)]) j=if j=k then some v else look d j
 |[],_=>by
  by_cases e:k=j
  .simp[look,e]
  .simp[look,e,show ¬j=k from λz=>e z.symm]
 |p::r,hn=>by
  have hk:¬p.1=k:=λz=>by simp[look,z]at hn
  have sW:look r k=none:=by simpa [look,hk] using hn
  have ih:=Og k j v r sW;rw[pK];by_cases e:p.1=j
  .simp[look,e,show ¬j=k from λz=>hk (e.trans z)]
  .simp[look,e,ih]
def Ej(d:ak)(k j v:Int):look (gm d k v) j=if j=k then some v else look d j:=by
 unfold gm;by_cases a:(d.any λp=>decide (p.1=k))=true
 .rw[aj a,Vu];rw[wq]at a;by_cases e:j=k
  .obtain⟨x,hx⟩:=OK.mp a;rw[e,hx];simp
  .rw[ah e];cases look d j<;>simp[e]
 .rw[ah a];show Og k j v d ?_;rw[wq]at a;cases q:look d k with
  |none=>rfl
  |some x=>rw[q]at a;show (a Y).elim
def OD(d:ak)(k v:Int):(gm d k v).length<=d.length+1:=by
 unfold gm;split
 .rw[ar];lia
 .simp
def yB:look d k≠none↔k∈d.map (·.1):=by
 induction d with
 |nil=>simp[look]
 |cons p r ih =>
  rw[bz,aV,look];by_cases e:p.1=k
  .simp[e]
  .have e':¬k=p.1:=λz=>e z.symm
   simp only[ah e];rw[ih];simp[e']
def DE(d:ak)(k v:Int):(gm d k v).map (·.1)=if (look d k).isSome then d.map (·.1)else d.map (·.1)++[k]:=by
 unfold gm;rw[wq];by_cases a:(look d k).isSome=true
 .rw[aj a,aj a,cE];congr 1
  funext p
  simp only[Function.comp];split<;>rfl
 .rw[ah a,ah a,aN];rfl
def ze9(k v:Int)(h:(d.map (·.1)).Nodup):((gm d k v).map (·.1)).Nodup:=by
 rw[DE];by_cases a:(look d k).isSome=true
 .rw[aj a];show h
 .rw[ah a];have hk:¬k∈d.map (·.1):=λm=>a (by
   have:=yB.mpr m
   cases q:look d k with
   |none=>show (this q).elim
   |some x=>rfl)
  show Eb.mpr ⟨h,tS,λa ha b hb=>by grind⟩
def zfv(d:ak)(k j v:Int):cK (gm d k v) j=if j=k then v else cK d j:=by
 unfold cK;rw[Ej];split<;>rfl
structure DictOf(d l:ak):Prop where
 nd:(d.map (·.1)).Nodup
 len:d.length<=l.length
 val:∀k,cK d k=aA l k
 src:∀k∈d.map (·.1),k∈l.map (·.1)
def Hx:DictOf [] []:=⟨ND,aC _,λ_=>rfl,λ_ h=>h⟩
def DictOf.snoc(h:DictOf d l)(p:Int×Int):DictOf (gm d p.1 (cK d p.1+p.2)) (l++[p]):=by
 exists ze9 _ _ h.nd,?_,λk=>?_,λk hk=>?_
 .have:=OD d p.1 (cK d p.1+p.2);have:=h.len;simp;lia
 .rw[zfv,zey,<-h.val];by_cases e:k=p.1
  .subst e;simp
  .simp[e,show ¬p.1=k from λz=>e z.symm]
 .rw[DE]at hk;rw[aN,bC];split at hk
  .exact .inl (h.src k hk)
  .rcases bC.mp hk with hk|hk
   .exact .inl (h.src k hk)
   .exact .inr (by simpa using hk)
def cS(d:ak)(ks:List Int):ak:=(ks.filter λk=>decide (cK d k≠0)).map λk=>(k,cK d k)
theorem QA(d:ak):∀(ks:List Int),ks.Nodup->∀k,aA (cS d ks) k=if k∈ks then cK d k else 0
 |[],_,k=>by simp[cS,aA]
 |a::r,hn,k=>by
  have Z:=i8.mp hn;have ih:=QA d r Z.2 k;have e0:cS d (a::r)=if cK d a≠0 then (a,cK d a)::cS d r else cS d r:=by
   unfold cS;rw[zu];by_cases e:cK d a=0<;>simp[e]
  rw[e0];by_cases e:a=k
  .subst e;have:¬a∈r:=Z.1;by_cases z:cK d a=0
   .simp[z,ih,this]
   .simp[z,aA,ih,this]
  .have e':¬k=a:=λz=>e z.symm
   by_cases z:cK d a=0
   .simp[z,ih,e']
   .simp[z,aA,ih,e,e']
def zcK(d:ak)(h:ks.Pairwise (· < ·)):IsForm (cS d ks):=by
 exists ?_,λp hp=>?_
 .unfold cS;rw[fX];show (h.filter _)
 .unfold cS at hp;obtain⟨k,hk,e⟩:=aU.mp hp;subst e;simpa using (tX.mp hk).2
theorem Nf:∀{ks:List Int},ks.Pairwise (· <= ·)->ks.Nodup->ks.Pairwise (· < ·)
 |[],_,_=>.nil
 |a::r,h,n=>by
  have Z:=fU.mp h;have n1:=i8.mp n;show .cons (λb hb=>?_) (Nf Z.2 n1.2)
  have:=Z.1 b hb
  have:a≠b:=λe=>n1.1 (e ▸ hb)
  lia
structure aT(f l:ak):Prop extends IsForm f where
 val:∀k,aA f k=aA l k
 src:∀p∈f,p.1∈l.map (·.1)
set_option tactic.hygienic true in
def FV(h:DictOf d l)(hp:ks.Perm (d.map (·.1)))(hs:ks.Pairwise (· <= ·)):aT (cS d ks) l:=by
 have nd:=hp.nodup_iff.mpr h.nd;exists zcK d (Nf hs nd),λk=>?_,λp hq=>?_
 .rw[QA d ks nd,<-h.val];split
  .rfl
  .rename_i hk;unfold cK
   have:look d k=none:=by
    cases q:look d k with
    |none=>rfl
    |some x=>show (hk (hp.mem_iff.mpr (yB.mp (by rw[q];simp)))).elim
   rw[this];rfl
 .unfold cS at hq;obtain⟨k,hk,e⟩:=aU.mp hq;subst e;show h.src k (hp.mem_iff.mp (tX.mp hk).1)
def aT.unique(a:aT f l)(b:aT g m)(h:∀k,aA l k=aA m k):f=g :=
 VB a.toIsForm b.toIsForm λk=>by rw[a.val,b.val,h]
def aT.self(h:IsForm f):aT f f:=⟨h,λ_=>rfl,λp hp=>aU.mpr ⟨p,hp,Y⟩⟩
def yK(d:ak)(ks:List Int):(cS d ks).length<=ks.length:=by
 unfold cS;rw[ar];show mO _ _
end OF
namespace L2
open PySem PySem.Spec PyProof.Rows
section
variable{X:Cx}
def zdv(i j:Int):Prop:=0<j/\j.natAbs.log2<9000
def sj:bx X (binaryOp .FloorDiv) (rI zdv λi j=>.int (i/j)):=u9 λi j _ _ _ _ _ hc q=>by
 have Z:=hc.1;have e:=Int.fdiv_eq_ediv_of_nonneg i (ph Z);show floordiv_int (U5 Z) (by rw[e];show q) (.inl (PyProof.noPylong_of_log2 hc.2))
def gw:bx X (binaryOp .Mult) (rI IntMulOk λi j=>.int (i*j)):=u9 λ_ _ _ _ _ _ _ hc q=>mul_int q hc
def yO{j:Int}(Z:0<j)(M:j<2^250):0<j/\j.natAbs.log2<9000:=by
 exists Z,?_;have h3:j.natAbs<2^250:=by grind
 have h4:j.natAbs≠0:=by lia
 have:=(BS h4).mpr h3
 lia
def GB(hc:X.calm=true):gA X (.builtin "sum") (λxs H Q=>∃(a:Addr) (ns:List Int),xs=[.ref a]/\ai X.K H a (ns.map V.int)/\Q (.int ns.sum) H):=by
 intro J s σ H xs us Q I r h;obtain⟨a,ns,rfl,hq,q⟩:=h;obtain⟨u,rfl,ru⟩:=gF r;cases (show u=Value.ref a from ru);obtain⟨ae,rv,p,hz⟩:=I.list hq;have hi:=wu rv;obtain⟨zs,pT⟩:=hi.allInts.items;have hs:(PySem.numsOf ae.toArray.toList).sum=ns.sum:=by rw[show ae.toArray.toList=ae from rfl,hi.numsOf]
 rw[pT,PySem.nums_intItems]at hs;show sum_intListG (I.ok.hd hc) (pT ▸ p.isList) λh' tk t' hk=>?_
 exists .int ns.sum,H,I.kept (t':=tk) hk,⟨t',?_⟩,q;rw[preSum_eq,f9 tS,hs]
def ze7:V->List V->Hp->VK->Prop:=λx vs H Q=>∃l xs k y,x=.ref l/\vs=[.int (k:Nat),y]/\H l=some (.lst xs)/\k<=xs.length/\xs.length<sizeLine/\Q .non (upd H l (.lst (xs.take k++y::xs.drop k)))
def Vk:gn X "list.insert" ze7:=by
 intro J s σ H x vs v us Q I rx rv h;obtain⟨l,xs,k,y,rfl,rfl,hH,hk,hz,q⟩:=h;cases rx;obtain⟨u,w',rfl,ru,fS⟩:=rv.two;obtain⟨t,rfl⟩:=ru;obtain⟨z,ae,n,r,hl,e⟩:=I.lstM hH;have aL:=r.length;have Qh:¬(!Builtin.List.listFitsIndex (k:Int))=true:=by
  have Z:(k:Int)<2^63:=by
   have:=mL
   have:k<2^63:=by lia
   exact_mod_cast this
  have h0:(0:Int)<=(k:Int):=jI _;simp[Builtin.List.listFitsIndex];lia
 have hsz:ae.toArray.size<=sizeLine:=by simp_all
 obtain⟨x,hx⟩:∃x:Int,x=(k:Int):=⟨_,Y⟩;rw[<-hx]at Qh ⊢;have qad:=AutoSeq1.list_insert_list_int_val_1 l ae.toArray n x t w' Qh hsz;show jV F.slot_list_insert ⟨_,e,Y⟩ F.entry_list_insert (F.args_list_insert_3 _ _ _) qad ⟨e,?_⟩;exists .non,_,I.lset (its':=ae.take k++w'::ae.drop k) hH e ?_ (Vals.append (r.take k) (.cons fS (r.drop k))) ?_,Y,q
 .have Z:¬(x<0):=by lia
  have M:min x.toNat ae.toArray.size=k:=by simp_all
  apply Array.ext';simp only[ah Z,M];simp[II];rw[f9 (by simp)]
 .rw[aX,bf,cZ,mW];lia
end
def cI.there(x:cI P w H h a o):∃ob,h.get? a=some ob:=by
 cases o with
 |lst xs=>obtain⟨_,_,_,_,e⟩:=x;exists _,e
 |tup xs=>obtain⟨_,_,_,o,e,_⟩:=x;exists _,e
 |dK kvs=>obtain⟨_,_,_,_,o,_,_,e,_⟩:=x;exists _,e
 |dT kvs=>obtain⟨_,_,_,_,o,_,_,e,_⟩:=x;exists _,e
 |set S n=>obtain⟨o,_,_,_,e,_⟩:=x;exists _,e
 |ins C dx fs=>obtain⟨_,_,_,e,_⟩:=x;exists _,e
 |own y=>show x
 |xd fs=>obtain⟨_,⟨_,_,_,e,_⟩,_⟩:=x;exists _,e
 |rng lo hi=>obtain⟨_,_,_,e⟩:=x;exists _,e
 |frz ob u=>obtain⟨e,_⟩:=x;exists _,e
 |tbl ps=>exists _,x
 |met f y=>exists _,x
 |ext φ=>obtain⟨_,e,_⟩:=x;show e
def Inv.laidN(I:Inv X J σ H s)(k:∀b u,s.heap.get? b=some u->h'.get? b=some u)(hn:s.heap.get? a=none)
  (new:cI X.prog X.w (upd H a o) h' a o):Inv X J σ (upd H a o) {s with heap:=h',toks:=t'}:=by
 have hH:H a=none:=by
  cases q:H a with
  |none=>rfl
  |some u =>
   obtain⟨ob,e⟩:=(I.hok a u q).there;rw[hn]at e;cases e
 show I.un ⟨λb u q _ _ _=>k b u q,λb u q _ _ _=>⟨u.slots,k b u q⟩,λb u q n _=>?_,λb u q _=>⟨u,k b u q⟩,λb xs q=>?_,λb u xs q=>?_,λb ps q=>⟨#[],?_⟩⟩ λb u e=>?_
 .rw[aG (by lia)];show n
 .rw[aG (de q hH)];show q
 .rw[aG (de q hH)];show q
 .rw[aG (de q hH),q];simp
 .by_cases hb:b=a
  .subst hb;rw[ao]at e;cases e;show new
  .rw[aG hb]at e;show (I.hok b u e).stay (λc v _ q=>k c v q) (λc q=>by rw[aG (de q hH)];show q) λc xs q=>by rw[aG (de q hH)];show q
theorem yP:∀(names:List (Str×NameKind)) (acc:List (Str×Addr)),(∀x,(x,NameKind.free)∈names->∃c,env.cells.lookup x=some c) ->
  ∃cl,(forIn names acc λ(x:Str×NameKind) (cs:List (Str×Addr))=>(if (x.2 == NameKind.free)=true then (do let a <-cellOf env x.1;pure (ForInStep.yield ((x.1,a)::cs)))else pure (ForInStep.yield cs):Sem (ForInStep (List (Str×Addr)))))=pure cl /\
   ∀x,cl.lookup x=(if (x,NameKind.free)∈names then env.cells.lookup x else acc.lookup x)
 |[],acc,_=>⟨acc,Y,λx=>tS⟩
 |(n,k)::r,acc,h=>by
  by_cases hk:k=NameKind.free
  .subst hk;obtain⟨c,hc⟩:=h n tS;obtain⟨cl,e,l⟩:=yP (env:=env) r ((n,c)::acc) λx hx=>h x (by simp[hx])
   exists cl,?_,λx=>?_
   .rw[A8];have j3:cellOf env n=pure c:=by unfold cellOf;rw[hc]
    simp only[beq_self_eq_true,eS,j3,pure_bind];show e
   .rw[l x];by_cases hx:(x,NameKind.free)∈r
    .simp[hx]
    .by_cases hn:x=n
     .subst hn;simp[hx,hc]
     .have hb:(x == n)=false:=by simpa using hn
      simp[hx,hn,Br,hb]
  .have hb:(k == NameKind.free)=false:=by simpa using hk
   obtain⟨cl,e,l⟩:=yP (env:=env) r acc λx hx=>h x (by simp[hx])
   exists cl,?_,λx=>?_
   .rw[A8];simp only[hb,eP,dw,pure_bind];show e
   .rw[l x];have:¬((x,NameKind.free)=(n,k)):=λz=>hk (by simp_all)
    simp[aV,this]
theorem EM(env:Env)(x:Str):∀(names:List (Str×NameKind)),(names.map λ(n,k)=>if (k == NameKind.free&&env.scope.kind == .function&&env.kindOf n == some .cell)then (n,NameKind.cell)else (n,k)).lookup x =
  (names.lookup x).map λk=>if (k == NameKind.free&&env.scope.kind == .function&&env.kindOf x == some .cell)then NameKind.cell else k
 |[]=>rfl
 |(n,k)::r=>by
  have ih:=EM env x r;show List.lookup x ((if (k == NameKind.free&&env.scope.kind == .function&&env.kindOf n == some .cell)=true then (n,NameKind.cell)else (n,k))::_)=_;by_cases hx:x=n
  .subst hx;split<;>simp_all [Br]
  .have hb:(x == n)=false:=by simpa using hx
   split
   .simp only[Br,hb];show ih
   .simp only[Br,hb];show ih
noncomputable abbrev fM(X:Cx)(N':List Str)(scope:Scope)(cl:List (Str×Addr))(C:Addr)(s₀:Shared)(H₀:Hp)(fp:List Addr):Cx :=
 {X with N:=N',s₀:=s₀,H₀:=H₀,env:=compEnvC scope cl C X.env,outer:=X.stack,ex:=fp,fn:=λ_=>false,pn:=[],xe:=λ_ _=>False}
structure qe(X:Cx)(scope:Scope)(N':List Str)(nT:Nat)(js:List Nat):Prop where
 kind:scope.kind=.function
 nocell:∀y∈scope.names,y.2≠.cell
 names:∀y∈scope.names,y.2=.local->scope.names.lookup y.1=some .local
 len:N'.length=nT+js.length
 frees:∀(k j:Nat) (x:Str),js[k]?=some j->N'[nT+k]?=some x->X.N[j]?=some x
 kinds:∀y∈scope.names,y.2=.free->X.env.scope.names.lookup y.1=some .cell
 vis:∀x∈N'.drop nT,scope.names.lookup x=some .free
noncomputable def sh(nT:Nat)(js:List Nat)(σ:St):St:=List.replicate nT none++js.map λj=>(σ[j]?).join
def NB(wi:TI)(nT:Nat)(js:List Nat)(g:TG)(tc:TT)(te:TE):TE:=λσ H Q=>wi σ H λqae H1=>∃W:Nat->Nat->List V->St->Hp->Prop,(∃m,W 0 m [] (sh nT js σ) H1)/\∀i m ys σ H,W i m ys σ H ->
 (qae.stop i H/\∀D,H D=none->Q (.ref D) (upd H D (.lst ys))) \/
 (qae.go i H/\ys.length<sizeLine/\∃ N:List V->St->Hp->Prop,(∀ cb σ' O,N cb σ' O->∃ m',m'<m/\W (i+1) m' cb σ' O) /\ ∀x O,qae.yld i H x O->g x σ O λσ2 H2=>tc σ2 H2 λb H3=>if b=true then te σ2 H3 λy H4=>N (ys++[y]) σ2 H4 else N ys σ2 H3)
def nX(X:Cx)(ifs:List Expr)(t:TT):Prop :=
 ∀(J:List (Addr×Obj)) (s:Shared) (σ:St) (H:Hp) (Q:Bool->Hp->Prop),Inv X J σ H s->t σ H Q ->
  wpAny (model X.prog X.w) X.A (forIn ifs true λc r=>if r=true then do let ok <-isTrue c X.env (eval c X.env);pure (ForInStep.yield ok)else pure (ForInStep.yield r)) (TP X J σ Q) X.xe s
def AQ:TT:=λ_ H Q=>Q true H
def JP:nX X [] AQ:=λ_ _ _ H _ I h=>wpAny_tests_nil ⟨H,I,h⟩
def ZZ(h:PT X c t):nX X [c] t:=λJ s σ H Q I q=>wpAny_tests_one (h J s σ H Q I q)
section
variable{prog:Program}{w:World}{A:Around}{R:Result->Shared->Prop}{s:Shared}
theorem zbp(I:Nat->Shared->Prop)
  (turn:∀ n s,I n s->wpAny (model prog w) A (pyNext it) (fun r s₁=>match r with
   |none=>R (.ok .next) s₁
   |some v=>wpAny (model prog w) A (letOwnedTupleGo target it v) (λ_ s₁'=>wpAny (model prog w) A (assign target env v) (λ_ s₂ =>
     wpAny (model prog w) A (forIn ifs true λc r=>if r=true then do let ok <-isTrue c env (eval c env);pure (ForInStep.yield ok)else pure (ForInStep.yield r)) (λok s₃ =>
      if ok=true then wpAny (model prog w) A (eval elt env) (λx s₄ =>
       wpAny (model prog w) A (call (.builtin "list.append") [acc,x]) (λ_ s₅=>∃m,m<n/\I m s₅) (λ_ _=>False) s₄) (λ_ _=>False) s₃
      else ∃m,m<n/\I m s₃) (λ_ _=>False) s₂) (λ_ _=>False) s₁') (λ_ _=>False) s₁) (λ_ _=>False) s)
  (n:Nat) (h:I n s) :
  codeAny (model prog w) A (.compLoop (.ListComp elt [⟨target,iter,ifs,0⟩] scope pos) 0 it acc env) R s:=by
 show codeAny_loop Y I (λn s hI=>?_) n h;show wpAny _ A ((compTurn (.ListComp elt [⟨target,iter,ifs,0⟩] scope pos) 0 it acc env).onRaise (λx=>do noteFrame x env;theTreesLotGoes x)) _ _ s;show wpAny_noted ?_;rw[compTurn_list];show aq (Ac (aq (cC (turn n s hI) (λr s₁ h₁=>?_) λ_ _ h'=>h'.elim)));cases r with
 |none=>show aS h₁
 |some v =>
  show aq (cC h₁ (λ_ s₁' h₁'=>?_) λ_ _ h'=>h'.elim);show aq (cC h₁' (λ_ s₂ h₂=>aq (cC h₂ (λok s₃ h₃=>?_) λ_ _ h'=>h'.elim)) λ_ _ h'=>h'.elim);cases ok with
  |false=>show aS ⟨Y,h₃⟩
  |true =>
   show aq (aq (cC h₃ (λx s₄ h₄=>aq (cC h₄ (λ_ s₅ h₅=>aS (aS ⟨Y,h₅⟩)) λ_ _ h'=>h'.elim)) λ_ _ h'=>h'.elim))
end
def Kn(TK:Nat->Value->Prop)(X:Cx)(e:Expr)(t:TE):Prop:=∀(J:List (Addr×Obj)) (s:Shared) (σ:St) (H:Hp) (Q:VK),Inv X J σ H s->t σ H Q->wpAny (model X.prog X.w) X.A (eval e X.env) (λu s'=>TK s'.toks u/\EP X J σ Q u s') X.xe s
def PE.k(h:PE X e t):Kn (λ_ _=>True) X e t:=λJ s σ H Q I w=>ax (h J s σ H Q I w) λ_ _ z=>⟨trivial,z⟩
def UP(ae:List Value)(no:Nat)(ys:List V)(H:Hp)(h:Heap)(a:Addr)(z:ys.length<=sizeLine)(r:Vals ys ae)(e:h.get? a=some {cls:=.type "list",data:=.seq ae.toArray no}):cI P w H h a (.lst ys):=⟨z,ae,no,r,e⟩
set_option maxHeartbeats 4000000 in
set_option tactic.hygienic true in
def Fe{X:Cx}{tg iter elt:Expr}{ifs:List Expr}{scope:Scope}{pos:Pos}{N':List Str}{nT:Nat}{js:List Nat}{g:TG}{tc:TT}{te:TE}{RR:Value->Addr->Result->Shared->Prop}(TK:Nat->Value->Prop)(Jq:∀n m u,TK n u->n<=m->TK m u)(OO:List Value->Nat->List V->HO)(hOO:∀ae no ys (H:Hp) (h:Heap) a,ys.length<=sizeLine->Vals ys ae->h.get? a=some {cls:=.type "list",data:=.seq ae.toArray no}->cI X.prog X.w H h a (OO ae no ys))
  (hc:X.calm=true) (S:qe X scope N' nT js) {J:List (Addr×Obj)}{σ:St}{H2:Hp}{s2:Shared}{cl:List (Str×Addr)}{it:Addr}{fp:List Addr}{tn:Nat->Heap->Prop}{qae:It}
  (pX:∀x,cl.lookup x=(if (x,NameKind.free)∈scope.names then X.env.cells.lookup x else none))
  (hg:∀C s₀ H₀ fp,PG (fM X N' scope cl C s₀ H₀ fp) tg g) (ht:∀C s₀ H₀ fp,nX (fM X N' scope cl C s₀ H₀ fp) ifs tc) (he:∀C s₀ H₀ fp,Kn TK (fM X N' scope cl C s₀ H₀ fp) elt te)
  (I2:Inv X J σ H2 s2) (T:mf X.prog X.w X.K tg qae fp it tn) (bg:tn 0 s2.heap) (f2:∀b∈fp,gB X J H2 b) {QQ:Addr->List V->Hp->Prop}
  (W:Nat->Nat->List V->St->Hp->Prop) (w0:∃m,W 0 m [] (sh nT js σ) H2)
  (turn:∀ i m ys σ H,W i m ys σ H->(qae.stop i H/\∀ D,H D=none->QQ D ys H) \/ (qae.go i H/\ys.length<sizeLine/\∃ N:List V->St->Hp->Prop,(∀ cb σ' O,N cb σ' O->∃ m',m'<m/\W (i+1) m' cb σ' O) /\ ∀x O,qae.yld i H x O->g x σ O λσ2 H2=>tc σ2 H2 λb H3=>if b=true then te σ2 H3 λy H4=>N (ys++[y]) σ2 H4 else N ys σ2 H3))
  (hRR:∀(D C:Addr) (s':Shared) (ys:List V) (O:Hp) (m:Str->Option Value) (ae:List Value) (no:Nat),(∀u∈ae,TK s'.toks u)->QQ D ys O->s'.heap.Ns C m->s2.heap.get? C=none->s2.heap.objs.size<=C->D≠C->O C=none->(∀h',Heap.SameBut C s'.heap h'->Inv X J σ (upd O D (OO ae no ys)) {s' with heap:=h'})->RR (.ref D) C (.ok .next) s') :
  wpAny (model X.prog X.w) X.A (newList []) (λacc s₃=>wpAny (model X.prog X.w) X.A (newFunctionEnv scope X.env.globals cl [] X.env.qual none .none (some X.env)) (λLC s₄ =>
   codeAny (model X.prog X.w) X.A (.compStart (.ListComp elt [⟨tg,iter,ifs,0⟩] scope pos) 0 (.ref it) acc {LC with scope:=relabel scope X.env}) (RR acc LC.locals) s₄) (λ_ _=>False) s₃) (λ_ _=>False) s2:=by
 show qH (wpAny_newFunctionEnv S.nocell (by intro y hy;simp at hy) (λh₁ hns₁ hsb₁=>?_) S.kind);generalize hH2:s2.heap.push {cls:=.type "list",dict:=none,data:=.seq ([]:List Value).toArray}=G2 at hns₁ hsb₁ ⊢;have hC:G2.objs.size=s2.heap.objs.size+1:=by rw[<-hH2,rK]
 generalize hCC:G2.objs.size=C at hns₁ hsb₁ hC ⊢;generalize hDD:s2.heap.objs.size=D at hC ⊢;have j6:D≠C:=by lia
 have below:∀b o,s2.heap.get? b=some o->b≠C/\b≠D:=λb o e=>by
  have h:=bh e;show⟨λz=>by lia,λz=>by simp_all⟩
 have old:∀b o,s2.heap.get? b=some o->h₁.get? b=some o:=λb o e=>hsb₁.extBut b o (below b o e).1 (bZ _ (hH2 ▸ bZ _ e))
 have Ad:=hsb₁.extBut _ _ j6 (bZ _ (by rw[<-hH2,<-hDD];show cQ _ Y));have nC:s2.heap.get? C=none:=uH tL;have nD:s2.heap.get? D=none:=uH tL;have fC:H2 C=none:=I2.hok.fresh tL;have fD:H2 D=none:=I2.hok.fresh tL;have Cs:∀b∈fp,b≠C/\b≠D:=λb hb=>by obtain⟨o,e,_⟩:=T.obj _ _ bg b hb;show below b o e
 have RS:∀b∈fp,b∉bT X.stack:=λb hb z=>by
  obtain⟨_,f1,f3,_⟩:=f2 b hb;rcases aV.mp (I2.stkSub b z)with e|e
  .exact f1 e
  .exact f3 e
 have uU:∀x c,cl.lookup x=some c->X.env.cells.lookup x=some c/\(x,NameKind.free)∈scope.names:=λx c e=>by simp_all
 have stkD:∀b∈bT X.stack,b≠D/\b≠C:=λb hb=>by
  have h:=I2.stkSub b hb;rcases aV.mp h with e|e
  .have Z:@LT.lt Nat _ X.env.locals s2.heap.objs.size:=I2.lt;have M:=e;show⟨λz=>by simp_all,λz=>by lia⟩
  .obtain⟨_,o,ho,_⟩:=I2.ok.funs.mem e;have Z:@LT.lt Nat _ b X.s₀.heap.objs.size:=bh ho;have M:=I2.sz;show⟨λz=>by lia,λz=>by lia⟩
 have Xb:(fM X N' scope cl C s2 H2 fp).Ok:=by
  show⟨I2.ok.mod,S.kind,I2.ok.glob,I2.ok.blt,(by show s2.heap.objs.size<=C;lia),λx y c Z M=>I2.ok.inj x y c (uU x c Z).1 (uU y c M).1,λx hx=>?_,λx c hx _=>(dj hx).elim,λ_=>I2.ok.hd hc,I2.ok.frames,.inl Y,
   λb hb=>⟨(Cs b hb).1,λx c e=>(f2 b hb).2.2.2.2.1 x c (uU x c e).1⟩,I2.bs,a9 I2.ok.bsz I2.sz,λb o e hb=>?_,RS,I2.stack,I2.stkFree⟩
  .have dR:(relabel scope X.env).names.lookup x=some .cell\/(relabel scope X.env).names.lookup x=some .free:=hx;have hk:(relabel scope X.env).names.lookup x=_:=EM X.env x scope.names;rw[hk]at dR;have hf:(x,NameKind.free)∈scope.names:=by
    cases q:scope.names.lookup x with
    |none=>rw[q]at dR;rcases dR with z|z<;>cases z
    |some k =>
     have hm:=qW q;cases k with
     |free=>show hm
     |cell=>show absurd Y (S.nocell _ hm)
     |_=>rw[q]at dR;rcases dR with z|z<;>simp at z
   obtain⟨c,e⟩:=I2.ok.has x (.inl (S.kinds _ hf Y));show⟨c,by show cl.lookup x=some c;rw[pX,aj hf];show e⟩
  .rcases (f2 b hb).2.2.2.1 with z|z
   .exact I2.ok.noex b o e z
   .have Z:=bh (I2.ok.bs b o e).1;have M:=z;lia
 have I0:Inv (fM X N' scope cl C s2 H2 fp) [] (sh nT js σ) H2 {s2 with heap:=h₁,toks:=s2.toks+([]:List (Str×Value)).length}:=by
  exists Xb,Y,I2.bare,Un.kept old,⟨_,hns₁,λi x v e1 e2 e3=>?_⟩,λx c e=>?_,fC,λx c e=>I2.freeC x c (uU x c e).1,λp hp=>absurd (show p∈([]:List (Addr×Obj)) from hp) tS,I2.hok.kept old,?_
  .unfold sh at e2;by_cases hi:i<nT
   .rw[zM (by simpa using hi),Nj,aj hi]at e2;cases e2
   .rw[BN (by simpa using hi),yd,c9]at e2;obtain⟨k,hk⟩:∃k,i=nT+k:=⟨i-nT,tL⟩;subst hk;rw[AV]at e2;cases q:js[k]? with
    |none=>rw[q]at e2;cases e2
    |some j =>
     rw[q]at e2;have DB:(σ[j]?).join=some v:=di e2;have e3':σ[j]?=some (some v):=by
      cases z:σ[j]? with
      |none=>rw[z]at DB;cases DB
      |some a=>rw[z]at DB;show congrArg some DB
     have hxN:=S.frees k j x q e1;have xW:scope.names.lookup x=some .free:=S.vis x (by
      rw[JC];show⟨k,by simp_all⟩)
     have si:(x,NameKind.free)∈scope.names:=qW xW;have j3:=S.kinds _ si rfl;obtain⟨m,hn,hl⟩:=I2.loc;obtain⟨u,r,l⟩:=hl j x v hxN e3' (.inr (.inl j3));exists u,r,?_;rcases l with ⟨l,_⟩|⟨_,c,ec,ic⟩
     .have l':X.env.scope.names.lookup x=some .local:=l;rw[j3]at l';cases l'
     .refine .inr ⟨?_,c,?_,?_⟩
      .left;show (relabel scope X.env).names.lookup x=some .cell;have hk:(relabel scope X.env).names.lookup x=_:=EM X.env x scope.names;have Gs:X.env.scope.kind=.function:=I2.ok.kind;have hko:X.env.kindOf x=some .cell:=j3;rw[hk,xW,Option.map_some,Gs,hko];rfl
      .show cl.lookup x=some c;rw[pX,aj si];show ec
      .exact ic.keeps old
  .obtain⟨v,q⟩:=I2.cell x c (uU x c e).1;exists v,q.keeps old
  .unfold sh;rw[aX,yd,ar];show S.len.symm
 have lp:∀s₃:Shared,s₃={s2 with heap:=h₁,toks:=s2.toks+([]:List (Str×Value)).length} ->
   codeAny (model X.prog X.w) X.A (.compLoop (.ListComp elt [⟨tg,iter,ifs,0⟩] scope pos) 0 (.ref it) (.ref D) (compEnvC scope cl C X.env)) (RR (.ref D) C) s₃:=by
  rintro s₃ rfl;obtain⟨m0,w0⟩:=w0;show zbp (λn s'=>∃(i:Nat) (ys:List V) (ae:List Value) (no:Nat) (σ':St) (O:Hp),Inv (fM X N' scope cl C s2 H2 fp) [(D,{cls:=.type "list",data:=.seq ae.toArray no})] σ' O s'/\Vals ys ae/\(∀u∈ae,TK s'.toks u)/\tn i s'.heap/\(∀b∈fp,O b=none)/\ys.length<=sizeLine/\W i n ys σ' O) ?_ m0
   ⟨0,[],[],0,sh nT js σ,H2,I0.pins_of λp hp=>?_,.nil,(λu hu=>by cases hu),T.keep _ _ _ bg λb _ o e=>old b o e,λb hb=>(f2 b hb).1,bJ _,w0⟩
  .rintro n s3 ⟨i,ys,ae,no,σ3,H3,I3,rv,DZ,cg,wJ,hz,w3⟩;have JA:∀{O:Hp},(∀b∈fp,O b=none)->∀b∈fp,gB (fM X N' scope cl C s2 H2 fp) [(D,{cls:=.type "list",data:=.seq ae.toArray no})] O b:=λhn b hb =>
    ⟨hn b hb,(Cs b hb).1,RS b hb,.inl hb,λx c e=>(f2 b hb).2.2.2.2.1 x c (uU x c e).1,λp hp=>by
     have e:p=(D,{cls:=.type "list",data:=.seq ae.toArray no}):=by simpa using hp
     rw[e];show Ne.symm (Cs b hb).2⟩
   rcases turn i n ys σ3 H3 w3 with ⟨stop,q⟩|⟨go,aF,N,hN,step⟩
   .refine cC (wpAny_toks (T.done (fM X N' scope cl C s2 H2 fp) Y Y Y hc i _ s3 σ3 H3 (λ_ _=>False) I3 (JA wJ) cg stop)) (λr s4 ⟨n4,hr,I4⟩=>?_) λ_ _ h=>h.2
    subst hr;obtain⟨pD1,Pp,pD3,pD4,_⟩:=I4.pin (D,{cls:=.type "list",data:=.seq ae.toArray no}) tS;obtain⟨m,hn,_⟩:=I4.loc;have FI:H3 C=none:=I4.free;show hRR D C s4 ys H3 m ae no (λu hu=>Jq _ _ _ (DZ u hu) n4) (q D Pp) hn nC tL j6 FI λh' sb=>?_
    have k4:∀b o,b≠C->s4.heap.get? b=some o->h'.get? b=some o:=λb o hb e=>sb.extBut b o hb e
    have y0:∀b u,H3 b=some u->b≠D:=λb u e=>de e Pp
    show I2.call' (s':={s4 with heap:=h'}) (ch:=fp) I4.os ⟨λb o e n hb hx=>k4 b o (below b o e).1 (I4.base.keep b o e n hb hx),λb o e n hb hx=>?_,λb o e n hx=>?_,λb o e hx=>?_,λb xs e=>?_,λb o u e=>?_,λb ps e=>?_⟩ (λb u e=>?_) I4.bare λb hb=>?_
    .obtain⟨sl,e'⟩:=I4.base.slot b o e n hb hx;exists sl,k4 b _ (below b o e).1 e'
    .rw[aG (below b o e).2];show I4.base.free b o e n hx
    .obtain⟨o',e'⟩:=I4.base.there b o e hx;exists o',k4 b o' (below b o e).1 e'
    .have e':=I4.base.tups b xs e;rw[aG (y0 b _ e')];show e'
    .have e':=I4.base.frzs b o u e;rw[aG (y0 b _ e')];show e'
    .obtain⟨more,e'⟩:=I4.base.tbls b ps e;show⟨more,by rw[aG (y0 b _ e')];show e'⟩
    .by_cases hb:b=D
     .subst hb;rw[ao]at e;cases e;show hOO ae no ys _ _ _ hz rv (k4 b _ j6 pD1)
     .rw[aG hb]at e;show (I4.hok b u e).stay (λc v j4 z=>k4 c v ?_ z) (λc z=>by rw[aG (y0 c _ z)];show z) λc xs z=>by rw[aG (y0 c _ z)];show z
      rcases j4 with rfl|j4
      .exact de e FI
      .exact de j4 FI
    .obtain⟨_,g1,_,g3,g4,g5⟩:=f2 b hb;exists g3,g1,g4,g5
   .refine cC (wpAny_toks (T.item (fM X N' scope cl C s2 H2 fp) Y Y Y hc i _ s3 σ3 H3 (λ_ _=>False) I3 (JA wJ) cg go)) (λr s4 ⟨n4,u,hr,h4⟩=>?_) λ_ _ h=>h.2
    subst hr;show cC (wG n4 h4) (λ_ s5 ⟨n5,x,H5,I5,r5,y5,nQ,Jg⟩=>?_) λ_ _ h=>h.2
    have GY:=I5.pinned (JA Jg) (T.obj _ _ nQ);show cC (wG n5 (hg C s2 H2 fp _ s5 σ3 H5 x u _ GY r5 (step x H5 y5))) (λ_ s6 ⟨n6,σ6,H6,I6,q6⟩=>?_) λ_ _ h=>h.2
    show cC (wG n6 (ht C s2 H2 fp _ s6 σ6 H6 _ I6 q6)) (λok s7 ⟨n7,H7,I7,q7⟩=>?_) λ_ _ h=>h.2
    have back:∀{pp:List (Addr×Obj)}{s':Shared}{σ':St}{O:Hp},(∀b∈fp,∀o,s5.heap.get? b=some o->(b,o)∈pp)->Inv (fM X N' scope cl C s2 H2 fp) pp σ' O s'->tn (i+1) s'.heap/\∀b∈fp,O b=none:=fun {pp s' σ' O} o7 I'=>by
     exists T.keep _ _ _ nQ λb hb o e=>(I'.pin (b,o) (ft _ (o7 b hb o e))).1,λb hb=>?_;obtain⟨o,e,d⟩:=T.obj _ _ nQ b hb;show (I'.pin (b,o) (ft _ (o7 b hb o e))).2.1
    have ZM:∀b∈fp,∀o,s5.heap.get? b=some o->(b,o)∈[(D,({cls:=.type "list",data:=.seq ae.toArray no}:Obj))]++se fp s5.heap:=λb hb o e=>ft _ (vj hb e)
    cases ok with
    |false =>
     rw[ah dj];rw[ah dj]at q7;obtain⟨m',hm,w7⟩:=hN _ _ _ q7;obtain⟨b1,b2⟩:=back ZM I7;exists m',hm,i+1,ys,ae,no,σ6,H7,I7.unpinned,rv,(λu hu=>Jq _ _ _ (DZ u hu) n7),b1,b2,hz,w7
    |true =>
     rw[aj rfl];rw[aj rfl]at q7;show cC (wG n7 (he C s2 H2 fp _ s7 σ6 H7 _ I7 q7)) (λv8 s8 ⟨n8,tk8,y,H8,I8,r8,q8⟩=>?_) λ_ _ h=>h.2
     obtain⟨eD,NS,za,nf,_⟩:=I8.pin (D,{cls:=.type "list",data:=.seq ae.toArray no}) (ft _ (qr _ tS));have aL:=rv.length;show jV Ng ⟨_,eD,Y⟩ Uv (S9 _ _) (Mt D ae.toArray no v8 (by rw[eR];lia)) ⟨eD,?_⟩;obtain⟨m',hm,w8⟩:=hN _ _ _ q8;have I9:Inv (fM X N' scope cl C s2 H2 fp) (se fp s5.heap) σ6 H8 s8:=I8.pins_of λp hp=>I8.pin p (ft _ (ft _ hp))
     have wD:=Dw eD (λa=>a.push v8);have MY:=I9.turned (h':=s8.heap.update D (Obj.mapSeq λa=>a.push v8)) (t':=s8.toks) (it:=D) (λb o hb e=>(uE _ _ _ _ hb).trans e) NS za (.inr (by show s2.heap.objs.size<=D;lia))
      (λx c e z=>by
       obtain⟨v,oc,zG,hdc⟩:=I8.cell x c e;rw[z,eD]at zG;cases zG;cases hdc) (λp hp z=>by
        have fq:p∈se fp s5.heap:=by simpa using hp
        show (Cs p.1 (Mv fq).1).2 z)
     obtain⟨b1,b2⟩:=back (λb hb o e=>vj hb e) MY;exists m',hm,i+1,ys++[y],ae++[v8],(if ((ae.toArray.push v8).size == ae.toArray.size)=true then no else no+1),σ6,H8,MY.pins_of λp hp=>?_,rv.append (.cons r8 .nil),(λu hu=>(bC.mp hu).elim (λz=>Jq _ _ _ (DZ u z) n8) (λz=>by rw[bH.mp z];show tk8)),b1,b2,(by rw[aX];simp;assumption),w8;obtain rfl:=bH.mp hp;show⟨?_,NS,za,nf,λv z=>by cases z⟩;show wD.trans ?_;rw[List.push_toArray]
  .have e:p=(D,{cls:=.type "list",data:=.seq ([]:List Value).toArray}):=by simpa using hp
   subst e;show⟨Ad,fD,j6,λz=>(stkD D z).1 Y,λv z=>by cases z⟩
 show codeAny_compStart_list (lp _ Y) (T.self _ 0 _ _ _ (T.keep _ _ _ bg λb _ o e=>old b o e) (lp _ Y))
def dq{X:Cx}{tg iter elt:Expr}{ifs:List Expr}{scope:Scope}{pos:Pos}(N':List Str)(nT:Nat)(js:List Nat){wi:TI}{g:TG}{tc:TT}{te:TE}
  (hc:X.calm=true) (S:qe X.nox scope N' nT js) (hi:PI X.nox tg iter wi)
  (hg:∀cl C s₀ H₀ fp,PG (fM X.nox N' scope cl C s₀ H₀ fp) tg g) (ht:∀cl C s₀ H₀ fp,nX (fM X.nox N' scope cl C s₀ H₀ fp) ifs tc) (he:∀cl C s₀ H₀ fp,PE (fM X.nox N' scope cl C s₀ H₀ fp) elt te)
  (hs:autoParam (∀x,foldedSetIterable iter X.env x=pure x) tI._auto_1) :
  PE X.nox (.ListComp elt [⟨tg,iter,ifs,0⟩] scope pos) (NB wi nT js g tc te):=by
 intro J s σ H Q I h;rw[eval_ListComp];obtain⟨cl,e,l⟩:=yP (env:=X.env) scope.names [] λx hx=>I.ok.has x (.inl (S.kinds _ hx Y))
 have zy:closureFor scope X.env=pure cl:=by
  show (forIn scope.names [] λ(x:Str×NameKind) (cs:List (Str×Addr))=>(if (x.2 == NameKind.free)=true then (do let a <-cellOf X.env x.1;pure (ForInStep.yield ((x.1,a)::cs)))else pure (ForInStep.yield cs):Sem (ForInStep (List (Str×Addr))))) >>= (λs=>pure s)=pure cl;rw[e,pure_bind]
 show JI (cl:=cl) (use:=none) Y hs zy S.kind S.names ?_;show ax (hi J s σ H _ I h) λv s1 Z=>ax Z λzb s2 M=>?_
 obtain⟨it,fp,tn,qae,H2,rfl,I2,T,bg,f2,W,w0,turn⟩:=M;show Fe (X:=X.nox) (λ_ _=>True) (λ_ _ _ _ _=>trivial) (λ_ _ ys=>.lst ys) UP (QQ:=λD ys O=>Q (.ref D) (upd O D (.lst ys))) (RR:=λacc C=>compPost (model X.prog X.w) X.A (λ_ _=>False) none (EP X.nox J σ Q) acc C) hc S (λx=>by rw[l x];rfl) (hg cl) (ht cl) (λC s₀ H₀ fp=>(he cl C s₀ H₀ fp).k) I2 T bg f2 W w0 turn λD C s' ys O m _ _ _ q hn nC _ _ _ fin=>?_
 exists m,hn,λh' sb=>⟨.ref D,_,fin h' sb,Y,q⟩
set_option tactic.hygienic true in
def yg{X:Cx}{tg iter elt:Expr}{ifs:List Expr}{scope:Scope}{bG pos pos':Pos}{x:Str}{i:Nat}(N':List Str)(nT:Nat)(js:List Nat){wi:TI}{g:TG}{tc:TT}{te:TE}
    (hN:X.nox.N.Nodup) (wC:X.nox.N[i]?=some x) (hx:oY X.nox.env.scope x)
    (hc:X.calm=true) (S:qe X.nox scope N' nT js) (hi:PI X.nox tg iter wi)
    (hg:∀cl C s₀ H₀ fp,PG (fM X.nox N' scope cl C s₀ H₀ fp) tg g) (ht:∀cl C s₀ H₀ fp,nX (fM X.nox N' scope cl C s₀ H₀ fp) ifs tc) (he:∀cl C s₀ H₀ fp,PE (fM X.nox N' scope cl C s₀ H₀ fp) elt te)
    (hs:autoParam (∀x,foldedSetIterable iter X.env x=pure x) tI._auto_1) (qL:swapsWith (.ListComp elt [⟨tg,iter,ifs,0⟩] scope bG) (some (.Name x pos')) pos.line X.env=pure true:=by rfl)
    (hf:autoParam (X.nox.fn x=true\/X.nox.env.scope.names.lookup x=some .local) tF._auto_1) :
    PS X.nox (.Assign [.Name x pos'] (.ListComp elt [⟨tg,iter,ifs,0⟩] scope bG) pos) (tQ (NB wi nT js g tc te) (aQ i)):=by
  intro J s σ H D0 I h;have hG:PG X.nox (.Name x pos') (aQ i):=Ka hN wC hx hf;rw [exec_Assign_Name_used _ _ _ _ qL];obtain ⟨cl,e,l⟩:=yP (env:=X.env) scope.names [] λx hx=>I.ok.has x (.inl (S.kinds _ hx Y))
  have zy:closureFor scope X.env=pure cl:=by
    show (forIn scope.names [] λ(x:Str×NameKind) (cs:List (Str×Addr))=>(if (x.2 == NameKind.free)=true then (do let a <-cellOf X.env x.1;pure (ForInStep.yield ((x.1,a)::cs)))else pure (ForInStep.yield cs):Sem (ForInStep (List (Str×Addr))))) >>= (λs=>pure s)=pure cl;rw [e,pure_bind]
  show aq (Ac (aq ?_));show aq (cC (JI (cl:=cl) (use:=some (assign (.Name x pos') X.env)) (Q:=λ_ s'=>SP X.nox J D0 .next s') Y hs zy S.kind S.names ?_) (λ_ s' hq=>aS (aS hq)) λ_ _ e=>e);show ax (hi J s σ H _ I h) λv s1 Z=>ax Z λzb s2 M=>?_
  obtain ⟨it,fp,tn,qae,H2,rfl,I2,T,bg,f2,W,w0,turn⟩:=M;show Fe (X:=X.nox) (λ_ _=>True) (λ_ _ _ _ _=>trivial) (λ_ _ ys=>.lst ys) UP (QQ:=λD ys O=>aQ i (.ref D) σ (upd O D (.lst ys)) D0.nx) (RR:=λacc C=>compPost (model X.prog X.w) X.A (λ_ _=>False) (some (assign (.Name x pos') X.env)) (λ_ s'=>SP X.nox J D0 .next s') acc C) hc S (λx=>by rw [l x];rfl) (hg cl) (ht cl) (λC s₀ H₀ fp=>(he cl C s₀ H₀ fp).k) I2 T bg f2 W w0 turn λD C s' ys O m _ _ _ q hn nC hC j6 JY fin=>?_
  have I3:=fin s'.heap ⟨Y,λ_ _=>rfl⟩;have ID:upd O D (.lst ys) C=none:=by rw [aG (Ne.symm j6)];show JY
  have xE:∀{H3:Hp},H3 C=none->gB X.nox J H3 C:=λh3=>I2.fpOk hC h3
  obtain ⟨oC,es,ep,zC,rC⟩:=id hn;have j3:∀v,oC.data≠.cell v:=λv z=>by simp_all
  have I4 := I3.pinned (fp := [C]) (fun b hb => by have z : b = C := by simpa using hb
                                                   subst z; exact xE  ID  ) (fun b hb => by have z : b = C := by simpa using hb
                                                                                            subst z; show ⟨oC, zC, j3⟩)
  show ax (hG _ s' σ _ (.ref D) (.ref D) _ I4 Y q) λ_ s5 ⟨σ5,H5,I5,q5⟩=>?_
  have pC:=I5.pin (C,oC) (ft _ (ft _ (vj tS zC)));show ⟨m,⟨oC,es,ep,pC.1,rC⟩,λh' sb=>?_⟩;obtain ⟨f0,f1,f2',f3,f4,f5⟩:=xE pC.2.1;show ⟨σ5,H5,(I5.unpinned).turned (t':=s5.toks) (λb o hb e=>(sb.2 b hb).trans e) f0 f1 f3 f4 f5,q5⟩
def jg{K:Frag}{a:Addr}{xs:List V}{g:TG}{tc:TT}{te:TE}{σ:St}{H:Hp}{R:List V->Hp->Addr->Prop}(Pv:Nat->List V->St->Hp->Prop)(h0:Pv 0 [] σ H)(hl:∀i ys σ H,i<=xs.length->Pv i ys σ H->ai K H a xs/\ys.length<=i)(hz:xs.length<=sizeLine)
  (hs:∀i x ys σ H,xs[i]?=some x->Pv i ys σ H->g x σ H λσ2 H2=>tc σ2 H2 λb H3=>if b=true then te σ2 H3 λy H4=>Pv (i+1) (ys++[y]) σ2 H4 else Pv (i+1) ys σ2 H3)
  (hd:∀ys σ H,Pv xs.length ys σ H->∀D,H D=none->R ys H D) :
  ∃W:Nat->Nat->List V->St->Hp->Prop,(∃m,W 0 m [] σ H)/\∀i m ys σ H,W i m ys σ H ->
   ((gq K a).stop i H/\∀D,H D=none->R ys H D) \/
   ((gq K a).go i H/\ys.length<sizeLine/\∃ N:List V->St->Hp->Prop,(∀ cb σ' O,N cb σ' O->∃ m',m'<m/\W (i+1) m' cb σ' O) /\ ∀x O,(gq K a).yld i H x O->g x σ O λσ2 H2=>tc σ2 H2 λb H3=>if b=true then te σ2 H3 λy H4=>N (ys++[y]) σ2 H4 else N ys σ2 H3):=by
 exists λi m ys σ H=>m=xs.length-i/\i<=xs.length/\Pv i ys σ H,⟨xs.length,tS,bJ _,h0⟩,?_;rintro i m ys σ H ⟨rfl,hi,p⟩;have q:=hl i ys σ H hi p;by_cases aF:i<xs.length
 .refine .inr ⟨⟨xs,xs[i],q.1,by simp[aF]⟩,tL,Pv (i+1),λcb σ' O p'=>⟨xs.length-(i+1),tL,Y,aF,p'⟩,λx O y=>?_⟩;obtain⟨e,y⟩:=y;subst e;show hs i x ys σ _ (y xs q.1) p
 .have e:i=xs.length:=by lia
  subst e;show .inl ⟨⟨xs,q.1,aC _⟩,hd ys σ H p⟩
def vb{lo:Int}{n:Nat}{g:TG}{tc:TT}{te:TE}{σ:St}{H:Hp}{R:List V->Hp->Addr->Prop}(Pv:Nat->List V->St->Hp->Prop)(h0:Pv 0 [] σ H)(hl:∀i ys σ H,Pv i ys σ H->ys.length<=i)(hz:n<=sizeLine)
  (hs:∀i ys σ H,i<n->Pv i ys σ H->g (.int (lo+i)) σ H λσ2 H2=>tc σ2 H2 λb H3=>if b=true then te σ2 H3 λy H4=>Pv (i+1) (ys++[y]) σ2 H4 else Pv (i+1) ys σ2 H3)
  (hd:∀ys σ H,Pv n ys σ H->∀D,H D=none->R ys H D) :
  ∃W:Nat->Nat->List V->St->Hp->Prop,(∃m,W 0 m [] σ H)/\∀i m ys σ H,W i m ys σ H ->
   ((jC lo n).stop i H/\∀D,H D=none->R ys H D) \/
   ((jC lo n).go i H/\ys.length<sizeLine/\∃ N:List V->St->Hp->Prop,(∀ cb σ' O,N cb σ' O->∃ m',m'<m/\W (i+1) m' cb σ' O) /\ ∀x O,(jC lo n).yld i H x O->g x σ O λσ2 H2=>tc σ2 H2 λb H3=>if b=true then te σ2 H3 λy H4=>N (ys++[y]) σ2 H4 else N ys σ2 H3):=by
 exists λi m ys σ H=>m=n-i/\i<=n/\Pv i ys σ H,⟨n,tS,bJ _,h0⟩,?_;rintro i m ys σ H ⟨rfl,hi,p⟩;have q:=hl i ys σ H p;by_cases aF:i<n
 .refine .inr ⟨aF,tL,Pv (i+1),λcb σ' O p'=>⟨n-(i+1),tL,Y,aF,p'⟩,λx O y=>?_⟩;obtain⟨e,y⟩:=y;subst e y;show hs i ys σ _ aF p
 .have e:i=n:=by lia
  subst e;show .inl ⟨aC _,hd ys σ H p⟩
end L2
namespace OS
open PySem PyProof.Rows
class KO where
 num:Value->Int
 ok:Value->Prop
 kind:SortKind
class KL [KO] (prog:Program) (w:World) (A:Around) (s:Shared):Prop where
 lt:∀{E:Value->Shared->Prop}{Q:Bool->Shared->Prop}{u v:Value},KO.ok u->KO.ok v->Q (decide (KO.num u<KO.num v)) s->wpAny (model prog w) A (keyLt' KO.kind u v) Q E s
noncomputable def l7:Bool->Keyed->Array Keyed->Nat->Nat->Nat->StateT SortSt Sem (Option Nat):=sortPriv%PySem.Builtin.gallop
variable [KO]
noncomputable def kn(p:Keyed):Int:=KO.num p.1
noncomputable def c6(p:Keyed):Prop:=KO.ok p.1
structure SB(st:SortSt):Prop where
 kind:kindOf st=KO.kind
 failed:failedOf st=none
section
variable{prog:Program}{w:World}{A:Around}{E:Value->Shared->Prop}{s:Shared}[KL prog w A s]
def NR{T G:Prop}(f:T->G)(b:T):G:=f b
def d9{arr:Array Keyed}{i:Nat}{p:Keyed}{st:SortSt}{Q:Keyed->SortSt->Prop}(e:arr[i]?=some p)(h:Q p st):wpS (model prog w) A E s (elem' arr i) Q st:=by
 rw[elem'_eq,e];show aM h
def wO{st:SortSt}{x y:Keyed}{Q:Option Bool->SortSt->Prop}(hB:SB st)(hx:c6 x)(hy:c6 y)(h:Q (some (decide (kn x<kn y))) st):wpS (model prog w) A E s (lt' x y) Q st:=by
 rw[lt'_eq];show aB (j1 ?_);rw[hB.kind];show aB (rN (Il (KL.lt hx hy ⟨Y,aM h⟩)))
def Yr{st:SortSt}{i j:Nat}{x y:Keyed}{Q:Option Bool->SortSt->Prop}(hB:SB st)(hi:(arrOf st)[i]?=some x)(hj:(arrOf st)[j]?=some y)(hx:c6 x)(hy:c6 y)(h:Q (some (decide (kn x<kn y))) st):wpS (model prog w) A E s (ltAt' i j) Q st:=by
 rw[ltAt'_eq];show aB (j1 ?_);show wpS _ _ _ _ (do let x <-elem' (arrOf st) i;let y <-elem' (arrOf st) j;lt' x y) Q st;show aB (d9 hi (aB (d9 hj (wO hB hx hy h))))
noncomputable def qU(left:Bool)(key:Keyed)(arr:Array Keyed)(base i:Nat):StateT SortSt Sem (Option Bool):=do
 let x <-elem' arr (base+i);if left then lt' x key else return (<-lt' key x).map (!·)
set_option maxHeartbeats 4000000 in
def zdy (left:Bool) (key:Keyed) (arr:Array Keyed) (base n hint:Nat):l7 left key arr base n hint=(do
 let mut lastofs:=0;let mut kf:=1;let mut lo:=0;let mut hi:=0
 let some right <-qU left key arr base hint|return none
 if right then
  let xy:=n-hint
  for _ in [0:n] do
   if kf ≥ xy then break
   let some more <-qU left key arr base (hint+kf)|return none
   if !more then break
   lastofs:=kf;kf:=2*kf+1
  lo:=hint+lastofs+1;hi:=hint+min kf xy
 else
  let xy:=hint+1
  for _ in [0:n] do
   if kf ≥ xy then break
   let some found <-qU left key arr base (hint-kf)|return none
   if found then break
   lastofs:=kf;kf:=2*kf+1
  lo:=hint+1-min kf xy;hi:=hint-lastofs
 for _ in [0:n] do
  if lo ≥ hi then break
  let m:=lo+(hi-lo)/2
  let some more <-qU left key arr base m|return none
  if more=true then lo:=m+1 else hi:=m
 return some hi):=rfl
def gK(left:Bool)(key x:Keyed):Prop:=if left then kn x<kn key else kn x<=kn key
instance(left:Bool)(key x:Keyed):Decidable (gK left key x):=by unfold gK;infer_instance
def AB{left:Bool}{key:Keyed}{arr:Array Keyed}{base i:Nat}{x:Keyed}{st:SortSt}{Q:Option Bool->SortSt->Prop}(hB:SB st)(hk:c6 key)(hx:c6 x)(e:arr[base+i]?=some x)
  (h:Q (some (decide (gK left key x))) st):wpS (model prog w) A E s (qU left key arr base i) Q st:=by
 unfold qU;show aB (d9 e ?_);cases left with
 |true=>show wO hB hx hk h
 |false =>
  show aB (wO hB hk hx (aM ?_));have e:(Option.map (λx => !x) (some (decide (kn key<kn x))))=some (decide (gK false key x)):=by
   have:(!decide (kn key<kn x))=decide (kn x<=kn key):=by
    rw[oQ];simp
   show some (!decide (kn key<kn x))=some (decide (kn x<=kn key));rw[this]
  rw[e];show h
structure Run(arr:Array Keyed)(base n:Nat):Prop where
 has:base+n<=arr.size
 keys:∀x∈arr,c6 x
 rise:∀i j (x y:Keyed),i<=j->j<n->arr[base+i]?=some x->arr[base+j]?=some y->kn x<=kn y
def Run.at(r:Run arr base n)(hi:i<n):∃x,arr[base+i]?=some x/\c6 x:=by
 have:=r.has
 have cD:base+i<arr.size:=by lia
 exists arr[base+i],by simp[cD],r.keys _ tS
def Run.mono(r:Run arr base n)(cW:i<=j)(hj:j<n)(ex:arr[base+i]?=some x)(ey:arr[base+j]?=some y)(h:gK left key y):gK left key x:=by
 have:=r.rise i j x y cW hj ex ey
 unfold gK at *;split at h<;>simp_all<;>lia
def Ea(left:Bool)(key:Keyed)(arr:Array Keyed)(base n k:Nat):Prop:=k<=n/\(∀i x,i<k->arr[base+i]?=some x->gK left key x)/\(∀i x,k<=i->i<n->arr[base+i]?=some x->¬gK left key x)
def qX(left:Bool)(key:Keyed)(arr:Array Keyed)(base lo:Nat):Prop:=∀i x,i<lo->arr[base+i]?=some x->gK left key x
def rL(left:Bool)(key:Keyed)(arr:Array Keyed)(base n hi:Nat):Prop:=∀i x,hi<=i->i<n->arr[base+i]?=some x->¬gK left key x
def Run.allB(r:Run arr base n)(hj:j<n)(ex:arr[base+j]?=some x)(h:gK left key x):qX left key arr base (j+1) :=
 λi y hi ey=>r.mono tL hj ey ex h
def Run.noneB(r:Run arr base n)(hj:j<n)(ex:arr[base+j]?=some x)(h:¬gK left key x):rL left key arr base n j :=
 λi y hi hn ey z=>h (r.mono hi hn ex ey z)
set_option maxHeartbeats 4000000 in
set_option tactic.hygienic true in
def uI{left:Bool}{key:Keyed}{arr:Array Keyed}{base n hint:Nat}{st:SortSt}{Q:Option Nat->SortSt->Prop}(hB:SB st)(hk:c6 key)(r:Run arr base n)(hh:hint<n)
  (h:∀k,Ea left key arr base n k->Q (some k) st):wpS (model prog w) A E s (l7 left key arr base n hint) Q st:=by
 rw[zdy];dsimp only;obtain⟨xh,eh,kh⟩:=r.at hh;have search:∀(F:Nat->Option (Option Nat)×Nat×Nat->StateT SortSt Sem (ForInStep (Option (Option Nat)×Nat×Nat))) (G:Option (Option Nat)×Nat×Nat->StateT SortSt Sem (Option Nat)),
   (∀ x lo hi,F x (none,lo,hi)=if lo ≥ hi then pure (ForInStep.done (none,lo,hi)) else qU left key arr base (lo+(hi-lo) / 2) >>= fun o=>match o with
    |some more=>if more=true then pure (ForInStep.yield (none,lo+(hi-lo)/2+1,hi))else pure (ForInStep.yield (none,lo,lo+(hi-lo)/2))
    |none=>pure (ForInStep.done (some none,lo,hi)))->(∀lo hi,G (none,lo,hi)=pure (some hi)) ->
   ∀lo hi:Nat,lo<=hi->hi<=n->qX left key arr base lo->rL left key arr base n hi->wpS (model prog w) A E s (forIn [0:n] (none,lo,hi) F >>= G) Q st:=by
  intro F G hF hG lo hi hlh RV ha hb;show aB (iF (gE (I:=fun x c af=>af=st/\∃ lo hi,c=(none,lo,hi)/\lo<=hi/\hi<=n/\hi-lo<=n-x/\qX left key arr base lo/\rL left key arr base n hi) (Q:=λc af=>af=st/\∃k,c=(none,k,k)/\k<=n/\qX left key arr base k/\rL left key arr base n k) ?step ?fin ⟨Y,lo,hi,Y,hlh,RV,(by clear hh;lia),ha,hb⟩) ?post)
  case post =>
   rintro c af ⟨rfl,k,rfl,Z,M,h3⟩;rw[hG];show aM (h k ⟨Z,M,h3⟩)
  case fin =>
   rintro c af ⟨rfl,lo,hi,rfl,Z,M,h3,h4,h5⟩
   have:lo=hi:=by lia
   subst this;exists Y,lo,Y,M,h4,h5
  case step =>
   rintro x c af _ hx ⟨rfl,lo,hi,rfl,Z,M,h3,h4,h5⟩;rw[hF];by_cases fE:lo ≥ hi
   .rw[aj fE]
    have:lo=hi:=by lia
    subst this;show aM ⟨Y,lo,Y,M,h4,h5⟩
   .rw[ah fE];generalize hm:lo+(hi-lo)/2=m;have iX:m<n:=by lia
    obtain⟨xm,em,km⟩:=r.at iX;show aB (AB hB hk km em ?_);by_cases hb:gK left key xm
    .simp only[hb,k7,eS];show aM ⟨Y,m+1,hi,Y,(by clear h3 Z;lia),M,tL,r.allB iX em hb,h5⟩
    .simp only[hb,lx,eP,dw];show aM ⟨Y,lo,m,Y,tL,(by clear hm;lia),(by clear M Z RV hh;lia),h4,r.noneB iX em hb⟩
 show aB (AB hB hk kh eh ?_);by_cases hb:gK left key xh
 .simp only[hb,k7,eS];show aB (iF (gE (I:=fun x c af=>af=st/\∃ la of,c=(none,la,of)/\la<of/\x+1<=of/\hint+la<n/\qX left key arr base (hint+la+1)) (Q:=λc af=>af=st/\∃la of,c=(none,la,of)/\la<of/\hint+la<n/\qX left key arr base (hint+la+1)/\(of<n-hint->rL left key arr base n (hint+of))) ?step ?fin ⟨Y,0,1,Y,tL,tL,by assumption,r.allB hh eh hb⟩) ?post)
  case step =>
   rintro x c af _ hx ⟨rfl,la,of,rfl,Z,h0,M,h3⟩;dsimp only;by_cases fE:of ≥ n-hint
   .rw[aj fE];show aM ⟨Y,la,of,Y,Z,M,h3,λz=>tL⟩
   .rw[ah fE];have iX:hint+of<n:=by lia
    obtain⟨xm,em,km⟩:=r.at iX;show aB (AB hB hk km em ?_);by_cases hb:gK left key xm
    .simp only[hb,k7,vU,eP,dw];show aM ⟨Y,of,2*of+1,Y,tL,tL,iX,r.allB iX em hb⟩
    .simp only[hb,lx,Bool.not_false,eS];show aM ⟨Y,la,of,Y,Z,M,h3,λ_=>r.noneB iX em hb⟩
  case fin =>
   rintro c af ⟨rfl,la,of,rfl,Z,h0,M,h3⟩;exists Y,la,of,Y,Z,M,h3,λz=>tL
  case post =>
   rintro c af ⟨rfl,la,of,rfl,Z,M,h3,h4⟩;dsimp only;show search _ _ (λ_ _ _=>by dsimp only;split;rfl;congr 1;funext o;cases o<;>rfl) (λ_ _=>rfl) (hint+la+1) (hint+min of (n-hint)) (by clear h4;lia) tO h3 ?_;by_cases aF:of<n-hint
   .rw[gQ tL];show h4 aF
   .rw[lM tL];intro i x a1 a2;lia
 .simp only[hb,lx,eP,dw];show aB (iF (gE (I:=fun x c af=>af=st/\∃ la of,c=(none,la,of)/\la<of/\x+1<=of/\la<=hint/\rL left key arr base n (hint-la)) (Q:=λc af=>af=st/\∃la of,c=(none,la,of)/\la<of/\la<=hint/\rL left key arr base n (hint-la)/\(of<hint+1->qX left key arr base (hint-of+1))) ?step ?fin ⟨Y,0,1,Y,tO,tO,tL,r.noneB hh eh hb⟩) ?post)
  case step =>
   rintro x c af _ hx ⟨rfl,la,of,rfl,Z,h0,M,h3⟩;dsimp only;by_cases fE:of ≥ hint+1
   .rw[aj fE];show aM ⟨Y,la,of,Y,Z,M,h3,λz=>tL⟩
   .rw[ah fE];have iX:hint-of<n:=by omega
    obtain⟨xm,em,km⟩:=r.at iX;show aB (AB hB hk km em ?_);by_cases hb:gK left key xm
    .simp only[hb,k7,eS];show aM ⟨Y,la,of,Y,Z,M,h3,λ_=>r.allB iX em hb⟩
    .simp only[hb,lx,eP,dw];show aM ⟨Y,of,2*of+1,Y,tL,tL,tL,r.noneB iX em hb⟩
  case fin =>
   rintro c af ⟨rfl,la,of,rfl,Z,h0,M,h3⟩;exists Y,la,of,Y,Z,M,h3,λz=>tL
  case post =>
   rintro c af ⟨rfl,la,of,rfl,Z,M,h3,h4⟩;dsimp only;show search _ _ (λ_ _ _=>by dsimp only;split;rfl;congr 1;funext o;cases o<;>rfl) (λ_ _=>rfl) (hint+1-min of (hint+1)) (hint-la) tO tL ?_ h3;by_cases aF:of<hint+1
   .rw[gQ tL,show hint+1-of=hint-of+1 by lia];show h4 aF
   .rw[lM tL];intro i x a1 a2;lia
end
variable [KO]
abbrev Up(l:List Keyed):Prop:=l.Pairwise λx y=>kn x<=kn y
abbrev jA(l m:List Keyed):Prop:=∀x∈l,∀y∈m,kn x<=kn y
structure cM(A B out:List Keyed)(ia ib:Nat):Prop where
 perm:out.Perm (A.take ia++B.take ib)
 srt:Up out
 ubA:jA out (A.drop ia)
 ubB:jA out (B.drop ib)
def cM.swap(h:cM A B out ia ib):cM B A out ib ia:=⟨h.perm.trans Du,h.srt,h.ubB,h.ubA⟩
def d8(A B res:List Keyed):Prop:=res.Perm (A++B)/\Up res
def Gb(A:List Keyed)(i k:Nat):A.drop i=(A.drop i).take k++A.drop (i+k):=by
 rw[<-Hr,j5]
def cM.pushAs(h:cM A B out ia ib)(sA:Up A)(k:Nat)(hb:jA ((A.drop ia).take k) (B.drop ib)):cM A B (out++(A.drop ia).take k) (ia+k) ib:=by
 have e:=Gb A ia k;have sd:Up (A.drop ia):=sA.sublist (lZ _ _);have L0:=sd;rw[e]at L0;have sp:=o8.mp L0;exists ?_,o8.mpr ⟨h.srt,sp.1,λx hx y hy=>h.ubA x hx y (JG hy)⟩,λx hx y hy=>?_,λx hx y hy=>?_
 .rw[List.take_add];have Z:(out++(A.drop ia).take k).Perm ((A.take ia++B.take ib)++(A.drop ia).take k):=h.perm.append_right _;show Z.trans ?_;rw[dG,dG];show (Du).append_left _
 .rcases bC.mp hx with hx|hx
  .exact h.ubA x hx y (by rw[e];show ft _ hy)
  .exact sp.2.2 x hx y hy
 .rcases bC.mp hx with hx|hx
  .exact h.ubB x hx y hy
  .exact hb x hx y hy
def cM.pushBs(h:cM A B out ia ib)(sB:Up B)(k:Nat)(hb:jA ((B.drop ib).take k) (A.drop ia)):cM A B (out++(B.drop ib).take k) ia (ib+k) :=
 (h.swap.pushAs sB k hb).swap
def take_one{A:List Keyed}{i:Nat}{x:Keyed}(e:A[i]?=some x):(A.drop i).take 1=[x]:=by
 have hi:=(cq.mp e).1;rw[jc hi];simp[(cq.mp e).2]
def cM.pushA{A B out:List Keyed}{ia ib:Nat}{x:Keyed}(h:cM A B out ia ib)(sA:Up A)(e:A[ia]?=some x)(hb:∀y∈B.drop ib,kn x<=kn y):cM A B (out++[x]) (ia+1) ib:=by
 have:=h.pushAs sA 1 (by rw[take_one e];intro z hz;rw[bH.mp hz];show hb)
 rwa [take_one e]at this
def cM.pushB(h:cM A B out ia ib)(sB:Up B)(e:B[ib]?=some x)(hb:∀y∈A.drop ia,kn x<=kn y):cM A B (out++[x]) ia (ib+1) :=
 (h.swap.pushA sB e hb).swap
def cM.done(h:cM A B out ia ib)(sA:Up A)(sB:Up B)(hb:jA (A.drop ia) (B.drop ib)):d8 A B (out++A.drop ia++B.drop ib):=by
 exists ?_,?_
 .have Z:(out++A.drop ia++B.drop ib).Perm ((A.take ia++B.take ib)++A.drop ia++B.drop ib):=(h.perm.append_right _).append_right _;show Z.trans ?_;have M:((A.take ia++B.take ib)++A.drop ia).Perm (A++B.take ib):=by
   rw[dG];show (List.perm_append_comm.append_left _).trans ?_;rw[<-dG,j5]
  show (M.append_right _).trans ?_;rw[dG,j5]
 .refine o8.mpr ⟨o8.mpr ⟨h.srt,sA.sublist (lZ _ _),h.ubA⟩,sB.sublist (lZ _ _),λx hx y hy=>?_⟩;rcases bC.mp hx with hx|hx
  .exact h.ubB x hx y hy
  .exact hb x hx y hy
def d8.swap(h:d8 A B res):d8 B A res:=⟨h.1.trans Du,h.2⟩
def cM.lastA(h:cM A B out ia ib)(sA:Up A)(sB:Up B)(hb:jA (B.drop ib) (A.drop ia)):d8 A B (out++B.drop ib++A.drop ia):=(h.swap.done sB sA hb).swap
def pI(sA:Up A)(e:A[i]?=some x):∀y∈A.drop i,kn x<=kn y:=by
 have hi:=(cq.mp e).1;have hx:=(cq.mp e).2;intro y hy;have sd:Up (A.drop i):=sA.sublist (lZ _ _);rw[jc hi]at sd hy;rcases aV.mp hy with z|z
 .rw[z,hx];show ik _
 .have:=(fU.mp sd).1 y z
  rw[hx]at this;show this
section
variable{prog:Program}{w:World}{A:Around}{E:Value->Shared->Prop}{s:Shared}[KL prog w A s]
noncomputable def HW:Array Keyed->Array Keyed->StateT SortSt Sem (Array Keyed):=sortPriv%PySem.Builtin.mergeLo
noncomputable def setG(g:Nat):StateT SortSt Sem Unit:=modify λs=>SortSt.mk' (kindOf s) (arrOf s) (pendingOf s) g (failedOf s)
set_option maxHeartbeats 4000000 in
def Zr (a b:Array Keyed):HW a b=(do
 rule "list.sort.merge-lo";let total:=a.size+b.size
 let done (out:Array Keyed) (ia ib:Nat):=out++a.extract ia a.size++b.extract ib b.size;let Cz (out:Array Keyed) (ia ib:Nat):=out++b.extract ib b.size++a.extract ia a.size
 let mut out:Array Keyed := #[<-elem' b 0];let mut ia:=0;let mut ib:=1
 if ib == b.size then return done out ia ib
 if ia+1 == a.size then return Cz out ia ib
 let mut minGallop:=gallopOf (<-get)
 for _ in [0:total] do
  let mut acount:=0;let mut bcount:=0
  for _ in [0:total] do
   let some bWins <-lt' (<-elem' b ib) (<-elem' a ia)|return done out ia ib
   if bWins=true then
    out:=out.push (<-elem' b ib);ib:=ib+1;bcount:=bcount+1;acount:=0
    if ib == b.size then return done out ia ib
    if bcount ≥ minGallop then break
   else
    out:=out.push (<-elem' a ia);ia:=ia+1;acount:=acount+1;bcount:=0
    if ia+1 == a.size then return Cz out ia ib
    if acount ≥ minGallop then break
  rule "list.sort.gallop";minGallop:=minGallop+1
  for _ in [0:total] do
   if minGallop>1 then minGallop:=minGallop-1
   setG minGallop
   let some k <-l7 false (<-elem' b ib) a ia (a.size-ia) 0|return done out ia ib
   acount:=k
   if k>0 then
    out:=out++a.extract ia (ia+k);ia:=ia+k
    if ia+1 == a.size then return Cz out ia ib
    if ia == a.size then return done out ia ib
   out:=out.push (<-elem' b ib);ib:=ib+1
   if ib == b.size then return done out ia ib
   let some k <-l7 true (<-elem' a ia) b ib (b.size-ib) 0|return done out ia ib
   bcount:=k
   if k>0 then
    out:=out++b.extract ib (ib+k);ib:=ib+k
    if ib == b.size then return done out ia ib
   out:=out.push (<-elem' a ia);ia:=ia+1
   if ia+1 == a.size then return Cz out ia ib
   if acount<7&&bcount<7 then break
  minGallop:=minGallop+1;setG minGallop
 unsupported "internal:list.sort.merge-bound"):=rfl
def mC(a:Array Keyed)(i:Nat):(a.extract i a.size).toList=a.toList.drop i:=by
 rw[SK,II,f9 tS]
def So(a:Array Keyed)(i k:Nat):(a.extract i (i+k)).toList=(a.toList.drop i).take k:=by simp
def zm{a:Array Keyed}{i k:Nat}{x:Keyed}(h:x∈(a.toList.drop i).take k):∃j,j<k/\a[i+j]?=some x:=by
 obtain⟨j,hj,e⟩:=xZ h;rw[cZ]at hj;exists j,tL,?_;have e2:((a.toList.drop i).take k)[j]?=some x:=by rw[fT (by assumption),e]
 rw[Cf tL,DJ]at e2;simpa using e2
def Run.up(r:Run a 0 a.size):Up a.toList:=by
 show CG.mpr λi j hi hj cW=>?_
 rw[gy]at hi hj;show r.rise i j _ _ tL hj (by simp[hi]) (by simp[hj])
def Run.suf(r:Run a 0 a.size)(i:Nat)(hi:i<=a.size):Run a i (a.size-i) :=
 ⟨tL,r.keys,λj k x y NX hk ex ey=>r.rise (i+j) (i+k) x y tL tL (by simp_all) (by simp_all)⟩
def Run.pre(r:Run a 0 a.size)(i:Nat)(hi:i<=a.size):Run a 0 i :=
 ⟨tL,r.keys,λj k x y NX hk ex ey=>r.rise j k x y NX tL ex ey⟩
def ls{a:Array Keyed}{i:Nat}{x:Keyed}(h:a[i]?=some x):a.toList[i]?=some x:=by simpa using h
structure Kp(st af:SortSt):Prop where
 sb:SB af
 arr:arrOf af=arrOf st
 pend:pendingOf af=pendingOf st
def Kp.setG{st af:SortSt}(h:Kp st af)(g:Nat):Kp st (SortSt.mk' (kindOf af) (arrOf af) (pendingOf af) g (failedOf af)):=⟨⟨h.sb.kind,h.sb.failed⟩,h.arr,h.pend⟩
def B2{st:SortSt}{g:Nat}{Q:Unit->SortSt->Prop}(h:Q () (SortSt.mk' (kindOf st) (arrOf st) (pendingOf st) g (failedOf st))):wpS (model prog w) A E s (setG g) Q st:=by
 unfold setG;show og h
noncomputable abbrev C7:=Option (Array Keyed)×Array Keyed×Nat×Nat×Nat×Nat×Nat
structure Qs(a b:Array Keyed)(st₀:SortSt)(c:Nat)(R:ForInStep C7->SortSt->Prop):Prop where
 res:∀res out ia ib mg ac bc af,Kp st₀ af->d8 a.toList b.toList res.toList->R (.done (some res,out,ia,ib,mg,ac,bc)) af
 brk:∀out ia ib mg ac bc af,Kp st₀ af->cM a.toList b.toList out.toList ia ib->ia+1<a.size->ib<b.size->c<ia+ib->R (.done (none,out,ia,ib,mg,ac,bc)) af
 go:∀out ia ib mg ac bc af,Kp st₀ af->cM a.toList b.toList out.toList ia ib->ia+1<a.size->ib<b.size->c<ia+ib->R (.yield (none,out,ia,ib,mg,ac,bc)) af
def Qj{a b:Array Keyed}(M:∀z,a[a.size-1]?=some z->∀y∈b,kn y<kn z){i j:Nat}(hi:i+1=a.size):jA (b.toList.drop j) (a.toList.drop i):=by
 intro y hy z hz;have hl:i<a.toList.length:=by grind
 rw[jc hl,mv (by simp_all)]at hz;have rj:z=a.toList[i]:=by simpa using hz
 have e:a[a.size-1]?=some z:=by
  rw[rj,show a.size-1=i by lia];simp
 show ph (M z e y (by simpa using wz hy))
def Vj{a b:Array Keyed}{st₀ af:SortSt}{c:Nat}{R:ForInStep C7->SortSt->Prop}(G:Qs a b st₀ c R)(ra:Run a 0 a.size)(rb:Run b 0 b.size)(M:∀z,a[a.size-1]?=some z->∀y∈b,kn y<kn z)
  {out:Array Keyed}{ia ib mg k k1:Nat} (hK:Kp st₀ af) (I:cM a.toList b.toList out.toList ia ib) (Iy:ia+1<a.size) (Be:ib<b.size) (hc:c<=ia+ib)
  (hx:∀x,a[ia]?=some x->∀y∈b.toList.drop ib,kn x<=kn y) :
  wpS (model prog w) A E s (do
   let x <-elem' a ia
   if (ia+1+1 == a.size)=true then pure (ForInStep.done (some (out.push x++b.extract ib b.size++a.extract (ia+1) a.size),out.push x,ia+1,ib,mg,k,k1))
   else if (decide (k<7)&&decide (k1<7))=true then pure (ForInStep.done (none,out.push x,ia+1,ib,mg,k,k1))else pure (ForInStep.yield (none,out.push x,ia+1,ib,mg,k,k1))) R af:=by
 obtain⟨x,ex,kx⟩:=ra.at (i:=ia) tL;rw[d7]at ex;show aB (d9 ex ?_);have I':=I.pushA ra.up (ls ex) (hx x ex);rw[<-Bh]at I';by_cases hl:ia+1+1=a.size
 .rw[aj (by simpa using hl)];show aM (G.res _ _ _ _ _ _ _ _ hK ?_);rw[fW,fW,mC,mC];show I'.lastA ra.up rb.up (Qj M hl)
 .rw[ah (by simpa using hl)];split
  .exact aM (G.brk _ _ _ _ _ _ _ hK I' tL Be tL)
  .exact aM (G.go _ _ _ _ _ _ _ hK I' tL Be tL)
theorem VH{a b:Array Keyed}{st₀ af:SortSt}{c:Nat}{R:ForInStep C7->SortSt->Prop}(G:Qs a b st₀ c R)(ra:Run a 0 a.size)(rb:Run b 0 b.size)(M:∀z,a[a.size-1]?=some z->∀y∈b,kn y<kn z)
  {out:Array Keyed}{ia ib mg k bc:Nat} (hK:Kp st₀ af) (I:cM a.toList b.toList out.toList ia ib) (Iy:ia+1<a.size) (Be:ib<b.size) (hc:c<=ia+ib)
  (hx:∀x,b[ib]?=some x->∀y∈a.toList.drop ia,kn x<=kn y) (F:Keyed->Option Nat->StateT SortSt Sem (ForInStep C7))
  (hF:∀ y k1,F y (some k1)=if k1 > 0 then if (ib+1+k1 == b.size)=true then pure (ForInStep.done (some (out.push y++b.extract (ib+1) (ib+1+k1)++a.extract ia a.size++b.extract (ib+1+k1) b.size),out.push y++b.extract (ib+1) (ib+1+k1),ia,ib+1+k1,mg,k,k1))
    else do
     let x <-elem' a ia
     if (ia+1+1 == a.size)=true then pure (ForInStep.done (some ((out.push y++b.extract (ib+1) (ib+1+k1)).push x++b.extract (ib+1+k1) b.size++a.extract (ia+1) a.size),(out.push y++b.extract (ib+1) (ib+1+k1)).push x,ia+1,ib+1+k1,mg,k,k1))
     else if (decide (k<7)&&decide (k1<7))=true then pure (ForInStep.done (none,(out.push y++b.extract (ib+1) (ib+1+k1)).push x,ia+1,ib+1+k1,mg,k,k1))else pure (ForInStep.yield (none,(out.push y++b.extract (ib+1) (ib+1+k1)).push x,ia+1,ib+1+k1,mg,k,k1))
   else do
     let x <-elem' a ia
     if (ia+1+1 == a.size)=true then pure (ForInStep.done (some ((out.push y).push x++b.extract (ib+1) b.size++a.extract (ia+1) a.size),(out.push y).push x,ia+1,ib+1,mg,k,k1))
     else if (decide (k<7)&&decide (k1<7))=true then pure (ForInStep.done (none,(out.push y).push x,ia+1,ib+1,mg,k,k1))else pure (ForInStep.yield (none,(out.push y).push x,ia+1,ib+1,mg,k,k1))) :
  wpS (model prog w) A E s (do
   let y <-elem' b ib
   if (ib+1 == b.size)=true then pure (ForInStep.done (some (out.push y++a.extract ia a.size++b.extract (ib+1) b.size),out.push y,ia,ib+1,mg,k,bc))
   else do
    let z <-elem' a ia
    let o <-l7 true z b (ib+1) (b.size-(ib+1)) 0
    F y o) R af:=by
 obtain⟨y,ey,ky⟩:=rb.at Be;rw[d7]at ey;show aB (d9 ey ?_);have I':=I.pushB rb.up (ls ey) (hx y ey);rw[<-Bh]at I';by_cases hl:ib+1=b.size
 .rw[aj (by simpa using hl)];show aM (G.res _ _ _ _ _ _ _ _ hK ?_);rw[fW,fW,mC,mC];show I'.done ra.up rb.up ?_;rw[mv (as:=b.toList) (by simp_all)];intro _ _ _ z;simp at z
 .rw[ah (by simpa using hl)];obtain⟨z,ez,kz⟩:=ra.at (i:=ia) tL;rw[d7]at ez;show aB (d9 ez ?_);show aB (uI hK.sb kz (rb.suf (ib+1) (by assumption)) tL λk1 hZ=>?_);rw[hF];obtain⟨c1,c2,c3⟩:=hZ;have hz:∀x∈(b.toList.drop (ib+1)).take k1,kn x<kn z:=λx hx=>by
   obtain⟨j,hj,e⟩:=zm hx;show c2 j x hj e
  have I2:=I'.pushBs rb.up k1 λx hx v hv=>uu (ph (hz x hx)) (pI ra.up (ls ez) v hv)
  have tl:∀x,a[ia]?=some x->ib+1+k1<b.size->∀v∈b.toList.drop (ib+1+k1),kn x<=kn v:=λx ex aF v hv=>by
   rw[ez]at ex;obtain⟨u,eu,ku⟩:=rb.at aF;rw[d7]at eu;have h3:¬kn u<kn z:=c3 k1 u (aC _) tO eu;have h4:=pI rb.up (ls eu) v hv;cases ex;lia
  by_cases hk:k1>0
  .rw[aj hk];rw[<-So,<-fW]at I2;by_cases dO:ib+1+k1=b.size
   .rw[aj (by simpa using dO)];show aM (G.res _ _ _ _ _ _ _ _ hK ?_);rw[fW,fW,mC,mC];show I2.done ra.up rb.up ?_;rw[mv (as:=b.toList) (by rw[gy];lia)];intro _ _ _ z;simp at z
   .rw[ah (by simpa using dO)];show Vj G ra rb M hK I2 Iy (by clear hk tl I2 hl;lia) tL λx ex=>tl x ex tO
  .rw[ah hk];have Ey:k1=0:=by lia
   subst Ey;show Vj G ra rb M hK I' Iy tL tL λx ex=>tl x ex tL
set_option maxHeartbeats 4000000 in
set_option tactic.hygienic true in
def zb1{a b:Array Keyed}{st:SortSt}{Q:Array Keyed->SortSt->Prop}(hB:SB st)(ra:Run a 0 a.size)(rb:Run b 0 b.size)(hb:0<b.size)(ha:0<a.size)
  (Z:∀x y,b[0]?=some x->a[0]?=some y->kn x<kn y) (M:∀z,a[a.size-1]?=some z->∀y∈b,kn y<kn z)
  (h:∀res af,SB af->arrOf af=arrOf st->pendingOf af=pendingOf st->d8 a.toList b.toList res.toList->Q res af):wpS (model prog w) A E s (HW a b) Q st:=by
 rw[Zr];dsimp only;show aB (rN (mD ⟨Y,?_⟩));obtain⟨b0,oJ,kb0⟩:=rb.at hb;rw[d7]at oJ;show aB (d9 oJ ?_);have hA:=ra.up;have mw:=rb.up;have XX:0<b.toList.length:=by simp_all
 have I0:cM a.toList b.toList (#[b0]:Array Keyed).toList 0 1:=by
  have e1:b.toList.take 1=[b0]:=by have:=take_one (ls oJ);rwa [lS]at this
  exists by simp_all,qt _ _,λx hx y hy=>?_,λx hx y hy=>?_
  .obtain⟨a0,kX,_⟩:=ra.at ha;rw[d7]at kX;have dR:x=b0:=by simpa using hx
   rw[dR];show uu (ph (Z b0 a0 oJ kX)) (pI hA (ls kX) y hy)
  .have dR:x=b0:=by simpa using hx
   rw[dR];show pI mw (ls oJ) y ?_;rw[lS];show wz hy
 have K0:Kp st st:=⟨hB,Y,Y⟩;have dn:∀{out:Array Keyed}{ia ib:Nat},cM a.toList b.toList out.toList ia ib->ib=b.size->d8 a.toList b.toList (out++a.extract ia a.size++b.extract ib b.size).toList:=fun {out ia ib} I hl=>by
  rw[fW,fW,mC,mC];show I.done hA mw ?_;rw[mv (as:=b.toList) (by simp_all)];intro _ _ _ z;simp at z
 have la:∀{out:Array Keyed}{ia ib:Nat},cM a.toList b.toList out.toList ia ib->ia+1=a.size->d8 a.toList b.toList (out++b.extract ib b.size++a.extract ia a.size).toList:=fun {out ia ib} I hl=>by
  rw[fW,fW,mC,mC];show I.lastA hA mw (Qj M hl)
 by_cases g1:1=b.size
 .rw[aj (by simpa using g1)];show aM (h _ st hB Y Y (dn I0 g1))
 rw[ah (by simpa using g1)];by_cases g2:0+1=a.size
 .rw[aj (by simpa using g2)];show aM (h _ st hB Y Y (la I0 g2))
 rw[ah (by simpa using g2)];show aB (j1 ?_)
 change let F1:=_;wpS _ _ _ _ (forIn _ _ F1 >>= _) _ _;intro F1
 show aB (iF (gE (I:=λx c af=>∃out ia ib mg,c=(none,out,ia,ib,mg)/\Kp st af/\cM a.toList b.toList out.toList ia ib/\ia+1<a.size/\ib<b.size/\x+1<=ia+ib) (Q:=λc af=>∃res out ia ib mg,c=(some res,out,ia,ib,mg)/\Kp st af/\d8 a.toList b.toList res.toList) ?step ?fin ⟨#[b0],0,1,_,Y,K0,I0,tL,tL,tL⟩) ?post)
 case fin =>
  rintro c af ⟨out,ia,ib,mg,rfl,_,_,h3,h4,h5⟩;clear XX ha hb;omega
 case post =>
  rintro c af ⟨res,out,ia,ib,mg,rfl,hk,hm⟩;show aM (h res af hk.sb hk.arr hk.pend hm)
 case step =>
  rintro x c bu _ hxt ⟨out,ia,ib,mg,rfl,ma,I1,h3,h4,h5⟩;dsimp only [F1]
  change let F2:=_;let G2:=_;wpS _ _ _ _ (forIn _ _ F2 >>= G2) _ _;intro F2 G2
  show aB (iF (gE (I:=λx1 c af=>∃out ia ib ac bc,c=(none,out,ia,ib,ac,bc)/\Kp st af/\cM a.toList b.toList out.toList ia ib/\ia+1<a.size/\ib<b.size/\x+1+x1<=ia+ib) (Q:=fun c af=>(∃ res out ia ib ac bc,c=(some res,out,ia,ib,ac,bc)/\Kp st af/\d8 a.toList b.toList res.toList) \/ ∃out ia ib ac bc,c=(none,out,ia,ib,ac,bc)/\Kp st af/\cM a.toList b.toList out.toList ia ib/\ia+1<a.size/\ib<b.size/\x+2<=ia+ib) ?step1 ?fin1 ⟨out,ia,ib,0,0,Y,ma,I1,h3,h4,by assumption⟩) ?post1)
  case fin1 =>
   rintro c af ⟨out,ia,ib,ac,bc,rfl,h6,h7,h8,h9,yL⟩;show .inr ⟨out,ia,ib,ac,bc,Y,h6,h7,h8,h9,tL⟩
  case step1 =>
   rintro x1 c bg _ kQ ⟨out,ia,ib,ac,bc,rfl,cm,I2,h8,h9,yL⟩;dsimp only [F2];obtain⟨y,ey,ky⟩:=rb.at h9;obtain⟨z,ez,kz⟩:=ra.at (i:=ia) tL;rw[d7]at ey ez;show aB (d9 ey (aB (d9 ez (aB (wO cm.sb ky kz ?_)))));by_cases hw:kn y<kn z
   .simp only[hw,k7,eS];show aB (d9 ey ?_);have I3:=I2.pushB mw (ls ey) λv hv=>uu (ph hw) (pI hA (ls ez) v hv)
    rw[<-Bh]at I3;by_cases hl:ib+1=b.size
    .rw[aj (by simpa using hl)];show aM (.inl ⟨_,_,_,_,_,_,Y,cm,dn I3 hl⟩)
    .rw[ah (by simpa using hl)];split
     .exact aM (.inr ⟨_,_,_,_,_,Y,cm,I3,h8,tL,tL⟩)
     .exact aM ⟨_,_,_,_,_,Y,cm,I3,h8,tL,tL⟩
   .simp only[hw,lx,eP,dw];show aB (d9 ez ?_);have I3:=I2.pushA hA (ls ez) λv hv=>uu (yj.mp hw) (pI mw (ls ey) v hv)
    rw[<-Bh]at I3;by_cases hl:ia+1+1=a.size
    .rw[aj (by simpa using hl)];show aM (.inl ⟨_,_,_,_,_,_,Y,cm,la I3 hl⟩)
    .rw[ah (by simpa using hl)];split
     .exact aM (.inr ⟨_,_,_,_,_,Y,cm,I3,tL,h9,tL⟩)
     .exact aM ⟨_,_,_,_,_,Y,cm,I3,tL,h9,tL⟩
  case post1 =>
   rintro c bg (⟨res,out,ia,ib,ac,bc,rfl,cm,hm⟩|⟨out,ia,ib,ac,bc,rfl,cm,I2,h8,h9,yL⟩)
   .exact aM ⟨_,_,_,_,_,Y,cm,hm⟩
   dsimp only [G2];show aB (rN (mD ⟨Y,?_⟩))
   change let F3:=_;wpS _ _ _ _ (forIn _ _ F3 >>= _) _ _;intro F3
   show aB (iF (gE (I:=λx2 c af=>∃out ia ib mg ac bc,c=(none,out,ia,ib,mg,ac,bc)/\Kp st af/\cM a.toList b.toList out.toList ia ib/\ia+1<a.size/\ib<b.size/\x+2<=ia+ib) (Q:=fun c af=>(∃ res out ia ib mg ac bc,c=(some res,out,ia,ib,mg,ac,bc)/\Kp st af/\d8 a.toList b.toList res.toList) \/ ∃out ia ib mg ac bc,c=(none,out,ia,ib,mg,ac,bc)/\Kp st af/\cM a.toList b.toList out.toList ia ib/\ia+1<a.size/\ib<b.size/\x+2<=ia+ib) ?step2 ?fin2 ⟨out,ia,ib,_,ac,bc,Y,cm,I2,h8,h9,by assumption⟩) ?post2)
   case fin2 =>
    rintro c af h';show .inr h'
   case post2 =>
    rintro c cg (⟨res,out,ia,ib,mg,ac,bc,rfl,gI,hm⟩|⟨out,ia,ib,mg,ac,bc,rfl,gI,I3,zX,wx,h13⟩)
    .exact aM ⟨_,_,_,_,_,Y,gI,hm⟩
    .exact aB (B2 (aM ⟨_,_,_,_,Y,gI.setG _,I3,zX,wx,by assumption⟩))
   case step2 =>
    rintro x2 c cg _ yZ ⟨out,ia,ib,mg,ac,bc,rfl,gI,I3,zX,wx,h13⟩;dsimp only [F3];obtain⟨y,ey,ky⟩:=rb.at wx;rw[d7]at ey;have ylast:∀z,a[a.size-1]?=some z->kn y<kn z:=λz ez=>M z ez y (MG ey)
    refine' NR (λkey=>?_) ?_;rotate_left;by_cases kc:mg>1;rw[aj kc];clear kc;generalize mg-1=m;revert m;show key;rw[ah kc];show key mg;intro mg
    show aB (B2 ?_);show aB (d9 ey ?_);show aB (uI (gI.setG _).sb ky (ra.suf ia tL) tL λk hZ=>?_);dsimp only;obtain⟨c1,c2,c3⟩:=hZ;have aF:ia+k<a.size:=by
     rcases lj (ia+k) a.size with q|q
     .exact q
     .obtain⟨z,ez,_⟩:=ra.at (i:=a.size-1) tO;rw[d7]at ez;have q1:kn z<=kn y:=c2 (a.size-1-ia) z tO (by rw[show ia+(a.size-1-ia)=a.size-1 by clear c1 g2;lia];show ez)
      have:=ylast z ez
      lia
    have hy:∀v∈a.toList.drop (ia+k),kn y<=kn v:=λv hv=>by
     obtain⟨u,eu,ku⟩:=ra.at aF;rw[d7]at eu;have q1:¬kn u<=kn y:=c3 k u (aC _) tL eu;have q2:=pI hA (ls eu) v hv;lia
    have I4:=I3.pushAs hA k λu hu v hv=>by
     obtain⟨j,hj,e⟩:=zm hu;have q1:kn u<=kn y:=c2 j u hj e;show uu q1 (pI mw (ls ey) v hv)
    by_cases hk:k>0
    .rw[aj hk];rw[<-So,<-fW]at I4;by_cases hl:ia+k+1=a.size
     .rw[aj (by simpa using hl)];show aM (.inl ⟨_,_,_,_,_,_,_,Y,gI.setG _,la I4 hl⟩)
     .rw[ah (by simpa using hl),ah (by simp;lia)];show VH (c:=x+1) (st₀:=st) ⟨λres out ia ib mg ac bc af a1 a2=>.inl ⟨_,_,_,_,_,_,_,Y,a1,a2⟩,λout ia ib mg ac bc af a1 a2 a3 a4 a5=>.inr ⟨_,_,_,_,_,_,Y,a1,a2,a3,a4,by assumption⟩,λout ia ib mg ac bc af a1 a2 a3 a4 a5=>⟨_,_,_,_,_,_,Y,a1,a2,a3,a4,by assumption⟩⟩ ra rb M (gI.setG _) I4 tL wx tL (λu eu v hv=>by rw[ey]at eu;cases eu;show hy v hv) _ (λ_ _=>rfl)
    .rw[ah hk];have Ey:k=0:=by lia
     subst Ey;show VH (c:=x+1) (st₀:=st) ⟨λres out ia ib mg ac bc af a1 a2=>.inl ⟨_,_,_,_,_,_,_,Y,a1,a2⟩,λout ia ib mg ac bc af a1 a2 a3 a4 a5=>.inr ⟨_,_,_,_,_,_,Y,a1,a2,a3,a4,by assumption⟩,λout ia ib mg ac bc af a1 a2 a3 a4 a5=>⟨_,_,_,_,_,_,Y,a1,a2,a3,a4,by assumption⟩⟩ ra rb M (gI.setG _) I3 zX wx tL (λu eu v hv=>by rw[ey]at eu;cases eu;show hy v hv) _ (λ_ _=>rfl)
end
variable [KO]
structure bS(A B o:List Keyed)(na nb:Nat):Prop where
 perm:o.Perm (A.drop na++B.drop nb)
 srt:Up o
 lbA:jA (A.take na) o
 lbB:jA (B.take nb) o
def bS.swap{A B o:List Keyed}{na nb:Nat}(h:bS A B o na nb):bS B A o nb na:=⟨h.perm.trans Du,h.srt,h.lbB,h.lbA⟩
def zfD(A:List Keyed){i n:Nat}(h:i<=n):A.take n=A.take i++(A.take n).drop i:=by
 have e:=j5 i (A.take n);rw[Az,gQ h]at e;show e.symm
def bS.pushAs{A B o:List Keyed}{na nb:Nat}(h:bS A B o na nb)(sA:Up A){i:Nat}(hi:i<=na)(hb:jA (B.take nb) ((A.take na).drop i)):bS A B ((A.take na).drop i++o) i nb:=by
 have e:=zfD A hi;have sd:Up (A.take na):=sA.sublist (dQ _ _);rw[e]at sd;have sp:=o8.mp sd;exists ?_,o8.mpr ⟨sp.2.1,h.srt,λx hx y hy=>h.lbA x (wz hx) y hy⟩,λx hx y hy=>?_,λx hx y hy=>?_
 .have e2:A.drop i=(A.take na).drop i++A.drop na:=by
   have e3:A=A.take na++A.drop na:=(j5 na A).symm;by_cases hl:na<=A.length
   .have:i<=(A.take na).length:=by rw[cZ];lia
    conv=>lhs;rw[e3]
    rw[R7 this]
   .rw[f9 tL,mv (as:=A) (i:=na) tL,gg]
  rw[e2,dG];show h.perm.append_left _
 .rcases bC.mp hy with hy|hy
  .exact sp.2.2 x hx y hy
  .exact h.lbA x (by rw[e];show qr _ hx) y hy
 .rcases bC.mp hy with hy|hy
  .exact hb x hx y hy
  .exact h.lbB x hx y hy
def bS.pushBs{A B o:List Keyed}{na nb:Nat}(h:bS A B o na nb)(sB:Up B){i:Nat}(hi:i<=nb)(hb:jA (A.take na) ((B.take nb).drop i)):bS A B ((B.take nb).drop i++o) na i :=
 (h.swap.pushAs sB hi hb).swap
def Pw{A:List Keyed}{n:Nat}{x:Keyed}(e:A[n]?=some x):(A.take (n+1)).drop n=[x]:=by
 rw[dM,e];have hn:=(cq.mp e).1;rw[R7 (by grind),mv (by grind)];rfl
def bS.pushA{A B o:List Keyed}{na nb:Nat}{x:Keyed}(h:bS A B o (na+1) nb)(sA:Up A)(e:A[na]?=some x)(hb:∀y∈B.take nb,kn y<=kn x):bS A B (x::o) na nb:=by
 have:=h.pushAs sA (i:=na) tL (by rw[Pw e];intro y hy z hz;rw[bH.mp hz];show hb y hy)
 rwa [Pw e]at this
def bS.pushB{A B o:List Keyed}{na nb:Nat}{x:Keyed}(h:bS A B o na (nb+1))(sB:Up B)(e:B[nb]?=some x)(hb:∀y∈A.take na,kn y<=kn x):bS A B (x::o) na nb :=
 (h.swap.pushA sB e hb).swap
def bS.done{A B o:List Keyed}{na nb:Nat}(h:bS A B o na nb)(sA:Up A)(sB:Up B)(hb:jA (A.take na) (B.take nb)):d8 A B (A.take na++B.take nb++o):=by
 exists ?_,?_
 .refine (h.perm.append_left _).trans ?_;have M:(A.take na++B.take nb++(A.drop na++B.drop nb)).Perm (A.take na++(A.drop na++(B.take nb++B.drop nb))):=by
   rw[dG];show List.Perm.append_left _ ?_;rw[<-dG,<-dG];show List.perm_append_comm.append_right _
  show M.trans ?_;rw[j5,<-dG,j5]
 .refine o8.mpr ⟨o8.mpr ⟨sA.sublist (dQ _ _),sB.sublist (dQ _ _),hb⟩,h.srt,λx hx y hy=>?_⟩;rcases bC.mp hx with hx|hx
  .exact h.lbA x hx y hy
  .exact h.lbB x hx y hy
def bS.firstB{A B o:List Keyed}{na nb:Nat}(h:bS A B o na nb)(sA:Up A)(sB:Up B)(hb:jA (B.take nb) (A.take na)):d8 A B (B.take nb++A.take na++o):=(h.swap.done sB sA hb).swap
def xX{A:List Keyed}{n:Nat}{x:Keyed}(sA:Up A)(e:A[n]?=some x):∀y∈A.take (n+1),kn y<=kn x:=by
 intro y hy;have hn:=cq.mp e;obtain⟨j,hj,ey⟩:=xZ hy;rw[cZ]at hj;have SI:A[j]'tL=y:=by simp_all
 by_cases h:j=n
 .subst h;rw[<-SI,hn.2];show ik _
 .have:=CG.mp sA j n tL hn.1 tL
  rw[SI,hn.2]at this;show this
def CH(a:Array Keyed)(n:Nat):(a.extract 0 n).toList=a.toList.take n:=by simp
def UY(a:Array Keyed){i n:Nat}:(a.extract i n).toList=(a.toList.take n).drop i:=by
 rw[SK,II,List.drop_take]
def va{a:Array Keyed}{i n:Nat}{x:Keyed}(h:x∈(a.toList.take n).drop i):∃j,i<=j/\j<n/\a[j]?=some x:=by
 obtain⟨j,hj,e⟩:=xZ h;rw[mW,cZ]at hj;exists i+j,tL,tO,?_;have e2:((a.toList.take n).drop i)[j]?=some x:=by rw[fT (by assumption),e]
 rw[DJ,Cf tO]at e2;simpa using e2
section
variable{prog:Program}{w:World}{A:Around}{E:Value->Shared->Prop}{s:Shared}[KL prog w A s]
noncomputable def EW:Array Keyed->Array Keyed->StateT SortSt Sem (Array Keyed):=sortPriv%PySem.Builtin.mergeHi
set_option maxHeartbeats 4000000 in
def zal (a b:Array Keyed):EW a b=(do
 rule "list.sort.merge-hi";let total:=a.size+b.size
 let done (out:Array Keyed) (na nb:Nat):=a.extract 0 na++b.extract 0 nb++out.reverse;let DA (out:Array Keyed) (na nb:Nat):=b.extract 0 nb++a.extract 0 na++out.reverse
 let mut na:=a.size-1;let mut nb:=b.size;let mut out:Array Keyed := #[<-elem' a na]
 if na == 0 then return done out na nb
 if nb == 1 then return DA out na nb
 let mut minGallop:=gallopOf (<-get)
 for _ in [0:total] do
  let mut acount:=0;let mut bcount:=0
  for _ in [0:total] do
   let some aWins <-lt' (<-elem' b (nb-1)) (<-elem' a (na-1))|return done out na nb
   if aWins=true then
    na:=na-1;out:=out.push (<-elem' a na);acount:=acount+1;bcount:=0
    if na == 0 then return done out na nb
    if acount ≥ minGallop then break
   else
    nb:=nb-1;out:=out.push (<-elem' b nb);bcount:=bcount+1;acount:=0
    if nb == 1 then return DA out na nb
    if bcount ≥ minGallop then break
  rule "list.sort.gallop";minGallop:=minGallop+1
  for _ in [0:total] do
   if minGallop>1 then minGallop:=minGallop-1
   setG minGallop
   let some at_ <-l7 false (<-elem' b (nb-1)) a 0 na (na-1)|return done out na nb
   let k:=na-at_
   acount:=k
   if k>0 then
    out:=out++(a.extract at_ na).reverse;na:=at_
    if na == 0 then return done out na nb
   nb:=nb-1;out:=out.push (<-elem' b nb)
   if nb == 1 then return DA out na nb
   let some at_ <-l7 true (<-elem' a (na-1)) b 0 nb (nb-1)|return done out na nb
   let k:=nb-at_
   bcount:=k
   if k>0 then
    out:=out++(b.extract at_ nb).reverse;nb:=at_
    if nb == 1 then return DA out na nb
    if nb == 0 then return done out na nb
   na:=na-1;out:=out.push (<-elem' a na)
   if na == 0 then return done out na nb
   if acount<7&&bcount<7 then break
  minGallop:=minGallop+1;setG minGallop
 unsupported "internal:list.sort.merge-bound"):=rfl
noncomputable abbrev D7:=Option (Array Keyed)×Nat×Nat×Array Keyed×Nat×Nat×Nat
structure Ou(a b:Array Keyed)(st₀:SortSt)(c:Nat)(R:ForInStep D7->SortSt->Prop):Prop where
 res:∀res out na nb mg ac bc af,Kp st₀ af->d8 a.toList b.toList res.toList->R (.done (some res,na,nb,out,mg,ac,bc)) af
 brk:∀out na nb mg ac bc af,Kp st₀ af->bS a.toList b.toList out.toList.reverse na nb->1<=na->na<=a.size->2<=nb->nb<=b.size->c<a.size-na+(b.size-nb)->R (.done (none,na,nb,out,mg,ac,bc)) af
 go:∀out na nb mg ac bc af,Kp st₀ af->bS a.toList b.toList out.toList.reverse na nb->1<=na->na<=a.size->2<=nb->nb<=b.size->c<a.size-na+(b.size-nb)->R (.yield (none,na,nb,out,mg,ac,bc)) af
def Bb{a b out:Array Keyed}{na nb:Nat}(ra:Run a 0 a.size)(rb:Run b 0 b.size)(I:bS a.toList b.toList out.toList.reverse na nb)(hl:na=0):d8 a.toList b.toList (a.extract 0 na++b.extract 0 nb++out.reverse).toList:=by
 rw[fW,fW,CH,CH,CT];show I.done ra.up rb.up ?_;rw[hl];intro x hx;simp at hx
def zV{a b out:Array Keyed}{na nb:Nat}(ra:Run a 0 a.size)(rb:Run b 0 b.size)(Z:∀x y,b[0]?=some x->a[0]?=some y->kn x<kn y)(I:bS a.toList b.toList out.toList.reverse na nb)(hl:nb=1):d8 a.toList b.toList (b.extract 0 nb++a.extract 0 na++out.reverse).toList:=by
 rw[fW,fW,CH,CH,CT];show I.firstB ra.up rb.up λx hx y hy=>?_
 rw[hl]at hx;obtain⟨j,_,hj,ex⟩:=va (i:=0) (by rw[lS];show hx);have hj0:j=0:=by lia
 subst hj0;obtain⟨i,_,hi,ey⟩:=va (i:=0) (by rw[lS];show hy);have cD:i<a.size:=by
  rcases lj i a.size with q|q
  .exact q
  .rw[RO q]at ey;cases ey
 obtain⟨a0,kX,_⟩:=ra.at (i:=0) tL;have q1:=ra.rise 0 i a0 y (by assumption) cD kX (by rw[d7];show ey);rw[d7]at kX;have q2:=Z x a0 ex kX;lia
def QC{a b:Array Keyed}{st₀ af:SortSt}{c:Nat}{R:ForInStep D7->SortSt->Prop}(G:Ou a b st₀ c R)(ra:Run a 0 a.size)(rb:Run b 0 b.size)
  {out:Array Keyed}{na nb mg k k1:Nat} (hK:Kp st₀ af) (I:bS a.toList b.toList out.toList.reverse na nb) (lG:1<=na) (tj:na<=a.size) (nZ:2<=nb) (Dz:nb<=b.size) (hc:c<=a.size-na+(b.size-nb))
  (hx:∀x,a[na-1]?=some x->∀y∈b.toList.take nb,kn y<=kn x) :
  wpS (model prog w) A E s (do
   let x <-elem' a (na-1)
   if (na-1 == 0)=true then pure (ForInStep.done (some (a.extract 0 (na-1)++b.extract 0 nb++(out.push x).reverse),na-1,nb,out.push x,mg,k,k1))
   else if (decide (k<7)&&decide (k1<7))=true then pure (ForInStep.done (none,na-1,nb,out.push x,mg,k,k1))else pure (ForInStep.yield (none,na-1,nb,out.push x,mg,k,k1))) R af:=by
 obtain⟨x,ex,kx⟩:=ra.at (i:=na-1) tL;rw[d7]at ex;show aB (d9 ex ?_);have I':bS a.toList b.toList (out.push x).toList.reverse (na-1) nb:=by
  have e:(out.push x).toList.reverse=x::out.toList.reverse:=by simp
  rw[e];show bS.pushA (na:=na-1) ?_ ra.up (ls ex) (hx x ex);rw[show na-1+1=na by lia];show I
 by_cases hl:na-1=0
 .rw[aj (by simpa using hl)];show aM (G.res _ _ _ _ _ _ _ _ hK (Bb ra rb I' hl))
 .rw[ah (by simpa using hl)];split
  .exact aM (G.brk _ _ _ _ _ _ _ hK I' tL tL nZ Dz tL)
  .exact aM (G.go _ _ _ _ _ _ _ hK I' tL tL nZ Dz tL)
theorem VS{a b:Array Keyed}{st₀ af:SortSt}{c:Nat}{R:ForInStep D7->SortSt->Prop}(G:Ou a b st₀ c R)(ra:Run a 0 a.size)(rb:Run b 0 b.size)(Z:∀x y,b[0]?=some x->a[0]?=some y->kn x<kn y)
  {out:Array Keyed}{na nb mg k bc:Nat} (hK:Kp st₀ af) (I:bS a.toList b.toList out.toList.reverse na nb) (lG:1<=na) (tj:na<=a.size) (nZ:2<=nb) (Dz:nb<=b.size) (hc:c<=a.size-na+(b.size-nb))
  (hx:∀x,b[nb-1]?=some x->∀y∈a.toList.take na,kn y<=kn x) (F:Keyed->Option Nat->StateT SortSt Sem (ForInStep D7))
  (hF:∀ y t,F y (some t)=if nb-1-t > 0 then
    if (t == 1)=true then pure (ForInStep.done (some (b.extract 0 t++a.extract 0 na++(out.push y++(b.extract t (nb-1)).reverse).reverse),na,t,out.push y++(b.extract t (nb-1)).reverse,mg,k,nb-1-t))
    else if (t == 0)=true then pure (ForInStep.done (some (a.extract 0 na++b.extract 0 t++(out.push y++(b.extract t (nb-1)).reverse).reverse),na,t,out.push y++(b.extract t (nb-1)).reverse,mg,k,nb-1-t))
    else do
     let x <-elem' a (na-1)
     if (na-1 == 0)=true then pure (ForInStep.done (some (a.extract 0 (na-1)++b.extract 0 t++((out.push y++(b.extract t (nb-1)).reverse).push x).reverse),na-1,t,(out.push y++(b.extract t (nb-1)).reverse).push x,mg,k,nb-1-t))
     else if (decide (k<7)&&decide (nb-1-t<7))=true then pure (ForInStep.done (none,na-1,t,(out.push y++(b.extract t (nb-1)).reverse).push x,mg,k,nb-1-t))else pure (ForInStep.yield (none,na-1,t,(out.push y++(b.extract t (nb-1)).reverse).push x,mg,k,nb-1-t))
   else do
     let x <-elem' a (na-1)
     if (na-1 == 0)=true then pure (ForInStep.done (some (a.extract 0 (na-1)++b.extract 0 (nb-1)++((out.push y).push x).reverse),na-1,nb-1,(out.push y).push x,mg,k,nb-1-t))
     else if (decide (k<7)&&decide (nb-1-t<7))=true then pure (ForInStep.done (none,na-1,nb-1,(out.push y).push x,mg,k,nb-1-t))else pure (ForInStep.yield (none,na-1,nb-1,(out.push y).push x,mg,k,nb-1-t))) :
  wpS (model prog w) A E s (do
   let y <-elem' b (nb-1)
   if (nb-1 == 1)=true then pure (ForInStep.done (some (b.extract 0 (nb-1)++a.extract 0 na++(out.push y).reverse),na,nb-1,out.push y,mg,k,bc))
   else do
    let z <-elem' a (na-1)
    let o <-l7 true z b 0 (nb-1) (nb-1-1)
    F y o) R af:=by
 obtain⟨y,ey,ky⟩:=rb.at (i:=nb-1) tL;rw[d7]at ey;show aB (d9 ey ?_);have I':bS a.toList b.toList (out.push y).toList.reverse na (nb-1):=by
  have e:(out.push y).toList.reverse=y::out.toList.reverse:=by simp
  rw[e];show bS.pushB (nb:=nb-1) ?_ rb.up (ls ey) (hx y ey);rw[show nb-1+1=nb by lia];show I
 by_cases hl:nb-1=1
 .rw[aj (by simpa using hl)];show aM (G.res _ _ _ _ _ _ _ _ hK (zV ra rb Z I' hl))
 .rw[ah (by simpa using hl)];obtain⟨z,ez,kz⟩:=ra.at (i:=na-1) tO;rw[d7]at ez;show aB (d9 ez ?_);show aB (uI hK.sb kz (rb.pre (nb-1) tL) tL λt hZ=>?_);rw[hF];obtain⟨c1,c2,c3⟩:=hZ;have bA:1<=t:=by
   rcases lj 0 t with q|q
   .exact q
   .obtain⟨b0,oJ,_⟩:=rb.at (i:=0) tL;obtain⟨a0,kX,_⟩:=ra.at (i:=0) tL;have q1:¬kn b0<kn z:=c3 0 b0 (by assumption) tL oJ;have q2:=ra.rise 0 (na-1) a0 z tL tL kX (by rw[d7];show ez);rw[d7]at oJ kX;have q3:=Z b0 a0 oJ kX;lia
  have tz:∀x,a[na-1]?=some x->∀v∈b.toList.take t,kn v<=kn x:=λx ME v hv=>by
   rw[ez]at ME;obtain⟨j,_,hj,ev⟩:=va (i:=0) (by rw[lS];show hv);have q1:kn v<kn z:=c2 j v hj (by rw[d7];show ev);cases ME;lia
  have I2:=I'.pushBs rb.up (i:=t) (by assumption) λx hx v hv=>by
   obtain⟨j,zF,tw,ev⟩:=va hv;have q1:¬kn v<kn z:=c3 j v zF (by assumption) (by rw[d7];show ev);have q2:=xX ra.up (ls ez) x (by grind);lia
  by_cases hk:nb-1-t>0
  .rw[aj hk];have e:(out.push y++(b.extract t (nb-1)).reverse).toList.reverse=(b.toList.take (nb-1)).drop t++(out.push y).toList.reverse:=by
    rw[fW,mQ,CT,NH,UY]
   rw[<-e]at I2;by_cases dO:t=1
   .rw[aj (by simpa using dO)];show aM (G.res _ _ _ _ _ _ _ _ hK (zV ra rb Z I2 dO))
   .rw[ah (by simpa using dO),ah (by simp;lia)];show QC G ra rb hK I2 lG tj tL (by clear dO hc tj lG;omega) (by clear dO bA c1 hl tj lG;omega) tz
  .rw[ah hk];have ht:t=nb-1:=by clear hc Dz tj lG;omega
   rw[ht]at tz ⊢;show QC G ra rb hK I' lG tj tL (by clear c1 hc tj lG;clear hk bA;lia) (by clear hF;lia) tz
set_option maxHeartbeats 4000000 in
set_option tactic.hygienic true in
def XH{a b:Array Keyed}{st:SortSt}{Q:Array Keyed->SortSt->Prop}(hB:SB st)(ra:Run a 0 a.size)(rb:Run b 0 b.size)(hb:0<b.size)(ha:0<a.size)
  (Z:∀x y,b[0]?=some x->a[0]?=some y->kn x<kn y) (M:∀z,a[a.size-1]?=some z->∀y∈b,kn y<kn z)
  (h:∀res af,SB af->arrOf af=arrOf st->pendingOf af=pendingOf st->d8 a.toList b.toList res.toList->Q res af):wpS (model prog w) A E s (EW a b) Q st:=by
 rw[zal];dsimp only;show aB (rN (mD ⟨Y,?_⟩));obtain⟨z,ez,kz⟩:=ra.at (i:=a.size-1) tO;rw[d7]at ez;show aB (d9 ez ?_);have hA:=ra.up;have mw:=rb.up;have I0:bS a.toList b.toList (#[z]:Array Keyed).toList.reverse (a.size-1) b.size:=by
  have e1:a.toList.drop (a.size-1)=[z]:=by
   have:=take_one (ls ez)
   rwa [f9 (by grind)]at this
  have e2:b.toList.drop b.size=[]:=mv (by simp);exists by rw[e1,e2];show UW _,qt _ _,λx hx y hy=>?_,λx hx y hy=>?_
  .have oA:y=z:=by simpa using hy
   rw[oA];show xX hA (ls ez) x ?_;rw[show a.size-1+1=a.size by lia,f9 (by simp)];show JG hx
  .have oA:y=z:=by simpa using hy
   rw[oA];show ph (M z ez x (by simpa using JG hx))
 have K0:Kp st st:=⟨hB,Y,Y⟩;by_cases g1:a.size-1=0
 .rw[aj (by simpa using g1)];show aM (h _ st hB Y Y (Bb ra rb I0 g1))
 rw[ah (by simpa using g1)];by_cases g2:b.size=1
 .rw[aj (by simpa using g2)];show aM (h _ st hB Y Y (zV ra rb Z I0 g2))
 rw[ah (by simpa using g2)];show aB (j1 ?_)
 change let F1:=_;wpS _ _ _ _ (forIn _ _ F1 >>= _) _ _;intro F1
 show aB (iF (gE (I:=λx c af=>∃na nb out mg,c=(none,na,nb,out,mg)/\Kp st af/\bS a.toList b.toList out.toList.reverse na nb/\1<=na/\na<=a.size/\2<=nb/\nb<=b.size/\x+1<=a.size-na+(b.size-nb)) (Q:=λc af=>∃res na nb out mg,c=(some res,na,nb,out,mg)/\Kp st af/\d8 a.toList b.toList res.toList) ?step ?fin ⟨a.size-1,b.size,#[z],_,Y,K0,I0,tL,tL,tL,tO,tL⟩) ?post)
 case fin =>
  rintro c af ⟨na,nb,out,mg,rfl,_,_,h3,h4,h5,h6,h7⟩;lia
 case post =>
  rintro c af ⟨res,na,nb,out,mg,rfl,hk,hm⟩;show aM (h res af hk.sb hk.arr hk.pend hm)
 case step =>
  rintro x c bu _ hxt ⟨na,nb,out,mg,rfl,ma,I1,h3,h4,h5,h6,h7⟩;dsimp only [F1]
  change let F2:=_;let G2:=_;wpS _ _ _ _ (forIn _ _ F2 >>= G2) _ _;intro F2 G2
  show aB (iF (gE (I:=λx1 c af=>∃na nb out ac bc,c=(none,na,nb,out,ac,bc)/\Kp st af/\bS a.toList b.toList out.toList.reverse na nb/\1<=na/\na<=a.size/\2<=nb/\nb<=b.size/\x+1+x1<=a.size-na+(b.size-nb)) (Q:=fun c af=>(∃ res na nb out ac bc,c=(some res,na,nb,out,ac,bc)/\Kp st af/\d8 a.toList b.toList res.toList) \/ ∃na nb out ac bc,c=(none,na,nb,out,ac,bc)/\Kp st af/\bS a.toList b.toList out.toList.reverse na nb/\1<=na/\na<=a.size/\2<=nb/\nb<=b.size/\x+2<=a.size-na+(b.size-nb)) ?step1 ?fin1 ⟨na,nb,out,0,0,Y,ma,I1,h3,h4,h5,h6,by assumption⟩) ?post1)
  case fin1 =>
   rintro c af ⟨na,nb,out,ac,bc,rfl,g3,g4,g5,g6,g7,g8,g9⟩;show .inr ⟨na,nb,out,ac,bc,Y,g3,g4,g5,g6,g7,g8,tL⟩
  case step1 =>
   rintro x1 c bg _ kQ ⟨na,nb,out,ac,bc,rfl,cm,I2,g5,g6,g7,g8,g9⟩;dsimp only [F2];obtain⟨y,ey,ky⟩:=rb.at (i:=nb-1) tL;obtain⟨v,ev,kv⟩:=ra.at (i:=na-1) tL;rw[d7]at ey ev;show aB (d9 ey (aB (d9 ev (aB (wO cm.sb ky kv ?_)))));have uy:=xX mw (ls ey);have uv:=xX hA (ls ev);rw[show nb-1+1=nb by lia]at uy;rw[show na-1+1=na by lia]at uv;by_cases hw:kn y<kn v
   .simp only[hw,k7,eS];show aB (d9 ev ?_);have I3:bS a.toList b.toList (out.push v).toList.reverse (na-1) nb:=by
     have e:(out.push v).toList.reverse=v::out.toList.reverse:=by simp
     rw[e];show bS.pushA (na:=na-1) ?_ hA (ls ev) λu hu=>by have:=uy u hu;lia
     rw[show na-1+1=na by lia];show I2
    by_cases hl:na-1=0
    .rw[aj (by simpa using hl)];show aM (.inl ⟨_,_,_,_,_,_,Y,cm,Bb ra rb I3 hl⟩)
    .rw[ah (by simpa using hl)];split
     .exact aM (.inr ⟨_,_,_,_,_,Y,cm,I3,tL,tL,g7,g8,tL⟩)
     .exact aM ⟨_,_,_,_,_,Y,cm,I3,tL,tL,g7,g8,tL⟩
   .simp only[hw,lx,eP,dw];show aB (d9 ey ?_);have I3:bS a.toList b.toList (out.push y).toList.reverse na (nb-1):=by
     have e:(out.push y).toList.reverse=y::out.toList.reverse:=by simp
     rw[e];show bS.pushB (nb:=nb-1) ?_ mw (ls ey) λu hu=>by have:=uv u hu;lia
     rw[show nb-1+1=nb by lia];show I2
    by_cases hl:nb-1=1
    .rw[aj (by simpa using hl)];show aM (.inl ⟨_,_,_,_,_,_,Y,cm,zV ra rb Z I3 hl⟩)
    .rw[ah (by simpa using hl)];split
     .exact aM (.inr ⟨_,_,_,_,_,Y,cm,I3,by assumption,by assumption,tL,tL,tL⟩)
     .exact aM ⟨_,_,_,_,_,Y,cm,I3,by assumption,by assumption,tL,tL,tL⟩
  case post1 =>
   rintro c bg (⟨res,na,nb,out,ac,bc,rfl,cm,hm⟩|⟨na,nb,out,ac,bc,rfl,cm,I2,g5,g6,g7,g8,g9⟩)
   .exact aM ⟨_,_,_,_,_,Y,cm,hm⟩
   dsimp only [G2];show aB (rN (mD ⟨Y,?_⟩))
   change let F3:=_;wpS _ _ _ _ (forIn _ _ F3 >>= _) _ _;intro F3
   show aB (iF (gE (I:=λx2 c af=>∃na nb out mg ac bc,c=(none,na,nb,out,mg,ac,bc)/\Kp st af/\bS a.toList b.toList out.toList.reverse na nb/\1<=na/\na<=a.size/\2<=nb/\nb<=b.size/\x+2<=a.size-na+(b.size-nb)) (Q:=fun c af=>(∃ res na nb out mg ac bc,c=(some res,na,nb,out,mg,ac,bc)/\Kp st af/\d8 a.toList b.toList res.toList) \/ ∃na nb out mg ac bc,c=(none,na,nb,out,mg,ac,bc)/\Kp st af/\bS a.toList b.toList out.toList.reverse na nb/\1<=na/\na<=a.size/\2<=nb/\nb<=b.size/\x+2<=a.size-na+(b.size-nb)) ?step2 ?fin2 ⟨na,nb,out,_,ac,bc,Y,cm,I2,g5,g6,g7,g8,by assumption⟩) ?post2)
   case fin2 =>
    rintro c af h';show .inr h'
   case post2 =>
    rintro c cg (⟨res,na,nb,out,mg,ac,bc,rfl,gI,hm⟩|⟨na,nb,out,mg,ac,bc,rfl,gI,I3,p5,p6,p7,p8,p9⟩)
    .exact aM ⟨_,_,_,_,_,Y,gI,hm⟩
    .exact aB (B2 (aM ⟨_,_,_,_,Y,gI.setG _,I3,p5,p6,p7,p8,by assumption⟩))
   case step2 =>
    rintro x2 c cg _ yZ ⟨na,nb,out,mg,ac,bc,rfl,gI,I3,p5,p6,p7,p8,p9⟩;dsimp only [F3];obtain⟨y,ey,ky⟩:=rb.at (i:=nb-1) tL;rw[d7]at ey;have uy:=xX mw (ls ey);rw[show nb-1+1=nb by lia]at uy;refine' NR (λkey=>?_) ?_;rotate_left;by_cases kc:mg>1;rw[aj kc];clear kc;generalize mg-1=m;revert m;show key;rw[ah kc];show key mg;intro mg
    show aB (B2 ?_);show aB (d9 ey ?_);show aB (uI (gI.setG _).sb ky (ra.pre na p6) tL λt hZ=>?_);dsimp only;obtain⟨c1,c2,c3⟩:=hZ;have ty:∀u,b[nb-1]?=some u->∀v∈a.toList.take t,kn v<=kn u:=λu eu v hv=>by
     rw[ey]at eu;obtain⟨j,_,hj,ev⟩:=va (i:=0) (by rw[lS];show hv);have q1:kn v<=kn y:=c2 j v hj (by simp_all);cases eu;show q1
    have I4:=I3.pushAs hA (i:=t) c1 λu hu v hv=>by
     obtain⟨j,zF,tw,ev⟩:=va hv;have q1:¬kn v<=kn y:=c3 j v zF tw (by simp_all);have q2:=uy u hu;lia
    by_cases hk:na-t>0
    .rw[aj hk];have e:(out++(a.extract t na).reverse).toList.reverse=(a.toList.take na).drop t++out.toList.reverse:=by
      rw[fW,mQ,CT,NH,UY]
     rw[<-e]at I4;by_cases hl:t=0
     .rw[aj (by simpa using hl)];show aM (.inl ⟨_,_,_,_,_,_,_,Y,gI.setG _,Bb ra rb I4 hl⟩)
     .rw[ah (by simpa using hl)];show VS (c:=x+1) (st₀:=st) ⟨λres out na nb mg ac bc af a1 a2=>.inl ⟨_,_,_,_,_,_,_,Y,a1,a2⟩,λout na nb mg ac bc af a1 a2 a3 a4 a5 a6 a7=>.inr ⟨_,_,_,_,_,_,Y,a1,a2,a3,a4,a5,a6,by assumption⟩,λout na nb mg ac bc af a1 a2 a3 a4 a5 a6 a7=>⟨_,_,_,_,_,_,Y,a1,a2,a3,a4,a5,a6,by assumption⟩⟩ ra rb Z (gI.setG _) I4 tL tL p7 p8 tL ty _ (λ_ _=>rfl)
    .rw[ah hk];have ht:t=na:=by lia
     rw[ht]at ty;show VS (c:=x+1) (st₀:=st) ⟨λres out na nb mg ac bc af a1 a2=>.inl ⟨_,_,_,_,_,_,_,Y,a1,a2⟩,λout na nb mg ac bc af a1 a2 a3 a4 a5 a6 a7=>.inr ⟨_,_,_,_,_,_,Y,a1,a2,a3,a4,a5,a6,by assumption⟩,λout na nb mg ac bc af a1 a2 a3 a4 a5 a6 a7=>⟨_,_,_,_,_,_,Y,a1,a2,a3,a4,a5,a6,by assumption⟩⟩ ra rb Z (gI.setG _) I3 p5 p6 p7 p8 tL ty _ (λ_ _=>rfl)
end
variable [KO]
noncomputable def iR(xs:Array Keyed)(m:List Keyed)(o:Nat):Array Keyed:=m.zipIdx.foldl (λa (p,j)=>a.setIfInBounds (o+j) p) xs
theorem Ow:∀(m:List Keyed) (n o:Nat) (xs:Array Keyed),o+n+m.length<=xs.size->((m.zipIdx n).foldl (λa (p,j)=>a.setIfInBounds (o+j) p) xs).toList=xs.toList.take (o+n)++m++xs.toList.drop (o+n+m.length)
 |[],n,o,xs,_=>by simp
 |p::m,n,o,xs,h=>by
  rw[bf]at h;rw[Kx,JE];have ih:=Ow m (n+1) o (xs.setIfInBounds (o+n) p) (by rw[Array.size_setIfInBounds];lia);show ih.trans ?_;have hl:o+n<xs.toList.length:=by rw[gy];lia
  have e1:(xs.setIfInBounds (o+n) p).toList=xs.toList.set (o+n) p:=by simp
  rw[e1,show o+(n+1)=o+n+1 by lia,dM,xa hl,List.take_set_of_le tL,List.drop_set_of_lt tL,bf,show o+n+1+m.length=o+n+(m.length+1) by lia];simp
def XE{m:List Keyed}{o:Nat}{xs:Array Keyed}(h:o+m.length<=xs.size):(iR xs m o).toList=xs.toList.take o++m++xs.toList.drop (o+m.length):=by
 have:=Ow m 0 o xs (by simpa using h)
 simpa [iR] using this
def Run.rise'{xs:Array Keyed}{b n i j:Nat}{x y:Keyed}(r:Run xs b n)(Z:b<=i)(M:i<=j)(h3:j<b+n)(ex:xs[i]?=some x)(ey:xs[j]?=some y):kn x<=kn y :=
 r.rise (i-b) (j-b) x y tL tL (by simp_all) (by grind)
def AH{xs:Array Keyed}{b n:Nat}(hs:b+n<=xs.size)(hk:∀x∈xs,c6 x)(h:∀i j x y,b<=i->i<=j->j<b+n->xs[i]?=some x->xs[j]?=some y->kn x<=kn y):Run xs b n :=
 ⟨hs,hk,λi j x y cW hj ex ey=>h (b+i) (b+j) x y tL tL tL ex ey⟩
def Pd{xs:Array Keyed}{sa na nb:Nat}(ra:Run xs sa na)(rb:Run xs (sa+na) nb)(lG:1<=na)(nZ:1<=nb)(h:∀x y,xs[sa+na-1]?=some x->xs[sa+na]?=some y->kn x<=kn y):Run xs sa (na+nb):=by
 have hs:=rb.has;show AH tL ra.keys λi j x y Z M h3 ex ey=>?_
 by_cases hj:j<sa+na
 .exact ra.rise' Z M hj ex ey
 .by_cases hi:sa+na<=i
  .exact rb.rise' hi M tL ex ey
  .obtain⟨z,ez,_⟩:=ra.at (i:=na-1) tL;obtain⟨v,ev,_⟩:=rb.at (i:=0) (by assumption);rw[yo]at ev;rw[show sa+(na-1)=sa+na-1 by lia]at ez;have q1:=ra.rise' Z (show i<=sa+na-1 by lia) tL ex ez;have q2:=h z v ez ev;have q3:=rb.rise' (aC _) (show sa+na<=j by lia) tL ev ey;lia
def IF(a:Array Keyed)(i j:Nat):(a.extract i j).toList=(a.toList.drop i).take (j-i):=by simp
def R9{xs:Array Keyed}{b n i j:Nat}(r:Run xs b n)(Z:b<=i)(M:i<=j)(h3:j<=b+n):Run (xs.extract i j) 0 (xs.extract i j).size:=by
 have hs:=r.has;have hz:(xs.extract i j).size=j-i:=by grind
 have hg:∀t,t<j-i->(xs.extract i j)[t]?=xs[i+t]?:=λt ht=>by simp_all
 show AH tL (λx hx=>?_) λt u x y a1 a2 a3 ex ey=>?_
 .obtain⟨t,ht,e⟩:=Array.getElem_of_mem hx;have e2:=hg t tL;rw[mP ht,e]at e2;show r.keys x (MG e2.symm)
 .rw[hg t tL]at ex;rw[hg u tL]at ey;show r.rise' tL (show i+t<=i+u by lia) tL ex ey
def zdY{xs:Array Keyed}{sa na nb k n2:Nat}{b0 z:Keyed}{qad:List Keyed}(ra:Run xs sa na)(rb:Run xs (sa+na) nb)(hk:k<na)(hn:1<=n2)(df:n2<=nb)(eb:xs[sa+na]?=some b0)(ez:xs[sa+na-1]?=some z)
  (c1:Ea false b0 xs sa na k) (c2:Ea true z xs (sa+na) nb n2) (hM:d8 (xs.extract (sa+k) (sa+na)).toList (xs.extract (sa+na) (sa+na+n2)).toList qad) :
  (iR xs qad (sa+k)).toList.Perm xs.toList/\(∀j,j<sa\/sa+na+nb<=j->(iR xs qad (sa+k))[j]?=xs[j]?)/\Run (iR xs qad (sa+k)) sa (na+nb):=by
 have hs:=rb.has;rw[IF,IF]at hM;have tq:xs.toList.length=xs.size:=gy;have tN:qad.length=na-k+n2:=by
  rw[hM.1.length_eq,aX,cZ,cZ,mW,mW,tq];lia
 have e:=XE (m:=qad) (o:=sa+k) (xs:=xs) (by clear hM rb;lia);have MI:xs.toList=xs.toList.take (sa+k)++((xs.toList.drop (sa+k)).take (sa+na-(sa+k))++(xs.toList.drop (sa+na)).take (sa+na+n2-(sa+na)))++xs.toList.drop (sa+k+qad.length):=by
  have d1:=Gb xs.toList (sa+k) (sa+na-(sa+k));have d2:=Gb xs.toList (sa+na) (sa+na+n2-(sa+na));rw[show sa+k+(sa+na-(sa+k))=sa+na by lia]at d1;rw[show sa+na+(sa+na+n2-(sa+na))=sa+k+qad.length by clear hM rb;lia]at d2;rw[dG,dG,<-d2,<-d1,j5]
 have dP:(iR xs qad (sa+k)).toList.Perm xs.toList:=by
  rw[e]
  conv=>rhs;rw[MI]
  show (hM.1.append_left _).append_right _
 have hsz:(iR xs qad (sa+k)).size=xs.size:=by
  have:=dP.length_eq
  rwa [gy,gy]at this
 have aF:(xs.toList.take (sa+k)).length=sa+k:=by rw[cZ];clear hn;lia
 have out:∀j,j<sa+k\/sa+na+n2<=j->(iR xs qad (sa+k))[j]?=xs[j]?:=λj hj=>by
  rw[<-rE,<-rE,e];rcases hj with hj|hj
  .rw[zM (by rw[aX];clear hsz tq hs df hk;clear tN;lia),zM tL,Cf (by assumption)]
  .rw[BN (by grind),DJ,aX,aF];congr 1;clear MI hM rb;lia
 have ins:∀j x,sa+k<=j->j<sa+na+n2->(iR xs qad (sa+k))[j]?=some x->qad[j-(sa+k)]?=some x:=λj x Z M ex=>by
  rw[<-rE,e,zM (by grind),BN tL,aF]at ex;show ex
 have src:∀x∈qad,∃t,sa+k<=t/\t<sa+na+n2/\xs[t]?=some x:=λx hx=>by
  rcases bC.mp (hM.1.mem_iff.mp hx)with q|q
  .obtain⟨t,ht,et⟩:=zm q;exists _,tL,tL,et
  .obtain⟨t,ht,et⟩:=zm q;exists _,tL,tL,et
 exists dP,λj hj=>out j tL,AH tL (λx hx=>ra.keys x ?_) λi j x y Z M h3 ex ey=>?_
 .have:=dP.mem_iff.mp (uj.mpr hx)
  show uj.mp this
 obtain⟨_,a1,a2⟩:=c1;obtain⟨_,d1,d2⟩:=c2;have lowM:∀i x y,sa<=i->i<sa+k->xs[i]?=some x->y∈qad->kn x<=kn y:=λi x y g1 g2 ex hy=>by
  obtain⟨t,t1,t2,et⟩:=src y hy;by_cases ht:t<sa+na
  .exact ra.rise' g1 tL ht ex et
  .have q1:kn x<=kn b0:=a1 (i-sa) x tL (by rw[show sa+(i-sa)=i by lia];show ex);have q2:=rb.rise' (aC _) (show sa+na<=t by lia) tL eb et;lia
 have XU:∀j x y,sa+na+n2<=j->j<sa+na+nb->xs[j]?=some y->x∈qad->kn x<=kn y:=λj x y g1 g2 ey hx=>by
  obtain⟨t,t1,t2,et⟩:=src x hx;by_cases ht:t<sa+na
  .have q1:¬kn y<kn z:=d2 (j-(sa+na)) y tL tL (by rw[show sa+na+(j-(sa+na))=j by lia];show ey);have q2:=ra.rise' tL (show t<=sa+na-1 by lia) tL et ez;lia
  .exact rb.rise' tL (show t<=j by lia) g2 et ey
 by_cases hi:i<sa+k
 .rw[out i (.inl hi)]at ex;by_cases hj:j<sa+k
  .rw[out j (.inl hj)]at ey;show ra.rise' Z M tL ex ey
  .by_cases tw:j<sa+na+n2
   .exact lowM i x y Z hi ex (c8 (ins j y tL tw ey))
   .rw[out j (.inr tL)]at ey;have q1:kn x<=kn b0:=a1 (i-sa) x tL (by rw[show sa+(i-sa)=i by lia];show ex);have q2:=rb.rise' (aC _) (show sa+na<=j by lia) tL eb ey;lia
 .by_cases HE:i<sa+na+n2
  .have hx:=ins i x tL HE ex;by_cases tw:j<sa+na+n2
   .have hy:=ins j y tL tw ey;by_cases cW:i=j
    .subst cW;rw[hx]at hy;cases hy;show ik _
    .obtain⟨l1,e1⟩:=cq.mp hx;obtain⟨l2,e2⟩:=cq.mp hy
     have:=CG.mp hM.2 _ _ l1 l2 tL
     rwa [e1,e2]at this
   .rw[out j (.inr tL)]at ey;show XU j x y tL tL ey (c8 hx)
  .rw[out i (.inr tL)]at ex;rw[out j (.inr tL)]at ey;show rb.rise' tL M tL ex ey
section
variable{prog:Program}{w:World}{A:Around}{E:Value->Shared->Prop}{s:Shared}[KL prog w A s]
def zcb{σ:Type}{qad:Model}{t st:σ}{Q:PUnit->σ->Prop}(h:Q ⟨⟩ t):wpS qad A E s (set t:StateT σ Sem PUnit) Q st:=by
 unfold wpS;rw[StateT.run_set];show aS ⟨Y,h⟩
set_option maxHeartbeats 4000000 in
def zch (i:Nat):mergeAt' i=(do
 let s <-get
 let (some (sa,na,power),some (sb,nb,_)):=((pendingOf s)[i]?,(pendingOf s)[i+1]?)|unsupported "internal:list.sort.pending"
 set (SortSt.mk' (kindOf s) (arrOf s) (((pendingOf s).setIfInBounds i (sa,na+nb,power)).eraseIdxIfInBounds (i+1)) (gallopOf s) (failedOf s))
 let some k <-l7 false (<-elem' (arrOf s) sb) (arrOf s) sa na 0|return false
 let (sa,na):=(sa+k,na-k)
 if na == 0 then return true
 let some nb <-l7 true (<-elem' (arrOf s) (sa+na-1)) (arrOf s) sb nb (nb-1)|return false
 if nb == 0 then return true
 let x:=(arrOf s).extract sa sb;let y:=(arrOf s).extract sb (sb+nb)
 let merged <-if na<=nb then HW x y else EW x y
 modify λs=>setArr s (iR (arrOf s) merged.toList sa)
 return (failedOf (<-get)).isNone):=rfl
set_option maxHeartbeats 4000000 in
def zeG{st:SortSt}{i sa na sb nb p p':Nat}{pre post:List (Nat×Nat×Nat)}{Q:Bool->SortSt->Prop}(hB:SB st)(hp:(pendingOf st).toList=pre++(sa,na,p)::(sb,nb,p')::post)(hi:i=pre.length)(hsb:sb=sa+na)
  (ra:Run (arrOf st) sa na) (rb:Run (arrOf st) sb nb) (lG:1<=na) (nZ:1<=nb)
  (h:∀af,SB af->(pendingOf af).toList=pre++(sa,na+nb,p)::post->(arrOf af).toList.Perm (arrOf st).toList->(∀j,j<sa\/sb+nb<=j->(arrOf af)[j]?=(arrOf st)[j]?)->Run (arrOf af) sa (na+nb)->Q true af) :
  wpS (model prog w) A E s (mergeAt' i) Q st:=by
 rw[zch];show aB (j1 ?_);have g1:(pendingOf st)[i]?=some (sa,na,p):=by rw[<-rE,hp,hi];simp
 have g2:(pendingOf st)[i+1]?=some (sb,nb,p'):=by rw[<-rE,hp,hi];simp
 rw[g1,g2];dsimp only;show aB (zcb ?_);subst hsb;generalize iP:SortSt.mk' (kindOf st) (arrOf st) (((pendingOf st).setIfInBounds i (sa,na+nb,p)).eraseIdxIfInBounds (i+1)) (gallopOf st) (failedOf st)=bu;have k1:SB bu:=by rw[<-iP];exists hB.kind,hB.failed
 have k2:arrOf bu=arrOf st:=by rw[<-iP]
 have k3:(pendingOf bu).toList=pre++(sa,na+nb,p)::post:=by
  rw[<-iP];show (((pendingOf st).setIfInBounds i (sa,na+nb,p)).eraseIdxIfInBounds (i+1)).toList=_;rw[Array.toList_eraseIdxIfInBounds,Array.toList_setIfInBounds,hp,hi];rw[List.set_append_right _ _ (aC _),Of,List.set_cons_zero,List.eraseIdx_append_of_length_le tL,AV];rfl
 obtain⟨b0,eb,kb⟩:=rb.at (i:=0) (by assumption);rw[yo]at eb;obtain⟨z,ez,kz⟩:=ra.at (i:=na-1) tO;rw[show sa+(na-1)=sa+na-1 by lia]at ez;show aB (d9 eb ?_);show aB (uI k1 kb ra (by assumption) λk tU=>?_);dsimp only;have same:Run (arrOf st) sa (na+nb)->Q true bu:=λhr=>h bu k1 k3 (by rw[k2]) (λj _=>by rw[k2]) (by rw[k2];show hr)
 by_cases hz:na-k=0
 .rw[aj (by simpa using hz)];show aM (same (Pd ra rb lG nZ λx y ex ey=>?_));rw[eb]at ey;cases ey;show tU.2.1 (na-1) x (by clear nZ hi;omega) (by rw[show sa+(na-1)=sa+na-1 by lia];show ex)
 rw[ah (by simpa using hz),show sa+k+(na-k)-1=sa+na-1 by lia];show aB (d9 ez ?_);show aB (uI k1 kz rb tL λn2 oh=>?_);dsimp only;by_cases m9:n2=0
 .rw[aj (by simpa using m9)];show aM (same (Pd ra rb lG nZ λx y ex ey=>?_));rw[ez]at ex;cases ex;have:¬kn y<kn z:=oh.2.2 0 y tL (by assumption) (by assumption);lia
 rw[ah (by simpa using m9)];have df:=oh.1;have hs:=rb.has;have s1:((arrOf st).extract (sa+k) (sa+na)).size=na-k:=by grind
 have s2:((arrOf st).extract (sa+na) (sa+na+n2)).size=n2:=by rw[Array.size_extract];lia
 have p1:∀x y,((arrOf st).extract (sa+na) (sa+na+n2))[0]?=some x->((arrOf st).extract (sa+k) (sa+na))[0]?=some y->kn x<kn y:=λx y ex ey=>by
  rw[Rj,aj tL,yo]at ex ey;rw[eb]at ex;cases ex;have:¬kn y<=kn b0:=tU.2.2 k y (aC _) tL ey;lia
 have p2:∀v,((arrOf st).extract (sa+k) (sa+na))[((arrOf st).extract (sa+k) (sa+na)).size-1]?=some v->∀y∈(arrOf st).extract (sa+na) (sa+na+n2),kn y<kn v:=λv ev y hy=>by
  rw[s1,Rj,aj tL,show sa+k+(na-k-1)=sa+na-1 by lia,ez]at ev;cases ev;have oA:y∈((arrOf st).extract (sa+na) (sa+na+n2)).toList:=uj.mpr hy;rw[IF,AV]at oA;obtain⟨t,ht,et⟩:=zm oA;show oh.2.1 t y ht et
 have fin:∀(res:Array Keyed) (bg:SortSt),SB bg->arrOf bg=arrOf bu->pendingOf bg=pendingOf bu->d8 ((arrOf st).extract (sa+k) (sa+na)).toList ((arrOf st).extract (sa+na) (sa+na+n2)).toList res.toList ->
   wpS (model prog w) A E s (do modify λs=>setArr s (iR (arrOf s) res.toList (sa+k));let d <-get;pure (failedOf d).isNone) Q bg:=λres bg q1 q2 q3 q4=>by
  show aB (og (aB (j1 (aM ?_))));have e:(failedOf (setArr bg (iR (arrOf bg) res.toList (sa+k)))).isNone=true:=by
   show (failedOf bg).isNone=true;rw[q1.failed];rfl
  rw[e];obtain⟨m1,m2,m3⟩:=zdY ra rb (by clear s2 s1 hs df m9 nZ hi;omega) tL df eb ez tU oh q4;have ea:arrOf (setArr bg (iR (arrOf bg) res.toList (sa+k)))=iR (arrOf st) res.toList (sa+k):=by simp_all
  show h _ ⟨q1.kind,q1.failed⟩ (by show (pendingOf bg).toList=_;rw[q3,k3]) (by rw[ea];show m1) (by rw[ea];show m2) (by rw[ea];show m3)
 have r1:=R9 ra (show sa<=sa+k by lia) (show sa+k<=sa+na by lia) (aC _);have r2:=R9 rb (aC _) (show sa+na<=sa+na+n2 by lia) tL;by_cases hle:na-k<=n2
 .rw[aj hle];show aB (zb1 k1 r1 r2 tL tL p1 p2 fin)
 .rw[ah hle];show aB (XH k1 r1 r2 tL tL p1 p2 fin)
end
variable [KO]
structure SL(a:Array Keyed)(pd:Array (Nat×Nat×Nat))(lo:Nat)(st:SortSt):Prop where
 sb:SB st
 perm:(arrOf st).Perm a
 same:∀j,j<lo->(arrOf st)[j]?=a[j]?
 pend:pendingOf st=pd
def SL.size{a:Array Keyed}{pd:Array (Nat×Nat×Nat)}{lo:Nat}{st:SortSt}(h:SL a pd lo st):(arrOf st).size=a.size:=h.perm.size_eq
def SL.setArr{a:Array Keyed}{pd:Array (Nat×Nat×Nat)}{lo:Nat}{st:SortSt}(h:SL a pd lo st){xs:Array Keyed}(hp:xs.Perm (arrOf st))(hs:∀j,j<lo->xs[j]?=(arrOf st)[j]?):SL a pd lo (setArr st xs) :=
 ⟨⟨h.sb.kind,h.sb.failed⟩,hp.trans h.perm,λj hj=>(hs j hj).trans (h.same j hj),h.pend⟩
def SL.mir{a:Array Keyed}{pd:Array (Nat×Nat×Nat)}{lo:Nat}{st:SortSt}(h:SL a pd lo st){i j:Nat}(hi:lo<=i)(hj:j<=a.size):SL a pd lo (PyProof.Rows.setArr st (mirror (arrOf st) i j ((j-i)/2))) :=
 h.setArr (mirror_perm _ _ _ _) λt ht=>by rw[getElem?_mirror_all (by rw[h.size];show hj),ah tL]
def KI(xs:Array Keyed)(i:Nat):Int:=match xs[i]? with
 |some p=>kn p
 |none=>0
def wX{xs ys:Array Keyed}{i j:Nat}(h:xs[i]?=ys[j]?):KI xs i=KI ys j:=by unfold KI;rw[h]
def r9{xs:Array Keyed}{i:Nat}{x:Keyed}(e:xs[i]?=some x):KI xs i=kn x:=by unfold KI;rw[e]
set_option tactic.hygienic true in
def VE{xs:Array Keyed}{src d:Nat}(hs:src<xs.size)(hd:d<=src)(k:Nat):KI (bubble xs src d) k=if k=src-d then KI xs src else if src-d<k/\k<=src then KI xs (k-1)else KI xs k:=by
 have e:=getElem?_bubble hs d hd k;split at e
 .rename_i Z;rw[aj Z];show wX e
 .rename_i Z;rw[ah Z];split at e
  .rename_i M;rw[aj M];show wX e
  .rename_i M;rw[ah M];show wX e
set_option tactic.hygienic true in
def Jv{xs:Array Keyed}{i j:Nat}(hj:j<=xs.size)(k:Nat):KI (mirror xs i j ((j-i)/2)) k=if i<=k/\k<j then KI xs (i+j-1-k)else KI xs k:=by
 have e:=getElem?_mirror_all (i:=i) hj k;split at e
 .rename_i Z;rw[aj Z];show wX e
 .rename_i Z;rw[ah Z];show wX e
def Wh{xs:Array Keyed}{i j:Nat}(hj:j<=xs.size)(q:∀k,i<=k->k<j->KI xs k=KI xs (j-1))(k:Nat):KI (mirror xs i j ((j-i)/2)) k=KI xs k:=by
 rw[Jv hj];split
 .rw[q _ tO tO,q k tL tL]
 .rfl
def kY(xs:Array Keyed)(lo n:Nat):Prop:=∀i j,i<=j->j<n->KI xs (lo+i)<=KI xs (lo+j)
def rP(xs:Array Keyed)(lo n:Nat):Prop:=∀i j,i<=j->j<n->KI xs (lo+j)<=KI xs (lo+i)
noncomputable abbrev C2:=Option (Option Nat)×Nat
noncomputable abbrev C3:=Option (Option Nat)×Nat×Nat
def nj(lo:Nat):Nat->C2->StateT SortSt Sem (ForInStep C2):=λ_ c=>ltAt' (lo+c.2) (lo+c.2-1) >>= λo=>match o with
 |some b=>if b=true then pure (.done (none,c.2))else pure (.yield (none,c.2+1))
 |none=>pure (.done (some none,c.2))
noncomputable def zgx(c:C2):StateT SortSt Sem (Option Nat):=match c.1 with|some r=>pure r|none=>pure (some c.2)
def pR(lo n m:Nat):StateT SortSt Sem (Option Nat):=reverseSlice' lo (lo+n) >>= λ_=>forIn [n:m] ((none,n):C2) (nj lo) >>= zgx
def yV(lo:Nat):Nat->C3->StateT SortSt Sem (ForInStep C3):=λ_ c=>ltAt' (lo+c.2.1) (lo+c.2.1-1) >>= λo=>match o with
 |some b=>if b=true then (if c.2.2>0 then reverseSlice' (lo+c.2.1-(c.2.2+1)) (lo+c.2.1) >>= λ_=>pure (.yield (none,c.2.1+1,0))else pure (.yield (none,c.2.1+1,0)))
  else ltAt' (lo+c.2.1-1) (lo+c.2.1) >>= λo=>match o with
   |some g=>if g=true then pure (.done (none,c.2.1,c.2.2))else pure (.yield (none,c.2.1+1,c.2.2+1))
   |none=>pure (.done (some none,c.2.1,c.2.2))
 |none=>pure (.done (some none,c.2.1,c.2.2))
def AN(lo m:Nat)(c:C3):StateT SortSt Sem (Option Nat):=match c.1 with
 |some r=>pure r
 |none=>if c.2.2>0 then reverseSlice' (lo+c.2.1-(c.2.2+1)) (lo+c.2.1) >>= λ_=>pR lo c.2.1 m else pR lo c.2.1 m
def vM(lo n m:Nat):StateT SortSt Sem (Option Nat):=liftM (rule "list.sort.descending-run") >>= λ_=>forIn [n+1:m] ((none,n+1,0):C3) (yV lo) >>= AN lo m
def Hf(lo m:Nat)(c:C2):StateT SortSt Sem (Option Nat):=match c.1 with
 |some r=>pure r
 |none=>if (c.2 == m)=true then pure (some c.2)else if c.2>1 then ltAt' lo (lo+c.2-1) >>= λo=>match o with
    |some b=>if b=true then pure (some c.2)else reverseSlice' lo (lo+c.2) >>= λ_=>vM lo c.2 m
    |none=>pure none
   else vM lo c.2 m
section
variable{σ:Type}{α β:Type}
def bc{m:StateT σ Sem α}{f g:α->StateT σ Sem β}(h:∀a,f a=g a):(m >>= f)=(m >>= g):=by rw[show f=g from funext h]
def fc{γ:Type}{r:Std.Legacy.Range}{c:γ}{F F':Nat->γ->StateT σ Sem (ForInStep γ)}{G G':γ->StateT σ Sem β}(h:∀x c,F x c=F' x c)(h':∀c,G c=G' c):(forIn r c F >>= G)=(forIn r c F' >>= G'):=by
 rw[show F=F' from funext λx=>funext λc=>h x c,show G=G' from funext h']
end
set_option maxHeartbeats 4000000 in
def ze8(lo m:Nat):countRun' lo m=(forIn [1:m] ((none,1):C2) (nj lo) >>= Hf lo m):=by
 rw[countRun'_eq];show fc (λx c=>?_) (λc=>?_)
 .unfold nj;show bc λo=>?_
  cases o<;>rfl
 .obtain⟨r,n⟩:=c;unfold Hf;cases r with
  |some r=>rfl
  |none =>
   dsimp only;split
   .rfl
   .split
    .refine bc λo=>?_
     cases o with
     |none=>rfl
     |some b =>
      dsimp only;split
      .rfl
      .refine bc λ_=>?_
       unfold vM;show bc λ_=>fc (λx c=>?_) (λc=>?_)
       .unfold yV;show bc λo=>?_
        cases o with
        |none=>rfl
        |some b =>
         dsimp only;split
         .rfl
         .refine bc λo=>?_
          cases o<;>rfl
       .obtain⟨r,k,q⟩:=c;unfold AN;cases r with
        |some r=>rfl
        |none =>
         dsimp only;split
         .refine bc λ_=>?_
          unfold pR;show bc λ_=>fc (λx c=>?_) (λc=>?_)
          .unfold nj;show bc λo=>?_
           cases o<;>rfl
          .obtain⟨r,n⟩:=c;cases r<;>rfl
         .unfold pR;show bc λ_=>fc (λx c=>?_) (λc=>?_)
          .unfold nj;show bc λo=>?_
           cases o<;>rfl
          .obtain⟨r,n⟩:=c;cases r<;>rfl
    .unfold vM;show bc λ_=>fc (λx c=>?_) (λc=>?_)
     .unfold yV;show bc λo=>?_
      cases o with
      |none=>rfl
      |some b =>
       dsimp only;split
       .rfl
       .refine bc λo=>?_
        cases o<;>rfl
     .obtain⟨r,k,q⟩:=c;unfold AN;cases r with
      |some r=>rfl
      |none =>
       dsimp only;split
       .refine bc λ_=>?_
        unfold pR;show bc λ_=>fc (λx c=>?_) (λc=>?_)
        .unfold nj;show bc λo=>?_
         cases o<;>rfl
        .obtain⟨r,n⟩:=c;cases r<;>rfl
       .unfold pR;show bc λ_=>fc (λx c=>?_) (λc=>?_)
        .unfold nj;show bc λo=>?_
         cases o<;>rfl
        .obtain⟨r,n⟩:=c;cases r<;>rfl
section
variable{prog:Program}{w:World}{A:Around}{E:Value->Shared->Prop}{s:Shared}[KL prog w A s]{a:Array Keyed}{pd:Array (Nat×Nat×Nat)}{lo:Nat}
def SL.at{st:SortSt}(h:SL a pd lo st)(hk:∀x∈a,c6 x){i:Nat}(hi:i<a.size):∃x,(arrOf st)[i]?=some x/\c6 x/\KI (arrOf st) i=kn x:=by
 have cD:i<(arrOf st).size:=by rw[h.size];show hi
 have hm:(arrOf st)[i]∈a.toList:=(IS.mp h.perm).mem_iff.mp tS;have e:=mP cD;exists _,e,hk _ (uj.mp hm),r9 e
def SL.lt{st:SortSt}{i j:Nat}{Q:Option Bool->SortSt->Prop}(h:SL a pd lo st)(hk:∀x∈a,c6 x)(hi:i<a.size)(hj:j<a.size)(q:Q (some (decide (KI (arrOf st) i<KI (arrOf st) j))) st):wpS (model prog w) A E s (ltAt' i j) Q st:=by
 obtain⟨x,e1,k1,f1⟩:=h.at hk hi;obtain⟨y,e2,k2,f2⟩:=h.at hk hj;rw[f1,f2]at q;show Yr h.sb e1 e2 k1 k2 q
set_option tactic.hygienic true in
def O5{st:SortSt}{b m:Nat}{Q:C2->SortSt->Prop}(hL:SL a pd lo st)(hk:∀x∈a,c6 x)(hm:lo+m<=a.size)(hb:1<=b)(hbm:b<=m)(hs:kY (arrOf st) lo b)
  (h:∀n,b<=n->n<=m->kY (arrOf st) lo n->(n=m\/KI (arrOf st) (lo+n)<KI (arrOf st) (lo+n-1))->Q (none,n) st):wpS (model prog w) A E s (forIn [b:m] ((none,b):C2) (nj lo)) Q st:=by
 show gE (I:=λx c af=>af=st/\c=(none,x)/\kY (arrOf st) lo x) ?step ?fin ⟨Y,Y,hs⟩
 case fin =>
  rintro c af ⟨rfl,rfl,kM⟩;rw[show max b m=m by lia]at kM ⊢;show h m hbm (aC _) kM (.inl Y)
 case step =>
  rintro x c af Ew hxn ⟨rfl,rfl,kM⟩;unfold nj;dsimp only;show aB (hL.lt hk tL tL ?_);by_cases hless:KI (arrOf af) (lo+x)<KI (arrOf af) (lo+x-1)
  .simp only[hless,k7,eS];show aM (h x Ew tL kM (.inr hless))
  .simp only[hless,lx,eP,dw];show aM ⟨Y,Y,λi j cW hj=>?_⟩;by_cases hjx:j<x
   .exact kM i j cW hjx
   .by_cases cD:i=j
    .rw[cD];show ik _
    .have q1:=kM i (x-1) tL tL;rw[show lo+(x-1)=lo+x-1 by lia]at q1;rw[show j=x by lia];lia
def LO{st:SortSt}{n m:Nat}{Q:Option Nat->SortSt->Prop}(hL:SL a pd lo st)(hk:∀x∈a,c6 x)(hm:lo+m<=a.size)(hn:1<=n)(gx:n<=m)(hs:rP (arrOf st) lo n)
  (h:∀k af,SL a pd lo af->1<=k->k<=m->kY (arrOf af) lo k->Q (some k) af):wpS (model prog w) A E s (pR lo n m) Q st:=by
 unfold pR;have hsz:lo+n<=(arrOf st).size:=by rw[hL.size];lia
 have E8:=hL.mir (aC lo) (show lo+n<=a.size by lia);show aB (zR (aB (O5 E8 hk hm hn gx (λi j cW hj=>?_) λk k1 k2 k3 _=>aM (h k _ E8 tL k2 k3))));show KI (mirror (arrOf st) lo (lo+n) ((lo+n-lo)/2)) (lo+i)<=KI (mirror (arrOf st) lo (lo+n) ((lo+n-lo)/2)) (lo+j);rw[Jv hsz,Jv hsz,aj tL,aj tL,show lo+(lo+n)-1-(lo+i)=lo+(n-1-i) by clear E8 hsz gx hn hm;lia,show lo+(lo+n)-1-(lo+j)=lo+(n-1-j) by lia];show hs _ _ (by clear hsz gx hn hm;omega) (by clear hj hsz gx hm;omega)
def K1{xs:Array Keyed}{n q:Nat}(hs:lo+n<=xs.size)(hq:q+1<=n)(he:∀i,n-(q+1)<=i->i<n->KI xs (lo+i)=KI xs (lo+n-1))(k:Nat):KI (mirror xs (lo+n-(q+1)) (lo+n) ((lo+n-(lo+n-(q+1)))/2)) k=KI xs k :=
 Wh hs (λk Z M=>by have:=he (k-lo) tO tL;rwa [show lo+(k-lo)=k by lia]at this) k
set_option tactic.hygienic true in
def zgZ{st:SortSt}{n m:Nat}{Q:C3->SortSt->Prop}(hL:SL a pd lo st)(hk:∀x∈a,c6 x)(hm:lo+m<=a.size)(hn:1<=n)(gx:n<=m)(hs:rP (arrOf st) lo n)
  (h:∀k q af,SL a pd lo af->n<=k->k<=m->rP (arrOf af) lo k->q+1<=k->(∀i,k-(q+1)<=i->i<k->KI (arrOf af) (lo+i)=KI (arrOf af) (lo+k-1))->Q (none,k,q) af) :
  wpS (model prog w) A E s (forIn [n:m] ((none,n,0):C3) (yV lo)) Q st:=by
 show gE (I:=λx c af=>∃q,c=(none,x,q)/\SL a pd lo af/\rP (arrOf af) lo x/\q+1<=x/\(∀i,x-(q+1)<=i->i<x->KI (arrOf af) (lo+i)=KI (arrOf af) (lo+x-1))) ?step ?fin
  ⟨0,Y,hL,hs,by assumption,λi Z M=>by congr 1;lia⟩
 case fin =>
  rintro c af ⟨q,rfl,b1,b2,b3,b4⟩;rw[show max n m=m by lia]at b2 b3 b4 ⊢;show h m q af b1 gx (aC _) b2 b3 b4
 case step =>
  rintro x c af Ew hxn ⟨q,rfl,b1,b2,b3,b4⟩;unfold yV;dsimp only;have hsz:lo+x<=(arrOf af).size:=by rw[b1.size];lia
  show aB (b1.lt hk tL tL ?_);by_cases hless:KI (arrOf af) (lo+x)<KI (arrOf af) (lo+x-1)
  .simp only[hless,k7,eS];have step1:∀xs:Array Keyed,(∀k,KI xs k=KI (arrOf af) k)->rP xs lo (x+1):=by
    intro xs gH i j cW hj;rw[gH,gH];by_cases hjx:j<x
    .exact b2 i j cW hjx
    .by_cases cD:i=j
     .rw[cD];show ik _
     .have q1:=b2 i (x-1) tL tL;rw[show lo+(x-1)=lo+x-1 by lia]at q1;rw[show j=x by lia];lia
   by_cases hq:q>0
   .rw[aj hq];show aB (zR (aM ⟨0,Y,b1.mir tL tL,step1 _ (K1 hsz b3 b4),tL,λi Z M=>by congr 1;lia⟩))
   .rw[ah hq];show aM ⟨0,Y,b1,step1 _ (λ_=>rfl),tL,λi Z M=>by congr 1;lia⟩
  .simp only[hless,lx,eP,dw];show aB (b1.lt hk tL tL ?_);by_cases hg:KI (arrOf af) (lo+x-1)<KI (arrOf af) (lo+x)
   .simp only[hg,k7,eS];show aM (h x q af b1 Ew tL b2 b3 b4)
   .simp only[hg,lx,eP,dw];have heq:KI (arrOf af) (lo+x)=KI (arrOf af) (lo+x-1):=by lia
    show aM ⟨q+1,Y,b1,λi j cW hj=>?_,tL,λi Z M=>?_⟩
    .by_cases hjx:j<x
     .exact b2 i j cW hjx
     .by_cases cD:i=j
      .rw[cD];show ik _
      .have q1:=b2 i (x-1) tL tL;rw[show lo+(x-1)=lo+x-1 by lia]at q1;rw[show j=x by lia];lia
    .rw[show lo+(x+1)-1=lo+x by lia];by_cases wC:i=x
     .rw[wC]
     .rw[heq];show b4 i tL tL
def OC{st:SortSt}{n m:Nat}{Q:Option Nat->SortSt->Prop}(hL:SL a pd lo st)(hk:∀x∈a,c6 x)(hm:lo+m<=a.size)(gx:n+1<=m)(hs:rP (arrOf st) lo (n+1))
  (h:∀k af,SL a pd lo af->1<=k->k<=m->kY (arrOf af) lo k->Q (some k) af):wpS (model prog w) A E s (vM lo n m) Q st:=by
 unfold vM;show aB (rN (mD ⟨Y,aB (zgZ hL hk hm tL gx hs λk q af b1 b2 b3 b4 b5 b6=>?_)⟩));unfold AN;dsimp only;have hsz:lo+k<=(arrOf af).size:=by rw[b1.size];lia
 by_cases hq:q>0
 .rw[aj hq];show aB (zR (LO (b1.mir tL tL) hk hm tL b3 (λi j cW hj=>?_) h));show KI (mirror (arrOf af) _ _ _) _<=KI (mirror (arrOf af) _ _ _) _;rw[K1 hsz b5 b6,K1 hsz b5 b6];show b4 i j cW hj
 .rw[ah hq];show LO b1 hk hm tL b3 b4 h
def zc4{st:SortSt}{m:Nat}{Q:Option Nat->SortSt->Prop}(hL:SL a pd lo st)(hk:∀x∈a,c6 x)(hm:lo+m<=a.size)(HC:1<=m)
  (h:∀k af,SL a pd lo af->1<=k->k<=m->kY (arrOf af) lo k->Q (some k) af):wpS (model prog w) A E s (countRun' lo m) Q st:=by
 rw[ze8];show aB (O5 hL hk hm (aC 1) HC (λi j cW hj=>by simp_all) λn n1 n2 hs nE=>?_);unfold Hf;dsimp only;by_cases gx:n=m
 .rw[aj (by simpa using gx)];show aM (h n st hL n1 n2 hs)
 .rw[ah (by simpa using gx)];have aF:=nE.resolve_left gx;have ext:∀xs:Array Keyed,(∀k,KI xs k=KI (arrOf st) k)->(∀i,i<n->KI (arrOf st) (lo+i)=KI (arrOf st) (lo+n-1))->rP xs lo (n+1):=λxs gH fP i j cW hj=>by
   rw[gH,gH];by_cases hjn:j<n
   .rw[fP i tL,fP j hjn];show ik _
   .by_cases cD:i=j
    .rw[cD];show ik _
    .rw[fP i tL,show j=n by lia];show ph aF
  by_cases hg:n>1
  .rw[aj hg];show aB (hL.lt hk tL tL ?_);by_cases hr:KI (arrOf st) lo<KI (arrOf st) (lo+n-1)
   .simp only[hr,k7,eS];show aM (h n st hL n1 n2 hs)
   .simp only[hr,lx,eP,dw];have fP:∀i,i<n->KI (arrOf st) (lo+i)=KI (arrOf st) (lo+n-1):=λi hi=>by
     have q1:=hs 0 i tL hi;have q2:=hs i (n-1) tL tL;rw[yo]at q1;rw[show lo+(n-1)=lo+n-1 by lia]at q2;lia
    have hsz:lo+n<=(arrOf st).size:=by rw[hL.size];clear gx;lia
    have hme:∀k,KI (mirror (arrOf st) lo (lo+n) ((lo+n-lo)/2)) k=KI (arrOf st) k:=Wh hsz λk Z M=>by
     have:=fP (k-lo) tL
     rwa [show lo+(k-lo)=k by lia]at this
    show aB (zR (OC (hL.mir (aC lo) (by clear gx;lia)) hk hm tL (ext _ hme fP) h))
  .rw[ah hg];show OC hL hk hm tL (ext _ (λ_=>rfl) λi hi=>by rw[show i=0 by lia,show n=1 by lia];rfl) h
set_option tactic.hygienic true in
def zed{st:SortSt}{n ok:Nat}{Q:Bool->SortSt->Prop}(hL:SL a pd lo st)(hk:∀x∈a,c6 x)(hn:lo+n<=a.size)(hok:ok<=n)(hs:kY (arrOf st) lo ok)
  (h:∀af,SL a pd lo af->kY (arrOf af) lo n->Q true af):wpS (model prog w) A E s (binarySort' lo n ok) Q st:=by
 rw[binarySort'_eq];show aB (iF (gE (I:=λk c af=>c=(none,())/\SL a pd lo af/\kY (arrOf af) lo (min k n)) (Q:=λc af=>c=(none,())/\SL a pd lo af/\kY (arrOf af) lo n) ?step ?fin ?init) ?post)
 case post =>
  rintro c af ⟨rfl,b1,b2⟩;show aM (h af b1 b2)
 case init =>
  exists Y,hL,λi j cW hj=>?_;by_cases Z:ok=0
  .rw[show i=j by lia];show ik _
  .exact hs i j cW tL
 case fin =>
  rintro c af ⟨hc,b1,b2⟩;rw[show min (max (max ok 1) n) n=n by clear hok;lia]at b2;exists hc,b1,b2
 case step =>
  rintro k c af zN jB ⟨rfl,b1,b2⟩;rw[show min k n=k by lia] at b2;show aB (iF (gE (I:=fun x c kJ=>kJ=af/\∃ l r,c=(none,l,r)/\l<=r/\r<=k/\r-l<=k-x/\(∀ i,i<l->KI (arrOf af) (lo+i)<=KI (arrOf af) (lo+k))/\(∀ i,r<=i->i<k->KI (arrOf af) (lo+k)<KI (arrOf af) (lo+i))) (Q:=λc kJ=>kJ=af/\∃l r,c=(none,l,r)/\l<=k/\(∀i,i<l->KI (arrOf af) (lo+i)<=KI (arrOf af) (lo+k))/\(∀i,l<=i->i<k->KI (arrOf af) (lo+k)<KI (arrOf af) (lo+i))) ?istep ?ifin ⟨Y,0,k,Y,tL,tL,tL,λi hi=>tL,λi Z M=>tL⟩) ?ipost)
  case ifin =>
   rintro c kJ ⟨rfl,l,r,rfl,d1,d2,d3,d4,d5⟩;obtain rfl:l=r:=by lia
   exists Y,l,l,Y,d2,d4,d5
  case istep =>
   rintro x c kJ _ hxk ⟨rfl,l,r,rfl,d1,d2,d3,d4,d5⟩;dsimp only;by_cases fE:l ≥ r
   .rw[aj fE];obtain rfl:l=r:=by lia
    show aM ⟨Y,l,l,Y,d2,d4,d5⟩
   .rw[ah fE];show aB (b1.lt hk tL tL ?_);by_cases hless:KI (arrOf kJ) (lo+k)<KI (arrOf kJ) (lo+(l+r)/2)
    .simp only[hless,k7,eS];show aM ⟨Y,l,(l+r)/2,Y,tL,tL,(by clear hless d2 d1 jB zN hok hn;omega),d4,λi Z M=>Int.lt_of_lt_of_le hless (b2 _ _ Z M)⟩
    .simp only[hless,lx,eP,dw];show aM ⟨Y,(l+r)/2+1,r,Y,tL,by assumption,(by clear hless jB zN hok hn;omega),λi Z=>uu (b2 i ((l+r)/2) tL tL) (yj.mp hless),d5⟩
  case ipost =>
   rintro c kJ ⟨rfl,l,r,rfl,d1,d4,d5⟩;show wpS _ _ _ _ (do moveDown' (lo+k) (lo+l);pure (ForInStep.yield (none,()))) _ _;rw[moveDown'_eq];have mz:lo+k<(arrOf kJ).size:=by rw[b1.size];lia
   show aB (og (aM ⟨Y,b1.setArr (bubble_perm _ _ _) (λj hj=>?_),?_⟩))
   .rw[getElem?_bubble mz _ (by clear hj jB zN hn;lia),ah tL,ah tL]
   rw[show min (k+1) n=k+1 by lia];intro i j cW hj;show KI (bubble (arrOf kJ) (lo+k) (lo+k-(lo+l))) (lo+i)<=KI (bubble (arrOf kJ) (lo+k) (lo+k-(lo+l))) (lo+j);rw[VE mz (by clear jB zN hn;lia),VE mz (by clear hn;lia),show lo+k-(lo+k-(lo+l))=lo+l by lia];have pr:∀t,0<t->lo+t-1=lo+(t-1):=λt ht=>by lia
   by_cases Dr:i=l
   .rw[aj tL];by_cases zF:j=l
    .rw[aj tL];show ik _
    .rw[ah (by clear cW d1;lia),aj tL,pr j tL];show ph (d5 _ tL (by clear mz d5 d4 d1 jB zN;lia))
   .rw[ah tL];by_cases dZ:l<i
    .rw[aj tL,ah tL,aj tL,pr i tL,pr j tL];show b2 _ _ (by clear d1;lia) (by clear d1;lia)
    .rw[ah tL];by_cases zF:j=l
     .rw[aj tL];show d4 _ tL
     .rw[ah tL];by_cases oN:l<j
      .rw[aj tL,pr j (by clear Dr;lia)];show b2 _ _ tL (by clear Dr d1;lia)
      .rw[ah tL];show b2 _ _ (by assumption) tL
end
variable [KO]
def zdX{c:Prop}[Decidable c]{n:Nat}(h:2<=n):(if c then n-2-1 else n-2)+1<n:=by split<;>omega
noncomputable def tl(p:Array (Nat×Nat×Nat)):List (Nat×Nat):=p.toList.map λt=>(t.1,t.2.1)
noncomputable def dI(xs:Array Keyed):Nat->List (Nat×Nat)->Nat->Prop
 |b,[],e=>b=e
 |b,t::r,e=>t.1=b/\1<=t.2/\Run xs b t.2/\dI xs (b+t.2) r e
def dI.le{xs:Array Keyed}:∀{l:List (Nat×Nat)}{b e:Nat},dI xs b l e->b+l.length<=e
 |[],b,e,h=>by have:b=e:=h;simp;lia
 |t::r,b,e,h=>by
  have:=dI.le h.2.2.2
  have:=h.2.1
  rw[bf];lia
def dI.append{xs:Array Keyed}:∀{l r:List (Nat×Nat)}{b e:Nat},dI xs b (l++r) e↔∃m,dI xs b l m/\dI xs m r e
 |[],r,b,e=>⟨λh=>⟨b,Y,h⟩,λ⟨m,Z,M⟩=>by have:b=m:=Z;rw[this];show M⟩
 |t::l,r,b,e=>by
  constructor
  .intro h;obtain⟨m,Z,M⟩:=dI.append.mp h.2.2.2;exists m,⟨h.1,h.2.1,h.2.2.1,Z⟩,M
  .rintro⟨m,Z,M⟩;exists Z.1,Z.2.1,Z.2.2.1,dI.append.mpr ⟨m,Z.2.2.2,M⟩
def Run.keep{xs ys:Array Keyed}{b n:Nat}(r:Run xs b n)(hs:ys.size=xs.size)(hk:∀x∈ys,c6 x)(h:∀j,b<=j->j<b+n->ys[j]?=xs[j]?):Run ys b n:=by
 have:=r.has
 show AH tL hk λi j x y Z M h3 ex ey=>?_
 rw[h i Z tL]at ex;rw[h j tL h3]at ey;show r.rise' Z M h3 ex ey
theorem dI.keep{xs ys:Array Keyed}(hs:ys.size=xs.size)(hk:∀x∈ys,c6 x):∀{l:List (Nat×Nat)}{b e:Nat},dI xs b l e->(∀j,b<=j->j<e->ys[j]?=xs[j]?)->dI ys b l e
 |[],_,_,h,_=>h
 |t::r,b,e,h,q=>by
  have:=dI.le h.2.2.2
  exists h.1,h.2.1,h.2.2.1.keep hs hk λj Z M=>q j Z tL,dI.keep hs hk h.2.2.2 λj Z M=>q j tL M
section
variable{prog:Program}{w:World}{A:Around}{E:Value->Shared->Prop}{s:Shared}[KL prog w A s]{a₀:Array Keyed}
structure SM(a₀:Array Keyed)(lo:Nat)(st:SortSt):Prop where
 sb:SB st
 perm:(arrOf st).Perm a₀
 tiles:dI (arrOf st) 0 (tl (pendingOf st)) lo
def SM.size{lo:Nat}{st:SortSt}(h:SM a₀ lo st):(arrOf st).size=a₀.size:=h.perm.size_eq
def SM.keys{lo:Nat}{st:SortSt}(h:SM a₀ lo st)(hk:∀x∈a₀,c6 x):∀x∈arrOf st,c6 x:=λx hx=>hk x (h.perm.mem_iff.mp hx)
def Qx(p:Array (Nat×Nat×Nat)):(tl p).length=p.size:=by unfold tl;simp
def SM.merge{lo i:Nat}{st:SortSt}{Q:Bool->SortSt->Prop}(h:SM a₀ lo st)(hk:∀x∈a₀,c6 x)(sr:lo<=a₀.size)(hi:i+1<(pendingOf st).size)
  (q:∀af,SM a₀ lo af->(pendingOf af).size+1=(pendingOf st).size->(∀j,lo<=j->(arrOf af)[j]?=(arrOf st)[j]?)->Q true af):wpS (model prog w) A E s (mergeAt' i) Q st:=by
 obtain⟨⟨sa,na,p⟩,e1⟩:∃t,(pendingOf st)[i]?=some t:=⟨(pendingOf st)[i],tS⟩;obtain⟨⟨sb,nb,p'⟩,e2⟩:∃t,(pendingOf st)[i+1]?=some t:=⟨(pendingOf st)[i+1],by simp[hi]⟩;have el:(pendingOf st).toList=(pendingOf st).toList.take i++(sa,na,p)::(sb,nb,p')::(pendingOf st).toList.drop (i+2):=by
  have l1:i<(pendingOf st).toList.length:=by rw[gy];omega
  have l2:i+1<(pendingOf st).toList.length:=by simp_all
  have f1:(pendingOf st).toList[i]=(sa,na,p):=by
   have:=e1;rw[<-rE,fT l1]at this;show di this
  have f2:(pendingOf st).toList[i+1]=(sb,nb,p'):=by simp_all
  have:=j5 i (pendingOf st).toList
  rw[jc l1,jc l2,f1,f2]at this;show this.symm
 have cj:((pendingOf st).toList.take i).length=i:=by rw[cZ,gy];lia
 generalize (pendingOf st).toList.take i=pre at el cj;generalize (pendingOf st).toList.drop (i+2)=post at el;have hT:=h.tiles;unfold tl at hT;rw[el,aN,bz,bz]at hT;obtain⟨m,t1,t2⟩:=dI.append.mp hT;obtain⟨z1,z2,z3,z4,z5,z6,z7⟩:=t2;dsimp only at z1 z2 z3 z4 z5 z6 z7;subst z1;show zeG h.sb el cj.symm z4 z3 (by simp_all) z2 z5 λaf b1 b2 b3 b4 b5=>?_
 have kM:(arrOf af).size=(arrOf st).size:=by have:=b3.length_eq;rwa [gy,gy]at this
 have fq:(arrOf af).Perm a₀:=(IS.mpr b3).trans h.perm;have ym:∀x∈arrOf af,c6 x:=λx hx=>hk x (fq.mem_iff.mp hx)
 have le1:=dI.le t1;have le2:=dI.le z7;show q af ⟨b1,fq,?_⟩ ?_ λj hj=>b4 j (.inr tL)
 .unfold tl;rw[b2,aN,bz];show dI.append.mpr ⟨sa,t1.keep kM ym λj _ M=>b4 j (.inl M),Y,by dsimp only;lia,b5,?_⟩;dsimp only;rw[show sa+(na+nb)=sa+na+nb by lia];show z7.keep kM ym λj Z _=>b4 j (.inr tL)
 .have l1:=congrArg List.length el;have l2:=congrArg List.length b2;rw[aX,bf,bf,gy]at l1;rw[aX,bf,gy]at l2;clear e2 hi;lia
def QX(xs:Array Keyed)(k:Nat):Prop:=∀i j,i<=j->j<k->KI xs i<=KI xs j
def LJ{xs:Array Keyed}{lo n:Nat}(hs:lo+n<=xs.size)(hk:∀x∈xs,c6 x)(h:kY xs lo n):Run xs lo n :=
 ⟨hs,hk,λi j x y cW hj ex ey=>by have:=h i j cW hj;rwa [r9 ex,r9 ey]at this⟩
def zb4(p:Array (Nat×Nat×Nat))(t:Nat×Nat×Nat):tl (p.push t)=tl p++[(t.1,t.2.1)]:=by unfold tl;simp
def NK(p:Array (Nat×Nat×Nat))(i w:Nat):tl (p.modify i λx=>(x.fst,x.2.fst,w))=tl p:=by
 unfold tl;rw[Array.toList_modify];generalize p.toList=l;induction l generalizing i with
 |nil=>simp
 |cons t r ih =>
  cases i with
  |zero=>simp
  |succ i=>simpa using ih i
set_option maxHeartbeats 4000000 in
set_option tactic.hygienic true in
def VT{st:SortSt}{Q:Unit->SortSt->Prop}(hk:∀x∈a₀,c6 x)(hB:SB st)(ha:(arrOf st).Perm a₀)(hp:pendingOf st = #[])(Z:1<=a₀.size)
  (h:∀af,(arrOf af).Perm a₀->failedOf af=none->QX (arrOf af) a₀.size->Q () af):wpS (model prog w) A E s sortRuns' Q st:=by
 rw[sortRuns'_eq];show aB (j1 ?_);dsimp only;have hsz:(arrOf st).size=a₀.size:=ha.size_eq;simp only[hsz];generalize minRun' a₀.size a₀.size 0=mr;show aB (iF (gE (I:=fun x c af=>∃ lo,c=(none,lo)/\SM a₀ lo af/\lo<=a₀.size/\(x<=lo\/lo=a₀.size)) (Q:=λc af=>c=(none,a₀.size)/\SM a₀ a₀.size af) ?step ?fin ⟨0,Y,⟨hB,ha,by rw[hp];rfl⟩,tL,tL⟩) ?post)
 case fin =>
  rintro c af ⟨lo,rfl,qad,M,h3⟩;have e:lo=a₀.size:=by lia
  rw[e]at qad;exists by rw[e],qad
 case post =>
  rintro c bu ⟨rfl,qad⟩;dsimp only;show aB (iF (gE (I:=fun x c af=>c=(none,())/\SM a₀ a₀.size af/\((pendingOf af).size<=1\/(pendingOf af).size+x<=a₀.size)) (Q:=λc af=>c=(none,())/\SM a₀ a₀.size af/\(pendingOf af).size<=1) ?step3 ?fin3 ⟨Y,qad,.inr ?init3⟩) ?post3)
  case init3 =>
   have:=dI.le qad.tiles
   rw[Qx]at this;lia
  case fin3 =>
   rintro c af ⟨rfl,M',M⟩;exists Y,M',tL
  case step3 =>
   rintro x c af _ hx ⟨rfl,M',M⟩;show aB (j1 ?_)
   try dsimp only
   by_cases hle:(pendingOf af).size<=1
   .rw[aj hle];show aM ⟨Y,M',hle⟩
   .rw[ah hle];show aB (M'.merge hk (aC _) (zdX tL) λBy M4 h4 _=>?_);simp only[vU,eP,dw];show aM ⟨Y,M4,tL⟩
  case post3 =>
   rintro c af ⟨rfl,M',M⟩;show aM (h af M'.perm M'.sb.failed ?_);have hT:=M'.tiles;have aL:=Qx (pendingOf af);generalize tl (pendingOf af)=l at hT aL
   match l,hT,aL with
   |[],hT,_=>have:0=a₀.size:=hT;lia
   |[t],hT,_ =>
    obtain⟨z1,z2,z3,z4⟩:=hT;have z5:0+t.2=a₀.size:=z4;intro i j cW hj;have cD:i<(arrOf af).size:=by rw[M'.size];lia
    have ig:j<(arrOf af).size:=by rw[M'.size];assumption
    rw[r9 (mP cD),r9 (mP ig)];show z3.rise' (bJ _) cW tL (mP cD) (mP ig)
   |_::_::_,_,aL=>rw[bf,bf]at aL;lia
 case step =>
  rintro x c bu _ hx ⟨lo,rfl,M1,M,h3⟩;dsimp only;by_cases fE:lo ≥ a₀.size
  .rw[aj fE];have e:lo=a₀.size:=by lia
   rw[e]at M1 ⊢;show aM ⟨Y,M1⟩
  rw[ah fE];have fin:∀n,1<=n->lo+n<=a₀.size->∀af,SM a₀ lo af->Run (arrOf af) lo n->∃l,((none,lo+n):Option Unit×Nat)=(none,l)/\SM a₀ l (setPending af ((pendingOf af).push (lo,n,0)))/\l<=a₀.size/\(x+1<=l\/l=a₀.size):=λn l0 df af qad R =>
   ⟨lo+n,Y,⟨⟨qad.sb.kind,qad.sb.failed⟩,qad.perm,by
    show dI (arrOf af) 0 (tl ((pendingOf af).push (lo,n,0))) (lo+n);rw[zb4];show dI.append.mpr ⟨lo,qad.tiles,Y,l0,R,Y⟩⟩,df,tL⟩
  have hs1:=M1.size;show aB (zc4 (a:=arrOf bu) (pd:=pendingOf bu) (lo:=lo) ⟨M1.sb,DU _,λ_ _=>rfl,Y⟩ (M1.keys hk) tL tL λn bg L2 l0 gx yY=>?_);dsimp only;have df:lo+n<=a₀.size:=by clear l0;lia
  by_cases aF:n<mr
  .rw[aj aF];show aB (rN (mD ⟨Y,?_⟩));show aB (zed L2 (M1.keys hk) (n:=min (a₀.size-lo) mr) tL (by clear fE M;lia) yY λbg L2 yY=>?_);simp only[vU,eP,dw];have l0:1<=min (a₀.size-lo) mr:=by clear fE M;lia
   have df:lo+min (a₀.size-lo) mr<=a₀.size:=by clear gx;lia
   generalize min (a₀.size-lo) mr=n at yY l0 df;have M2:SM a₀ lo bg:=⟨L2.sb,L2.perm.trans M1.perm,by
    rw[L2.pend];show M1.tiles.keep L2.size (λx hx=>hk x ((L2.perm.trans M1.perm).mem_iff.mp hx)) λj _ hj=>L2.same j hj⟩
   have R2:Run (arrOf bg) lo n:=LJ (by rw[M2.size];show df) (M2.keys hk) yY;show aB (j1 ?_);cases hb:(pendingOf bg).back? with
   |none =>
    show aB (og (aM (fin n l0 df bg M2 R2)))
   |some t =>
    obtain⟨s1,n1,o1⟩:=t;dsimp only;show aB (iF (gE (I:=λ_ c af=>c=(none,())/\SM a₀ lo af/\Run (arrOf af) lo n) (Q:=λc af=>c=(none,())/\SM a₀ lo af/\Run (arrOf af) lo n) ?_ (λ_ _ hh=>hh) ⟨Y,M2,R2⟩) ?_)
    .rintro x c cg _ _ ⟨rfl,M3,R3⟩;show aB (j1 ?_)
     try dsimp only
     by_cases hsz:(pendingOf cg).size>1
     .rw[aj hsz];obtain⟨⟨u1,u2,u3⟩,eu⟩:∃t,(pendingOf cg)[(pendingOf cg).size-2]?=some t:=⟨(pendingOf cg)[(pendingOf cg).size-2],tS⟩;rw[eu];dsimp only;split
      .exact aM ⟨Y,M3,R3⟩
      .refine aB (M3.merge hk (by assumption) tL λBy M4 _ e4=>?_);simp only[vU,eP,dw];show aM ⟨Y,M4,R3.keep (by rw[M4.size,M3.size]) (M4.keys hk) λj Z _=>e4 j Z⟩
     .rw[ah hsz];show aM ⟨Y,M3,R3⟩
    .rintro c cg ⟨rfl,M3,R3⟩;dsimp only;show aB (og (aB (og (aM ?_))));show fin n l0 df _ ⟨⟨M3.sb.kind,M3.sb.failed⟩,M3.perm,by
      show dI (arrOf cg) 0 (tl ((pendingOf cg).modify _ _)) lo;rw[NK];show M3.tiles⟩ R3
  .rw[ah aF];have M2:SM a₀ lo bg:=⟨L2.sb,L2.perm.trans M1.perm,by
    rw[L2.pend];show M1.tiles.keep L2.size (λx hx=>hk x ((L2.perm.trans M1.perm).mem_iff.mp hx)) λj _ hj=>L2.same j hj⟩
   have R2:Run (arrOf bg) lo n:=LJ (by rw[M2.size];show df) (M2.keys hk) yY;show aB (j1 ?_);cases hb:(pendingOf bg).back? with
   |none =>
    show aB (og (aM (fin n l0 df bg M2 R2)))
   |some t =>
    obtain⟨s1,n1,o1⟩:=t;dsimp only;show aB (iF (gE (I:=λ_ c af=>c=(none,())/\SM a₀ lo af/\Run (arrOf af) lo n) (Q:=λc af=>c=(none,())/\SM a₀ lo af/\Run (arrOf af) lo n) ?_ (λ_ _ hh=>hh) ⟨Y,M2,R2⟩) ?_)
    .rintro x c cg _ _ ⟨rfl,M3,R3⟩;show aB (j1 ?_)
     try dsimp only
     by_cases hsz:(pendingOf cg).size>1
     .rw[aj hsz];obtain⟨⟨u1,u2,u3⟩,eu⟩:∃t,(pendingOf cg)[(pendingOf cg).size-2]?=some t:=⟨(pendingOf cg)[(pendingOf cg).size-2],tS⟩;rw[eu];dsimp only;split
      .exact aM ⟨Y,M3,R3⟩
      .refine aB (M3.merge hk (by assumption) tL λBy M4 _ e4=>?_);simp only[vU,eP,dw];show aM ⟨Y,M4,R3.keep (by rw[M4.size,M3.size]) (M4.keys hk) λj Z _=>e4 j Z⟩
     .rw[ah hsz];show aM ⟨Y,M3,R3⟩
    .rintro c cg ⟨rfl,M3,R3⟩;dsimp only;show aB (og (aB (og (aM ?_))));show fin n l0 df _ ⟨⟨M3.sb.kind,M3.sb.failed⟩,M3.perm,by
      show dI (arrOf cg) 0 (tl ((pendingOf cg).modify _ _)) lo;rw[NK];show M3.tiles⟩ R3
end
noncomputable def HJ:KO:=⟨numOf,λv=>∃n t,v=.int n t,oneType'⟩
section
variable{prog:Program}{w:World}{A:Around}{E:Value->Shared->Prop}{s:Shared}
def zcR:@KL HJ prog w A s:=@KL.mk HJ _ _ _ _ fun {E Q u v} Z M q=>by
 obtain⟨a,t,rfl⟩:=Z;obtain⟨b,r,rfl⟩:=M;show wpAny _ _ (keyLt' oneType' _ _) _ _ _;rw[keyLt'_oneType];show oneLt_int q
set_option maxHeartbeats 4000000 in
def sort_any{a:Addr}{vs:List Value}{ns:List Int}{n:Nat}{P:PySem.Fin->Shared->Prop}(ho:s.heap.get? a=some (seqObj "list" vs.toArray n))(hI:IntsAre vs ns)(hz:vs.length<=sizeLine)
  (h:∀(out:Array Value) (dU:List Int),IntsAre out.toList dU->dU.Perm ns->dU.Pairwise (· <= ·)->P (.done (.ret .none)) {s with heap:=sortedHeap s.heap a vs out}):wpAny (model prog w) A (Builtin.«list.sort» ⟨[.ref a],[]⟩) P E s:=by
 by_cases wy:vs.length<64
 .exact list_sort_tree ho hI wy h
 rw[Gp];have ha:a<s.heap.objs.size:=bh ho;show aq (listItems_at ho Y (aq (uK ho Y ?_ (by assumption) (bJ _))));obtain⟨e1,pQ⟩:∃e1,(s.heap.update a (Obj.mapSeq λ_ => #[])).get? a=some (seqObj "list" #[] e1):=⟨_,Dw ho (λ_ => #[])⟩;show aq (ui pQ Y (aq (BF (aq (wY (kI ?_))))));have qp:(((s.heap.update a (Obj.mapSeq λ_ => #[])).push (seqObj "tuple" vs.toArray 0)).push (seqObj "list" #[] 0)).get? a=some (seqObj "list" #[] e1):=by
  have l1:a≠((s.heap.update a (Obj.mapSeq λ_ => #[])).push (seqObj "tuple" vs.toArray 0)).objs.size:=by rw[sv,uW];show bR (gV ha)
  have l2:a≠(s.heap.update a (Obj.mapSeq λ_ => #[])).objs.size:=by rw[uW];show bR ha
  rw[j9 _ _ _ l1,j9 _ _ _ l2];show pQ
 show wpAny (model prog w) A _ P E {s with heap:=((s.heap.update a (Obj.mapSeq λ_ => #[])).push (seqObj "tuple" vs.toArray 0)).push (seqObj "list" #[] 0)};dsimp only;have M:¬vs.toArray.size<2:=by rw[eR];lia
 rw[ah M,ah M];obtain⟨v1,v2,rest,rfl⟩:∃v1 v2 rest,vs=v1::v2::rest:=by
  match vs,wy with
  |[],h=>simp at h
  |[_],h=>simp at h
  |v1::v2::rest,_=>exists v1,v2,rest,rfl
 rw[keyKind_ints hI]
 letI:=HJ
 haveI:KL prog w A ({s with heap:=((s.heap.update a (Obj.mapSeq λ_ => #[])).push (seqObj "tuple" (v1::v2::rest).toArray 0)).push (seqObj "list" #[] 0)}:Shared):=zcR
 have hK:∀x∈pairsOf (v1::v2::rest),c6 x:=λx hx=>hI.intKeys x (uj.mpr hx)
 show aq (aS (aq (cC (VT (a₀:=pairsOf (v1 :: v2 :: rest)) (st:=SortSt.mk' oneType' ((v1 :: v2 :: rest).toArray.zip (v1 :: v2 :: rest).toArray) #[] 7 none) (Q:=λ_ af=>(arrOf af).Perm (pairsOf (v1::v2::rest))/\failedOf af=none/\SortedTo (arrOf af) (pairsOf (v1::v2::rest)).size) hK ⟨Y,Y⟩ (DU _) Y (by rw[pairsOf_size];lia) λaf a1 a2 a3=>⟨a1,a2,a3⟩) ?_ λ_ _ e=>e)))
 rintro⟨⟨⟩,af⟩ s' ⟨rfl,hp,hf,hs⟩;dsimp only;have hfin:((arrOf af).map (·.2)).size<=sizeLine+1:=by rw[Array.size_map,hp.size_eq,pairsOf_size];lia
 show aq (ui qp Y (aq (uK qp Y ?_ (bJ _) hfin)));rw[hf];simp only[bne_self_eq_false,eP,dw];obtain⟨dU,b1,b2,b3⟩:=sorted_out hI hp hs;show aS (h _ dU b1 b2 b3)
end
end OS
namespace L2
open PySem PySem.Spec PyProof.Rows
def bj(H:Hp):List Addr->List (Int×Int)->Prop:=Paired λp t=>H p=some (.tup [.int t.1,.int t.2])
def bj.length(h:bj H ps l):ps.length=l.length:=eo h
def bj.keep(h:bj H ps l)(k:∀b xs,H b=some (.tup xs)->O b=some (.tup xs)):bj O ps l:=Paired.mapP h λp t e=>k p _ e
theorem bj.at:∀{H:Hp}{ps:List Addr}{l:List (Int×Int)}{i:Nat}{t:Int×Int},bj H ps l->l[i]?=some t->∃p,ps[i]?=some p/\H p=some (.tup [.int t.1,.int t.2])
 |_,_,_,_,_,.nil,e=>by simp at e
 |_,_,_,0,_,.cons r _,e=>by simp at e;subst e;exists _,Y,r
 |_,_,_,i+1,t,.cons _ q,e=>by
  obtain⟨p,Z,M⟩:=bj.at (i:=i) (t:=t) q (by simpa using e);exists p,by simpa using Z,M
def bj.at'{H:Hp}{ps:List Addr}{l:List (Int×Int)}{i:Nat}{p:Addr}(h:bj H ps l)(e:ps[i]?=some p):∃t,l[i]?=some t/\H p=some (.tup [.int t.1,.int t.2]):=by
 have hi:i<l.length:=by
  have:=(cq.mp e).1
  have:=h.length
  lia
 obtain⟨q,Z,M⟩:=h.at (i:=i) (t:=l[i]) (by simp[hi]);rw[e]at Z;cases Z;exists l[i],by simp[hi],M
theorem bj.append:∀{H:Hp}{ps qs:List Addr}{l m:List (Int×Int)},bj H ps l->bj H qs m->bj H (ps++qs) (l++m)
 |_,_,_,_,_,.nil,s=>s
 |_,_,_,_,_,.cons r t,s=>.cons r (bj.append t s)
def bj.snoc(h:bj H ps l)(e:H p=some (.tup [.int t.1,.int t.2])):bj H (ps++[p]) (l++[t]):=bj.append h (.cons e .nil)
theorem bj.take:∀{H:Hp}{ps:List Addr}{l:List (Int×Int)} (n:Nat),bj H ps l->bj H (ps.take n) (l.take n)
 |_,_,_,0,_=>.nil
 |_,_,_,_+1,.nil=>.nil
 |_,_,_,n+1,.cons r t=>.cons r (bj.take n t)
theorem bj.drop:∀{H:Hp}{ps:List Addr}{l:List (Int×Int)} (n:Nat),bj H ps l->bj H (ps.drop n) (l.drop n)
 |_,_,_,0,r=>r
 |_,_,_,_+1,.nil=>.nil
 |_,_,_,n+1,.cons _ t=>bj.drop n t
def TL(K:Frag)(H:Hp)(a:Addr)(l:List (Int×Int)):Prop:=∃ps:List Addr,ai K H a (ps.map V.ref)/\bj H ps l
def aI(H:Hp)(a:Addr)(l:List (Int×Int)):Prop:=∃ps:List Addr,H a=some (.lst (ps.map V.ref))/\bj H ps l
def aI.tl{K:Frag}{H:Hp}{a:Addr}{l:List (Int×Int)}(h:aI H a l):TL K H a l:=let ⟨ps,Z,M⟩:=h; ⟨ps,.of Z,M⟩
def aI.keep(h:aI H a l)(k:ag H O):aI O a l:=let ⟨ps,Z,M⟩:=h; ⟨ps,k _ _ Z,M.keep λb xs e=>k b _ e⟩
def ag.upd(h:H p=none):ag H (upd H p o):=λc o' e=>by rw[aG (de e h)];show e
def zeF(r:Vals [.int a,.int b] us):∃t u,us=[Value.int a t,Value.int b u]:=by
 obtain⟨u,w,rfl,⟨t,rfl⟩,⟨t',rfl⟩⟩:=xY r;exists t,t',rfl
section
variable{X:Cx}
def Ba (hc:X.calm=true):gA X (.builtin "sorted") (fun xs H Q=>∃ (a:Addr) (kvs:List (bM × V)) (ks:List Int),xs=[.ref a]/\H a=some (.dK kvs)/\kvs.map (·.1)=ks.map Sum.inl /\ ∀(l:Addr) (fO:List Int),H l=none->fO.Perm ks->fO.Pairwise (· <= ·)->Q (.ref l) (upd H l (.lst (fO.map V.int)))):=by
 intro J s σ H xs us Q I r h;obtain⟨a,kvs,ks,rfl,hH,mz,q⟩:=h;obtain⟨u,rfl,ru⟩:=gF r;cases (show u=Value.ref a from ru);obtain⟨z,hd,vs,rel,dd⟩:=Ay I.hok hH;obtain⟨ep,jR⟩:=dd.dictAt;have aL:vs.length=ks.length:=by
  have e1:=rel.length;have e2:=congrArg List.length mz;rw[ar,ar]at e2;lia
 show Th kind_sorted plain_sorted entry_sorted (args_sorted1 _) ?_;unfold Builtin.«sorted»;show aq (m:=checkCount "sorted" 1 1 _) (aS ?_);show aq (PySem.W.kdu_collect (A:=X.A.in1) (PySem.W.kdl_dict (knd:=fu X.prog X.w) (kvs:=vs) (ep:=ep) hd) (I.ok.hd hc) jR (by rw[<-rel.length];show z) λh' tk acc hk Ad=>?_);have zP:acc.toList.length=vs.length:=by rw[gy];show Ad.1
 have ZW:vs.map (·.1)=ks.map Sum.inl:=rel.keys.symm.trans mz;have hI:IntsAre acc.toList ks:=by
  show wu ?_;have fP:∀(j:Nat) (v:Value),acc.toList[j]?=some v->∃k,ks[j]?=some k/\∃t,v=Value.int k t:=λj v e=>by
   obtain⟨k,x,hx,hik⟩:=Ad.2 j v (by simp_all);have e1:(vs.map (·.1))[j]?=some k:=by rw[c9,hx];rfl
   rw[ZW,c9]at e1;cases e2:ks[j]? with
   |none=>rw[e2]at e1;cases e1
   |some k' =>
    rw[e2]at e1;have e3:Sum.inl k'=k:=di e1;subst e3;exists k',Y,Nc hik
  have go:∀(zs:List Value) (ns:List Int),zs.length=ns.length->(∀(j:Nat) (v:Value),zs[j]?=some v->∃k,ns[j]?=some k/\∃t,v=Value.int k t)->Vals (ns.map V.int) zs:=by
   intro zs;induction zs with
   |nil=>intro ns hl _;cases ns with
    |nil=>show .nil
    |cons _ _=>simp at hl
   |cons v r ih=>intro ns hl hv;cases ns with
    |nil=>simp at hl
    |cons n ns =>
     obtain⟨k,e1,e2⟩:=hv 0 v rfl;have e3:n=k:=by simpa using e1
     subst e3;show .cons e2 (ih ns (by simpa using hl) λj w e=>by simpa using hv (j+1) w (by simpa using e))
  show go acc.toList ks tL fP
 show aq (wY ?_ (by rw[zP,<-rel.length];show z));have iV:(h'.push (seqObj "list" acc.toList.toArray 0)).get? h'.objs.size=some (seqObj "list" acc.toList.toArray 0):=cQ _ rfl;show wpAny _ _ _ _ _ {s with heap:=h'.push (seqObj "list" acc.toList.toArray 0),toks:=tk};show aq (kI (my slot_list_sort ⟨_,iV,Y⟩ entry_list_sort (OS.sort_any iV hI (by rw[zP,<-rel.length];show z) λout dU a1 a2 a3=>⟨_,Y,?_⟩) (args_list_sort _)));have nD:s.heap.get? h'.objs.size=none:=by
  cases e:s.heap.get? h'.objs.size with
  |none=>rfl
  |some o=>show absurd (bh (hk _ _ e)) (nJ _)
 have keep:∀b o,s.heap.get? b=some o->(sortedHeap (h'.push (seqObj "list" acc.toList.toArray 0)) h'.objs.size acc.toList out).get? b=some o:=λb o e=>by
  have aF:=bh (hk _ _ e);rw[Aj (bR aF) (by rw[sv];show gV aF)];show bZ _ (hk _ _ e)
 obtain⟨ee,vK⟩:=BM (out:=out) iV;have sN:H h'.objs.size=none:=by
  cases e:H h'.objs.size with
  |none=>rfl
  |some o=>obtain⟨ob,e'⟩:=(I.hok _ _ e).there;rw[nD]at e';cases e'
 have rv:Vals (dU.map V.int) out.toList:=CZ a1;have Ab:dU.length=ks.length:=a2.length_eq;show aS ⟨_,Y,⟨.ref h'.objs.size,_,I.laidN (o:=.lst (dU.map V.int)) (t':=tk) keep nD ⟨by rw[ar,Ab,<-aL,<-rel.length];show z,out.toList,ee,rv,by assumption⟩,Y,q _ dU sN a2 a3⟩⟩
end
theorem Vp:∀(ns:List Int),PySem.W.WData.weightAll (ns.map PySem.W.WData.int)<=2^20->∀n∈ns,intBits n<=2^20
 |[],_,_,h=>by simp at h
 |m::r,hw,n,hn=>by
  have e:PySem.W.WData.weightAll ((m::r).map PySem.W.WData.int)=PySem.W.WData.weight (.int m)+1+PySem.W.WData.weightAll (r.map PySem.W.WData.int):=rfl;rw[e]at hw;rcases aV.mp hn with z|z
  .subst z;have e2:PySem.W.WData.weight (.int n)=if n == 0 then 0 else n.natAbs.log2+1:=rfl
   rw[e2]at hw;unfold intBits;split at hw<;>split<;>simp_all<;>lia
  .exact Vp r tL n z
def zeA{l:PySem.W.OpenLaw}{n k:Nat}{q:Program}{loose:List Str}{XP:(Str->Option Value)->Heap->Prop}{YP:World->Heap->Prop}{d:DefRec}{K:Params->Frag}{CX:World->kd}{sp:World->Sp}{x:Str}
  (hn:l.most=some n) (df:n<=sizeLine) (Fu:d.params.defaults=[]) (hr:bY k callerA)
  (hY:∀(w:World) (h:Heap),YP w h->(K w.params).In h)
  (F:∀ (w:World) (mg:Str->Option Value) (fa:Addr) (h:Heap),(K w.params).In h->h.Ns mainGlobals mg->mg d.name=some (.ref fa) -> ∃fd:FuncData,(∀(s:Shared) (u:Value),BindsTo s fd ⟨[u],[]⟩ [(x,u)]) /\ ∀base:Heap,(K w.params).In base->base.Ns mainGlobals mg->hV l.prog w (K w.params) mg base (CX w) k fa fd [x] (sp w))
  (gU:∀(w:World) (H:Hp) (a:Addr) (ns:List Int),ns.length<=n->(∀z∈ns,intBits z<=2^20)->Km H->ai (K w.params) H a (ns.map V.int)->sp w [.ref a] H (λv _=>v=.bl true) λ_ _ _=>False)
  (Fb:∀(w:World) (H:Hp) (s:Shared) (e:Value) (s':Shared),CX w [] H s (λ_ _ _=>False) e s'->False) :
  PySem.W.WalkO q loose XP YP l.row.toRowW d [] (λf vs=>PySem.call f vs):=by
 intro w s₀ s₁ mg mb G qaa fa o pm cd doc dV kV ho hd jl hD kc hg args vals as BU hlay Jf fH sr;obtain rfl:dV=.none:=jid hD Fu;obtain rfl:kV=.none:=Y7 hD;obtain⟨a,vs,ns,rfl,rfl,hobj,hints,aL⟩:=Att.script_of hn BU fH;have VI:∀z∈ns,intBits z<=2^20:=by
  have Z:(PySem.W.WData.list (ns.map PySem.W.WData.int)).layable=true:=kH.mp hlay _ tS;have M:=cx (ya.mp Z).2;show Vp ns M
 have KX:=hY w _ qaa;obtain⟨fd,hb,hF⟩:=F w mg fa _ KX G.T.g kc;show PySem.W.enter_call (yE (zbJ KX G.T.g G.T.b G.T.builtins G.T.nolimit hg hobj hints (a9 aL df) hr hF hb (λH hO hS=>gU w H a ns aL VI hO hS) λH e s'=>Fb w H s₁ e s') λr s' hq=>?_);obtain⟨rfl,M,h3,h4⟩:=hq;exists .inl ⟨.bool true,.bool true,[],Y,λ_=>rfl,.bool true,Att.post_true l _,λ_=>⟨List.Pairwise.nil,λ_ hm=>(nomatch hm)⟩⟩,M,h3,h4
noncomputable def cR(p:Int×Int):bM×V:=(Sum.inl p.1,V.int p.2)
theorem oW(k:Int):∀d:OF.ak,gT (d.map cR) (Sum.inl k)=(OF.look d k).map V.int
 |[]=>rfl
 |p::r=>by
  rw[bz,OF.look];by_cases e:p.1=k
  .rw[wI (show (cR p).1=Sum.inl k by simp[cR,e]),aj e];rfl
  .rw[yW (show ¬(cR p).1=Sum.inl k by simp[cR,e]),ah e];show oW k r
def Df(d:OF.ak)(k v:Int):ff (d.map cR) (Sum.inl k:bM) (V.int v)=(OF.gm d k v).map cR:=by
 unfold ff OF.gm;rw[Eg,oW,OF.wq,Cw];split
 .rw[cE,cE];congr 1
  funext p
  simp only[Function.comp,cR];by_cases e:p.1=k
  .simp[e]
  .simp[e]
 .rw[aN];rfl
def Lp(d:OF.ak):(d.map cR).map (·.1)=(d.map (·.1)).map Sum.inl:=by
 rw[cE,cE];rfl
end L2
namespace OF
open PySem
def zgk(hx:0<=x)(hy:0<=y):Builtin.bitOr x y=((x.toNat|||y.toNat:Nat):Int):=by
 have n1:¬0<=Builtin.bitNot x:=by unfold Builtin.bitNot;lia
 have n2:¬0<=Builtin.bitNot y:=by unfold Builtin.bitNot;lia
 have e:∀z:Int,Builtin.bitNot (Builtin.bitNot z)=z:=λz=>by unfold Builtin.bitNot;lia
 unfold Builtin.bitOr;rw[jhv n1 n2,e,e,e]
def zdU(h:z/2^i%2=0):z+2^i=z|||2^i:=by
 have hb:z%2^i<2^i:=Bu _ (uP i);have hz:z=2^(i+1)*(z/2^(i+1))+z%2^i:=by
  have Z:=Lc z (2^(i+1));have M:z%2^(i+1)=z%2^i+2^i*(z/2^i%2):=Nat.mod_pow_succ;rw[h,Pe,yo]at M;lia
 generalize z/2^(i+1)=a at hz;generalize z%2^i=b at hz hb;have hp:2^i+b<2^(i+1):=by rw[jL];clear hz;lia
 have jY:b<2^(i+1):=by lia
 have e1:z+2^i=2^(i+1)*a+(2^i+b):=by lia
 have e2:2^i+b=2^i|||b:=by
  have:=BV hb 1
  rw[Pt]at this;show this
 rw[e1,hz,BV hp,BV jY,e2,KG,IC b]
noncomputable def dJ:List (Int×Int)->Nat->Nat
 |[],a=>a
 |t::r,a=>dJ r (a|||t.1.toNat)
theorem TC:∀(l:List (Int×Int)) (t:Int×Int) (a:Nat),dJ (l++[t]) a=dJ l a|||t.1.toNat
 |[],_,_=>rfl
 |p::r,t,a=>TC r t _
end OF
namespace L2
open PySem PySem.Spec PyProof.Rows
def aK{c A B:Prop}[Decidable c](h:¬c)(b:B):if c then A else B:=by simp_all
def bq{c A B:Prop}[Decidable c](h:c)(a:A):if c then A else B:=by simp_all
def qe.of(sc₀:Scope)(N₀:List Str)(Z:X.env.scope=sc₀)(M:X.N=N₀)(hk:scope.kind=.function)
  (fP:(scope.names.all λy=>y.2 != .cell&&(y.2 != .local || scope.names.lookup y.1 == some .local)&&(y.2 != .free || sc₀.names.lookup y.1 == some .cell))=true)
  (aL:N'.length=nT+js.length) (hf:(js.map λj=>N₀[j]?)=(N'.drop nT).map some) (hv:((N'.drop nT).all λx=>scope.names.lookup x == some .free)=true):qe X scope N' nT js:=by
 have IK:=kH.mp fP;exists hk,λy hy e=>?_,λy hy e=>?_,aL,λk j x e1 e2=>?_,λy hy e=>?_,λx hx=>?_
 .have:=IK y hy;rw[e]at this;simp at this
 .have:=IK y hy;rw[e]at this;simp at this;show this
 .have e3:(js.map λj=>N₀[j]?)[k]?=some (N₀[j]?):=by rw[c9,e1];rfl
  rw[hf,c9,DJ,e2]at e3;rw[M];show (di e3).symm
 .have:=IK y hy;rw[e]at this;simp at this;rw[Z];show this
 .have:=kH.mp hv x hx;simpa using this
def vE{ps:List Addr}{c:Nat}:dy (ps.map V.ref) none (some (c:Int))=(ps.take c).map V.ref:=by
 unfold dy;rw[HT.sIx_none,HT.sIx_nat,ar,lS,PX,<-tY];congr 1;by_cases h:c<=ps.length
 .rw[gQ h]
 .rw[lM tL,eV,f9 tL]
def zce{ps:List Addr}{c:Nat}:dy (ps.map V.ref) (some (c:Int)) none=(ps.drop c).map V.ref:=by
 unfold dy;rw[HT.sIx_none,HT.sIx_nat,ar,<-NM];by_cases h:c<=ps.length
 .rw[gQ h,f9 (by simp)]
 .rw[lM tL,Of,MR,mv tO];rfl
end L2
namespace OF
theorem sE:∀{l B:List Int},l.Nodup->(∀x∈l,x∈B)->l.length<=B.length
 |[],_,_,_=>bJ _
 |a::r,B,hn,hs=>by
  have Z:=i8.mp hn;have ha:=hs a tS;have M:=sE Z.2 λx hx=>by
   have cw:x≠a:=λz=>Z.1 (z ▸ hx)
   show (List.mem_erase_of_ne cw).mpr (hs x (by simp[hx]))
  have h3:=List.length_erase_of_mem ha;have h4:=List.length_pos_of_mem ha;rw[bf];lia
end OF
namespace L2
open PySem PySem.Spec PyProof.Rows
inductive D where
 |non|bl (b:Bool)|int (n:Int)|str (x:Str)|tup (ds:List D)|lst (ds:List D)
mutual
def Is(H:Hp):V->D->Prop
 |v,.non=>v=.non
 |v,.bl b=>v=.bl b
 |v,.int n=>v=.int n
 |v,.str x=>v=.str x
 |v,.tup ds=>∃a xs,v=.ref a/\H a=some (.tup xs)/\cF H xs ds
 |v,.lst ds=>∃a xs,v=.ref a/\H a=some (.lst xs)/\cF H xs ds
def cF(H:Hp):List V->List D->Prop
 |xs,[]=>xs=[]
 |xs,d::ds=>∃x r,xs=x::r/\Is H x d/\cF H r ds
end
mutual
theorem Is.keep(k:ag H O):∀{v:V}{d:D},Is H v d->Is O v d
 |v,.non,h=>by assumption
 |v,.bl _,h=>by assumption
 |v,.int _,h=>by assumption
 |v,.str _,h=>by assumption
 |v,.tup ds,h=>by
  obtain⟨a,xs,e,Z,M⟩:=h;exists a,xs,e,k _ _ Z,cF.keep k M
 |v,.lst ds,h=>by
  obtain⟨a,xs,e,Z,M⟩:=h;exists a,xs,e,k _ _ Z,cF.keep k M
theorem cF.keep(k:ag H O):∀{xs:List V}{ds:List D},cF H xs ds->cF O xs ds
 |xs,[],h=>by assumption
 |xs,d::ds,h=>by
  obtain⟨x,r,e,Z,M⟩:=h;exists x,r,e,Is.keep k Z,cF.keep k M
end
theorem cF.length:∀{xs:List V}{ds:List D},cF H xs ds->xs.length=ds.length
 |xs,[],h=>by unfold cF at h;rw[h];rfl
 |xs,d::ds,h=>by
  obtain⟨x,r,rfl,_,M⟩:=h;rw[bf,bf,cF.length M]
theorem cF.at:∀{xs:List V}{ds:List D}{i:Nat}{d:D},cF H xs ds->ds[i]?=some d->∃x,xs[i]?=some x/\Is H x d
 |xs,[],i,d,h,e=>by simp at e
 |xs,d'::ds,0,d,h,e=>by
  obtain⟨x,r,rfl,Z,M⟩:=h
  have:d'=d:=by simpa using e
  subst this;exists x,Y,Z
 |xs,d'::ds,i+1,d,h,e=>by
  obtain⟨x,r,rfl,Z,M⟩:=h;obtain⟨x',e1,e2⟩:=cF.at (i:=i) (d:=d) M (by simpa using e);exists x',by simpa using e1,e2
noncomputable def Nd(b:Bool):Int:=if b then 1 else 0
mutual
noncomputable def dX:D->D->Bool
 |.non,.non=>true
 |.bl a,.bl b=>a == b
 |.bl a,.int n=>Nd a == n
 |.int n,.bl a=>n == Nd a
 |.int n,.int m=>n == m
 |.str x,.str y=>x == y
 |.tup ds,.tup es=>kL ds es
 |.lst ds,.lst es=>kL ds es
 |_,_=>false
noncomputable def kL:List D->List D->Bool
 |[],[]=>true
 |d::ds,e::es=>dX d e&&kL ds es
 |_,_=>false
end
mutual
noncomputable def jt:D->Nat
 |.tup ds=>kF ds+1
 |.lst ds=>kF ds+1
 |_=>0
noncomputable def kF:List D->Nat
 |[]=>0
 |d::ds=>max (jt d) (kF ds)
end
theorem Hy:∀{ds:List D}{j:Nat}{d:D},ds[j]?=some d->jt d<=kF ds
 |[],j,d,e=>by simp at e
 |d'::ds,0,d,e=>by
  have:d'=d:=by simpa using e
  subst this;unfold kF;lia
 |d'::ds,j+1,d,e=>by
  have:=Hy (ds:=ds) (j:=j) (d:=d) (by simpa using e)
  rw[kF];lia
def zc9(ds es:List D):dX (.tup ds) (.tup es)=kL ds es:=rfl
def Iz(ds es:List D):dX (.lst ds) (.lst es)=kL ds es:=rfl
def EO(d e:D)(ds es:List D):kL (d::ds) (e::es)=(dX d e&&kL ds es):=rfl
def jX(ds es:List D)(j:Nat):Bool:=match ds[j]?,es[j]? with
 |some d,some e=>dX d e
 |_,_=>false
theorem z9:∀(ds es:List D),kL ds es=((List.range (min ds.length es.length)).all (jX ds es)&&(ds.length == es.length))
 |[],[]=>rfl
 |[],e::es=>by show false=_;simp
 |d::ds,[]=>by show false=_;simp
 |d::ds,e::es=>by
  have ih:=z9 ds es;rw[EO,ih,bf,bf,Nat.add_min_add_right,Cm,IU,Qq];have e1:jX (d::ds) (e::es) 0=dX d e:=rfl;have e2:(jX (d::ds) (e::es)) ∘ Nat.succ=jX ds es:=by funext j;rfl
  rw[e1,e2,Bool.and_assoc];congr 2;simp
def zhb(h:ds.length≠es.length):kL ds es=false:=by
 rw[z9]
 have:(ds.length == es.length)=false:=by simpa using h
 rw[this,yv]
mutual
theorem mY:∀d:D,dX d d=true
 |.non=>rfl
 |.bl b=>by show (b == b)=true;simp
 |.int n=>by show (n == n)=true;simp
 |.str x=>by show (x == x)=true;simp
 |.tup ds=>HK ds
 |.lst ds=>HK ds
theorem HK:∀ds:List D,kL ds ds=true
 |[]=>rfl
 |d::ds=>by rw[EO,mY d,HK ds];rfl
end
mutual
theorem Is.inj:∀{v:V}{d e:D},Is H v d->Is H v e->d=e
 |v,.non,e,h,h'=>by
  unfold Is at h;subst h;cases e<;>unfold Is at h' <;>first|rfl|(cases h';done)|(obtain⟨_,_,z,_⟩:=h';cases z)
 |v,.bl b,e,h,h'=>by
  unfold Is at h;subst h;cases e<;>unfold Is at h' <;>first|(cases h';rfl)|(cases h';done)|(obtain⟨_,_,z,_⟩:=h';cases z)
 |v,.int n,e,h,h'=>by
  unfold Is at h;subst h;cases e<;>unfold Is at h' <;>first|(cases h';rfl)|(cases h';done)|(obtain⟨_,_,z,_⟩:=h';cases z)
 |v,.str x,e,h,h'=>by
  unfold Is at h;subst h;cases e<;>unfold Is at h' <;>first|(cases h';rfl)|(cases h';done)|(obtain⟨_,_,z,_⟩:=h';cases z)
 |v,.tup ds,e,h,h'=>by
  obtain⟨a,xs,rfl,Z,M⟩:=h;cases e with
  |tup es =>
   obtain⟨b,ys,z,g1,g2⟩:=h';cases z;rw[Z]at g1;cases g1;rw[cF.inj M g2]
  |lst es =>
   obtain⟨b,ys,z,g1,g2⟩:=h';cases z;rw[Z]at g1;cases g1
  |_=>unfold Is at h';cases h'
 |v,.lst ds,e,h,h'=>by
  obtain⟨a,xs,rfl,Z,M⟩:=h;cases e with
  |lst es =>
   obtain⟨b,ys,z,g1,g2⟩:=h';cases z;rw[Z]at g1;cases g1;rw[cF.inj M g2]
  |tup es =>
   obtain⟨b,ys,z,g1,g2⟩:=h';cases z;rw[Z]at g1;cases g1
  |_=>unfold Is at h';cases h'
theorem cF.inj:∀{xs:List V}{ds es:List D},cF H xs ds->cF H xs es->ds=es
 |xs,[],es,h,h'=>by
  subst h;cases es with
  |nil=>rfl
  |cons e es=>unfold cF at h';obtain⟨_,_,z,_⟩:=h';cases z
 |xs,d::ds,es,h,h'=>by
  obtain⟨x,r,rfl,Z,M⟩:=h;cases es with
  |nil=>unfold cF at h';cases h'
  |cons e es =>
   obtain⟨x',r',z,g1,g2⟩:=h';cases z;rw[Is.inj Z g1,cF.inj M g2]
end
section
variable{X:Cx}{J:List (Addr×Obj)}{σ:St}{H:Hp}{s:Shared}
structure Jr(A:Around)(s:Shared)(u w:Value)(b:Bool):Prop where
 rc:SeqAt.RcAt A s u w b
 ne:SeqAt.RcNeAt A s u w (!b)
def Dy(r:Vals xs ae)(h:cF H xs ds)(hj:j<ae.toArray.size):∃d x,ds[j]?=some d/\Is H x d/\RelV x ae.toArray[j]:=by
 have ig:j<ae.length:=by simpa using hj
 have l1:=r.length;have l2:=h.length;have ed:ds[j]?=some ds[j]:=by simp
 obtain⟨x,ex,hx⟩:=h.at ed;obtain⟨u,eu,ru⟩:=r.get ex;exists _,x,ed,hx,?_;rw[fT ig]at eu
 have:ae.toArray[j]=u:=by simpa using di eu
 rw[this];show ru
inductive Kd (s:Shared) (H:Hp):Value->D->Prop where
 |none:Kd s H .none .non
 |bool (b:Bool):Kd s H (.bool b) (.bl b)
 |int (n:Int) (t:Tok):Kd s H (.int n t) (.int n)
 |str (x:Str) (t:Tok):Kd s H (.str x t) (.str x)
 |tuple {a:Addr}{xs:List V}{ae:List Value}{ds:List D} (h:H a=some (.tup xs)) (r:Vals xs ae) (p:s.heap.IsTuple a ae.toArray) (q:cF H xs ds):Kd s H (.ref a) (.tup ds)
 |list {a:Addr}{xs:List V}{ae:List Value}{ds:List D} (h:H a=some (.lst xs)) (r:Vals xs ae) (p:s.heap.IsList a ae.toArray) (q:cF H xs ds):Kd s H (.ref a) (.lst ds)
def pq(I:Inv X J σ H s)(h:Is H v d)(r:RelV v u):Kd s H u d:=by
 cases d with
 |non=>unfold Is at h;subst h;cases (show u=Value.none from r);show .none
 |bl b=>unfold Is at h;subst h;cases (show u=Value.bool b from r);show .bool b
 |int n=>unfold Is at h;subst h;obtain⟨t,e⟩:=(show ∃t,u=Value.int n t from r);cases e;show .int n t
 |str x=>unfold Is at h;subst h;obtain⟨t,e⟩:=(show ∃t,u=Value.str x t from r);cases e;show .str x t
 |tup ds =>
  obtain⟨a,xs,rfl,Z,M⟩:=h;cases (show u=Value.ref a from r);obtain⟨_,ae,r1,t1⟩:=(show cI X.prog X.w H s.heap a (.tup xs) from I.hok a _ Z);show .tuple Z r1 t1 M
 |lst ds =>
  obtain⟨a,xs,rfl,Z,M⟩:=h;cases (show u=Value.ref a from r);obtain⟨ae,r1,p1,_⟩:=I.list (ai.of (K:=X.K) Z);show .list Z r1 p1.isList M
def Sc:D->Prop
 |.tup _=>False
 |.lst _=>False
 |_=>True
set_option maxHeartbeats 4000000 in
def qh(hu:A.units<cLine)(k1:Kd s H u d)(hs:Sc d)(k2:Kd s H u' e):Jr A s u u' (dX d e)/\SeqAt.EqAt A s u u' (dX d e):=by
 cases k1 with
 |tuple=>show hs.elim
 |list=>show hs.elim
 |none  =>
  cases k2 with
  |none  => exists ⟨.none_none ,.none_none ⟩,Dk _
  |bool c=>exists ⟨.none_bool c,.none_bool c⟩,.none_bool c
  |int k v=>exists ⟨.none_int k v,.none_int k v⟩,.none_int k v
  |str y v=>exists ⟨.none_str y v,.none_str y v⟩,.none_str y v
  |list h r p q=>exists ⟨.none_list  p hu,.none_list  p hu⟩,.none_list  p hu
  |tuple h r p q=>exists ⟨.none_tuple  p hu,.none_tuple  p hu⟩,.none_tuple  p hu
 |bool b =>
  cases k2 with
  |none  => exists ⟨.bool_none b,.bool_none b⟩,.bool_none b
  |bool c=>exists ⟨.bool_bool b c,.bool_bool b c⟩,.bool_bool b c
  |int k v=>exists ⟨.bool_int b k v,.bool_int b k v⟩,.bool_int b k v
  |str y v=>exists ⟨.bool_str b y v,.bool_str b y v⟩,.bool_str b y v
  |list h r p q=>exists ⟨.bool_list b p hu,.bool_list b p hu⟩,.bool_list b p hu
  |tuple h r p q=>exists ⟨.bool_tuple b p hu,.bool_tuple b p hu⟩,.bool_tuple b p hu
 |int m t =>
  cases k2 with
  |none  => exists ⟨.int_none m t,.int_none m t⟩,.int_none m t
  |bool c=>exists ⟨.int_bool m t c,.int_bool m t c⟩,.int_bool m t c
  |int k v=>exists ⟨.int_int m t k v,.int_int m t k v⟩,.int_int m t k v
  |str y v=>exists ⟨.int_str m t y v,.int_str m t y v⟩,.int_str m t y v
  |list h r p q=>exists ⟨.int_list m t p hu,.int_list m t p hu⟩,.int_list m t p hu
  |tuple h r p q=>exists ⟨.int_tuple m t p hu,.int_tuple m t p hu⟩,.int_tuple m t p hu
 |str x t =>
  cases k2 with
  |none  => exists ⟨.str_none x t,.str_none x t⟩,.str_none x t
  |bool c=>exists ⟨.str_bool x t c,.str_bool x t c⟩,.str_bool x t c
  |int k v=>exists ⟨.str_int x t k v,.str_int x t k v⟩,.str_int x t k v
  |str y v=>exists ⟨.str_str x t y v,.str_str x t y v⟩,.str_str x t y v
  |list h r p q=>exists ⟨.str_list x t p hu,.str_list x t p hu⟩,.str_list x t p hu
  |tuple h r p q=>exists ⟨.str_tuple x t p hu,.str_tuple x t p hu⟩,.str_tuple x t p hu
set_option maxHeartbeats 4000000 in
def MD(I:Inv X J σ H s):∀(n:Nat) (d e:D) (A:Around) {u u':Value},jt d<=n->A.units+n<cLine->Kd s H u d->Kd s H u' e->Jr A s u u' (dX d e)/\SeqAt.EqAt A s u u' (dX d e):=by
 intro n;induction n with
 |zero =>
  intro d e A u u' hd hu k1 k2;cases k1 with
  |tuple=>unfold jt at hd;lia
  |list=>unfold jt at hd;lia
  |none=>show qh (by assumption) .none trivial k2
  |bool b=>show qh (by assumption) (.bool b) trivial k2
  |int m t=>show qh (by assumption) (.int m t) trivial k2
  |str y t=>show qh (by assumption) (.str y t) trivial k2
 |succ n ih =>
  intro d e A u u' hd hu k1 k2;have bP:A.units<cLine:=by lia
  have uB:A.in1.units+n<cLine:=by lia
  cases k1 with
  |@tuple a xs ae ds Z r1 p1 q1 =>
   cases k2 with
   |@tuple b ys dB es M r2 p2 q2 =>
    have bU:kF ds<=n:=by unfold jt at hd;lia
    have n1:ae.length=ds.length:=by have:=r1.length;have:=q1.length;lia
    have n2:dB.length=es.length:=by have:=r2.length;have:=q2.length;lia
    have he:∀j (g1:j<ae.toArray.size) (g2:j<dB.toArray.size),SeqAt.EqAt A.in1 s ae.toArray[j] dB.toArray[j] (jX ds es j):=λj g1 g2=>by
     obtain⟨d1,x1,e1,i1,v1⟩:=Dy r1 q1 g1;obtain⟨d2,x2,e2,i2,v2⟩:=Dy r2 q2 g2;have e3:jX ds es j=dX d1 d2:=by unfold jX;rw[e1,e2]
     rw[e3];show (ih d1 d2 A.in1 (a9 (Hy e1) bU) uB (pq I i1 v1) (pq I i2 v2)).2
    have ev:((List.range (min ae.toArray.size dB.toArray.size)).all (jX ds es)&&(ae.toArray.size == dB.toArray.size))=dX (.tup ds) (.tup es):=by
     rw[eR,eR,n1,n2,zc9,z9]
    have R1:=jik p1 p2 bP he;have R2:=jh7 p1 p2 bP he;rw[ev]at R1 R2;exists ⟨R1,R2⟩,?_;by_cases pG:a=b
    .subst pG;rw[Z]at M;cases M;rw[cF.inj q1 q2,mY];show Dk _
    .exact QM pG R1
   |@list b ys dB es M r2 p2 q2=>exists ⟨.tuple_list p1 p2 bP,.tuple_list p1 p2 bP⟩,.tuple_list p1 p2 bP
   |none=>exists ⟨.tuple_none p1 bP,.tuple_none p1 bP⟩,.tuple_none p1 bP
   |bool b=>exists ⟨.tuple_bool b p1 bP,.tuple_bool b p1 bP⟩,.tuple_bool b p1 bP
   |int m t=>exists ⟨.tuple_int m t p1 bP,.tuple_int m t p1 bP⟩,.tuple_int m t p1 bP
   |str y t=>exists ⟨.tuple_str y t p1 bP,.tuple_str y t p1 bP⟩,.tuple_str y t p1 bP
  |@list a xs ae ds Z r1 p1 q1 =>
   cases k2 with
   |@list b ys dB es M r2 p2 q2 =>
    have bU:kF ds<=n:=by unfold jt at hd;lia
    have n1:ae.length=ds.length:=by have:=r1.length;have:=q1.length;lia
    have n2:dB.length=es.length:=by have:=r2.length;have:=q2.length;lia
    have R:Jr A s (.ref a) (.ref b) (dX (.lst ds) (.lst es)):=by
     by_cases hn:ds.length=es.length
     .have he:∀j (g1:j<ae.toArray.size) (g2:j<dB.toArray.size),SeqAt.EqAt A.in1 s ae.toArray[j] dB.toArray[j] (jX ds es j):=λj g1 g2=>by
       obtain⟨d1,x1,e1,i1,v1⟩:=Dy r1 q1 g1;obtain⟨d2,x2,e2,i2,v2⟩:=Dy r2 q2 g2;have e3:jX ds es j=dX d1 d2:=by unfold jX;rw[e1,e2]
       rw[e3];show (ih d1 d2 A.in1 (a9 (Hy e1) bU) uB (pq I i1 v1) (pq I i2 v2)).2
      have hsz:ae.toArray.size=dB.toArray.size:=by simp;lia
      have ev:(List.range ae.toArray.size).all (jX ds es)=dX (.lst ds) (.lst es):=by
       rw[eR,n1,Iz,z9,hn,AE];simp
      have R1:=jio p1 p2 hsz bP he;have R2:=jia p1 p2 hsz bP he;rw[ev]at R1 R2;exists R1,R2
     .have hsz:(ae.toArray.size != dB.toArray.size)=true:=by simp;lia
      rw[Iz,zhb hn];exists Wt p1 p2 hsz bP,jgS p1 p2 hsz bP
    exists R,?_;by_cases pG:a=b
    .subst pG;rw[Z]at M;cases M;rw[cF.inj q1 q2,mY];show Dk _
    .exact QM pG R.rc
   |@tuple b ys dB es M r2 p2 q2=>exists ⟨.list_tuple p1 p2 bP,.list_tuple p1 p2 bP⟩,.list_tuple p1 p2 bP
   |none=>exists ⟨.list_none p1 bP,.list_none p1 bP⟩,.list_none p1 bP
   |bool b=>exists ⟨.list_bool b p1 bP,.list_bool b p1 bP⟩,.list_bool b p1 bP
   |int m t=>exists ⟨.list_int m t p1 bP,.list_int m t p1 bP⟩,.list_int m t p1 bP
   |str y t=>exists ⟨.list_str y t p1 bP,.list_str y t p1 bP⟩,.list_str y t p1 bP
  |none=>show qh bP .none trivial k2
  |bool b=>show qh bP (.bool b) trivial k2
  |int m t=>show qh bP (.int m t) trivial k2
  |str y t=>show qh bP (.str y t) trivial k2
def HN(f:Bool->Bool):R2:=λx y H Q=>∃d e,Is H x d/\Is H y e/\jt d<=60/\Q (.bl (f (dX d e))) H
def yq(hu:X.A.units+60<cLine):bx X (compareOp .Eq) (HN id):=by
 intro J s σ H x y v u Q I rx ry h;obtain⟨d,e,Z,M,h3,q⟩:=h;show (MD I 60 d e X.A h3 hu (pq I Z rx) (pq I M ry)).1.rc _ _ _ _ ⟨.bl (dX d e),H,I,Y,q⟩
def lC(hu:X.A.units+60<cLine):bx X (compareOp .NotEq) (HN not):=by
 intro J s σ H x y v u Q I rx ry h;obtain⟨d,e,Z,M,h3,q⟩:=h;show (MD I 60 d e X.A h3 hu (pq I Z rx) (pq I M ry)).1.ne _ _ _ _ ⟨.bl (!(dX d e)),H,I,Y,q⟩
def gR(hr:bY k A):A.units+60<cLine:=gv (rq (by decide:60<=64) _) hr.units
end
open PySem PySem.Spec PyProof.Rows
section
variable{X:Cx}{st:Stmt}{sts:List Stmt}{t:TS}{e:Expr}{te:TE}
def zeW(t:TS):TS:=λD σ H=>∃qad:St->Hp->Prop,t {D with nx:=qad} σ H/\∀σ' O,qad σ' O->D.nx σ' O
set_option tactic.hygienic true in
def uM(h:PS X st t):PS X st (zeW t):=by
 rintro J s σ H D I ⟨qad,q,w⟩;show ax (h J s σ H {D with nx:=qad} I q) λr s' z=>?_
 cases r with
 |next=>obtain⟨σ',O,I',m⟩:=z;exists σ',O,I',w _ _ m
 |_=>show z
end
end L2
namespace My
open PySem L2 OF
def cJ(h:n<=1000000):n<sizeLine:=gv h tD
def lN(Z : -(2^64)<a)(M:a<2^64):IntMulOk a b:=Dn.ok (.inl ⟨Z,M⟩)
def sk(Z : -(2^64)<b)(M:b<2^64):IntMulOk a b:=Dn.ok (.inr ⟨Z,M⟩)
def CD(m:Nat):(1:Int)*2^((m:Int)).toNat=2^m:=by simp
def gM{ps:List Addr}{i:Nat}{y:V}(hi:(ps.map V.ref)[i]?=some y):∃p,ps[i]?=some p/\y=V.ref p:=by
 rw[c9]at hi;cases e:ps[i]? with
 |none=>rw[e]at hi;cases hi
 |some p=>rw[e]at hi;exists p,Y,(di hi).symm
def DP{ns:List Int}{i:Nat}{y:V}(hi:(ns.map V.int)[i]?=some y):∃n,ns[i]?=some n/\y=V.int n:=by
 rw[c9]at hi;cases e:ns[i]? with
 |none=>rw[e]at hi;cases hi
 |some p=>rw[e]at hi;exists p,Y,(di hi).symm
def R0(K:Frag):Sp:=λvs H Q _=>∃(a:Addr) (l:ak),vs=[.ref a]/\TL K H a l/\l.length<=100000 /\
 ∀(b:Addr) (f:ak) (O:Hp),H b=none->aI O b f->aT f l->f.length<=l.length->ag H O->Q (.ref b) O
def zab:Sp:=λvs H Q _=>∃(d:Addr) (dd:ak),vs=[.ref d]/\H d=some (.dK (dd.map cR))/\(dd.map (·.1)).Nodup/\dd.length<=100000 /\
 ∀(b:Addr) (ks:List Int) (O:Hp),H b=none->aI O b (cS dd ks)->ks.Perm (dd.map (·.1))->ks.Pairwise (· <= ·)->ag H O->Q (.ref b) O
def SA(K:Frag):Sp:=λvs H Q _=>∃(a:Addr) (ns:List Int),vs=[.ref a]/\ai K H a (ns.map V.int)/\ns.length<=63/\(∀n∈ns,intBits n<=2^20)/\∀O,Q (.bl true) O
noncomputable def dT(t:Int×Int):D:=.tup [.int t.1,.int t.2]
def dF(l:ak):D:=.lst (l.map dT)
theorem NF:∀{ps:List Addr}{l:ak},bj H ps l->cF H (ps.map V.ref) (l.map dT)
 |_,_,.nil=>by unfold cF;rfl
 |_,_,.cons (a:=p) (b:=t) r q=>by
  rw[bz,bz];exists _,_,Y,?_,NF q;exists p,_,Y,r,?_;exists _,_,Y,(by unfold Is;rfl),?_;exists _,_,Y,(by unfold Is;rfl),?_;rfl
def _root_.L2.aI.is(h:aI H a l):Is H (.ref a) (dF l):=by
 obtain⟨ps,Z,M⟩:=h;exists a,_,Y,Z,NF M
def zbH(t:Int×Int):jt (dT t)=1:=rfl
theorem MZ:∀l:ak,kF (l.map dT)<=1
 |[]=>bJ _
 |t::r=>by
  rw[bz,kF,zbH]
  have:=MZ r
  lia
def zg6(l:ak):jt (dF l)<=2:=by
 unfold dF;rw[jt];have:=MZ l;lia
def zaq(t u:Int×Int):dX (dT t) (dT u)=decide (t=u):=by
 obtain⟨a,b⟩:=t;obtain⟨c,d⟩:=u;show ((a == c)&&((b == d)&&true))=decide ((a,b)=(c,d));by_cases e1:a=c<;>by_cases e2:b=d<;>simp[e1,e2]
theorem N4:∀l m:ak,kL (l.map dT) (m.map dT)=decide (l=m)
 |[],[]=>rfl
 |[],_::_=>rfl
 |_::_,[]=>rfl
 |t::l,u::m=>by
  rw[bz,bz,EO,zaq,N4 l m];by_cases e1:t=u<;>by_cases e2:l=m<;>simp[e1,e2]
def zaM(l m:ak):dX (dF l) (dF m)=decide (l=m):=by unfold dF;rw[Iz];show N4 l m
def zfO(Z:H a=some (.lst xs))(M:cF H xs ds):Is H (.ref a) (.lst ds):=by
 unfold Is;exists a,xs,Y,Z,M
set_option tactic.hygienic true in
def zeE(Z:a.natAbs<2^j)(M:b.natAbs<2^k)(h:j+k<=134217728):IntMulOk a b:=by
 have f:∀{x:Int}{m:Nat},x.natAbs<2^m->intBits x<=m:=fun {x m} hx=>by
  unfold intBits;split
  .exact bJ _
  .rename_i h0;have h0':x.natAbs≠0:=by simpa using h0
   show (BS h0').mpr hx
 show jgR (f Z) (f M) h
theorem Iw:∀{f:ak},IsForm f->∀t∈f,aA f t.1=t.2
 |[],_,t,h=>by simp at h
 |p::r,hf,t,h=>by
  have Z:=fU.mp hf.rise;rcases aV.mp h with e|e
  .rw[e];show rh Z.1
  .have hr:IsForm r:=⟨Z.2,λq hq=>hf.nz q (by simp[hq])⟩
   have:=Iw hr t e
   have M:=Z.1 t e;rw[aA,ah tL,this];lia
def _root_.L2.ag.write(h:ag HB H)(ha:HB a=none):ag HB (upd H a o):=λb u e=>by
 rw[aG (de e ha)];show h b u e
def aI.cat{H O:Hp}{a b c:Addr}{l m:ak}{ps qs:List Addr}(Z:bj H ps l)(M:bj H qs m)(s:ag H O)(hc:O c=some (.lst (ps.map V.ref++qs.map V.ref))):aI O c (l++m) :=
 ⟨ps++qs,by simp_all,bj.append (Z.keep λb xs z=>s b _ z) (M.keep λb xs z=>s b _ z)⟩
def _root_.L2.TL.seq{K:Frag}{H:Hp}{a:Addr}{l:ak}(h:TL K H a l):∃xs,ai K H a xs:=let ⟨ps,Z,_⟩:=h; ⟨_,Z⟩
def zbh{K:Frag}{a:Addr}{l:ak}{H:Hp}{te:TE}{R:List V->Hp->Addr->Prop}(f:Int×Int->Int×Int)(hT:TL K H a l)(hl:l.length<=1000000)(rest:List (Option V)){σ:St}(hσ:σ=none::none::rest)
  (he:∀t∈l,∀(H2:Hp) (R:V->Hp->Prop),ag H H2->(∀w,H2 w=none->R (.ref w) (upd H2 w (.tup [.int (f t).1,.int (f t).2])))->te (some (.int t.1)::some (.int t.2)::rest) H2 R)
  (q:∀(D:Addr) (ys:List V) (H2:Hp),H D=none->aI (upd H2 D (.lst ys)) D (l.map f)->ag H (upd H2 D (.lst ys))->R ys H2 D) :
  ∃W:Nat->Nat->List V->St->Hp->Prop,(∃m,W 0 m [] σ H)/\∀i m ys σ H,W i m ys σ H ->
   ((gq K a).stop i H/\∀D,H D=none->R ys H D) \/
   ((gq K a).go i H/\ys.length<sizeLine/\∃ N:List V->St->Hp->Prop,(∀ cb σ' O,N cb σ' O->∃ m',m'<m/\W (i+1) m' cb σ' O) /\ ∀x O,(gq K a).yld i H x O->gd K 2 (bW (aQ 0) (bW (aQ 1) gc)) x σ O λσ2 H2=>AQ σ2 H2 λb H3=>if b=true then te σ2 H3 λy H4=>N (ys++[y]) σ2 H4 else N ys σ2 H3):=by
 obtain⟨ps,hS,hP⟩:=hT;subst hσ;show jg (K:=K) (a:=a) (xs:=ps.map V.ref) (R:=R) (λi ys σ H2=>∃(v0 v1:Option V) (qs:List Addr),σ=v0::v1::rest/\ys=qs.map V.ref/\bj H2 qs ((l.take i).map f)/\ag H H2)
  ⟨none,none,[],Y,Y,.nil,ag.refl _⟩ (by rintro i ys σ H2 hi ⟨_,_,qs,_,e1,e2,e3⟩;show⟨e3.seq hS,by rw[e1,ar,e2.length,ar,cZ];lia⟩) (by rw[ar,hP.length];show dH (cJ hl)) ?_ ?_
 .rintro i z ys σ H2 hi ⟨v0,v1,qs,rfl,rfl,g2,g4⟩;obtain⟨p,JD,rfl⟩:=gM hi;obtain⟨t,bA,dk⟩:=hP.at' JD;have cA:l.take (i+1)=l.take i++[t]:=by rw[dM,bA];rfl
  exists p,_,Y,aD.of (g4 _ _ dk),Y,_,_,Y,_,_,Y,Y,?_;show he t (c8 bA) H2 _ g4 λw hw=>?_
  have lJ:ag H2 (upd H2 w (.tup [.int (f t).1,.int (f t).2])):=ag.upd hw;exists _,_,qs++[w],Y,(by rw[aN];rfl),?_,g4.trans lJ;rw[cA,aN];show bj.snoc (g2.keep λb xs z=>lJ b _ z) ao
 .rintro ys σ H2 ⟨v0,v1,qs,rfl,rfl,g2,g4⟩ w hw;have GG:l.take (ps.map V.ref).length=l:=by rw[ar,hP.length,eV]
  rw[GG]at g2;have lJ:ag H2 (upd H2 w (.lst (qs.map V.ref))):=ag.upd hw;show q w _ _ (g4.free hw) ⟨qs,ao,g2.keep λb xs z=>lJ b _ z⟩ (g4.trans lJ)
def V4{H:Hp}{a b:Addr}{o:HO}(h:H a=some o)(hb:H b=none):b≠a:=(de h hb).symm
end My
namespace OF
open PySem
noncomputable def dm(t:Int×Int)(m:ak):ak:=m.map λu=>(Builtin.bitOr t.1 u.1,t.2*u.2)
def bt(l m:ak):ak:=l.flatMap λt=>dm t m
def Ql(t:Int×Int)(m:ak):(dm t m).length=m.length:=ar _
def YU(t u:Int×Int)(m:ak):dm t (m++[u])=dm t m++[(Builtin.bitOr t.1 u.1,t.2*u.2)]:=by unfold dm;rw[aN];rfl
def X4(l m:ak)(t:Int×Int):bt (l++[t]) m=bt l m++dm t m:=by unfold bt;rw[Tj];simp
theorem vP:∀(l m:ak),(bt l m).length=l.length*m.length
 |[],m=>by simp[bt]
 |t::l,m=>by
  have:=vP l m
  have e:bt (t::l) m=dm t m++bt l m:=by unfold bt;rw[iZ]
  rw[e,aX,Ql,this,bf,Bo,Jc,Ju]
def qZ(h:x∈bt l m):∃t∈l,∃u∈m,x=(Builtin.bitOr t.1 u.1,t.2*u.2):=by
 obtain⟨t,ht,h⟩:=qE.mp h;obtain⟨u,hu,e⟩:=aU.mp h;exists t,ht,u,hu,e.symm
noncomputable def cY(φ:Int->Int):ak->Int
 |[]=>0
 |t::r=>φ t.1*t.2+cY φ r
theorem Qd(φ:Int->Int):∀a b:ak,cY φ (a++b)=cY φ a+cY φ b
 |[],b=>by simp[cY]
 |t::r,b=>by rw[pK,cY,cY,Qd φ r b];lia
theorem QT(φ:Int->Int)(k:Int):∀l:ak,cY φ l=φ k*aA l k+cY φ (l.filter λt=>decide (t.1≠k))
 |[]=>by simp[cY,aA]
 |t::r=>by
  have ih:=QT φ k r;rw[cY,aA,ih];by_cases h:t.1=k
  .rw[aj h,El (by simp[h]),h,VU];lia
  .rw[ah h,Wk (by simp[h]),cY,jf];lia
theorem VO(k j:Int):∀l:ak,aA (l.filter λt=>decide (t.1≠k)) j=if j=k then 0 else aA l j
 |[]=>by simp[aA]
 |t::r=>by
  have ih:=VO k j r;by_cases h:t.1=k
  .rw[El (by simp[h]),ih,aA];by_cases hj:j=k
   .simp[hj]
   .rw[ah hj,ah hj,ah tL];lia
  .rw[Wk (by simp[h]),aA,aA,ih];by_cases hj:j=k
   .rw[aj hj,aj hj,ah tL];rfl
   .rw[ah hj,ah hj]
theorem TY(φ:Int->Int):∀(n:Nat) (l:ak),l.length<=n->(∀k,aA l k=0)->cY φ l=0
 |_,[],_,_=>rfl
 |0,t::r,h,_=>by simp at h
 |n+1,t::r,h,hc=>by
  rw[QT φ t.1,hc,Int.mul_zero,jf];have e:((t::r).filter λu=>decide (u.1≠t.1))=r.filter λu=>decide (u.1≠t.1):=El tS
  rw[e];show TY φ n _ ?_ λk=>?_
  .have:=mO (λu:Int×Int=>decide (u.1≠t.1)) r
   rw[bf]at h;lia
  .rw[<-e,VO];split
   .rfl
   .exact hc k
theorem Uz(φ:Int->Int):∀l:ak,cY φ (l.map λp=>(p.1,-p.2)) = -cY φ l
 |[]=>rfl
 |t::r=>by
  rw[bz,cY,cY,Uz φ r];rw[Int.mul_neg];lia
def W4(φ:Int->Int)(h:∀k,aA l k=aA m k):cY φ l=cY φ m:=by
 have:=TY φ _ (l++m.map λp=>(p.1,-p.2)) (aC _) λk=>by rw[gi,DI,h];lia
 rw[Qd,Uz]at this;lia
theorem GU(φ:Int->Int)(c:Int):∀l:ak,cY φ (l.map λp=>(p.1,p.2*c))=cY φ l*c
 |[]=>by simp[cY]
 |t::r=>by rw[bz,cY,cY,GU φ c r,EL,Int.mul_assoc]
def Ai(a b:Nat):Builtin.bitAnd (a:Int) (b:Int)=((a&&&b:Nat):Int):=by
 have:=jhy (x:=(a:Int)) (y:=(b:Int)) (jI _) (jI _)
 simpa using this
def rA(a b:Nat):Builtin.bitOr (a:Int) (b:Int)=((a|||b:Nat):Int):=by
 have:=zgk (x:=(a:Int)) (y:=(b:Int)) (jI _) (jI _)
 simpa using this
def A1(l:ak)(k:Int):aA l k=cY (λj=>if j=k then 1 else 0) l:=by
 induction l with
 |nil=>rfl
 |cons t r ih =>
  rw[aA,cY,ih];split<;>simp_all
def zee(a b:Int):Builtin.bitAnd a b=Builtin.bitAnd b a:=by
 unfold Builtin.bitAnd;by_cases Z:0<=a<;>by_cases M:0<=b<;>simp[Z,M,Nat.and_comm,IC]
def ZK(a b:Int):Builtin.bitOr a b=Builtin.bitOr b a:=by unfold Builtin.bitOr;rw[zee]
def FR(l m:ak)(k:Int):aA (bt l m) k=aA (bt m l) k:=by
 have e0:∀l:ak,aA (bt l []) k=0:=λl=>by
  induction l with
  |nil=>rfl
  |cons t r ih =>
   have e:bt (t::r) []=dm t []++bt r []:=(by unfold bt;rw[iZ]);rw[e];show ih
 have step:∀(l m:ak) (t:Int×Int),aA (bt m (t::l)) k=aA (dm t m) k+aA (bt m l) k:=by
  intro l m t;induction m with
  |nil=>rfl
  |cons u r ih =>
   have e1:bt (u::r) (t::l)=dm u (t::l)++bt r (t::l):=by unfold bt;rw[iZ]
   have e2:bt (u::r) l=dm u l++bt r l:=by unfold bt;rw[iZ]
   have e3:dm u (t::l)=(Builtin.bitOr u.1 t.1,u.2*t.2)::dm u l:=rfl;have e4:dm t (u::r)=(Builtin.bitOr t.1 u.1,t.2*u.2)::dm t r:=rfl;rw[e1,gi,ih,e2,gi,e3,e4,aA,aA,ZK u.1 t.1,Int.mul_comm u.2 t.2];lia
 induction l with
 |nil=>rw[e0];rfl
 |cons t r ih =>
  have e:bt (t::r) m=dm t m++bt r m:=by unfold bt;rw[iZ]
  rw[e,gi,ih,step]
end OF
namespace L2
open PySem PySem.Spec PyProof.Rows
def Inv.turnedT(I:Inv X J σ H s)(k:∀b u,b≠e->b≠it->s.heap.get? b=some u->h'.get? b=some u)
  (fe:gB X J H e) (fi:gB X J H it) (hT:s.heap.objs.size<=T) (new:cI X.prog X.w (upd H T o) h' T o):Inv X J σ (upd H T o) {s with heap:=h',toks:=t'}:=by
 have hn:=I.hok.fresh hT;have ne1:∀b u,H b=some u->b≠e/\b≠it:=λb u q=>⟨de q fe.1,de q fi.1⟩
 have nm:∀b,b∉[e,it]->b≠e/\b≠it:=λb hb=>⟨λz=>hb (by simp[z]),λz=>hb (by simp[z])⟩
 have lt:∀b u,s.heap.get? b=some u->b≠T:=λb u q=>bR (cP (bh q) hT)
 show I.step (g':=s.gens) (d':=s.drawn) (ch:=[e,it]) (λb hb=>?_) (λb u _ _ hc q _=>k b u (nm b hc).1 (nm b hc).2 q) (λb u _ _ hc q _=>⟨u.slots,k b u (nm b hc).1 (nm b hc).2 q⟩) (λb u _ q n=>by rw[aG (lt b u q)];show n)
  (λb u hc q=>⟨u,k b u (nm b hc).1 (nm b hc).2 q⟩) (λb xs q=>by rw[aG (de q hn)];show q) (λb u xs q=>by rw[aG (de q hn)];show q) (λb ps q=>⟨#[],by rw[aG (de q hn),q];simp⟩) (λm hm=>?_) (λb u q=>?_) I.bare
 .rcases aV.mp hb with z|z
  .subst z;exists fe.2.2.2.1,fe.2.1,fe.2.2.2.2.1,fe.2.2.2.2.2
  .have z':b=it:=by simpa using z
   subst z';exists fi.2.2.2.1,fi.2.1,fi.2.2.2.2.1,fi.2.2.2.2.2
 .obtain⟨u,es,ep,ho,r⟩:=hm;exists u,es,ep,k _ u (Ne.symm fe.2.1) (Ne.symm fi.2.1) ho,r
 .by_cases hb:b=T
  .subst hb;rw[ao]at q;cases q;show new
  .rw[aG hb]at q;show (I.hok b u q).stay (λc v hc z=>?_) (λc z=>by rw[aG (de z hn)];show z) λc xs z=>by rw[aG (de z hn)];show z
   rcases hc with w|w
   .rw[w]at z ⊢;show k b v (ne1 b u q).1 (ne1 b u q).2 z
   .exact k c v (ne1 c _ w).1 (ne1 c _ w).2 z
def yl(K:Frag)(a:Addr):It :=
 ⟨λi H=>∃xs x,ai K H a xs/\xs[i]?=some x,λi H y O=>∃T x,H T=none/\y=.ref T/\O=upd H T (.tup [.int (i:Nat),x])/\∀xs,ai K H a xs->xs[i]?=some x,λi H=>∃xs,ai K H a xs/\xs.length<=i⟩
def za2{P:Program}{w:World}{K:Frag}{elts:List Expr}{x1:Nat}{pos:Pos}(a e it:Addr)(OM:e≠it):mf P w K (.Tuple elts x1 pos) (yl K a) [e,it] e (λi h=>(∃old,IsEnum h e it i old)/\h.IsListIter it a i) where
 mem:=by simp
 obj:=λi h st b hb=>by
  obtain⟨⟨old,he⟩,o,ho,c,d⟩:=st;rcases aV.mp hb with z|z
  .subst z;show⟨_,he,λv z=>by cases z⟩
  .have z':b=it:=by simpa using z
   subst z';show⟨o,ho,λv z=>by simp_all⟩
 keep:=λi h h' st k=>by
  obtain⟨⟨old,he⟩,hit⟩:=st;exists ⟨old,k e tS _ he⟩,hit.at λo q=>k it tS o q
 item:=by
  intro X hP hw hK hc i J s σ H E I hf st hg;subst hP hw hK;obtain⟨⟨old,he⟩,hit⟩:=st;obtain⟨xs,x,hq,hx⟩:=hg;obtain⟨ae,rv,p,hz⟩:=I.list hq;obtain⟨u,hu,ru⟩:=rv.get hx;have fe:=hf e tS;have fi:=hf it tS;show wpAny_pyNext_enum_item he hit p.isList (x:=u) (by simpa using hu) OM λZ ho hit1 hT hsz k1=>⟨_,Y,?_⟩
  have X6:=bh he;have RJ:=sC X6;have dZ:it<s.heap.objs.size:=by obtain⟨o,q,_⟩:=hit;show bh q
  show wpAny_letOwnedTupleGo_enum ho λM uZ sb=>?_
  have kk:∀b v,b≠e->b≠it->s.heap.get? b=some v->M.get? b=some v:=λb v bV eE q=>(sb.2 b bV).trans (k1 b v bV eE q)
  have dz:=(sb.2 _ RJ).trans hT;exists .ref s.heap.objs.size,upd H s.heap.objs.size (.tup [.int (i:Nat),x]),I.turnedT (t':=s.toks+1) kk fe fi (aC _) ⟨by show 2<=sizeLine;decide,[.int i s.toks,u],.cons ⟨_,Y⟩ (.cons ru .nil),?_⟩,Y,⟨_,x,I.hok.fresh (aC _),Y,Y,λys hy=>by rw[I.list_inj hy hq];show hx⟩,⟨⟨_,by simpa using uZ⟩,?_⟩,λb hb=>?_
  .exists _,dz,Y,0,rfl
  .exact hit1.at λo q=>(sb.2 it OM.symm).trans q
  .rcases aV.mp hb with z|z
   .subst z;rw[aG (Ne.symm RJ)];show fe.1
   .have z':b=it:=by simpa using z
    subst z';rw[aG (bR dZ)];show fi.1
 done:=by
  intro X hP hw hK hc i J s σ H E I hf st hg;subst hP hw hK;obtain⟨⟨old,he⟩,hit⟩:=st;obtain⟨xs,hq,hx⟩:=hg;obtain⟨ae,rv,p,hz⟩:=I.list hq;obtain⟨f0,f1,f2,f3,f4,f5⟩:=hf it tS;have hl:=rv.length;show wpAny_pyNext_enum_end (I.ok.hd hc) he hit p.isList (by simp;lia) λh' eb=>⟨Y,I.turned (t':=s.toks) (λb o hb q=>eb b o hb q) f0 f1 f3 f4 f5⟩
 self:=λ_ _ _ _ _ st h=>by
  obtain⟨⟨old,he⟩,_⟩:=st;show wpAny_pyIter_enum he h
def zfM(K:Frag)(ta:TA):TI:=λσ H R=>ta σ H λvs H1=>∃a,vs=[.ref a]/\(∃xs,ai K H1 a xs)/\R (yl K a) H1
def Xg:bootBuiltins "enumerate" = some (.type "enumerate"):=by decide+kernel
def zbx{X:Cx}{elts:List Expr}{x1:Nat}{p0 p pos:Pos}{a:Expr}{ta:TA}(hg:Gl X "enumerate")(hm:X.mg "enumerate" = none)(ha:PA X [a] ta)(hs:starEach [a] X.env=[(false,eval a X.env)]:=by rfl) :
  PI X (.Tuple elts x1 p0) (.Call (.Name "enumerate" p) [a] [] pos) (zfM X.K ta):=by
 intro J s σ H R I h;show Call_ (nq I hg hm Xg (su (ax (ha pos J s σ H _ I h) λus s1 ⟨vs,H1,I1,r1,q1⟩=>?_) hs Y));obtain⟨b,rfl,⟨xs,hq⟩,q⟩:=q1;obtain⟨u,rfl,ru⟩:=gF r1;cases (show u=Value.ref b from ru);obtain⟨ae,rv,p,hz⟩:=I1.list hq;show call_enumerate_list p.isList λh' he hit hsz k=>wpAny_pyIter_enum he ?_
 have I2:=I1.kept (t':=s1.toks) k;have cw:s1.heap.objs.size+1≠s1.heap.objs.size:=Nat.succ_ne_self _;exists s1.heap.objs.size+1,[s1.heap.objs.size+1,s1.heap.objs.size],_,_,H1,Y,I2,za2 b _ _ cw,⟨⟨_,he⟩,hit⟩,λc hc=>?_,q;have fr:∀c,s1.heap.objs.size<=c->gB X J H1 c:=λc hc=>I1.fpOk hc (I1.hok.fresh hc)
 rcases aV.mp hc with z|z
 .subst z;show fr _ (mK _)
 .have z':c=s1.heap.objs.size:=by simpa using z
  subst z';show fr _ (aC _)
def ZL{K:Frag}{a:Addr}{xs:List V}{g:TG}{tc:TT}{te:TE}{σ:St}{H:Hp}{R:List V->Hp->Addr->Prop}(Pv:Nat->List V->St->Hp->Prop)(h0:Pv 0 [] σ H)(hl:∀i ys σ H,i<=xs.length->Pv i ys σ H->ai K H a xs/\ys.length<=i)(hz:xs.length<=sizeLine)
  (hs:∀i x ys σ H T,xs[i]?=some x->Pv i ys σ H->H T=none->g (.ref T) σ (upd H T (.tup [.int (i:Nat),x])) λσ2 H2=>tc σ2 H2 λb H3=>if b=true then te σ2 H3 λy H4=>Pv (i+1) (ys++[y]) σ2 H4 else Pv (i+1) ys σ2 H3)
  (hd:∀ys σ H,Pv xs.length ys σ H->∀D,H D=none->R ys H D) :
  ∃W:Nat->Nat->List V->St->Hp->Prop,(∃m,W 0 m [] σ H)/\∀i m ys σ H,W i m ys σ H ->
   ((yl K a).stop i H/\∀D,H D=none->R ys H D) \/
   ((yl K a).go i H/\ys.length<sizeLine/\∃ N:List V->St->Hp->Prop,(∀ cb σ' O,N cb σ' O->∃ m',m'<m/\W (i+1) m' cb σ' O) /\ ∀x O,(yl K a).yld i H x O->g x σ O λσ2 H2=>tc σ2 H2 λb H3=>if b=true then te σ2 H3 λy H4=>N (ys++[y]) σ2 H4 else N ys σ2 H3):=by
 exists λi m ys σ H=>m=xs.length-i/\i<=xs.length/\Pv i ys σ H,⟨xs.length,tS,bJ _,h0⟩,?_;rintro i m ys σ H ⟨rfl,hi,p⟩;have q:=hl i ys σ H hi p;by_cases aF:i<xs.length
 .refine .inr ⟨⟨xs,xs[i],q.1,by simp[aF]⟩,tL,Pv (i+1),λcb σ' O p'=>⟨xs.length-(i+1),tL,Y,aF,p'⟩,λx O y=>?_⟩;obtain⟨T,z,hT,rfl,rfl,y⟩:=y;show hs i z ys σ _ T (y xs q.1) p hT
 .have e:i=xs.length:=by lia
  subst e;show .inl ⟨⟨xs,q.1,aC _⟩,hd ys σ H p⟩
open PySem PySem.Spec PyProof.Rows
def zcm:typeLookup (.type "list") "keys" = pure none:=by rw[typeLookup_type,builtinLookup_eq_fast];kernel_rfl
section
variable{prog:Program}{w:World}{A:Around}{E:Value->Shared->Prop}{s:Shared}{a:Addr}
def zga(hx:s.heap.get? a=some {cls:=.type "list",dict:=none,data:=.seq ae n,slots:=sl})(hA:A.handled=none)
  (h:∀h' tk e,Heap.NewExcOf s.heap h' e "AttributeError" -> Q none {s with heap:=h',toks:=tk}):wpAny (model prog w) A (getAttr? (.ref a) "keys") Q E s:=by
 obtain⟨hp,g,d,tk,os⟩:=s;have hT:∀zT,(⟨hp,g,d,zT,os⟩:Shared).TypeIs (.ref a) "list" := λ_=>⟨_,hx,Y⟩
 have f1:=sub_AttributeError;have f3:=PySem.F.slot_list_getattribute.lookup;have f4:=PySem.F.slot_list_getattribute.bind (.ref a);have f5:=am_list_getattr_none;repeat (any_goals (first|assumption|show hT _|((with_reducible show wpAny _ _ (call (Value.builtin "list.__getattribute__") _ _) _ _ _);show jV PySem.F.slot_list_getattribute (hT _) am_entry_list_getattribute (PySem.F.args_list_getattribute_2 _ _) (meets_getattribute_miss_list a ae n sl "keys" _ zcm tE tE) ⟨hx,hA,λh' zT e dR=>?_⟩)|wp_step))
 obtain⟨t',u',he⟩:=dR.there;unfold getattributeRaised;repeat (any_goals (first|assumption|wp_step))
 show h _ _ _ dR.of
end
def QS:entryFor table "dict.update.loop" = some Builtin.«dict.update.loop» := entryFor_of_tree tK
def nU(d:OF.ak)(l:OF.ak):OF.ak:=l.foldl (λd t=>OF.gm d t.1 t.2) d
section
variable{X:Cx}{J:List (Addr×Obj)}{σ:St}{H:Hp}
def zfr(hh:A.handled=none)(hS:∀o,ai X.K (upd H d o) l (ps.map V.ref))(hP:∀o,bj (upd H d o) ps tt)(hF:∀o,gB X J (upd H d o) it)(sJ:(d == sysModules)=false) :
  ∀(r i:Nat) (kv:OF.ak) (s:Shared),i+r=tt.length->kv.length+r<sizeLine->Inv X J σ (upd H d (.dK (kv.map cR))) s->s.heap.IsListIter it l i ->
   (∀s',Inv X J σ (upd H d (.dK ((nU kv (tt.drop i)).map cR))) s'->R (.ok (.ret .none)) s') ->
   codeAny (model X.prog X.w) A (.builtin "dict.update.loop" ⟨[.ref d,.ref it,rawInt i,.none],[]⟩) R s:=by
 intro r;induction r with
 |zero =>
  intro i kv s hi hz I st q;obtain⟨ae,rv,p,m9⟩:=I.list (hS _);have hl:=rv.length;have dO:=(hP (.dK (kv.map cR))).length;rw[ar]at hl;obtain⟨f0,f1,f2,f3,f4,f5⟩:=hF (.dK (kv.map cR));show JT QS ?_;show aq (wpAny_pyNext_list_end (A:=A.under _) hh st p.isList (by simp;lia) λh' eb=>?_);show aq (m:=Builtin.Dict.addKeywords d []) (aS (aS ?_));have I':=I.turned (t':=s.toks) (λb o hb e=>eb b o hb e) f0 f1 f3 f4 f5;show q _ ?_;rw[mv tL];show I'
 |succ r ih =>
  intro i kv s hi hz I st q;obtain⟨ae,rv,p,m9⟩:=I.list (hS _);have dO:=(hP (.dK (kv.map cR))).length;have dZ:i<tt.length:=by lia
  obtain⟨pa,Ge,wR⟩:=(hP (.dK (kv.map cR))).at (i:=i) (t:=tt[i]) (by simp[dZ]);obtain⟨u,hu,ru⟩:=rv.get (i:=i) (x:=V.ref pa) (by rw[c9,Ge];rfl);cases (show u=Value.ref pa from ru);obtain⟨f0,f1,f2,f3,f4,f5⟩:=hF (.dK (kv.map cR));show JT QS ?_;show aq (wpAny_pyNext_list_item st p.isList (x:=.ref pa) (by simpa using hu) λZ bu sb=>?_);have I1:=I.turned (t':=s.toks) (λb o hb e=>(sb.2 b hb).trans e) f0 f1 f3 f4 f5;obtain⟨_,dB,r2,t2⟩:=(show cI X.prog X.w _ Z pa (.tup _) from I1.hok pa _ wR);obtain⟨x1,x2,rfl⟩:=zeF r2;obtain⟨ot,bA,dk,nt,ht3⟩:=id t2;show aq (kI (aq (wpAny_tryCatch ?_)));show aq (Dx (T := "tuple") ⟨ot,bA,dk⟩ ?_);rw[aj tD];show aq (qu bA ht3 (aS ?_));show kI ?_;obtain⟨z,hd,vs,rel,dd⟩:=Ay I1.hok (show upd H d (.dK (kv.map cR)) d=some (.dK (kv.map cR)) from ao);have hvl:=rel.length;rw[ar]at hvl;show wpAny_dictSet_pairs (knd:=fu X.prog X.w) (k:=Sum.inl tt[i].1) (QK _ _ _ _) dd (λM pU iy=>?_) tL;have mx:=OF.OD kv tt[i].1 tt[i].2;have I2:Inv X J σ (upd (upd H d (.dK (kv.map cR))) d (.dK ((OF.gm kv tt[i].1 tt[i].2).map cR))) {s with heap:=M,toks:=s.toks+1}:=by
   show JN (s:={s with heap:=Z}) I1 (by rw[ao];show True.intro) iy (let ⟨q,_,_,hq,_⟩:=pU; ⟨q,hq⟩) (Mi (by rw[ar];lia) hd ?_ pU);rw[<-Df];show rel.put (Sum.inl tt[i].1) ⟨x2,Y⟩
  rw[yp]at I2;show aS ⟨FC _ tE,?_⟩;have hdi:it≠d:=by
   intro z
   have:=(hF (.dK (kv.map cR))).1
   rw[z,ao]at this;cases this
  have bg:=bu.at λo e=>(iy.2 it hdi).trans e
  have:=ih (i+1) (OF.gm kv tt[i].1 tt[i].2) _ tL tL I2 bg λs' I'=>q s' (by
   have e:=jc dZ;rw[e];show I')
  simpa using this
def zad(hc:X.calm=true):gA X (.type "dict") (λxs H Q=>∃(a:Addr) (l:OF.ak),xs=[.ref a]/\TL X.K H a l/\l.length<=1000000/\∀d,H d=none->Q (.ref d) (upd H d (.dK ((nU [] l).map cR)))):=by
 intro J s σ H xs us Q I r h;obtain⟨a,l,rfl,⟨ps,hS,hP⟩,hz,q⟩:=h;obtain⟨u,rfl,ru⟩:=gF r;cases (show u=Value.ref a from ru);have hA:=I.ok.hd hc;show callType_codes (Q₁:=λobj s₁=>obj=.ref s.heap.objs.size/\s₁={s with heap:=s.heap.push {cls:=.type "dict",data:=.dict #[]}}) PySem.F.kt_called_dict (PySem.F.kt_typeCall_dict_1 _) PySem.F.entry_dict_init (kt_code_dict_new _ ⟨Y,Y⟩) ?_;rintro obj s₁ ⟨rfl,rfl⟩;have BO:(s.heap.push {cls:=.type "dict",data:=.dict #[]}).DictOf (fu X.prog X.w) s.heap.objs.size []:=MP s.heap;have I1:Inv X J σ (upd H s.heap.objs.size (.dK [])) {s with heap:=s.heap.push {cls:=.type "dict",data:=.dict #[]}} :=
  I.laid (a:=s.heap.objs.size) (o:=.dK []) (t':=s.toks) (λ_ _ q=>bZ _ q) (aC _) (MO s.heap I.big)
 have hn:=I.hok.fresh (aC _);have sJ:=(Ay I1.hok ao).2.1;have sT:∀o,ai X.K (upd H s.heap.objs.size o) a (ps.map V.ref):=λo=>(ag.upd hn).seq hS
 have Zi:∀o,bj (upd H s.heap.objs.size o) ps l:=λo=>hP.keep λb xs z=>ag.upd hn b _ z
 generalize uz:s.heap.objs.size=d at *;exists BO.typeIs,PySem.F.args_dict_init_2 _ _,?_;show aq ?_;show aq (wpAny_notOrdered_dict BO.typeIs ?_);show aS ?_;obtain⟨ae,rv,p,m9⟩:=I1.list (sT _);obtain⟨ol,nl,gh,dO,m6,AU⟩:=id p;show aq (Dx (T := "list") ⟨ol,gh,dO⟩ ?_);rw[aj tD];obtain⟨oc,od,odt,oK⟩:=ol;subst dO m6 AU;show aq (zga gh hA λM tk e ne=>?_);have I2:=I1.kept (t':=tk) λb o q=>ne.keeps b o q
 obtain⟨dB,rv2,p2,_⟩:=I2.list (sT _);rw[aj (by rfl)];show aq (mD (aq (vZ p2.isList ?_)));have I3:Inv X J σ (upd H d (.dK [])) {s with heap:=M.push {cls:=.type "list_iterator",data:=.fields #[.ref a,.int 0 0]},toks:=tk}:=I2.kept (t':=tk) λb o q=>bZ _ q
 have iT:=I2.hok.fresh (aC _);have OP:M.objs.size≠d:=λz=>by rw[z,ao]at iT;cases iT
 show aS ⟨FC _ tE,?_⟩;show zfr (A:=X.A.in1) (it:=M.objs.size) hA sT Zi (λo=>?_) sJ l.length 0 [] _ tL ?_ I3 ⟨_,cQ _ Y,Y,Y⟩ λs' I'=>?_
 .have hH:H M.objs.size=none:=by rw[aG OP]at iT;show iT
  show I2.fpOk (s:={s with heap:=M,toks:=tk}) (aC _) (by rw[aG OP];show hH)
 .have:(1000000:Nat)<sizeLine:=by decide
  simp;lia
 .rw[lS]at I';exists Y,⟨.ref d,_,I',Y,q d hn⟩
end
end L2
namespace OF
open PySem
open Classical in
noncomputable def c5(ns:List Int)(p:Nat):Int:=ns.getD p 0
theorem Rp:∀(l d:ak),(l.map (·.1)).Nodup->(∀t∈l,look d t.1=none)->∀k,look (L2.nU d l) k=(look l k).or (look d k)
 |[],d,_,_,k=>by simp[L2.nU,look]
 |t::r,d,hn,hd,k=>by
  rw[bz,i8]at hn;have e:L2.nU d (t::r)=L2.nU (gm d t.1 t.2) r:=rfl;have cw:∀u∈r,¬u.1=t.1:=λu hu z=>hn.1 (aU.mpr ⟨u,hu,z⟩)
  rw[e,Rp r _ hn.2 (λu hu=>by rw[Ej,ah (cw u hu)];show hd u (by simp[hu])),Ej,look];by_cases q:t.1=k
  .have hr:look r k=none:=by
    cases z:look r k with
    |none=>rfl
    |some x =>
     obtain⟨u,hu,eu⟩:=aU.mp (yB.mp (by rw[z];simp));show absurd (eu.trans q.symm) (cw u hu)
   rw[hr,aj q.symm,aj q];rfl
  .rw[ah (λz=>q z.symm),ah q]
theorem Ms:∀{l:ak},(l.map (·.1)).Nodup->∀k,(look l k).getD 0=aA l k
 |[],_,_=>rfl
 |t::r,hn,k=>by
  rw[bz,i8]at hn;have ih:=Ms hn.2 k;rw[look,aA];by_cases q:t.1=k
  .have hr:=t9 r k λp hp z=>hn.1 (aU.mpr ⟨p,hp,z.trans q.symm⟩)
   rw[aj q,aj q,hr];simp
  .rw[ah q,ah q,ih];lia
def mM(h:IsForm f):(f.map (·.1)).Nodup:=by
 rw[List.Nodup,fX];show h.rise.imp λh=>by lia
def zeb(h:IsForm f)(k:Int):cK (L2.nU [] f) k=aA f k:=by
 unfold cK;rw[Rp f [] (mM h) (λ_ _=>rfl),<-Ms (mM h) k];cases look f k<;>rfl
def zbR(i j:Nat):i&&&2^j=if i.testBit j then 2^j else 0:=by
 apply RG;intro k;rw[Nat.testBit_and,E5];by_cases e:j=k
 .subst e;cases h:i.testBit j<;>simp
 .cases h:i.testBit j<;>simp[e]
end OF
namespace My
open PySem L2 OF
def tt{σ:St}{H:Hp}{F G:Hp->Prop}(h:F H):AQ σ H λb H3=>if b=true then F H3 else G H3:=by assumption
open PySem L2 OF
def KW{K:Frag}{a:Addr}{l:ak}{H:Hp}{tc:TT}{te:TE}{R:List V->Hp->Addr->Prop}(p:Int×Int->Bool)(f:Int×Int->Int×Int)(hT:TL K H a l)(hl:l.length<=1000000)(rest:List (Option V)){σ:St}(hσ:σ=none::none::rest)
  (hc:∀t∈l,∀(H2:Hp) (R:Bool->Hp->Prop),ag H H2->R (p t) H2->tc (some (.int t.1)::some (.int t.2)::rest) H2 R)
  (he:∀t∈l,p t=true->∀(H2:Hp) (R:V->Hp->Prop),ag H H2->(∀w,H2 w=none->R (.ref w) (upd H2 w (.tup [.int (f t).1,.int (f t).2])))->te (some (.int t.1)::some (.int t.2)::rest) H2 R)
  (q:∀(D:Addr) (ys:List V) (H2:Hp),H D=none->aI (upd H2 D (.lst ys)) D ((l.filter p).map f)->ag H (upd H2 D (.lst ys))->R ys H2 D) :
  ∃W:Nat->Nat->List V->St->Hp->Prop,(∃m,W 0 m [] σ H)/\∀i m ys σ H,W i m ys σ H ->
   ((gq K a).stop i H/\∀D,H D=none->R ys H D) \/
   ((gq K a).go i H/\ys.length<sizeLine/\∃ N:List V->St->Hp->Prop,(∀ cb σ' O,N cb σ' O->∃ m',m'<m/\W (i+1) m' cb σ' O) /\ ∀x O,(gq K a).yld i H x O->gd K 2 (bW (aQ 0) (bW (aQ 1) gc)) x σ O λσ2 H2=>tc σ2 H2 λb H3=>if b=true then te σ2 H3 λy H4=>N (ys++[y]) σ2 H4 else N ys σ2 H3):=by
 obtain⟨ps,hS,hP⟩:=hT;subst hσ;show jg (K:=K) (a:=a) (xs:=ps.map V.ref) (R:=R) (λi ys σ H2=>∃(v0 v1:Option V) (qs:List Addr),σ=v0::v1::rest/\ys=qs.map V.ref/\bj H2 qs (((l.take i).filter p).map f)/\ag H H2)
  ⟨none,none,[],Y,Y,.nil,ag.refl _⟩ (λi ys σ H2 hi ⟨_,_,qs,_,e1,e2,e3⟩=>⟨e3.seq hS,by
   rw[e1,ar,e2.length,ar];show a9 (mO _ _) (by rw[cZ];omega)⟩) (by rw[ar,hP.length];show dH (cJ hl)) ?_ ?_
 .rintro i z ys σ H2 hi ⟨v0,v1,qs,rfl,rfl,g2,g4⟩;obtain⟨b,JD,rfl⟩:=gM hi;obtain⟨t,bA,dk⟩:=hP.at' JD;have rH:=c8 bA;have cA:l.take (i+1)=l.take i++[t]:=by rw[dM,bA];rfl
  exists b,_,Y,aD.of (g4 _ _ dk),Y,_,_,Y,_,_,Y,Y,?_;show hc t rH H2 _ g4 ?_;by_cases hp:p t=true
  .rw[hp];show bq Y ?_;show he t rH hp H2 _ g4 λw hw=>?_
   have lJ:ag H2 (upd H2 w (.tup [.int (f t).1,.int (f t).2])):=ag.upd hw;exists _,_,qs++[w],Y,(by rw[aN];rfl),?_,g4.trans lJ;rw[cA,iw,aN];simp only[zu,hp,Mb,eS,bz,o6];show bj.snoc (g2.keep λb xs z=>lJ b _ z) ao
  .refine aK hp ⟨_,_,qs,Y,Y,?_,g4⟩;rw[cA,iw,aN];simp only[zu,hp,Mb,o6,gg];simpa using g2
 .rintro ys σ H2 ⟨v0,v1,qs,rfl,rfl,g2,g4⟩ w hw;have GG:l.take (ps.map V.ref).length=l:=by rw[ar,hP.length,eV]
  rw[GG]at g2;have lJ:ag H2 (upd H2 w (.lst (qs.map V.ref))):=ag.upd hw;show q w _ _ (g4.free hw) ⟨qs,ao,g2.keep λb xs z=>lJ b _ z⟩ (g4.trans lJ)
noncomputable def mn(k:Nat)(t:Int×Int):Bool:=t.1.toNat.testBit k
def rT(k:Nat)(l:ak):ak:=l.filter λt => !mn k t
def oa(k:Nat)(l:ak):ak:=(l.filter λt=>mn k t).map λt=>(t.1-2^k,t.2)
def zct(k:Nat)(b:Int)(l:ak):ak:=rT k l++if b=0 then []else oa k l
def Yh(k:Nat)(l:ak):(rT k l).length<=l.length:=mO _ _
def XO(k:Nat)(l:ak):(oa k l).length<=l.length:=by unfold oa;rw[ar];show mO _ _
def zcu(h:0<=t.1)(k:Nat):Builtin.bitAnd t.1 (2^k)=if mn k t then 2^k else 0:=by
 have e:=vg h;have pw:((2:Int)^k)=((2^k:Nat):Int):=by norm_cast
 unfold mn;rw[<-e,pw,Ai,zbR,iu];split<;>rfl
def zbD(k:Nat):(2:Int)^k≠0:=by
 have pw:((2:Int)^k)=((2^k:Nat):Int):=by norm_cast
 have:=uP k
 lia
def LZ(h:0<=t.1)(k:Nat):decide (V.int (Builtin.bitAnd t.1 (2^k))=V.int 0) = !mn k t:=by
 rw[zcu h];cases mn k t
 .simp
 .have:=zbD k
  simp[this]
def zff(h:0<=t.1)(hb:mn k t=true):2^k<=t.1:=by
 have e:=vg h;have pw:((2:Int)^k)=((2^k:Nat):Int):=by norm_cast
 have:=Nat.ge_two_pow_of_testBit hb
 lia
end My
namespace L2
open PySem PySem.Spec PyProof.Rows
section
variable{X:Cx}
def zes:V->List V->Hp->VK->Prop:=λx vs H Q=>∃n:Int,x=.int n/\vs=[]/\Q (.int (intBits n)) H
def zZ:gn X "int.bit_length" zes:=by
 intro J s σ H x xs v us Q I rx rv h;obtain⟨n,rfl,rfl,q⟩:=h;obtain⟨t,rfl⟩:=rx;obtain rfl:=rv.zero;show call_int_bit_length ⟨.int _,H,I.tok _,⟨_,Y⟩,q⟩
end
end L2
namespace My
open PySem L2 OF
def JB(n:Nat):intBits (n:Int)=if n=0 then 0 else n.log2+1:=by
 unfold intBits;by_cases h:n=0
 .subst h;rfl
 .rw[ah h,ah (by simp;assumption)];rfl
def EB(n:Nat):n<2^intBits (n:Int):=by
 rw[JB];by_cases h:n=0
 .subst h;decide
 .rw[ah h];show Nat.lt_log2_self
def FJ{n m:Nat}(h:n<2^m):intBits (n:Int)<=m:=by
 rw[JB];by_cases h0:n=0
 .subst h0;simp
 .rw[ah h0];show (BS h0).mpr h
def zgP(m:Nat):intBits ((2^m:Nat):Int)=m+1:=by
 rw[JB,ah (by simp),Nat.log2_two_pow]
theorem Kf:∀(l:ak) (s j:Nat),(dJ l s).testBit j=true↔s.testBit j=true\/∃t∈l,t.1.toNat.testBit j=true
 |[],s,j=>by simp[dJ]
 |t::l,s,j=>by
  rw[dJ,Kf l,Gz,Hn];constructor
  .rintro ((h|h)|⟨u,Z,M⟩)
   .exact .inl h
   .exact .inr ⟨t,jP ..,h⟩
   .exact .inr ⟨u,cX _ Z,M⟩
  .rintro (h|⟨u,Z,M⟩)
   .exact .inl (.inl h)
   .rcases aV.mp Z with z|z
    .subst z;show .inl (.inr M)
    .exact .inr ⟨u,z,M⟩
def Ui(h:∀t∈l,0<=t.1/\t.1<2^m):dJ l 0<2^m:=by
 show Fy _ λj hj=>?_
 cases e:(dJ l 0).testBit j
 .rfl
 .rcases (Kf l 0 j).mp e with z|⟨t,Z,M⟩
  .simp at z
  .have:=h t Z
   have pw:((2:Int)^m)=((2^m:Nat):Int):=by norm_cast
   have h3:=cP (by lia:t.1.toNat<2^m) (eO tD hj);rw[zl h3]at M;cases M
noncomputable def lst(a:Nat):List Nat:=(List.range (intBits (a:Int))).filter λk=>a.testBit k
def KY:k∈lst a↔a.testBit k=true:=by
 unfold lst;rw[tX,eG];constructor
 .exact λh=>h.2
 .intro h;exists ?_,h;rcases lj k (intBits (a:Int))with z|z
  .exact z
  .have:=zl (cP (EB a) (eO tD z))
   rw[this]at h;cases h
end My
namespace L2
open PySem PySem.Spec PyProof.Rows
def Inv.turnedN(ch:List Addr)(I:Inv X J σ H s)(k:∀b u,b∉ch->s.heap.get? b=some u->h'.get? b=some u)
  (f:∀b∈ch,gB X J H b):Inv X J σ H {s with heap:=h',toks:=t'}:=by
 have out:∀b u,H b=some u->b∉ch:=λb u q z=>by rw[(f b z).1]at q;cases q
 show I.step (g':=s.gens) (d':=s.drawn) (ch:=ch) (λb hb=>⟨(f b hb).2.2.2.1,(f b hb).2.1,(f b hb).2.2.2.2.1,(f b hb).2.2.2.2.2⟩) (λb u _ _ hc q _=>k b u hc q) (λb u _ _ hc q _=>⟨u.slots,k b u hc q⟩) (λ_ _ _ _ n=>n)
  (λb u hc q=>⟨u,k b u hc q⟩) (λ_ _ e=>e) (λ_ _ _ e=>e) (λb ps e=>⟨#[],by rw[e];simp⟩) (λm hm=>?_) (λb u e=>?_) I.bare
 .obtain⟨u,es,ep,ho,r⟩:=hm;exists u,es,ep,k _ u (λz=>(f _ z).2.1 Y) ho,r
 .refine (I.hok b u e).stay (λc v hc q=>k c v ?_ q) (λ_ q=>q) λ_ _ q=>q
  rcases hc with z|z
  .rw[z];show out b u e
  .exact out c _ z
def Inv.turnedL(ch:List Addr)(I:Inv X J σ H s)(k:∀b u,b∉ch->s.heap.get? b=some u->h'.get? b=some u)
  (f:∀b∈ch,gB X J H b) (hT:s.heap.objs.size<=T) (new:cI X.prog X.w (upd H T o) h' T o):Inv X J σ (upd H T o) {s with heap:=h',toks:=t'}:=by
 have hn:=I.hok.fresh hT;have out:∀b u,H b=some u->b∉ch:=λb u q z=>by rw[(f b z).1]at q;cases q
 have lt:∀b u,s.heap.get? b=some u->b≠T:=λb u q=>bR (cP (bh q) hT)
 have up:∀{b:Addr}{u:HO},H b=some u->upd H T o b=some u:=λq=>by rw[aG (de q hn)];show q
 show I.step (g':=s.gens) (d':=s.drawn) (ch:=ch) (λb hb=>⟨(f b hb).2.2.2.1,(f b hb).2.1,(f b hb).2.2.2.2.1,(f b hb).2.2.2.2.2⟩) (λb u _ _ hc q _=>k b u hc q) (λb u _ _ hc q _=>⟨u.slots,k b u hc q⟩) (λb u _ q n=>by rw[aG (lt b u q)];show n)
  (λb u hc q=>⟨u,k b u hc q⟩) (λb xs q=>up q) (λb u xs q=>up q) (λb ps q=>⟨#[],by rw[up q];simp⟩) (λm hm=>?_) (λb u q=>?_) I.bare
 .obtain⟨u,es,ep,ho,r⟩:=hm;exists u,es,ep,k _ u (λz=>(f _ z).2.1 Y) ho,r
 .by_cases hb:b=T
  .subst hb;rw[ao]at q;cases q;show new
  .rw[aG hb]at q;show (I.hok b u q).stay (λc v hc z=>?_) (λc z=>up z) λc xs z=>up z
   rcases hc with w|w
   .rw[w]at z ⊢;show k b v (out b u q) z
   .exact k c v (out c _ w) z
def Wo:bootBuiltins "zip" = some (.type "zip"):=by decide+kernel
open PySem PySem.Spec PyProof.Rows
def XZ(a b c:Value):checkTypeCall "range" ⟨[a,b,c],[]⟩=pure ():=by kernel_rfl
def zgK(a b c:Value):checkBuiltinCall "range.__new__" ⟨[.type "range",a,b,c],[]⟩=pure ():=by kernel_rfl
def zag(obj a b c:Value):argsOk "object.__init__" ⟨[obj,a,b,c],[]⟩:=by
 unfold argsOk;rw[signature?_of (id := "object.__init__") (n:=['_','_','t','i','n','i','_','_']) (o:=['t','c','e','j','b','o']) tK PySem.F.owner_object];kernel_rfl
section
variable{prog:Program}{w:World}{A:Around}{E:Value->Shared->Prop}{s:Shared}
def Zh(hc:c≠0)(hd:Builtin.divisionGoesByPylong (b-a) c=false)
  (h:Q (.ref s.heap.objs.size) {s with heap:=s.heap.push {cls:=.type "range",data:=.fields #[.int a t,.int b u,.int c v]}}) :
  wpAny (model prog w) A (call (.type "range") [.int a t,.int b u,.int c v]) Q E s :=
 callType_new PySem.F.called_range tD (XZ _ _ _) (zgK _ _ _) (λobj=>zag obj _ _ _) PySem.F.entry_range_new
  (AutoRange.range___new___type_int_int_int_1 a b c t u v PySem.F.called_range.sub (by simp[hc])) ⟨hd,⟨_,cQ _ Y,Y⟩,h⟩
end
def vf(lo c:Int)(n:Nat):It:=⟨λi _=>i<n,λi H x O=>O=H/\x=.int (lo+i*c),λi _=>n<=i⟩
def zf2{P:Program}{w:World}{K:Frag}{tg:Expr}(it:Addr)(lo c:Int)(n:Nat):mf P w K tg (vf lo c n) [it] it (λi h=>IsRangeIter h it (lo+(i:Nat)*c) ((n:Int)-(i:Nat)) c) where
 mem:=by simp
 obj:=λi h st b hb=>by simp_all
 keep:=λi h h' st k=>k it tS _ st
 item:=by
  intro X hP hw hK hc i J s σ H E I hf st hg;subst hP hw hK;obtain⟨f0,f1,f2,f3,f4,f5⟩:=hf it tS;have W:=UU (prog:=X.prog) (w:=X.w) (I.ok.hd hc) it lo c n;show W.item i s _ _ hg st λv h' tk hv af kk=>?_
  obtain⟨t,rfl⟩:=hv;have I1:Inv X J σ H {s with heap:=h',toks:=tk}:=I.turned (λb o hb e=>kk b o (by simpa using hb) e) f0 f1 f3 f4 f5;exists _,Y,uo (s:={s with heap:=h',toks:=tk}) (n := "range_iterator") af Y Y tD ⟨.int (lo+i*c),H,I1,⟨t,Y⟩,⟨Y,Y⟩,af,λb hb=>(hf b hb).1⟩
 done:=by
  intro X hP hw hK hc i J s σ H E I hf st hg;subst hP hw hK;obtain⟨f0,f1,f2,f3,f4,f5⟩:=hf it tS;show wpAny_pyNext_range_end (I.ok.hd hc) st (by have:n<=i:=hg;lia) λh' eb=>⟨Y,I.turned (t':=s.toks) (λb o hb e=>eb b o hb e) f0 f1 f3 f4 f5⟩
 self:=λ_ _ _ _ _ st h=>wpAny_pyIter_rangeiter st h
section
variable{X:Cx}{tg:Expr}
def W2{J:List (Addr×Obj)}{σ:St}{H:Hp}{s:Shared}{R:It->Hp->Prop}{E:Value->Shared->Prop}{lo hi c:Int}{n:Nat}{t u v:Tok}(I:Inv X J σ H s)(hs:Builtin.Range.small lo hi c=true)(hn:Builtin.Range.rangeSize lo hi c=(n:Int))
  (q:R (vf lo c n) H):wpAny (model X.prog X.w) X.A (pyIter (.ref s.heap.objs.size)) (Kb X J σ tg R) E {s with heap:=s.heap.push {cls:=.type "range",data:=.fields #[.int lo t,.int hi u,.int c v]}}:=by
 show wpAny_pyIter_range (RN ..) hs ?_;have I1:Inv X J σ H {s with heap:=s.heap.push {cls:=.type "range",data:=.fields #[.int lo t,.int hi u,.int c v]}}:=I.kept (t':=s.toks) λb o e=>bZ _ e
 show⟨(s.heap.push {cls:=.type "range",data:=.fields #[.int lo t,.int hi u,.int c v]}).objs.size,[(s.heap.push {cls:=.type "range",data:=.fields #[.int lo t,.int hi u,.int c v]}).objs.size],_,_,H,Y,I1.kept (t':=s.toks) λb o e=>bZ _ e,zf2 _ lo c n,?_,λb hb=>?_,q⟩
 .have e1:lo+((0:Nat):Int)*c=lo:=by simp
  have e2:(n:Int)-((0:Nat):Int)=Builtin.Range.rangeSize lo hi c:=by rw[hn];simp
  show IsRangeIter _ _ (lo+((0:Nat):Int)*c) ((n:Int)-((0:Nat):Int)) c;rw[e1,e2];show cQ _ rfl
 .have e:b=(s.heap.push {cls:=.type "range",data:=.fields #[.int lo t,.int hi u,.int c v]}).objs.size:=by simpa using hb
  subst e;show I1.fpOk (aC _) (I1.hok.fresh (aC _))
def zbc(ta:TA):TI:=λσ H R=>ta σ H λvs H1=>∃(i j c:Int) (n:Nat),vs=[.int i,.int j,.int c]/\c≠0/\Builtin.divisionGoesByPylong (j-i) c=false/\Builtin.Range.small i j c=true/\Builtin.Range.rangeSize i j c=(n:Int)/\R (vf i c n) H1
def za8(hg:Gl X "range")(hm:X.mg "range" = none)(ha:PA X [a,b,c] ta)(hs:starEach [a,b,c] X.env=[(false,eval a X.env),(false,eval b X.env),(false,eval c X.env)]:=by rfl)(iy:starEach [b,c] X.env=[(false,eval b X.env),(false,eval c X.env)]:=by rfl) :
  PI X tg (.Call (.Name "range" p) [a,b,c] [] pos) (zbc ta):=by
 intro J s σ H R I h;show Call_ (nq I hg hm boot_range (su (ax (ha pos J s σ H _ I h) λus s1 ⟨vs,H1,I1,r1,q1⟩=>?_) (by rw[hs,iy]) (by rw[iy];rfl)));obtain⟨i,j,c,n,e,q1,q0,q2,q3,q⟩:=q1;subst e;cases r1 with
 |cons r rr =>
  cases rr with
  |cons r' rr =>
   cases rr with
   |cons ZR rr =>
    cases rr;obtain⟨t,rfl⟩:=r;obtain⟨t',rfl⟩:=r';obtain⟨t'',rfl⟩:=ZR;show Zh q1 q0 (W2 I1 q2 q3 q)
end
def zfI{lo c:Int}{n:Nat}{g:TG}{tb:TS}{D:je}{σ:St}{H:Hp}(Pv:Nat->St->Hp->Prop)(h0:Pv 0 σ H)
  (hs:∀i σ H,i<n->Pv i σ H->g (.int (lo+i*c)) σ H λσ2 H2=>tb {D with nx:=Pv (i+1),ct:=Pv (i+1),bk:=D.nx} σ2 H2) (hd:∀σ H,Pv n σ H->D.nx σ H) :
  ∃W:Nat->Nat->St->Hp->Prop,(∃m,W 0 m σ H)/\∀i m σ H,W i m σ H ->
   ((vf lo c n).stop i H/\D.nx σ H)\/((vf lo c n).go i H/\∃N:St->Hp->Prop,(∀σ' O,N σ' O->∃m',m'<m/\W (i+1) m' σ' O)/\∀x O,(vf lo c n).yld i H x O->g x σ O λσ2 H2=>tb {D with nx:=N,ct:=N,bk:=D.nx} σ2 H2):=by
 exists λi m σ H=>m=n-i/\i<=n/\Pv i σ H,⟨n,tS,bJ _,h0⟩,?_;rintro i m σ H ⟨rfl,hi,p⟩;by_cases aF:i<n
 .refine .inr ⟨aF,Pv (i+1),λσ' O p'=>⟨n-(i+1),tL,Y,aF,p'⟩,λx O y=>?_⟩;obtain⟨e,y⟩:=y;subst e y;show hs i σ _ aF p
 .have:i=n:=by lia
  subst this;show .inl ⟨aC _,hd _ _ p⟩
def zge(hb:0<b)(jY:b<2^40)(hc:0<c)(oE:c<2^40):Builtin.Range.small 0 b c=true/\∃n:Nat,Builtin.Range.rangeSize 0 b c=(n:Int)/\∀i:Nat,i<n->(i:Int)*c<b:=by
 have e:Builtin.Range.rangeSize 0 b c=(b-1)/c+1:=by
  unfold Builtin.Range.rangeSize;rw[aj hc,aj hb,Int.sub_zero]
 have d0:0<=(b-1)/c:=Int.ediv_nonneg tL tL;have d1:(b-1)/c<=b-1:=Int.ediv_le_self _ tL;exists ?_,((b-1)/c+1).toNat,by rw[e];omega,λi hi=>?_
 .unfold Builtin.Range.small;rw[e];simp only[Builtin.Range.rangeFitsLong,iY,Hn,Fw,kR,hc,eS];omega
 .have Z:(i:Int)<=(b-1)/c:=by omega
  have M:=Int.mul_le_of_le_ediv hc Z;omega
end L2
namespace My
open PySem L2 OF
noncomputable def wd:Nat->Str
 |0 => "and"
 |1 => "or"
 |_ => "xor"
end My
namespace L2
open PySem PySem.Spec PyProof.Rows
section
variable{X:Cx}{e st lo:Expr}{te:TE}{tl to:TO}{p2 pos:Pos}
noncomputable def kS{α:Type}(c n:Nat)(xs:List α):List α:=(List.range n).filterMap λk=>xs[c+2*k]?
theorem Ul(r:Vals xs us)(f:Nat->Nat):∀ks:List Nat,Vals (ks.filterMap λk=>xs[f k]?) (ks.filterMap λk=>us[f k]?)
 |[]=>.nil
 |k::ks=>by
  have ih:=Ul r f ks;have hl:=r.length;cases h:xs[f k]? with
  |none =>
   have M:us[f k]?=none:=by simp_all
   rw[P7 (f:=λk=>xs[f k]?) h,P7 (f:=λk=>us[f k]?) M];show ih
  |some x =>
   obtain⟨u,hu,ru⟩:=r.get h;rw[Kj (f:=λk=>xs[f k]?) h,Kj (f:=λk=>us[f k]?) hu];show .cons ru ih
def ZI(c n:Nat)(hc:c<=n):sliceRange (c:Int) (n:Int) 2=(List.range ((n-c+1)/2)).map λk=>c+2*k:=by
 unfold sliceRange;have e:(if (2:Int)>0 then (if (c:Int)<(n:Int)then ((n:Int)-(c:Int)+2-1)/2 else 0)else (if (c:Int)>(n:Int)then ((c:Int)-(n:Int)-2-1)/(-2)else 0)).toNat=(n-c+1)/2:=by grind
 simp only[e];show pO λk _=>by lia
def zf7(items:Array Value)(c:Nat)(hc:c<=items.size):slicePick items (some (c:Int)) none (some 2)=(kS c ((items.size-c+1)/2) items.toList).toArray:=by
 unfold slicePick;have e:sliceBounds (some (c:Int)) none (some 2) items.size=((c:Int),(items.size:Int),2):=by
  show ((if (2:Int)>0 then max 0 (min (if (c:Int)<0 then (c:Int)+items.size else (c:Int)) items.size)else _),(if (2:Int)>0 then (items.size:Int)else -1),(2:Int))=_;have Z:max 0 (min (if (c:Int)<0 then (c:Int)+items.size else (c:Int)) items.size)=(c:Int):=by grind
  rw[Z];rfl
 rw[e,ZI c items.size hc,PR];congr 1;congr 1
 funext k
 simp
def zfh(K:Frag)(te:TE)(tl to:TO):TE:=λσ H Q=>te σ H λx H1=>tl σ H1 λo1 H2=>to σ H2 λo H3=>o=some 2/\∃(c:Nat) (a:Addr) (xs:List V),o1=some (c:Int)/\x=.ref a/\ai K H3 a xs/\c<=xs.length /\
 ∀p,H3 p=none->Q (.ref p) (upd H3 p (.lst (kS c ((xs.length-c+1)/2) xs)))
def A6(he:PE X e te)(sr:PO X (some lo) tl)(bp:PO X (some st) to):PE X (.Subscript e (.Slice (some lo) none (some st) p2) pos) (zfh X.K te tl to):=by
 intro J s σ H Q I h;show tZ (ax (he J s σ H _ I h) ?_);rintro v s1 ⟨x,H1,I1,r1,q1⟩;show wpAny_Slice (ax (sr J s1 σ H1 _ I1 q1) ?_);rintro vl s2 ⟨o1,H2,I2,pl,q2⟩;rw[Iu];show aS (ax (bp J s2 σ H2 _ I2 q2) ?_);rintro vk s3 ⟨o,H3,I3,pk,q3⟩;obtain⟨rfl,c,a,xs,rfl,rfl,hx,hc,q⟩:=q3;cases r1;have I4:Inv X J σ H3 {s3 with heap:=s3.heap.push {cls:=.type "slice",data:=.fields #[vl,.none,vk]}}:=I3.kept (t':=s3.toks) λb ob q=>bZ _ q
 obtain⟨ae,r,ht,hz⟩:=I4.list hx;have aL:=r.length;show tail_any (ops:=[.ref a,.ref s3.heap.objs.size]) ht.isList.typeIs slot_list_getitem.lookup ?_ (by with_unfolding_all rfl);show Q0 ht.isList (Od ..) pl .none pk tS ?_ (by simp_all);rw[zf7 _ c (by simp_all)];exists .ref _,_,I4.laid (o:=.lst (kS c ((xs.length-c+1)/2) xs)) (t':=s3.toks) (λb ob q=>bZ _ q) (aC _) ?_,Y,q _ (I4.hok.fresh (aC _));exists ?_,kS c ((xs.length-c+1)/2) ae,0,Ul r (λk=>c+2*k) _,?_
 .unfold kS;show a9 (List.length_filterMap_le _ _) ?_;rw[lh];show a9 ((show ∀n c:Nat,(n-c+1)/2<=n by lia) _ _) hz
 .rw[cQ _ rfl,eR,<-aL]
end
end L2
namespace My
open PySem L2 OF
def zd5(c n:Nat)(ns:List Int)(h:ns.length=2*n)(hc:c<2):kS c n (ns.map V.int)=((List.range n).map λk=>c5 ns (2*k+c)).map V.int:=by
 rw[cE];have key:∀ks:List Nat,(∀k∈ks,k<n)->(ks.filterMap λk=>(ns.map V.int)[c+2*k]?)=ks.map (V.int ∘ λk=>c5 ns (2*k+c)):=λks=>by
  induction ks with
  |nil=>intro _;rfl
  |cons k ks ih =>
   intro hk;have jB:=hk k (jP ..);have e:(λk=>(ns.map V.int)[c+2*k]?) k=some (V.int (c5 ns (2*k+c))):=by
    show (ns.map V.int)[c+2*k]?=_;rw[c9,fT (by lia:c+2*k<ns.length)];unfold c5;rw[zj,show 2*k+c=c+2*k by lia,fT (by lia:c+2*k<ns.length)];rfl
   rw[Kj (f:=λk=>(ns.map V.int)[c+2*k]?) e,ih λj hj=>hk j (cX _ hj)];rfl
 show key _ λk hk=>eG.mp hk
open PySem L2 OF
def vw(k:Nat)(o l:ak):ak:=rT k l++bt (oa k l) o
def zdK(h0:∀t∈l,0<=t.1)(h:t∈oa k l):0<=t.1/\∃u∈l,t.2=u.2/\t.1=u.1-2^k/\mn k u=true:=by
 obtain⟨u,hu,rfl⟩:=aU.mp h;obtain⟨Z,M⟩:=tX.mp hu
 have:=zff (h0 u Z) M
 exists by simp_all,u,Z,Y,Y,M
open PySem L2 OF
def dW(H:Hp):List Addr->List ak->Prop:=Paired λp f=>aI H p f
def dW.length(h:dW H ps l):ps.length=l.length:=eo h
def dW.keep(h:dW H ps l)(k:ag H O):dW O ps l:=Paired.mapP h λp t e=>e.keep k
theorem dW.snoc:∀{H:Hp}{ps:List Addr}{l:List ak}{p:Addr}{t:ak},dW H ps l->aI H p t->dW H (ps++[p]) (l++[t])
 |_,_,_,_,_,.nil,e=>.cons e .nil
 |_,_,_,_,_,.cons x r,e=>.cons x (dW.snoc r e)
def Yn(H:Hp)(a:Addr)(l:List ak):Prop:=∃ps:List Addr,H a=some (.lst (ps.map V.ref))/\dW H ps l
def gG(w:Nat)(l o:ak):ak:=if w=0 then bt l o else (l++o)++(bt l o).map λt=>(t.1,t.2*(if w=1 then -1 else -2))
noncomputable def zeu(l:ak):ak:=[(0,1)]++l.map λt=>(t.1,-t.2)
theorem HL(t:Int×Int)(j:Int):∀m:ak,aA (dm t m) j=t.2*cY (λi=>if Builtin.bitOr t.1 i=j then 1 else 0) m
 |[]=>by simp[dm,aA,cY]
 |u::m=>by
  have ih:=HL t j m;unfold dm at *;rw[bz];simp only[aA,cY];rw[ih,VU];by_cases h:Builtin.bitOr t.1 u.1=j
  .rw[aj h,aj h];simp
  .rw[ah h,ah h];simp
theorem IQ(h:∀j,aA m j=aA m' j)(j:Int):∀l:ak,aA (bt l m) j=aA (bt l m') j
 |[]=>rfl
 |t::l=>by
  have ih:=IQ h j l;show aA (dm t m++bt l m) j=aA (dm t m'++bt l m') j;rw[gi,gi,ih,HL,HL,W4 _ h]
def Tt(hf:IsForm f)(hk:∀t∈f,0<=t.1/\t.1<2^qad):f.length<=2^qad:=by
 have pw:((2:Int)^qad)=((2^qad:Nat):Int):=by norm_cast
 have Z:=sE (mM hf) (B:=(List.range (2^qad)).map λk:Nat=>(k:Int)) λx hx=>by
  obtain⟨t,ht,rfl⟩:=aU.mp hx
  have:=hk t ht
  show aU.mpr ⟨t.1.toNat,eG.mpr tL,vg this.1⟩
 simpa using Z
theorem dW.keepU{H:Hp}{D:Addr}{xs:List V}{o:HO}(hD:H D=some (.lst xs)):∀{ps:List Addr}{l:List ak},dW H ps l->D∉ps->dW (upd H D o) ps l
 |_,_,.nil,_=>.nil
 |_,_,.cons e r,h=>by
  show .cons ?_ (dW.keepU hD r λz=>h (cX _ z));obtain⟨qs,Z,M⟩:=e;show⟨qs,by rw[aG (λz=>h (by rw[z];show jP ..))];show Z,M.keep λb zs z=>by rw[aG (CF z hD (by simp))];show z⟩
open PySem L2 OF
def JK{l:ak}{U:Nat}(h0:∀t∈l,0<=t.1)(hU:∀j,(dJ l 0).testBit j=true->U.testBit j=true):∀t∈l,0<=t.1/\t.1<2^intBits (U:Int):=λt ht=>by
 exists h0 t ht,?_;have Z:t.1.toNat<2^intBits (U:Int):=by
  show Fy _ λj hj=>?_
  cases e:t.1.toNat.testBit j
  .rfl
  .have M:=hU j ((Kf l 0 j).mpr (.inr ⟨t,ht,e⟩));rw[zl (cP (EB U) (eO tD hj))]at M;cases M
 have pw:((2:Int)^intBits (U:Int))=((2^intBits (U:Int):Nat):Int):=by norm_cast
 have:=h0 t ht
 lia
def Ym(ns:List Int)(c:Nat):dy (ns.map V.int) none (some (c:Int))=(ns.take c).map V.int:=by
 unfold dy;rw[HT.sIx_none,HT.sIx_nat,ar,lS,PX,<-tY];congr 1;by_cases h:c<=ns.length
 .rw[gQ h]
 .rw[lM tL,eV,f9 tL]
open PySem L2 OF
def Yc(K:Frag):Sp:=λvs H Q _=>∃(a:Addr) (ns:List Int) (k:Nat),vs=[.ref a,.int (k:Int)]/\ai K H a (ns.map V.int)/\Q (.int (ns.getD k 0)) H
def zdn:Sp:=λvs H Q _=>∃c k:Int,vs=[.int c,.int k] /\ -(2^64)<k/\k<2^64/\∀r,0<=r->r<2147483587->Q (.int r) H
end My
namespace L2
open PySem PySem.Spec PyProof.Rows
section
variable{X:Cx}{e st lo hi:Expr}{te:TE}{tl th to:TO}{p2 pos:Pos}
def Pc(m:Int)(ns:List Int):Prop:=m∈ns/\∀n∈ns,m<=n
def Wv(hi:IntsAre us ns)(pT:us.toArray=intItems xs)(cw:0<xs.size)(hP:(intItems xs)[argBest (λi j=>decide (numAt xs i<numAt xs j)) (xs.size-1)]?=some v) :
  ∃m t,v=.int m t/\Pc m ns:=by
 obtain⟨t,rfl⟩:=intItems_at hP;exists _,t,Y,?_,λn hn=>?_
 all_goals
  have hs:xs.toList.map (·.1)=ns:=by
   rw[<-nums_intItems,<-pT];show (show numsOf us.toArray.toList=ns from hi.numsOf)
  obtain⟨b1,b2⟩:=argBest_lt (numAt xs) (xs.size-1);have jR:∀j,j<xs.size->ns[j]?=some (numAt xs j):=λj hj=>by
   rw[<-hs,c9];unfold numAt;rw[rE,mP hj];rfl
 .exact c8 (jR _ tO)
 .obtain⟨j,hj⟩:=List.getElem?_of_mem hn;have oN:j<xs.size:=by
   have:=(cq.mp hj).1
   rw[<-hs,ar,gy]at this;show this
  rw[jR j oN]at hj;cases hj;show b2 j tL
def zdt(hc:X.calm=true):gA X (.builtin "min") (λxs H Q=>∃(a:Addr) (ns:List Int),xs=[.ref a]/\ai X.K H a (ns.map V.int)/\0<ns.length/\∀m,Pc m ns->Q (.int m) H):=by
 intro J s σ H xs us Q I r h;obtain⟨a,ns,rfl,hq,cw,q⟩:=h;obtain⟨u,rfl,ru⟩:=gF r;cases (show u=Value.ref a from ru);obtain⟨ae,rv,p,hz⟩:=I.list hq;have hi:=wu rv;obtain⟨zs,pT⟩:=hi.allInts.items;have hsz:0<zs.size:=by
  have Z:=rv.length;rw[ar]at Z;have M:ae.toArray.size=zs.size:=by rw[pT];simp[intItems]
  rw[eR]at M;lia
 show min_intList (I.ok.hd hc) (pT ▸ p.isList) hsz λv h' tk hP hk=>?_
 obtain⟨m,t,rfl,hm⟩:=Wv hi pT hsz hP;exists .int m,H,I.kept (t':=tk) hk,⟨t,Y⟩,q m hm
theorem JM:∀{bs:List Bool}{us:List Value},Vals (bs.map V.bl) us->∀(i:Nat) (v:Value),us[i]?=some v->∃b,bs[i]?=some b/\v=.bool b
 |[],us,r,i,v,h=>by rw[o6]at r;cases r;simp at h
 |b::bs,us,r,i,v,h=>by
  rw[bz]at r;cases r with
  |cons r1 r2 =>
   cases i with
   |zero =>
    have e:=di h;subst e;exists b,Y,r1
   |succ i=>show JM r2 i v h
def Xs(hc:X.calm=true):gA X (.builtin "all") (λxs H Q=>∃(a:Addr) (bs:List Bool),xs=[.ref a]/\ai X.K H a (bs.map V.bl)/\Q (.bl (bs.all id)) H):=by
 intro J s σ H xs us Q I r h;obtain⟨a,bs,rfl,hq,q⟩:=h;obtain⟨u,rfl,ru⟩:=gF r;cases (show u=Value.ref a from ru);obtain⟨ae,rv,p,hz⟩:=I.list hq;have hl:=p.isList;have aF:a<s.heap.objs.size:=by obtain⟨_,e,_⟩:=hl;show bh e
 have hh:=I.ok.hd hc;show call_all_walk (vZ hl ?_);show⟨s.heap.objs.size,[s.heap.objs.size,a],[s.heap.objs.size],ae.toArray.size,_,_,λi=>(bs[i]?).getD true,Y,Va (A:=X.A.in1) hh _ a (bR aF) ae.toArray,⟨⟨_,cQ _ Y,Y,Y⟩,hl.push _⟩,λi v s' Q' E' hP hQ=>?_,λh' tk hk=>?_⟩
 .obtain⟨b,e,rfl⟩:=JM rv i v (by simpa using hP);simp only[e,Ax]at hQ;show mH hQ
 .have e:((List.range ae.toArray.size).all λi=>(bs[i]?).getD true)=bs.all id:=by
   have Z:=rv.length;rw[ar]at Z;rw[eR,<-Z];rw[oQ,kH,kH];constructor
   .intro z b hb;obtain⟨i,hi,rfl⟩:=xZ hb
    have:=z i (eG.mpr hi)
    simpa [fT hi] using this
   .intro z i hi;have cD:=eG.mp hi;simp only[fT cD,Ax];show z _ (Ov cD)
  rw[e];exists .bl (bs.all id),H,I.kept (t':=tk) (λb o e=>hk b o (λhm=>?_) (bZ _ e)),Y,q;rw[bH.mp hm]at e;show nJ _ (bh e)
end
open PySem PySem.Spec PyProof.Rows
section
variable{X:Cx}
def zfy (hc:X.calm=true):gA X (.builtin "sorted") (fun xs H Q=>∃ (a:Addr) (ns:List Int),xs=[.ref a]/\ai X.K H a (ns.map V.int)/\ns.length<64 /\ ∀(l:Addr) (dU:List Int),H l=none->dU.Perm ns->dU.Pairwise (· <= ·)->Q (.ref l) (upd H l (.lst (dU.map V.int)))):=by
 intro J s σ H xs us Q I r h;obtain⟨a,ns,rfl,hq,wy,q⟩:=h;obtain⟨u,rfl,ru⟩:=gF r;cases (show u=Value.ref a from ru);obtain⟨ae,rv,p,hz⟩:=I.list hq;have hi:=wu rv;have aL:=rv.length;rw[ar]at aL;show sorted_ints p.isList hi tL λout dU a1 a2 a3=>?_
 have hsz:((s.heap.push (seqObj "list" #[] 0)).update s.heap.objs.size (Obj.mapSeq (· ++ ae.toArray))).objs.size=s.heap.objs.size+1:=by simp
 have iV:(((s.heap.push (seqObj "list" #[] 0)).update s.heap.objs.size (Obj.mapSeq (· ++ ae.toArray))).push (seqObj "list" ae.toArray 0)).get? (s.heap.objs.size+1)=some (seqObj "list" ae.toArray 0):=by
  rw[<-hsz];show cQ _ rfl
 have keep:∀b o,s.heap.get? b=some o->(sortedAll s.heap ae out).get? b=some o:=λb o e=>by
  have aF:b<s.heap.objs.size:=bh e;unfold sortedAll;rw[Aj (bR (gV aF)) (by rw[sv,hsz];show gV (gV aF))];rw[j9 _ _ _ (by rw[hsz];show bR (gV aF)),uE _ _ _ _ (bR aF),j9 _ _ _ (bR aF)];show e
 have nD:s.heap.get? (s.heap.objs.size+1)=none:=uH (mK _);obtain⟨ee,vK⟩:=BM (out:=out) iV;have sN:H (s.heap.objs.size+1)=none:=by
  cases e:H (s.heap.objs.size+1)with
  |none=>rfl
  |some o=>obtain⟨ob,e'⟩:=(I.hok _ _ e).there;rw[nD]at e';cases e'
 have m8:Vals (dU.map V.int) out.toList:=CZ a1;have Ab:dU.length=ns.length:=a2.length_eq;exists .ref (s.heap.objs.size+1),_,I.laidN (o:=.lst (dU.map V.int)) (t':=s.toks) keep nD ⟨by simp_all,out.toList,ee,m8,by simpa [sortedAll] using vK⟩,Y,q _ dU sN a2 a3
end
end L2
namespace My
open PySem L2 OF
def RC(K:Nat):((2:Int)^K)=((2^K:Nat):Int):=by norm_cast
open PySem L2 OF
inductive Sm where
 |bit (k:Nat)|fix (b:Int)|no (s:Sm)|two (w:Nat) (s t:Sm)
def Sm.d:Sm->D
 |.bit k=>.tup [.str "bit",.int (k:Int)]
 |.fix b=>.tup [.str "fix",.int b]
 |.no s=>.tup [.str "not",s.d]
 |.two w s t=>.tup [.str (wd w),s.d,t.d]
noncomputable def Sm.dp:Sm->Nat
 |.bit _=>0
 |.fix _=>0
 |.no s=>s.dp+1
 |.two _ s t=>max s.dp t.dp+1
def Sm.ok(P:Nat->Prop):Sm->Prop
 |.bit k=>P k
 |.fix b=>b=0\/b=1
 |.no s=>s.ok P
 |.two w s t=>w<3/\s.ok P/\t.ok P
theorem Sm.ok.imp(f:∀k,P k->R k):∀{s:Sm},s.ok P->s.ok R
 |.bit k,h=>f k h
 |.fix _,h=>h
 |.no s,h=>Sm.ok.imp (s:=s) f h
 |.two w s t,h=>⟨h.1,Sm.ok.imp f h.2.1,Sm.ok.imp f h.2.2⟩
def Aw:Is H v (.tup [d,e])->∃p x y,v=.ref p/\H p=some (.tup [x,y])/\Is H x d/\Is H y e:=λh=>by
 obtain⟨p,xs,rfl,Z,M⟩:=h;obtain⟨x0,r0,rfl,h3,h4⟩:=M;obtain⟨x1,r1,rfl,h5,h6⟩:=h4;subst h6;exists p,x0,x1,Y,Z,h3,h5
def zcd:Is H v (.tup [d,e,f])->∃p x y z,v=.ref p/\H p=some (.tup [x,y,z])/\Is H x d/\Is H y e/\Is H z f:=λh=>by
 obtain⟨p,xs,rfl,Z,M⟩:=h;obtain⟨x0,r0,rfl,h3,h4⟩:=M;obtain⟨x1,r1,rfl,h5,h6⟩:=h4;obtain⟨x2,r2,rfl,h7,h8⟩:=h6;subst h8;exists p,x0,x1,x2,Y,Z,h3,h5,h7
def nO(h:H p=some (.tup [x,y]))(Z:Is H x d)(M:Is H y e):Is H (.ref p) (.tup [d,e]):=by
 exists p,_,Y,h,?_;exists _,_,Y,Z,?_;exists _,_,Y,M,?_;rfl
def Wd(h:H p=some (.tup [x,y,z]))(Z:Is H x d)(M:Is H y e)(h3:Is H z f):Is H (.ref p) (.tup [d,e,f]):=by
 exists p,_,Y,h,?_;exists _,_,Y,Z,?_;exists _,_,Y,M,?_;exists _,_,Y,h3,?_;rfl
def bE:Is H v (.str x)↔v=.str x:=by unfold Is;show Iff.rfl
def qT:Is H v (.int x)↔v=.int x:=by unfold Is;show Iff.rfl
def yc(h:Is H v (Sm.bit k).d):∃p,v=.ref p/\H p=some (.tup [.str "bit",.int (k:Int)]):=by
 obtain⟨p,x,y,rfl,Z,M,h3⟩:=Aw h;rw[bE]at M;rw[qT]at h3;subst M h3;exists p,Y,Z
def B8(h:Is H v (Sm.fix b).d):∃p,v=.ref p/\H p=some (.tup [.str "fix",.int b]):=by
 obtain⟨p,x,y,rfl,Z,M,h3⟩:=Aw h;rw[bE]at M;rw[qT]at h3;subst M h3;exists p,Y,Z
def yJ(h:Is H v (Sm.no s).d):∃p x,v=.ref p/\H p=some (.tup [.str "not",x])/\Is H x s.d:=by
 obtain⟨p,x,y,rfl,Z,M,h3⟩:=Aw h;rw[bE]at M;subst M;exists p,y,Y,Z,h3
def vL(h:Is H v (Sm.two w s t).d):∃p x y,v=.ref p/\H p=some (.tup [.str (wd w),x,y])/\Is H x s.d/\Is H y t.d:=by
 obtain⟨p,x,y,z,rfl,Z,M,h3,h4⟩:=zcd h;rw[bE]at M;subst M;exists p,y,z,Y,Z,h3,h4
theorem jK(k:∀p xs,H p=some (.tup xs)->O p=some (.tup xs)):∀{s:Sm}{v:V},Is H v s.d->Is O v s.d
 |.bit j,v,h=>by obtain⟨p,rfl,Z⟩:=yc h;show nO (k _ _ Z) (bE.mpr Y) (qT.mpr Y)
 |.fix j,v,h=>by obtain⟨p,rfl,Z⟩:=B8 h;show nO (k _ _ Z) (bE.mpr Y) (qT.mpr Y)
 |.no s,v,h=>by obtain⟨p,x,rfl,Z,M⟩:=yJ h;show nO (k _ _ Z) (bE.mpr Y) (jK k M)
 |.two w s t,v,h=>by obtain⟨p,x,y,rfl,Z,M,h3⟩:=vL h;show Wd (k _ _ Z) (bE.mpr Y) (jK k M) (jK k h3)
def wZ:(wd w ≠ "bit")/\(wd w ≠ "fix")/\(wd w ≠ "not"):=by
 match w with
 |0=>decide
 |1=>decide
 |n+2=>show ("xor" : Str) ≠ "bit" /\ ("xor" : Str) ≠ "fix" /\ ("xor" : Str) ≠ "not";decide
end My
namespace OS
open PySem PySem.W PyProof.Rows
section
variable{prog:Program}{w:World}{A:Around}{E:Value->Shared->Prop}{s:Shared}
def zdH{a:Addr}{vs:List Value}{n:Nat}{P:PySem.Fin->Shared->Prop}(ho:s.heap.get? a=some (seqObj "list" vs.toArray n))(M:vs.length<2)
  (h:P (.done (.ret .none)) {s with heap:=sortedHeap s.heap a vs vs.toArray}):wpAny (model prog w) A (Builtin.«list.sort» ⟨[.ref a],[]⟩) P E s:=by
 have ha:a<s.heap.objs.size:=bh ho;obtain⟨e1,pQ⟩:∃e1,(s.heap.update a (Obj.mapSeq λ_=>(#[]:Array Value))).get? a=some (seqObj "list" #[] e1):=⟨_,Dw ho λ_ => #[]⟩;rw[Gp];show aq (listItems_at ho Y ?_);show aq (uK ho Y ?_ (by rw[eR,jZ];lia) (bJ _));show aq (ui pQ Y ?_);show aq (BF ?_ (by show vs.length<=_;rw[jZ];lia));show aq (wY ?_ (bJ _));show kI ?_;have qp:(((s.heap.update a (Obj.mapSeq λ_ => #[])).push (seqObj "tuple" vs.toArray 0)).push (seqObj "list" #[] 0)).get? a=some (seqObj "list" #[] e1):=by
  have l1:a≠((s.heap.update a (Obj.mapSeq λ_ => #[])).push (seqObj "tuple" vs.toArray 0)).objs.size:=by rw[sv,uW];show bR (gV ha)
  have l2:a≠(s.heap.update a (Obj.mapSeq λ_ => #[])).objs.size:=by rw[uW];show bR ha
  rw[j9 _ _ _ l1,j9 _ _ _ l2];show pQ
 show wpAny (model prog w) A _ P E {s with heap:=((s.heap.update a (Obj.mapSeq λ_=>(#[]:Array Value))).push (seqObj "tuple" vs.toArray 0)).push (seqObj "list" #[] 0)};dsimp only;have df:vs.toArray.size<2:=by assumption
 rw[aj df,aj df];show aq (aS ?_);show aq (aS ?_);have yC:((vs.toArray.zip vs.toArray).map (·.2))=vs.toArray:=by
  apply Array.toList_inj.mp;rw[Pu,Ss];show Ie (aC _)
 dsimp only;show aq (ui qp Y ?_);show aq (uK qp Y ?_ (bJ _) ?_)
 .rw[ah tS];have e:(Array.map (λx=>x.snd) (arrOf (SortSt.mk' general' (vs.toArray.zip vs.toArray) #[] 7 none)))=vs.toArray:=yC;rw[e];show aS h
 .show (Array.map (λx=>x.snd) (vs.toArray.zip vs.toArray)).size<=sizeLine+1;rw[yC,eR,jZ];lia
end
end OS
namespace L2
open PySem PySem.Spec PyProof.Rows
def wg(K:Frag)(a:Addr)(n:Nat):It :=
 ⟨λi H=>∃xs x,ai K H a xs/\i<n/\xs[n-1-i]?=some x,λi H x O=>O=H/\∀xs,ai K H a xs->xs[n-1-i]?=some x,λi _=>n<=i⟩
def Xn{P:Program}{w:World}{K:Frag}{tg:Expr}(a it:Addr)(n:Nat) :
  mf P w K tg (wg K a n) [it] it (λi h=>i<=n/\h.IsRevIter it a ((n:Int)-1-(i:Int))) where
 mem:=bH.mpr rfl
 obj:=λi h st b hb=>by
  obtain⟨_,o,e,c,d⟩:=st;rw[bH.mp hb];show⟨o,e,λv z=>by simp_all⟩
 keep:=λi h h' st k=>⟨st.1,st.2.at (k it (bH.mpr Y))⟩
 item:=by
  intro X hP hw hK hc i J s σ H E I hf st hg;subst hP hw hK;obtain⟨xs,x,hq,hi,hx⟩:=hg;obtain⟨ae,rv,p,_⟩:=I.list hq;obtain⟨u,hu,ru⟩:=rv.get hx;have fo:=hf it (bH.mpr Y);have hit:=st.2;rw[show (n:Int)-1-(i:Int)=((n-1-i:Nat):Int) by omega]at hit;show wpAny_pyNext_rev_item hit p.isList (x:=u) (by simpa using hu) λh' af sb=>?_
  have qae:=I.turned (t':=s.toks) (λb o hb z=>(sb.2 b hb).trans z) fo.1 fo.2.1 fo.2.2.2.1 fo.2.2.2.2.1 fo.2.2.2.2.2;rw[show ((n-1-i:Nat):Int)-1=(n:Int)-1-((i+1:Nat):Int) by omega]at af;have bg:=af;obtain⟨o,z1,z2,z3⟩:=af;exists u,Y,uo (s:={s with heap:=h'}) z1 z2 z3 tD ⟨x,H,qae,ru,⟨Y,λys hy=>by rw[I.list_inj hy hq];show hx⟩,⟨hi,bg⟩,λb hb=>(hf b hb).1⟩
 done:=by
  intro X hP hw hK hc i J s σ H E I hf st hg;subst hP hw hK;have fo:=hf it (bH.mpr Y);have hn:n<=i:=hg;have hit:=st.2;have hle:=st.1;rw[show (n:Int)-1-(i:Int) = -1 by lia]at hit;show wpAny_pyNext_rev_end (I.ok.hd hc) hit λh' eb=>⟨Y,I.turned (t':=s.toks) (λb o hb z=>eb b o hb z) fo.1 fo.2.1 fo.2.2.2.1 fo.2.2.2.2.1 fo.2.2.2.2.2⟩
 self:=λ_ _ _ _ _ st h=>wpAny_pyIter_revIter st.2 h
def zdh(K:Frag)(ta:TA):TI:=λσ H R=>ta σ H λvs H1=>∃a xs,vs=[.ref a]/\ai K H1 a xs/\R (wg K a xs.length) H1
def zgo{X:Cx}{tg a:Expr}{ta:TA}{p pos:Pos}(hg:Gl X "reversed")(hm:X.mg "reversed" = none)(ha:PA X [a] ta)(hs:starEach [a] X.env=[(false,eval a X.env)]:=by rfl) :
  PI X tg (.Call (.Name "reversed" p) [a] [] pos) (zdh X.K ta):=by
 intro J s σ H R I h;show Call_ (nq I hg hm boot_reversed (su (ax (ha pos J s σ H _ I h) ?_) hs Y));rintro us s1 ⟨vs,H1,I1,r1,q1⟩;obtain⟨l,xs,rfl,hq,q⟩:=q1;obtain⟨u,rfl,ru⟩:=Vals.one r1;cases (show u=Value.ref l from ru);obtain⟨ae,rx,p,hz⟩:=I1.list hq;have pB:=rx.length;show call_reversed_list p.isList (wpAny_pyIter_revIter (it:=s1.heap.objs.size) (l:=l) (i:=((ae.toArray.size:Nat):Int)-1) ⟨_,cQ _ Y,Y,Y⟩ ?_);exists s1.heap.objs.size,[s1.heap.objs.size],_,_,H1,Y,I1.kept (t':=s1.toks) λb o e=>bZ _ e,Xn l _ xs.length,⟨bJ _,?_⟩,λb hb=>?_,q
 .rw[show ((xs.length:Nat):Int)-1-((0:Nat):Int)=((ae.toArray.size:Nat):Int)-1 by simp_all];exists _,cQ _ Y,Y,rfl
 .rw[bH.mp hb];show I1.fpOk (aC _) (I1.hok.fresh (aC _))
def zg3{K:Frag}{a:Addr}{xs:List V}{g:TG}{tb:TS}{D:je}{σ:St}{H:Hp}(Pv:Nat->St->Hp->Prop)(h0:Pv 0 σ H)(hl:∀i σ H,i<=xs.length->Pv i σ H->ai K H a xs)
  (hs:∀i x σ H,xs.reverse[i]?=some x->Pv i σ H->g x σ H λσ2 H2=>tb {D with nx:=Pv (i+1),ct:=Pv (i+1),bk:=D.nx} σ2 H2) (hd:∀σ H,Pv xs.length σ H->D.nx σ H) :
  ∃W:Nat->Nat->St->Hp->Prop,(∃m,W 0 m σ H)/\∀i m σ H,W i m σ H ->
   ((wg K a xs.length).stop i H/\D.nx σ H)\/((wg K a xs.length).go i H/\∃N:St->Hp->Prop,(∀σ' O,N σ' O->∃m',m'<m/\W (i+1) m' σ' O)/\∀x O,(wg K a xs.length).yld i H x O->g x σ O λσ2 H2=>tb {D with nx:=N,ct:=N,bk:=D.nx} σ2 H2):=by
 exists λi m σ H=>m=xs.length-i/\i<=xs.length/\Pv i σ H,⟨xs.length,tS,bJ _,h0⟩,?_;rintro i m σ H ⟨em,hi,p⟩;subst em;have q:=hl i σ H hi p;rcases lj i xs.length with aF|fE
 .have hb:xs.length-1-i<xs.length:=by omega
  show .inr ⟨⟨xs,xs[xs.length-1-i],q,aF,fT hb⟩,Pv (i+1),λσ' O p'=>⟨xs.length-(i+1),tL,Y,aF,p'⟩,λx O y=>?_⟩;rw[y.1];show hs i x σ H (by rw[List.getElem?_reverse aF];show y.2 xs q) p
 .have e:i=xs.length:=by lia
  rw[e]at p;show .inl ⟨fE,hd σ H p⟩
def zcZ(K:Frag):V->List V->Hp->VK->Prop:=λx vs H Q=>∃l b xs zs,x=.ref l/\vs=[.ref b]/\H l=some (.lst xs)/\aD K H b zs/\xs.length+zs.length<=sizeLine/\Q .non (upd H l (.lst (xs++zs)))
def ze6{prog:Program}{w:World}{A:Around}{E:Value->Shared->Prop}{s:Shared}{l b:Addr}{ae dB:List Value}{n:Nat}{Q:Value->Shared->Prop}
  (e:s.heap.get? l=some {cls:=.type "list",data:=.seq ae.toArray n}) (hb:IsTup s.heap b dB.toArray) (hz:ae.length+dB.length<=sizeLine)
  (h:Q .none {s with heap:=s.heap.update l (Obj.mapSeq λx=>x++dB.toArray)}):wpAny (model prog w) A (call (.builtin "list.extend") [.ref l,.ref b]) Q E s:=by
 obtain⟨o,ho,hc,k,hd⟩:=hb;show my F.slot_list_extend ⟨_,e,Y⟩ F.entry_list_extend ?_ (F.args_list_extend_2 _ _);show aq (wpAny_of_eq (a:=(Value.ref l,Value.ref b)) Y ?_);show aq (Dx (T := "tuple") ⟨o,ho,hc⟩ ?_);rw[aj (by simp)];show aq (wpAny_listItems ho hd ?_);show aq (wpAny_listItems e Y ?_);have FH:¬(!ae.toArray.isEmpty&&Builtin.List.listTooLong (ae.toArray.size+dB.toArray.size))=true:=by
  rw[VL (by assumption),yv];show dj
 rw[ah FH];show aq ?_;show wpAny_updateSeq e Y ?_ (by rw[eR];lia) (by grind);show aS ⟨_,Y,h⟩
def zbW{X:Cx}:gn X "list.extend" (zcZ X.K):=by
 intro J s σ H x vs v us Q I rx rv h;obtain⟨l,b,xs,zs,rfl,rfl,hH,hB,hz,q⟩:=h;cases rx;obtain⟨u,rfl,ru⟩:=rv.one;cases ru;obtain⟨z,ae,n,r,hl,e⟩:=I.lstM hH;obtain⟨dB,r2,pl,_⟩:=I.tuple hB;have dO:=r2.length;show ze6 e pl tL ⟨.non,_,I.lset (its':=ae++dB) hH e tS (r.append r2) ?_,Y,q⟩;rw[aX];show hz
end L2
namespace My
open PySem L2 OF
noncomputable def Sm.sz:Sm->Nat
 |.bit _=>1
 |.fix _=>1
 |.no s=>s.sz+1
 |.two _ s t=>s.sz+t.sz+1
noncomputable def Sm.pre:Sm->List Sm
 |.bit k=>[.bit k]
 |.fix b=>[.fix b]
 |.no s=>.no s::s.pre
 |.two w s t=>.two w s t::(t.pre++s.pre)
theorem Sm.pre_len:∀s:Sm,s.pre.length=s.sz
 |.bit _=>rfl
 |.fix _=>rfl
 |.no s=>by show s.pre.length+1=s.sz+1;rw[pre_len s]
 |.two w s t=>by show (t.pre++s.pre).length+1=s.sz+t.sz+1;rw[aX,pre_len s,pre_len t];lia
theorem Sm.sz_pos:∀s:Sm,0<s.sz
 |.bit _=>Nat.one_pos
 |.fix _=>Nat.one_pos
 |.no s=>UD _
 |.two w s t=>UD _
theorem Sm.sz_dp:∀s:Sm,s.sz+1<=2^(s.dp+1)
 |.bit _=>aC _
 |.fix _=>aC _
 |.no s=>by
  have:=sz_dp s
  show s.sz+1+1<=2^(s.dp+1+1);rw[jL]
  have:=sz_pos s
  lia
 |.two w s t=>by
  have Z:=sz_dp s;have M:=sz_dp t;have k1:2^(s.dp+1)<=2^(max s.dp t.dp+1):=eO tD tL;have k2:2^(t.dp+1)<=2^(max s.dp t.dp+1):=eO tD tL;show s.sz+t.sz+1+1<=2^(max s.dp t.dp+1+1);rw[jL];lia
def zdd(st:List Sm):Sm->List Sm->Prop
 |.bit k,af=>af=st++[.bit k]
 |.fix b,af=>af=st++[.fix b]
 |.no s,af=>∃a,st=a++[s]/\af=a++[.no s]
 |.two w s t,af=>∃a,st=a++[s,t]/\af=a++[.two w s t]
def qK(fin:List Sm):List Sm->List Sm->Prop
 |st,[]=>st=fin
 |st,p::L=>∃af,zdd st p af/\qK fin af L
theorem BB:∀(s:Sm) (st L:List Sm),qK fin (st++[s]) L->qK fin st (s.pre.reverse++L)
 |.bit k,st,L,h=>⟨_,Y,h⟩
 |.fix b,st,L,h=>⟨_,Y,h⟩
 |.no s,st,L,h=>by
  show qK fin st ((Sm.no s::s.pre).reverse++L);rw[Al,dG];show BB s st _ ⟨_,⟨st,Y,Y⟩,h⟩
 |.two w s t,st,L,h=>by
  show qK fin st ((Sm.two w s t::(t.pre++s.pre)).reverse++L);rw[Al,mQ,dG,dG];show BB s st _ (BB t _ _ ⟨_,⟨st,by simp,Y⟩,h⟩)
abbrev d6(G:Hp):List V->List Sm->Prop:=Paired λx s=>Is G x s.d
theorem d6.snoc:∀{G:Hp}{xs:List V}{l:List Sm}{x:V}{s:Sm},d6 G xs l->Is G x s.d->d6 G (xs++[x]) (l++[s])
 |_,_,_,_,_,.nil,h=>.cons h .nil
 |_,_,_,_,_,.cons e r,h=>.cons e (d6.snoc r h)
theorem d6.last:∀{G:Hp}{xs:List V}{l:List Sm},d6 G xs l->xs≠[]->∃ys y m s,xs=ys++[y]/\l=m++[s]/\d6 G ys m/\Is G y s.d
 |_,_,_,.nil,h=>absurd Y h
 |_,_,_,.cons (l₁:=[]) e .nil,h=>⟨[],_,[],_,Y,Y,.nil,e⟩
 |G,x::y::xs,s::l,.cons e r,h=>by
  obtain⟨ys,z,m,t,e1,e2,Z,M⟩:=d6.last r tS;rw[e1,e2];exists x::ys,z,s::m,t,Y,Y,.cons e Z,M
theorem d6.rev:∀{G:Hp}{xs:List V}{l:List Sm},d6 G xs l->d6 G xs.reverse l.reverse
 |_,_,_,.nil=>.nil
 |_,_,_,.cons e r=>by rw[Al,Al];show (d6.rev r).snoc e
theorem d6.at:∀{G:Hp}{xs:List V}{l:List Sm}{i:Nat}{x:V},d6 G xs l->xs[i]?=some x->∃s,l[i]?=some s/\Is G x s.d
 |_,_,_,_,_,.nil,h=>by cases h
 |_,_,_,0,_,.cons e r,h=>by cases h;exists _,Y,e
 |_,_,_,i+1,_,.cons e r,h=>d6.at (i:=i) r h
theorem TU:∀{a b:List α}{m:List β},Paired R (a++b) m->∃m1 m2,m=m1++m2/\Paired R a m1/\Paired R b m2
 |[],b,m,h=>⟨[],m,Y,.nil,h⟩
 |x::a,b,y::m,.cons e r=>by
  obtain⟨m1,m2,rfl,Z,M⟩:=TU (a:=a) r;exists y::m1,m2,Y,.cons e Z,M
theorem lT:∀{a:List α}{m:List β}{x:α}{y:β},Paired R a m->R x y->Paired R (a++[x]) (m++[y])
 |_,_,_,_,.nil,h=>.cons h .nil
 |_,_,_,_,.cons e r,h=>.cons e (lT r h)
open PySem L2 OF
theorem IL:∀{m a b:List β}{l:List α},Paired R l (a++b)->∃l1 l2,l=l1++l2/\Paired R l1 a/\Paired R l2 b
 |m,[],b,l,h=>⟨[],l,Y,.nil,h⟩
 |m,y::a,b,x::l,.cons e r=>by
  obtain⟨l1,l2,rfl,Z,M⟩:=IL (m:=m) (a:=a) r;exists x::l1,l2,Y,.cons e Z,M
theorem Sm.pre_ok:∀{s:Sm},s.ok P->∀p∈s.pre,p.ok P
 |.bit k,h,p,hp=>by rw[bH.mp hp];show h
 |.fix b,h,p,hp=>by rw[bH.mp hp];show h
 |.no s,h,p,hp=>by
  rcases aV.mp hp with rfl|z
  .exact h
  .exact Sm.pre_ok (s:=s) h p z
 |.two w s t,h,p,hp=>by
  rcases aV.mp hp with rfl|z
  .exact h
  .rcases bC.mp z with z|z
   .exact Sm.pre_ok h.2.2 p z
   .exact Sm.pre_ok h.2.1 p z
def Xf(w:Nat):nY (V.str (wd w)) [.str "and",.str "or",.str "xor"]=true:=by
 match w with
 |0=>decide
 |1=>decide
 |n+2=>show nY (V.str "xor") [.str "and",.str "or",.str "xor"]=true;decide
def zx(h:n+1<=2^21):n<sizeLine:=cP (Nat.lt_of_succ_le h) tD
def Q4{s:Sm}(h:s.dp<=20):s.sz+1<=2^21:=a9 s.sz_dp (eO tD tL)
end My
namespace OS
open PySem PySem.W PyProof.Rows
section
variable{prog:Program}{w:World}{A:Around}{E:Value->Shared->Prop}{s:Shared}
noncomputable def PrAt(h:Heap)(v:Value):Prop:=∃x o n a b t u,v=.ref x/\h.get? x=some o/\o.cls=.type "tuple" /\ o.data=.seq #[.int a t,.int b u] n
def PrAt.keep{h h':Heap}{v:Value}(k:∀x o,o.cls=.type "tuple" -> h.get? x=some o->h'.get? x=some o)(q:PrAt h v):PrAt h' v:=by
 obtain⟨x,o,n,a,b,t,u,e1,e2,e3,e4⟩:=q;exists x,o,n,a,b,t,u,e1,k _ _ e3 e2,e3,e4
noncomputable def Tf(h:Heap)(qad:Nat)(v:Value):Prop:=∃x o n a b t u,v=.ref x/\h.get? x=some o/\o.cls=.type "tuple" /\ o.data=.seq #[.int a t,.int b u] n /\ -(qad:Int)<=b/\b<=qad
theorem OW{h:Heap}:∀{vs:List Value},(∀v∈vs,PrAt h v)->∃qad,∀v∈vs,Tf h qad v
 |[],_=>⟨0,λv h=>by cases h⟩
 |v::vs,q=>by
  obtain⟨x,o,n,a,b,t,u,e1,e2,e3,e4⟩:=q v (jP ..);obtain⟨qad,hM⟩:=OW λv hv=>q v (cX _ hv)
  exists qad+b.natAbs,λy hy=>?_;rcases aV.mp hy with rfl|hy
  .exists x,o,n,a,b,t,u,e1,e2,e3,e4,tL,tL
  .obtain⟨x,o,n,a,b',t,u,e1,e2,e3,e4,e5,e6⟩:=hM y hy;exists x,o,n,a,b',t,u,e1,e2,e3,e4,tL,tL
noncomputable def pY(h:Heap)(qad:Nat):Value->Int
 |.ref x=>match h.get? x with
  |some o=>match o.data with
   |.seq xs _=>match xs.toList with
    |[.int a _,.int b _]=>a*(2*qad+1)+b
    |_=>0
   |_=>0
  |none=>0
 |_=>0
def Ga{h:Heap}{qad:Nat}{x:Addr}{o:Obj}{n:Nat}{a b:Int}{t u:Tok}(e2:h.get? x=some o)(e4:o.data=.seq #[.int a t,.int b u] n):pY h qad (.ref x)=a*(2*qad+1)+b:=by
 unfold pY;dsimp only;rw[e2];dsimp only;rw[e4]
def Vy{qad:Nat}{a b a' b':Int}(Z : -(qad:Int)<=b)(M:b<=qad)(h3 : -(qad:Int)<=b')(h4:b'<=qad):a*(2*qad+1)+b<a'*(2*qad+1)+b'↔a<a'\/a=a'/\b<b':=by
 rcases LV a a' with h|h|h
 .have:(a+1)*(2*(qad:Int)+1)<=a'*(2*qad+1):=Nb (by assumption) tL
  rw[EL]at this;exists λ_=>.inl h,λ_=>tL
 .subst h;exists λz=>.inr ⟨Y,tL⟩,λz=>tL
 .have:(a'+1)*(2*(qad:Int)+1)<=a*(2*qad+1):=Nb (by assumption) tL
  rw[EL]at this;exists λz=>tO,λz=>tL
def F5(h:Heap)(qad:Nat):KO:=⟨pY h qad,Tf h qad,tuples' true⟩
def YK{qad:Nat}:@KL (F5 s.heap qad) prog w A s:=@KL.mk (F5 s.heap qad) _ _ _ _ fun {E Q u v} hu hv q=>by
 obtain⟨x,o,n,a,b,t,r,rfl,e2,e3,e4,e5,e6⟩:=hu;obtain⟨y,o',n',a',b',t',r',rfl,f2,f3,f4,f5,f6⟩:=hv;have q':Q (decide (pY s.heap qad (.ref x)<pY s.heap qad (.ref y))) s:=q;rw[Ga e2 e4,Ga f2 f4,Eu.mpr (Vy e5 e6 f5 f6)]at q';show kat_lt e2 e4 f2 f4 ?_;show KatLex prog w A true _ Q [(Value.int a t,Value.int a' t'),(Value.int b r,Value.int b' r')] 0 s;show kat_cons (Kl ?_);show kat_go (λz=>kat_yes ?_) (λz=>kat_no (oneLt_int ?_))
 .refine kat_cons (Kl ?_);show kat_go (λz2=>kat_yes (kat_nil ?_)) (λz2=>kat_no (kat_one _ _ (Y0 (show PySem.W.BoolBack Q (Value.bool _) s from ?_))))
  .have z':a=a':=by simpa using z
   have z2':b=b':=by simpa using z2
   rw[bw tL]at q';show q'
  .have z':a=a':=by simpa using z
   rw[Eu.mpr (show (a<a'\/a=a'/\b<b')↔b<b' from ⟨λy=>tL,λy=>.inr ⟨z',y⟩⟩)]at q';show q'
 .have z':a≠a':=by simpa using z
  rw[Eu.mpr (show (a<a'\/a=a'/\b<b')↔a<a' from ⟨λy=>tL,λy=>.inl y⟩)]at q';show q'
theorem RQ{h:Heap}:∀{vs:List Value},(∀v∈vs,PrAt h v)->∃fs,KatTups h vs fs/\fs.length=vs.length/\∀f∈fs,∃k t,f=Value.int k t
 |[],_=>⟨[],trivial,Y,λf h=>by cases h⟩
 |v::vs,q=>by
  obtain⟨x,o,n,a,b,t,u,rfl,e2,e3,e4⟩:=q v (jP ..);obtain⟨fs,Z,M,h3⟩:=RQ λw hw=>q w (cX _ hw)
  exists .int a t::fs,KatTups.cons e2 e3 e4 Y Z,by simp_all,λf hf=>?_;rcases aV.mp hf with rfl|hf
  .exists a,t,rfl
  .exact h3 f hf
end
def perm_unmap(h:l.Perm l'):∀{m:List α},l'=m.map f->∃m':List α,m'.Perm m/\l=m'.map f:=by
 induction h with
 |nil =>
  intro m e;cases m with
  |nil=>exists [],.nil,rfl
  |cons a m=>cases e
 |cons x h ih =>
  intro m e;cases m with
  |nil=>cases e
  |cons a m =>
   rw[bz]at e;injection e with e1 e2
   obtain⟨m',p,e3⟩:=ih e2;show⟨a::m',p.cons a,by simp_all⟩
 |swap x y l =>
  intro m e
  match m,e with
  |[],e=>cases e
  |[a],e=>cases e
  |a::b::m,e =>
   rw[bz,bz]at e;injection e with e1 e2
   injection e2 with e2 e3
   show⟨b::a::m,List.Perm.swap a b m,by simp_all⟩
 |trans Z M ih1 Ze =>
  intro m e;obtain⟨m2,p2,e2⟩:=Ze e;obtain⟨m1,p1,e1⟩:=ih1 e2;exists m1,p1.trans p2,e1
end OS
namespace L2
open PySem PySem.Spec PyProof.Rows
section
variable{X:Cx}
def zfJ:V->List V->Hp->VK->Prop:=λx vs H Q=>∃(l:Addr) (ns:List Int) (k:Int),x=.ref l/\vs=[.int k]/\H l=some (.lst (ns.map V.int))/\k∈ns/\Q (.int ((ns.idxOf k:Nat):Int)) H
def zcn:gn X "list.index" zfJ:=by
 intro J s σ H x vs v us Q I rx rv h;obtain⟨l,ns,k,rfl,rfl,hH,hk,q⟩:=h;cases rx;obtain⟨u,rfl,t,rfl⟩:=rv.one;obtain⟨z,ae,n,r,hl,e⟩:=I.lstM hH;have hi:=wu r;have hn:=hi.length;have hj:=List.idxOf_lt_length_iff.mpr hk;have hz:ae.length<2^40:=by rw[<-hl];show gv z tD
 show jV Mf ⟨_,e,Y⟩ L6 (U9 _ _)
  (Mg l ae.toArray n none #[] (.int k t) (isInt k) (ns.idxOf k) (by simp_all) tL ?_ ?_) ⟨e,λy hy=>(eq_isInt k t hi y (by simpa using hy)).at _ _,⟨.int _,H,I.tok _,⟨_,Y⟩,q⟩⟩
 .show isInt k ae[ns.idxOf k]=true;rw[isInt_at k hi _ tO hj];simpa using List.getElem_idxOf hj
 .intro m hm aF;show isInt k ae[m]=false;rw[isInt_at k hi _ (by simpa using hm) (by clear z;lia)];show ne_of_lt_idxOf aF _
end
open PySem PySem.Spec PyProof.Rows
section
variable{X:Cx}{tg:Expr}
def zbs:gn X "str.startswith" (λx vs H Q=>∃i j,x=.str i/\vs=[.str j]/\Q (.bl (Txt.startswith i j)) H):=by
 intro J s σ H x xs v us Q I rx rv h;obtain⟨i,j,rfl,rfl,q⟩:=h;obtain⟨t,rfl⟩:=rx;obtain⟨u,rfl,⟨t2,rfl⟩⟩:=rv.one;show SC.startswith ⟨.bl _,H,I,Y,q⟩
def Kv:gn X "str.find" (λx vs H Q=>∃i j,x=.str i/\vs=[.str j]/\Q (.int (Txt.find i j)) H):=by
 intro J s σ H x xs v us Q I rx rv h;obtain⟨i,j,rfl,rfl,q⟩:=h;obtain⟨t,rfl⟩:=rx;obtain⟨u,rfl,⟨t2,rfl⟩⟩:=rv.one;show SC.find ⟨.int _,H,I.tok _,⟨_,Y⟩,q⟩
def ze4:gn X "str.lstrip" (λx vs H Q=>∃i j,x=.str i/\vs=[.str j]/\i.length<=sizeLine/\Q (.str (Txt.lstripChars i j)) H):=by
 intro J s σ H x xs v us Q I rx rv h;obtain⟨i,j,rfl,rfl,hz,q⟩:=h;obtain⟨t,rfl⟩:=rx;obtain⟨u,rfl,⟨t2,rfl⟩⟩:=rv.one;show call_gives F.slot_str_lstrip (lX _ _ _) F.entry_str_lstrip (F.args_str_lstrip_2 _ _) (gives_str_lstrip_chars i j t t2) (post_val_or_made (λ_=>fits_stripped _ _ _ hz) λt' k=>⟨.str _,H,I.tok _,⟨_,Y⟩,q⟩)
theorem Ir:∀{ys:List Str}{ae:List Value},Vals (ys.map V.str) ae->StrsAre ae ys
 |[],_,h=>by cases h;show .nil
 |y::r,_,h=>by
  cases h with
  |cons a b=>obtain⟨t,rfl⟩:=a;show .cons _ _ (Ir b)
def zA:gn X "str.join" (λx vs H Q=>∃i l ys,x=.str i/\vs=[.ref l]/\ai X.K H l (ys.map V.str)/\(ys.map (·.length)).sum+ys.length*i.length<=16777216/\Q (.str (Txt.join i ys)) H):=by
 intro J s σ H x xs v us Q I rx rv h;obtain⟨i,l,ys,rfl,rfl,hq,hz,q⟩:=h;obtain⟨t,rfl⟩:=rx;obtain⟨u,rfl,ru⟩:=rv.one;cases (show u=Value.ref l from ru);obtain⟨ae,r,p,hl⟩:=I.list hq;show join_list p.isList (Ir r) hz λt' k=>⟨.str _,H,I.tok _,⟨_,Y⟩,q⟩
theorem La:∀{l:List (Str×Tok)},Vals ((l.map (·.1)).map V.str) (strValues l)
 |[]=>.nil
 |(x,t)::r=>.cons ⟨t,Y⟩ (La (l:=r))
def zem(I:Inv X J σ H s)(e:l.map (·.1)=ys)(hz:ys.length<=sizeLine) :
  Inv X J σ (upd H s.heap.objs.size (.lst (ys.map V.str))) {s with heap:=s.heap.push {cls:=.type "list",data:=.seq (strValues l).toArray},toks:=tk}:=by
 subst e;show I.laid (o:=.lst _) (t':=tk) (λb o q=>bZ _ q) (aC _) ⟨by rw[ar];show hz,strValues l,0,La,cQ _ Y⟩
def IH:gn X "str.split" (λx vs H Q=>∃i j,x=.str i/\vs=[.str j]/\(j.length == 0)=false/\i.length<sizeLine/\∀a,H a=none->Q (.ref a) (upd H a (.lst ((Txt.split i j).map V.str)))):=by
 intro J s σ H x xs v us Q I rx rv h;obtain⟨i,j,rfl,rfl,hy,hz,q⟩:=h;obtain⟨t,rfl⟩:=rx;obtain⟨u,rfl,⟨t2,rfl⟩⟩:=rv.one;have hj:1<=j.length:=by lia
 have hw:=split_weight i j hj;have hn:(Txt.split i j).length<=sizeLine:=by lia
 have fin:∀(l:List (Str×Tok)) (tk:Nat),l.map (·.1)=Txt.split i j->EP X J σ Q (.ref s.heap.objs.size) {s with heap:=s.heap.push {cls:=.type "list",data:=.seq (strValues l).toArray},toks:=tk}:=λl tk e =>
  ⟨.ref s.heap.objs.size,_,zem I e hn,Y,q _ (I.hok.fresh (aC _))⟩
 cases Z:(decide (i.length<j.length) || decide (Builtin.Str.strKind i<Builtin.Str.strKind j))
 .cases hf:(Builtin.Str.occurrences i j 0 i.length (i.length+1)).isEmpty
  .have e:Txt.split i j=Builtin.Str.partsBetween i (Builtin.Str.occurrences i j 0 i.length (i.length+1)) j.length:=(ah (EA Z)).trans (ah (EA hf));show jV Gh (lX _ _ _) KU (Jz _ _) (meets_str_split_sep i j t t2 Z hy hf tL (by simp_all)) ?_;rw[strsFrom_eq];show fin _ _ ((numbered_texts _ _).trans e.symm)
  .exact jV Gh (lX _ _ _) KU (Jz _ _) (meets_str_split_not_found i j t t2 Z hy hf)
    (fin [(i,t)] s.toks ((ah (EA Z)).trans (aj hf)).symm)
 .exact jV Gh (lX _ _ _) KU (Jz _ _) (meets_str_split_cannot_occur i j t t2 Z)
   (fin [(i,t)] s.toks (aj Z).symm)
def Bf:AL X (λx lo hi H Q=>∃z,x=.str z/\z.length<=sizeLine/\Q (.str (Txt.slice z lo hi)) H):=by
 intro J s σ H x v vl vu lo hi sl Q I rx hs pl pu h;obtain⟨z,rfl,hz,q⟩:=h;obtain⟨t,rfl⟩:=rx;have part:∀{v:Value}{o:Option Int},IsPart v o->∃l:Option (Int×Tok),v=partValue l/\l.map (·.1)=o:=λp=>by
  cases p with
  |none=>exists none,Y,rfl
  |int i t=>exists some (i,t),Y,rfl
 obtain⟨l,rfl,rfl⟩:=part pl;obtain⟨u,rfl,rfl⟩:=part pu;exists "str",_,F.slot_str_getitem.lookup,lX _ _ _,?_;show wpAny_getItem_str_slice (l:=l) (u:=u) (st:=none) hs Y (post_val_or_str ⟨a9 (Txt.slice_le z _ _) hz,λt' k=>⟨.str _,H,I.tok _,⟨_,Y⟩,q⟩⟩)
def SW:gA X (.type "int") (λxs H Q=>∃x n,xs=[.str x]/\intText? x=some n/\x.length<=640/\Q (.int n) H):=by
 intro J s σ H xs us Q I r h;obtain⟨x,n,rfl,hn,hl,q⟩:=h;obtain⟨u,rfl,⟨t,rfl⟩⟩:=gF r;show jhG hn hl ⟨.int n,H,I.tok _,⟨_,Y⟩,q⟩
noncomputable def pA(x:Str):It:=⟨λi _=>i<x.cps.size,λi H v O=>O=H/\∃c,x.cps[i]?=some c/\v=.str ⟨#[c]⟩,λi _=>x.cps.size<=i⟩
def Lk(te:TE):TI:=λσ H R=>te σ H λv H1=>∃x,v=.str x/\x.cps.all (· < 128)=true/\R (pA x) H1
def zf9{P:Program}{w:World}{K:Frag}{tg:Expr}(x:Str)(t:Tok)(it:Addr):mf P w K tg (pA x) [it] it (λi h=>h.IsStrIter it "str_ascii_iterator" x t i) where
 mem:=by simp
 obj:=λi h st b hb=>by
  have e:b=it:=by simpa using hb
  subst e;obtain⟨o,e,c,d⟩:=st;show⟨o,e,λv z=>by simp_all⟩
 keep:=λi h h' st k=>let ⟨o,e,c,d⟩:=st; ⟨o,k it tS o e,c,d⟩
 item:=by
  intro X hP hw hK hc i J s σ H E I hf st hg;subst hP hw hK;obtain⟨f0,f1,f2,f3,f4,f5⟩:=hf it tS;have hx:x.cps[i]?=some (x.cps[i]'hg):=by rw[mP hg]
  show wpAny_pyNext_ascii_item st hx λh' af sb=>?_
  have I1:Inv X J σ H {s with heap:=h',toks:=s.toks+1}:=I.turned (λb o hb e=>(sb.2 b hb).trans e) f0 f1 f3 f4 f5;obtain⟨o,e,c,d⟩:=id af;exists _,Y,uo (s:={s with heap:=h',toks:=s.toks+1}) e c d tD ⟨.str ⟨#[x.cps[i]'hg]⟩,H,I1,⟨_,Y⟩,⟨Y,_,hx,Y⟩,af,λb hb=>(hf b hb).1⟩
 done:=by
  intro X hP hw hK hc i J s σ H E I hf st hg;subst hP hw hK;obtain⟨f0,f1,f2,f3,f4,f5⟩:=hf it tS;show wpAny_pyNext_ascii_end (I.ok.hd hc) st (RO hg) λh' eb=>⟨Y,I.turned (t':=s.toks) (λb o hb e=>eb b o hb e) f0 f1 f3 f4 f5⟩
 self:=λ_ _ _ _ _ st h=>wpAny_pyIter_striter_ascii st h
def HD{l:Expr}{tl:TE}(hl:PE X l tl):PI X tg l (Lk tl):=by
 intro J s σ H R I h;show ax (hl J s σ H _ I h) λv s1 ⟨x,H1,I1,r1,q1⟩=>?_
 obtain⟨z,e,ha,q⟩:=q1;subst e;obtain⟨t,rfl⟩:=r1;show wpAny_pyIter_ascii ha ?_;exists s1.heap.objs.size,[s1.heap.objs.size],_,_,H1,Y,I1.kept (t':=s1.toks) λb o e=>bZ _ e,zf9 z t _,⟨_,cQ _ Y,Y,Y⟩,λb hb=>?_,q;have e:b=s1.heap.objs.size:=by simpa using hb
 subst e;show I1.fpOk (aC _) (I1.hok.fresh (aC _))
end
end L2
namespace My
open PySem L2 OF
noncomputable def S(l:List Nat):Str:=⟨l.toArray⟩
def i0(l:List Nat):(S l).cps.toList=l:=rfl
def aH(l:List Nat):(S l).length=l.length:=rfl
def zam(x:Str):x=S x.cps.toList:=rfl
def vh(h:x.cps.toList=l):x=S l:=by subst h;rfl
def fR(h:S a=S b):a=b:=congrArg (λx:Str=>x.cps.toList) h
def bF(a b:List Nat):S a++S b=S (a++b):=vh (by
 show (a.toArray++b.toArray).toList=_;rw[fW])
noncomputable def cu(c:Nat):List (List Nat)->List Nat
 |[]=>[]
 |[x]=>x
 |x::y::r=>x++c::cu c (y::r)
theorem Hw(c:Nat):∀ws:List (List Nat),Str.join (S [c]) (ws.map S)=S (cu c ws)
 |[]=>rfl
 |[x]=>rfl
 |x::y::r=>by
  have ih:=Hw c (y::r);show S x++S [c]++Str.join (S [c]) ((y::r).map S)=_;rw[ih,bF,bF,cu];simp
theorem RY:∀ws:List (List Nat),Str.join (S []) (ws.map S)=S ws.flatten
 |[]=>rfl
 |[x]=>by show S x=_;simp
 |x::y::r=>by
  have ih:=RY (y::r);show S x++S []++Str.join (S []) ((y::r).map S)=_;rw[ih,bF,bF];simp
def zbv(c:Nat)(ws:List (List Nat)):Txt.join (S [c]) (ws.map S)=S (cu c ws):=by
 unfold Txt.join;rw[SV,Hw]
def JJ(ws:List (List Nat)):Txt.join (S []) (ws.map S)=S ws.flatten:=by
 unfold Txt.join;rw[SV,RY]
theorem S8:∀{x y A B:List Nat},c∉x->c∉y->x++c::A=y++c::B->x=y/\A=B
 |[],[],_,_,_,_,h=>⟨Y,by simpa using h⟩
 |[],b::y,_,_,_,M,h=>by simp_all
 |a::x,[],_,_,Z,_,h=>by
  have:a=c:=by simpa using (Ti h).1
  show absurd (this ▸ jP) Z
 |a::x,b::y,A,B,Z,M,h=>by
  obtain⟨e1,e2⟩:=Ti h;obtain⟨e3,e4⟩:=S8 (λz=>Z (cX _ z)) (λz=>M (cX _ z)) e2;exists by rw[e1,e3],e4
theorem Jp:∀{ws vs:List (List Nat)},ws≠[]->vs≠[]->(∀w∈ws,c∉w)->(∀w∈vs,c∉w)->cu c ws=cu c vs->ws=vs
 |[],_,h,_,_,_,_=>absurd Y h
 |_::_,[],_,h,_,_,_=>absurd Y h
 |[x],[y],_,_,_,_,h=>by
  have:x=y:=h
  rw[this]
 |[x],y::z::r,_,_,Z,_,h=>by
  have h':x=y++c::cu c (z::r):=h;show absurd (by rw[h'];simp) (Z x tS)
 |x::z::r,[y],_,_,_,M,h=>by
  have h':x++c::cu c (z::r)=y:=h;show absurd (by rw[<-h'];simp) (M y tS)
 |x::x2::r,y::y2::r',_,_,Z,M,h=>by
  have h':=h;obtain⟨e1,e2⟩:=S8 (Z x tS) (M y tS) h';rw[e1,Jp tS tS (λw hw=>Z w (cX _ hw)) (λw hw=>M w (cX _ hw)) e2]
def Gg(h0:ws≠[])(hf:∀w∈ws,c∉w):Txt.split (S (cu c ws)) (S [c])=ws.map S:=by
 have e1:=StrLaws.join_split (S (cu c ws)) (S [c]);have e2:(Txt.split (S (cu c ws)) (S [c]))=((Txt.split (S (cu c ws)) (S [c])).map λp=>p.cps.toList).map S:=by
  rw[cE];show (Hu _).symm.trans (pO λp _=>zam p)
 have si:=StrLaws.split_free (S (cu c ws)) c;have Q5:=jhx (S (cu c ws)) (S [c]);rw[e2,Hw]at e1;have e3:=fR e1;have e4:=Jp (c:=c) (λz=>by
   rw[List.map_eq_nil_iff]at z;rw[z]at Q5;show absurd Q5 tD) h0 (λw hw=>by
   obtain⟨p,hp,rfl⟩:=aU.mp hw;show si p hp) hf e3
 rw[e2,e4]
noncomputable def eJ(n:Nat):List Nat:=(Nat.toDigits 10 n).map Char.toNat
def E9(n:Nat):ofString (toString ((n:Nat):Int))=S (eJ n):=vh (Zy n)
def Ny(n:Nat):digitsVal (eJ n)=n:=jhQ n
def Jn(h:c∈eJ n):48<=c/\c<=57:=by
 obtain⟨ch,jS,e⟩:=aU.mp h;have r:=jg9 (Nat.isDigit_of_mem_toDigits tD tD jS);rw[<-e];show r
def Kw(h:¬m<10):eJ m=eJ (m/10)++[48+m%10]:=by
 have hm:m%10<10:=Bu m tD;have t:Nat.toDigits 10 (m/10)++Nat.toDigits 10 (m%10)=Nat.toDigits 10 (10*(m/10)+m%10):=Nat.toDigits_append_toDigits tD tL hm;rw[Lc]at t;unfold eJ;rw[<-t,aN,Sr hm]
 have:∀d:Nat,d<10->(Nat.digitChar d).toNat=48+d:=by decide
 rw[bz,o6,this _ hm]
def Cb(h:m<10):eJ m=[48+m]:=by
 unfold eJ;rw[Sr h]
 have:∀d:Nat,d<10->(Nat.digitChar d).toNat=48+d:=by decide
 rw[bz,o6,this _ h]
def N8:∀{m:Nat},0<m->∃d r,eJ m=(49+d)::r/\d<9:=by
 intro m;induction m using Nat.strongRecOn with
 |_ m ih =>
  intro h0;by_cases h:m<10
  .rw[Cb h];exists m-1,[],by congr 1;lia,tO
  .obtain⟨d,r,e,hd⟩:=ih (m/10) tL tL;rw[Kw h,e];exists d,r++[48+m%10],Y,hd
theorem xi:∀{k m:Nat},m<10^(k+1)->(eJ m).length<=k+1
 |0,m,h=>by rw[Cb h];show aC _
 |k+1,m,h=>by
  by_cases Z:m<10
  .rw[Cb Z];show UL _ _
  .have M:m/10<10^(k+1):=by rw[Nat.div_lt_iff_lt_mul tD];rw[jL]at h;show h
   rw[Kw Z,aX]
   have:=xi M
   simp;assumption
def ZF(h:eJ m=[49]):m=1:=by
 have:=Ny m
 rw[h]at this;show this.symm
def cy(m:Nat):List Nat:=(lst m).map λk=>97+k
def sS(hm:m<2^16)(h:c∈cy m):97<=c/\c<113:=by
 obtain⟨k,hk,rfl⟩:=aU.mp h;have hb:=KY.mp hk
 have:k<16:=by
  rcases lj k 16 with y|y
  .exact y
  .rw[zl (cP hm (eO tD y))]at hb;cases hb
 lia
def Tg(hm:m<2^16):(List.range 16).filter (λk=>m.testBit k)=lst m:=by
 have hb:=FJ hm;obtain⟨d,hd⟩:∃d,16=intBits (m:Int)+d:=⟨16-intBits (m:Int),tL⟩;unfold lst;rw[hd,List.range_add,iw]
 have:List.filter (λk=>m.testBit k) (List.map (intBits (m:Int) + ·) (List.range d))=[]:=by
  rw[List.filter_eq_nil_iff];intro k hk;obtain⟨j,_,rfl⟩:=aU.mp hk
  have:=zl (cP (EB m) (eO tD (Nat.le_add_right _ j)):m<2^(intBits (m:Int)+j))
  rw[this];decide
 rw[this,gg]
def fG(m n:Nat):List Nat:=if n=1/\m≠0 then []else eJ n
def lW(m n:Nat):List Nat:=(if n=1/\m≠0 then []else eJ n)++cy m
def Yg(hn:n<10^1000):(fG m n).length<=1000:=by
 unfold fG;split
 .exact bJ _
 .exact xi (k:=999) hn
def WD(h:c∈fG m n):48<=c/\c<=57:=by
 unfold fG at h;split at h
 .cases h
 .exact Jn h
def aY(t:Int×Int):List Nat:=lW t.1.toNat t.2.natAbs
noncomputable def ba(n:Int):Nat:=if n<0 then 45 else 43
def ck(t:Int×Int):List Nat:=[32,ba t.2,32]++aY t
noncomputable def cv(n:Int):List Nat:=if n<0 then [45]else []
def txt:ak->List Nat
 |[]=>[48]
 |t::r=>cv t.2++aY t++r.flatMap ck
def iU:ak->List (List Nat)
 |[]=>[[48]]
 |t::r=>(cv t.2++aY t)::r.flatMap λu=>[[ba u.2],aY u]
theorem LI(a:List Nat):∀r:ak,cu 32 (a::r.flatMap λu=>[[ba u.2],aY u])=a++r.flatMap ck
 |[]=>by show a=_;simp
 |u::r=>by
  have ih:=LI (aY u) r;show a++32::([ba u.2]++32::cu 32 (aY u::r.flatMap λu=>[[ba u.2],aY u]))=_;rw[ih];unfold ck;simp
def Es(f:ak):cu 32 (iU f)=txt f:=by
 cases f with
 |nil=>rfl
 |cons t r=>show LI _ r
def eT(t:Int×Int):Prop:=0<=t.1/\t.1<2^16/\t.2≠0/\t.2.natAbs<10^1000
def Tb(hm:m<2^16)(h:c∈lW m n):(48<=c/\c<=57)\/(97<=c/\c<113):=by
 rcases bC.mp h with z|z
 .split at z
  .cases z
  .exact .inl (Jn z)
 .exact .inr (sS hm z)
def rD(hm:m<2^16):(cy m).length<=16:=by
 unfold cy;rw[ar,<-Tg hm];show a9 (mO _ _) (by simp)
def De(hm:m<2^16)(hn:n<10^1000):(lW m n).length<=1016:=by
 unfold lW;rw[aX];have Z:=rD hm;have M:(eJ n).length<=1000:=xi (k:=999) hn;split
 .simp;lia
 .lia
open PySem L2 OF
def iI:("" : Str)=S []:=by decide+kernel
def oy:("0" : Str)=S [48]:=by decide+kernel
def BL:("1" : Str)=S [49]:=by decide+kernel
def qF:(" " : Str)=S [32]:=by decide+kernel
def xQ:("+" : Str)=S [43]:=by decide+kernel
def jq:("-" : Str)=S [45]:=by decide+kernel
def zdI:(" + " : Str)=S [32,43,32]:=by decide+kernel
def zeD:(" - " : Str)=S [32,45,32]:=by decide+kernel
noncomputable def oZ:List Nat:=[97,98,99,100,101,102,103,104,105,106,107,108,109,110,111,112]
noncomputable def mR:List Nat:=[48,49,50,51,52,53,54,55,56,57]
def qq:("abcdefghijklmnop" : Str)=S oZ:=by decide+kernel
def zfS:("0123456789" : Str)=S mR:=by decide+kernel
def Um:∀k:Nat,k<16->oZ[k]?=some (97+k):=by decide
def Uu:∀k:Nat,k<16->Txt.find (S oZ) (S [97+k])=(k:Int):=by decide+kernel
def Jw:∀d:Nat,d<10->intText? (S [48+d])=some (d:Int):=by decide+kernel
def QL(c:Nat):(S mR).cps.contains c=decide (48<=c/\c<=57):=by
 have:(S mR).cps.contains c=mR.contains c:=by
  show mR.toArray.contains c=_;simp
 rw[this];unfold mR;by_cases h:48<=c/\c<=57
 .rw[aR h];obtain⟨d,rfl⟩:∃d,c=48+d:=⟨c-48,tL⟩
  have:∀d,d<10->([48,49,50,51,52,53,54,55,56,57]:List Nat).contains (48+d)=true:=by decide
  show this d tL
 .rw[bw h];simp only[List.contains_eq_mem,aV,ly,lQ];show bw tO
theorem Ln:∀{d l:List Nat},(∀c∈d,48<=c/\c<=57)->(∀c r,l=c::r->¬(48<=c/\c<=57))->((d++l).takeWhile (S mR).cps.contains).length=d.length
 |[],[],_,_=>rfl
 |[],c::r,_,h=>by
  rw[BP,FD,QL,bw (h c r rfl)];rfl
 |c::d,l,h,h'=>by
  rw[pK,FD,QL,aR (h c tS)];simp only[eS,bf];rw[Ln (λx hx=>h x (cX _ hx)) h']
def zeV(h:∀c∈d,48<=c/\c<=57)(h':∀c r,l=c::r->¬(48<=c/\c<=57)):Txt.lstripChars (S (d++l)) (S mR)=S l:=by
 have e:stripLo (S mR).cps.contains true (S (d++l))=d.length:=by
  unfold stripLo;rw[aj rfl,i0];show Ln h h'
 have e2:stripHi (S mR).cps.contains false (S (d++l)) d.length=(d++l).length:=rfl;unfold Txt.lstripChars Txt.stripBy stripSame stripped;rw[e,e2];by_cases hd:d=[]
 .subst hd;rw[aj (by simp[aH])];rfl
 .have:d.length≠0:=λz=>hd (uc z)
  rw[ah (by simp[this])];show vh ?_;rw[StrLaws.strSub_toList,i0,Rx,aX];show f9 tL
def zfE:Txt.slice (S (a++b)) none (some (a.length:Int))=S a:=by
 have:=StrLaws.sliceText_to (x:=S (a++b)) (j:=(a.length:Int)) ⟨jI _,by rw[i0,aX];lia⟩
 show (show Txt.slice (S (a++b)) none (some (a.length:Int))=_ from this).trans ?_;rw[i0];show vh tS
def QH:Txt.slice (S (a++b)) (some (a.length:Int)) none=S b:=by
 have:=StrLaws.sliceText_from (x:=S (a++b)) (i:=(a.length:Int)) ⟨jI _,by rw[i0,aX];lia⟩
 show (show Txt.slice (S (a++b)) (some (a.length:Int)) none=_ from this).trans ?_;rw[i0];show vh ?_;simp;show f9 tL
def Wy(x:List Nat):Txt.startswith (S x) (S [45])=match x with|[]=>false|c::_=>c == 45:=by
 unfold Txt.startswith;rw[Ph,i0,i0,aH,aH];cases x with
 |nil=>rfl
 |cons c r=>simp
open PySem L2 OF
theorem Kz(A B:α->β):∀(f:List α) (k:Nat),(f.flatMap λt=>[A t,B t])[2*k]?=f[k]?.map A/\(f.flatMap λt=>[A t,B t])[2*k+1]?=f[k]?.map B
 |[],k=>by simp
 |t::f,0=>by simp
 |t::f,k+1=>by
  obtain⟨Z,M⟩:=Kz A B f k;have e1:2*(k+1)=2*k+1+1:=by lia
  have e2:2*(k+1)+1=2*k+1+1+1:=by lia
  rw[iZ];constructor
  .rw[e1];simpa using Z
  .rw[e2];simpa using M
def vQ(A B:α->β)(f:List α):(f.flatMap λt=>[A t,B t]).length=2*f.length:=by
 induction f with
 |nil=>rfl
 |cons t f ih=>rw[iZ,aX,ih,bf];simp;lia
def RW(A:α->β)(f:List α):(List.range f.length).filterMap (λk=>f[k]?.map A)=f.map A:=by
 apply List.ext_getElem?;intro i
 have:∀(n:Nat) (g:List α),n<=g.length->(List.range n).filterMap (λk=>g[k]?.map A)=(g.take n).map A:=λn g=>by
  induction n with
  |zero=>intro _;rfl
  |succ n ih =>
   intro h;rw[iA,List.filterMap_append,ih tL,dM,aN,fT (by assumption:n<g.length)];simp[fT (by assumption:n<g.length)]
 rw[this _ f (aC _),eV]
def zgi(A B:α->V)(f:List α):kS 0 (((f.flatMap λt=>[A t,B t]).length-0+1)/2) (f.flatMap λt=>[A t,B t])=f.map A:=by
 have e:((f.flatMap λt=>[A t,B t]).length-0+1)/2=f.length:=by rw[vQ];lia
 unfold kS;rw[e,<-RW A f];congr 1
 funext k
 rw[d7];show (Kz A B f k).1
def zez(A B:α->V)(f:List α):kS 1 (((f.flatMap λt=>[A t,B t]).length-1+1)/2) (f.flatMap λt=>[A t,B t])=f.map B:=by
 have e:((f.flatMap λt=>[A t,B t]).length-1+1)/2=f.length:=by rw[vQ];lia
 unfold kS;rw[e,<-RW B f];congr 1
 funext k
 rw[Ju];show (Kz A B f k).2
def E3(h:eT t):(ck t).length<=1019:=by
 unfold ck
 have:(aY t).length<=1016:=De (by have:=h.1;have:=h.2.1;lia) h.2.2.2
 simp;assumption
theorem Jk:∀{r:ak},(∀t∈r,eT t)->(r.flatMap ck).length<=1019*r.length
 |[],_=>by simp
 |t::r,h=>by
  rw[iZ,aX,bf];have Z:=E3 (h t tS);have M:=Jk (r:=r) λu hu=>h u (by simp[hu])
  lia
def zcG(h:∀t∈f,eT t):(txt f).length<=1019*f.length+1:=by
 cases f with
 |nil=>decide
 |cons t r =>
  show (cv t.2++aY t++r.flatMap ck).length<=_;rw[aX,aX,bf];have Z:(aY t).length<=1016:=De (by have:=(h t tS).1;have:=(h t tS).2.1;lia) (h t tS).2.2.2;have M:=Jk (r:=r) λu hu=>h u (by simp[hu])
  have h3:(cv t.2).length<=1:=by unfold cv;split<;>simp
  lia
end My
namespace L2
open PySem PySem.Spec PyProof.Rows
def UE{l:List Nat}{g:TG}{tb:TS}{D:je}{σ:St}{H:Hp}(Pv:Nat->St->Hp->Prop)(h0:Pv 0 σ H)
  (hs:∀i c σ H,l[i]?=some c->Pv i σ H->g (.str (My.S [c])) σ H λσ2 H2=>tb {D with nx:=Pv (i+1),ct:=Pv (i+1),bk:=D.nx} σ2 H2) (hd:∀σ H,Pv l.length σ H->D.nx σ H) :
  ∃W:Nat->Nat->St->Hp->Prop,(∃m,W 0 m σ H)/\∀i m σ H,W i m σ H ->
   ((pA (My.S l)).stop i H/\D.nx σ H)\/((pA (My.S l)).go i H/\∃N:St->Hp->Prop,(∀σ' O,N σ' O->∃m',m'<m/\W (i+1) m' σ' O)/\∀x O,(pA (My.S l)).yld i H x O->g x σ O λσ2 H2=>tb {D with nx:=N,ct:=N,bk:=D.nx} σ2 H2):=by
 exists λi m σ H=>m=l.length-i/\i<=l.length/\Pv i σ H,⟨l.length,tS,bJ _,h0⟩,?_;rintro i m σ H ⟨rfl,hi,p⟩;by_cases aF:i<l.length
 .refine .inr ⟨aF,Pv (i+1),λσ' O p'=>⟨l.length-(i+1),tO,Y,aF,p'⟩,λx O y=>?_⟩;obtain⟨rfl,c,hc,rfl⟩:=y;show hs i c σ _ (by simpa [My.S] using hc) p
 .have e:i=l.length:=by lia
  subst e;show .inl ⟨aC _,hd σ H p⟩
end L2
namespace My
open PySem L2 OF
def KR(h:∀c∈l,c<128):(S l).cps.all (· < 128)=true:=by
 show l.toArray.all _=true;simpa using h
def zeM(hm:m<2^16):∀c∈cy m,c<128:=λc hc=>by have:=sS hm hc;lia
end My
namespace L2
open PySem PySem.Spec PyProof.Rows
def cz.gone{P:Program}{w:World}{H:Hp}{h:Heap}{a:Addr}(x:cz P w H h)(e:h.get? a=none):H a=none:=by
 cases q:H a with
 |none=>rfl
 |some o=>obtain⟨ob,z⟩:=(x a o q).there;rw[e]at z;cases z
def zt(h:Heap)(a T:Addr)(C:Value):Prop :=
 ∃oe vs oT ts a0,h.get? a=some oe/\(oe.cls=C/\vs[0]?=some a0)/\oe.data=.fields vs/\vs[1]?=some (.ref T)/\T≠a/\h.get? T=some oT/\oT.data=.fields ts/\ts[3]?=some .none
def gX(P:Program)(w:World):kd:=λouter H s E e s'=>∃(a T:Addr) (C:Value) (O:Hp),e=.ref a/\s'.os=s.os/\AllBare s'.gens/\Un (bT outer) [] H O s.heap s'.heap/\cz P w O s'.heap /\
 s.heap.get? a=none/\s.heap.get? T=none/\O a=none/\O T=none/\zt s'.heap a T C/\E C none O
section
variable{X:Cx}{J:List (Addr×Obj)}{σ:St}{H:Hp}{s:Shared}
def UK{env:Env}{l:List Env}{L:Addr}(h:env.frame=some L):bT (env::l)=L::bT l:=by
 unfold bT;rw[Dt,h]
structure iE(X:Cx):Prop where
 stk:X.stack=X.env::X.outer
 fr:X.env.frame=some X.env.locals
 ex:X.ex=[]
def xq(X:Cx)(H:Hp)(h:Heap)(xs:List Addr):Prop:=∀b∈xs,X.s₀.heap.get? b=none/\H b=none/\∃o vs,h.get? b=some o/\o.data=.fields vs
def Inv.over(qac:iE X)(qae:Inv X J σ H s){xs:List Addr}(gH:xq X H s.heap xs){h3:Heap}(st:(PySem.W.hideAll s.heap (bT X.stack++xs)).StaysIn h3)(ups:∀b o,b∈bT X.stack->s.heap.get? b=some o->∃sl,h3.get? b=some {o with slots:=sl}) :
  cz X.prog X.w H h3/\Un (bT X.stack) xs H H s.heap h3:=by
 have stays:∀b o,s.heap.get? b=some o->b∉bT X.stack->b∉xs->h3.get? b=some o:=λb o e Z M=>st b o (Jd _ e λz=>(bC.mp z).elim Z M)
 have uk:∀b o,H b=some o->b∉bT X.stack/\b∉xs:=λb o e=>⟨λz=>(by rw[qae.stkFree b z]at e;cases e),λz=>(by rw[(gH b z).2.1]at e;cases e)⟩
 exists λb o e=>(qae.hok b o e).stay (λc u hc q=>?_) (λ_ q=>q) λ_ _ q=>q,λb o e n hb hx=>stays b o e hb hx,λb o e n hb hx=>ups b o hb e,λ_ _ _ n _=>n,λb o e hx=>?_,λ_ _ q=>q,λ_ _ _ q=>q,λ_ ps q=>⟨#[],by rw[q];simp⟩
 .have oE:∃o',H c=some o':=by
   rcases hc with rfl|hc
   .exists _,e
   .exists _,hc
  obtain⟨o',e'⟩:=oE;obtain⟨Z,M⟩:=uk c o' e';show stays c u q Z M
 .by_cases hb:b∈bT X.stack
  .obtain⟨sl,z⟩:=ups b o hb e;exists _,z
  .exists o,stays b o e hb hx
def NC(qac:iE X)(qae:Inv X J σ H s){xs:List Addr}(gH:xq X H s.heap xs){a:Addr}{C a0:Value}{h3:Heap}
  (ups:∀b o,b∈bT X.stack->s.heap.get? b=some o->∃sl,h3.get? b=some {o with slots:=sl}) (fl:Heap.FlyingW (PySem.W.hideAll s.heap (bT X.stack++xs)) X.outer a C a0 h3) (ha:s.heap.get? a=none\/a∈xs) {E:XK} (hE:E C none H) :
  gX X.prog X.w X.outer X.H₀ X.s₀ E (.ref a) {s with heap:=h3}:=by
 obtain⟨st,hn,hfun,oe,vs,T,oT,ts,he,hc,hd,Z,hnT,oj,hT,uG,qd⟩:=fl;have fresh:∀b,s.heap.get? b=none->X.s₀.heap.get? b=none:=λb e=>by
  cases q:X.s₀.heap.get? b with
  |none=>rfl
  |some o=>obtain⟨o',z⟩:=qae.base.there b o q (by rw[qac.ex];simp);rw[e]at z;cases z
 have uS:bT X.stack=X.env.locals::X.fs:=by rw[qac.stk,UK qac.fr]
 obtain⟨hok,un⟩:=Inv.over qac qae gH st ups;have young:∀b o,X.s₀.heap.get? b=some o->b∉xs:=λb o e z=>by rw[(gH b z).1]at e;cases e
 have old:∀b o,X.s₀.heap.get? b=some o->b≠X.env.locals:=λb o e=>bR (cP (bh e) qae.ok.above)
 have nx:∀b:Addr,b∉X.ex:=λb=>by rw[qac.ex];simp
 have dz:s.heap.get? T=none\/T∈xs:=by
  by_cases hx:T∈xs
  .exact .inr hx
  .refine .inl ?_;cases q:s.heap.get? T with
   |none=>rfl
   |some o =>
    by_cases hf:T∈bT X.stack
    .obtain⟨_,o2,j7,wm⟩:=qae.stack.mem hf;obtain⟨sl,z⟩:=ups T o2 hf j7;rw[hT]at z;cases z;show absurd uG (wm ts)
    .have:=Jd (bT X.stack++xs) q λz=>(bC.mp z).elim hf hx
     rw[hnT]at this;cases this
 have both:∀b,(s.heap.get? b=none\/b∈xs)->X.s₀.heap.get? b=none/\H b=none:=λb hb=>by
  rcases hb with e|e
  .exists fresh b e,qae.hok.gone e
  .exists (gH b e).1,(gH b e).2.1
 exists a,T,C,H,Y,qae.os,qae.bare,⟨λb o e n hb hx=>?_,λb o e n hb hx=>?_,λb o e n _=>qae.base.free b o e n (nx b),λb o e hx=>?_,qae.base.tups,qae.base.frzs,qae.base.tbls⟩,hok,(both a ha).1,(both T dz).1,(both a ha).2,(both T dz).2,⟨oe,vs,oT,ts,a0,he,hc,hd,Z,oj,hT,uG,qd⟩,hE
 .have e1:=qae.base.keep b o e n hb (nx b);show un.keep b o e1 (qae.base.free b o e n (nx b)) (by rw[uS];show λz=>(aV.mp z).elim (old b o e) hb) (young b o e)
 .obtain⟨sl,e1⟩:=qae.base.slot b o e n hb (nx b);obtain⟨yD,e2⟩:=un.slot b _ e1 (qae.base.free b o e n (nx b)) (by rw[uS];show cX _ hb) (young b o e);exists yD,e2
 .obtain⟨o1,e1⟩:=qae.base.there b o e (nx b);show un.there b o1 e1 (young b o e)
def zd9(qac:iE X)(qae:Inv X J σ H s){h':Heap}{a:Addr}{C:Value}{vs:List Value}(hx:Heap.MadeExcOf s.heap h' a C vs){E:XK}(hE:E C none H){E':Value->Shared->Prop} :
  wpAny (model X.prog X.w) X.A (leaving X.env (.ref a)) (λ_ mZ=>gX X.prog X.w X.outer X.H₀ X.s₀ E (.ref a) mZ) E' {s with heap:=h'}:=by
 have iT:X.A.frames=some (X.env::X.outer):=by rw[<-qac.stk];show qae.ok.frames
 have hl:s.heap.FunFrames (PySem.W.hideAll s.heap (bT X.stack++[])) (X.env::X.outer):=by
  rw[<-qac.stk];show OL qae.stack λenv he b hb=>qr _ (CY.mpr ⟨env,he,hb⟩)
 show wpAny_leaves_madeW (base:=PySem.W.hideAll s.heap (bT X.stack++[])) (h:=s.heap) (s:={s with heap:=h'}) iT qac.fr (λb o e=>Fm _ e) hl hx λh3 t fl _ _ ups=>?_
 show NC qac qae (xs:=[]) (λb hb=>by cases hb) (λb o hb e=>ups b o (hx.keeps b o e) (by
  obtain⟨_,o2,j7,wm⟩:=qae.stack.mem hb;rw[e]at j7;cases j7;show wm)) fl (.inl hx.new) hE
def RU(qae:Inv X J σ H s){E:XK}{e:Value}{s':Shared}(h:gX X.prog X.w X.stack H s E e s') :
  ∃(a T:Addr) (C:Value) (O:Hp),e=.ref a/\Inv X J σ O s'/\s.heap.get? a=none/\s.heap.get? T=none/\O a=none/\O T=none/\zt s'.heap a T C/\E C none O:=by
 obtain⟨a,T,C,O,rfl,ho,hg,un,hok,Z,M,h3,h4,h5,h6⟩:=h;exists a,T,C,O,Y,qae.call' ho un hok hg (λb hb=>by cases hb),Z,M,h3,h4,h5,h6
def S5(qac:iE X)(qae:Inv X J σ H s){s1:Shared}{H1:Hp}{a T:Addr}{C:Value}(Z:s.heap.get? a=none)(M:s.heap.get? T=none)(h3:H1 a=none)(h4:H1 T=none)(h5:zt s1.heap a T C):xq X H1 s1.heap [a,T]:=by
 obtain⟨oe,vs,oT,ts,a0,he,hc,hd,_,_,hT,uG,_⟩:=h5;have fresh:∀b,s.heap.get? b=none->X.s₀.heap.get? b=none:=λb e=>by
  cases q:X.s₀.heap.get? b with
  |none=>rfl
  |some o=>obtain⟨o',z⟩:=qae.base.there b o q (by rw[qac.ex];simp);rw[e]at z;cases z
 intro b hb;rcases aV.mp hb with rfl|hb
 .exists fresh _ Z,h3,oe,vs,he,hd
 .have e:b=T:=by simpa using hb
  subst e;exists fresh _ M,h4,oT,ts,hT,uG
def TZ(qae:Inv X J σ H s){a T:Addr}{C:Value}(h5:zt s.heap a T C):∃a0,Heap.FlyingW (PySem.W.hideAll s.heap (bT X.stack++[a,T])) X.stack a C a0 s.heap:=by
 obtain⟨oe,vs,oT,ts,a0,he,hc,hd,nW,cw,hT,uG,h3⟩:=h5;have m1:a∈bT X.stack++[a,T]:=ft _ tS;have m2:T∈bT X.stack++[a,T]:=ft _ tS;exists a0,λb o e=>Fm _ e,Jy _ m1,OL qae.stack λenv he b hb=>qr _ (CY.mpr ⟨env,he,hb⟩),oe,vs,T,oT,ts,he,hc,hd,nW,Jy _ m2,cw,hT,uG,h3
def Jh(qae:Inv X J σ H s){h3:Heap}(ups:s.heap.UpToSlots h3):∀b o,b∈bT X.stack->s.heap.get? b=some o->∃sl,h3.get? b=some {o with slots:=sl}:=λb o hb e=>ups b o e (by
 obtain⟨_,o2,j7,wm⟩:=qae.stack.mem hb;rw[e]at j7;cases j7;show wm)
def zg1(qac:iE X)(qae:Inv X J σ H s){E:XK}{e:Value}{s':Shared}(h:gX X.prog X.w X.stack H s E e s'){E':Value->Shared->Prop} :
  wpAny (model X.prog X.w) X.A (leaving X.env e) (λ_ mZ=>gX X.prog X.w X.outer X.H₀ X.s₀ E e mZ) E' s':=by
 obtain⟨a,T,C,O,rfl,J',Z,M,h3,h4,h5,h6⟩:=RU qae h;have ap:=S5 qac qae Z M h3 h4 h5;obtain⟨a0,fl⟩:=TZ J' h5;have iT:X.A.frames=some (X.env::X.outer):=by rw[<-qac.stk];show qae.ok.frames
 have fl2:=fl;rw[show X.stack=X.env::X.outer from qac.stk]at fl;show wpAny_leaves_onW (a0:=a0) (base:=PySem.W.hideAll s'.heap (bT (X.env::X.outer)++[a,T])) iT qac.fr fl λqd Vm ups=>?_
 rw[<-qac.stk]at Vm;show NC qac J' ap (Jh J' ups) Vm (.inr tS) h6
end
open PySem PySem.Spec PyProof.Rows
noncomputable def nr:List Str:=["__init__","__getattribute__","__getattr__","__class__"]
noncomputable abbrev vB:List Value:=[.type "ValueError",.type "Exception",.type "BaseException",.type "object"]
inductive Tl (h:Heap):List Value->Prop
 |base:Tl h vB
 |own {D:Addr}{o:Obj}{c:ClassData}{m:Str->Option Value}{l:List Value} (e:h.get? D=some o) (k:o.data=.cls c) (n:h.Ns c.ns m) (q:∀x∈nr,m x=none) (r:Tl h l):Tl h (.ref D::l)
def Tl.toOwn(T:Tl h l):OwnTail h vB l:=by
 induction T with
 |base=>show .base
 |@own D o c m l e k n q r ih =>
  obtain⟨c0,dd,dt,sl⟩:=o;obtain rfl:dt=.cls c:=k;show .own e n (q _ tD) ih
structure fh(C:Addr)(bm:List Value)(h:Heap):Prop where
 ex:∃(nm q:Str) (N:Addr) (bs:List Value) (hd:Bool) (sn:List Str) (sub:List Value) (ab:Bool) (col:Option Bool) (dd:Option Addr) (k0 k1 k2 k3 k5:Option Value) (m:Str->Option Value),
  h.get? C=some (excClassObj nm q C N bs bm hd sn sub ab col dd k0 k1 k2 k3 k5 "ValueError.__new__")/\h.Ns N m/\(∀x∈nr,m x=none)/\Tl h bm
def Gm(K:Frag)(N:Addr):Bool:=PySem.W.nsOkIn K N&&nr.all λx=>PySem.W.nsIn K N x == some none
def Fz(K:Frag):List Value->Bool
 |[]=>false
 |v::l=>(v::l) == vB || match v with
  | .ref D=>(match K.lookup D with
   | some o=>(match o.data with
    |.cls c=>Gm K c.ns&&Fz K l
    |_=>false)
   |none=>false)
  |_=>false
def iM(K:Frag)(C:Addr)(bm:List Value):Bool:=match K.lookup C with
 | some o=>(match o.data with
  |.cls c=>o.cls == .type "type" && o.slots.toList.length == 6&&o.slots.toList[4]? == some (some (.builtin "ValueError.__new__"))&&c.mro == .ref C::bm && !c.hasDel&&Fz K bm&&Gm K c.ns
  |_=>false)
 |none=>false
def T1{K:Frag}{h:Heap}{N:Addr}(X:K.In h)(e:Gm K N=true):h.Ns N (h.nsMap N)/\∀x∈nr,h.nsMap N x=none:=by
 obtain⟨a,b⟩:=ya.mp e;exists .of_isNs (PySem.W.isNs_of_in X a),λx hx=>PySem.W.nsMap_none_of_in X a (kR.mp (kH.mp b x hx))
set_option tactic.hygienic true in
theorem UA{K:Frag}{h:Heap}(X:K.In h):∀{l:List Value},Fz K l=true->Tl h l
 |[],e=>by cases e
 |v::l,e=>by
  rcases Bool.or_eq_true_iff.mp e with z|z
  .rw[kR.mp z];show .base
  .split at z
   .split at z
    .rename_i o ho;split at z
     .rename_i c hc;obtain⟨z1,z2⟩:=ya.mp z;obtain⟨y1,y2⟩:=T1 X z1;show .own (X _ _ ho) hc y1 y2 (UA X z2)
     .cases z
    .cases z
   .cases z
def ua(h:l.length=n+1):∃a v,l=a::v/\v.length=n:=by
 cases l with
 |nil=>cases h
 |cons a v=>exists a,v,Y,GV h
set_option tactic.hygienic true in
def vG{K:Frag}{h:Heap}{C:Addr}{bm:List Value}(X:K.In h)(e:iM K C bm=true):fh C bm h:=by
 unfold iM at e;split at e
 .rename_i o ho;split at e
  .rename_i c hc;simp only[iY,kR,QZ]at e;obtain⟨⟨⟨⟨⟨⟨e0,e6⟩,e2⟩,e1⟩,e3⟩,e4⟩,e5⟩:=e;obtain⟨cl,dd,dt,⟨sl⟩⟩:=o;subst hc e0;obtain⟨k0,l1,rfl,f1⟩:=ua e6;obtain⟨k1,l2,rfl,f2⟩:=ua f1;obtain⟨k2,l3,rfl,f3⟩:=ua f2;obtain⟨k3,l4,rfl,f4⟩:=ua f3;obtain⟨k4,l5,rfl,f5⟩:=ua f4;obtain⟨k5,l6,rfl,f6⟩:=ua f5;cases uc f6;cases e2;obtain⟨nm,bs,mro,ns,qn,hd,sn,sub,ab,col,del⟩:=c;subst e1 e3;obtain⟨y1,y2⟩:=T1 X e5;exists nm,qn,ns,bs,hd,sn,sub,ab,col,dd,k0,k1,k2,k3,k5,_,X _ _ ho,y1,y2,UA X e4
  .cases e
 .cases e
section
variable{qad:Model}{A:Around}{E:Value->Shared->Prop}{h:Heap}{g:Array GenState}{d:Drawn}{t:Nat}{os:OsState}{C a:Addr}{bm:List Value}{o:Obj}{prog:Program}{w:World}
def Tl.along(T:Tl h l)(hn:n∈nr)(hr:lookupAlong vB n=pure y)(hq:Q y ⟨h,g,d,t,os⟩):wpAny qad A (lookupAlong l n) Q E ⟨h,g,d,t,os⟩:=by
 induction T with
 |base=>rw[hr];show aS hq
 |@own D ob c m l e k ns q r ih =>
  obtain⟨c0,dd,dt,sl⟩:=ob;obtain rfl:dt=.cls c:=k;rw[lookupAlong_cons];show aq (wpAny_classOwn_cls e ns (by rw[q n hn];show ih))
def fh.look(qab:fh C bm h)(hn:n∈nr)(hB:typeLookup (.type "ValueError") n=pure y)(hq:Q y ⟨h,g,d,t,os⟩):wpAny qad A (typeLookup (.ref C) n) Q E ⟨h,g,d,t,os⟩:=by
 obtain⟨nm,q,N,bs,hd,sn,sub,ab,col,dd,k0,k1,k2,k3,k5,m,hC,hN,hm,T⟩:=qab.ex;have hr:lookupAlong vB n=pure y:=by assumption
 rw[typeLookup_eq];show aq (wpAny_mroOf_exc hC ?_);rw[lookupAlong_cons];show aq (wpAny_classOwn_exc hC hN (by rw[hm n hn];show T.along hn hr hq))
def fh.sub(qab:fh C bm h)(hq:Q ((Value.ref C::bm).contains c) ⟨h,g,d,t,os⟩):wpAny qad A (isSubtype (.ref C) c) Q E ⟨h,g,d,t,os⟩:=by
 obtain⟨nm,q,N,bs,hd,sn,sub,ab,col,dd,k0,k1,k2,k3,k5,m,hC,_⟩:=qab.ex;show wpAny_isSubtype_exc hC hq
def fh.has(qab:fh C bm h)(hb:vB.contains (.type T)=b):(Value.ref C::bm).contains (.type T)=b:=by
 obtain⟨nm,q,N,bs,hd,sn,sub,ab,col,dd,k0,k1,k2,k3,k5,m,hC,hN,hm,T⟩:=qab.ex;rw[List.contains_cons,T.toOwn.hasType hb];rfl
def zef:typeLookup (.type "ValueError") "__class__" = pure (some (.builtin "object.__class__")):=by rw[typeLookup_type,builtinLookup_eq_fast];kernel_rfl
def zao(qab:fh C bm h)(hx:h.get? a=some o)(hc:o.cls=.ref C)(hq:R (.ok (.ret (.ref C))) ⟨h,g,d,t,os⟩) :
  codeAny (model prog w) A (.call (.builtin "getset_descriptor.__get__") ⟨[.builtin "object.__class__",.ref a,.ref C],[]⟩) R ⟨h,g,d,t,os⟩:=by
 have z1:=Ff;have z2:(Value.ref C::bm).contains (.type (".".intercalate ("object.__class__".cutAt '.').dropLast))=true:=by rw[F.owner_object_class];show qab.has tE
 show codeAny_call_builtin F.slot_gs_get.plain F.entry_gs_get (F.slot_gs_get.check _ _ _ _ _ _ _ _ z1 (F.args_gs_get _ _ _) ?_);repeat (any_goals (first|assumption|(with_reducible show rS hx ?_;rw[hc])|(with_reducible show fh.sub qab ?_;rw[z2])|wp_step))
 exists FC _ tE,JT F.entry_object_class ?_;repeat (any_goals (first|assumption|(with_reducible show rS hx ?_;rw[hc])|wp_step))
def zbe(qab:fh C bm h)(hx:h.get? a=some o)(hc:o.cls=.ref C)(hq:Q (.done (.ret (.ref C))) ⟨h,g,d,t,os⟩) :
  wpAny (model prog w) A (Builtin.«object.__getattribute__» ⟨[.ref a,.str "__class__" tk],[]⟩) Q E ⟨h,g,d,t,os⟩:=by
 have z1:=Ff;have y5:=Ff;have y6:=F.slot_gs_get.lookup;have y7:=F.slot_gs_set.lookup;have zn:("__class__" : Str)∈nr:=by decide
 repeat (any_goals (first|assumption|(with_reducible show rS hx ?_;rw[hc])|with_reducible show fh.look qab zn zef ?_|wp_step))
 show zao qab hx hc ?_;repeat (any_goals (first|assumption|wp_step))
def Yt(qab:fh C bm h)(hx:h.get? a=some o)(hc:o.cls=.ref C)(hq:Q () ⟨h,g,d,t,os⟩):wpAny qad A (checkBuiltinCall "BaseException.__getattribute__" ⟨[.ref a,nv],[]⟩) Q E ⟨h,g,d,t,os⟩:=by
 have e1:builtinKind "BaseException.__getattribute__" = some .slot:=by decide+kernel
 have e2:splitId "BaseException.__getattribute__" = some ("BaseException","__getattribute__"):=by decide+kernel
 have e3:(Value.ref C::bm).contains (.type "BaseException")=true:=qab.has tE;have ha:=F.args_bexc_ga (.ref a) nv;simp only[checkBuiltinCall,e1,e2];show aq ?_;repeat (first|(with_reducible show rS hx ?_;rw[hc])|(with_reducible show fh.sub qab ?_;rw[e3])|wp_step)
 show hq
def zgm(qab:fh C bm h)(hx:h.get? a=some o)(hc:o.cls=.ref C){tk:Tok}{fill expr:Bool}{Q:Value->Shared->Prop}(hq:Q (.ref C) ⟨h,g,d,t,os⟩) :
  wpAny (model prog w) A (getAttrBy (.ref a) (.str "__class__" tk) fill expr) Q E ⟨h,g,d,t,os⟩:=by
 have FB:=PySem.F.attrBase_ValueError;have y3:=FB.ga.bind (.ref a);have x0:(expr&&onTheHeap (Value.builtin "BaseException.__getattribute__"))=false:=by cases expr<;>rfl
 have x2:(Value.builtin "BaseException.__getattribute__" == Value.builtin "object.__getattribute__")=false:=by decide+kernel
 have x1:(onTheHeap (Value.ref C)&&Value.builtin "BaseException.__getattribute__" == Value.builtin "object.__getattribute__")=false:=by rw[x2];rfl
 have n1:("__getattribute__" : Str)∈nr:=by decide
 have n2:("__getattr__" : Str)∈nr:=by decide
 repeat (any_goals (first|assumption|(with_reducible show rS hx ?_;rw[hc])|with_reducible show fh.look qab n1 FB.ga.lookup ?_|with_reducible show fh.look qab n2 FB.noGetattr ?_|wp_step))
 show codeAny_call_builtin FB.ga.plain F.entry_bexc_ga (Yt qab hx hc (zbe qab hx hc ?_));repeat (any_goals (first|assumption|wp_step))
def zfY(qab:fh C bm h)(hx:h.get? a=some o)(hc:o.cls=.ref C){Q:Option Value->Shared->Prop}(hq:Q (some (.ref C)) ⟨h,g,d,t+1,os⟩):wpAny (model prog w) A (getAttr? (.ref a) "__class__") Q E ⟨h,g,d,t,os⟩:=by
 repeat (any_goals (first|assumption|with_reducible apply zgm qab hx hc|wp_step))
def Uh(a C:Addr)(h:Heap):Prop:=∃o,h.get? a=some o/\o.cls=.ref C
def S0{K:Frag}(e:iM K C bm=true):PySem.W.KitX K (.ref a) (.ref C) (Uh a C) where
 ty:=λqad h _ ⟨o,Z,M⟩=>M ▸ (jin Z).andThen .now
 it:=λqad h X _=>by
  obtain⟨nm,q,N,bs,hd,sn,sub,ab,col,dd,k0,k1,k2,k3,k5,m,hC,_⟩:=(vG X e).ex;intro A' Q' E' s' k q;show aq (wpAny_loadPart (k _ _ hC) (aS q))
 ne:=λh tp dd ae n sl X Bz=>by
  obtain⟨nm,q,N,bs,hd,sn,sub,ab,col,wW,k0,k1,k2,k3,k5,m,hC,_⟩:=(vG X e).ex;show Cc.mpr λz=>?_
  have z':=Value.ref.inj (kR.mp z);subst z';have y:Value.type "type" = Value.type "tuple" := congrArg (λo:Option Obj=>match o with|some o=>o.cls|none=>.none) (hC.symm.trans Bz);show absurd y tD
 ca:=fun {prog w A E Q s} X p k=>by
  obtain⟨h,g,d,t,os⟩:=s;obtain⟨o,Z,M⟩:=p;show zfY (vG X e) Z M k
end
noncomputable abbrev ni(a C:Addr):HO:=.ext (Uh a C)
section
variable{X:Cx}
def zek:gA X (.builtin "isinstance") (fun xs H Q=>∃ (a C:Addr) (bm:List Value) (b:Bool),H a=some (ni a C)/\iM X.K C bm=true /\ ((∃D,xs=[.ref a,.ref D]/\kitOne X.K (.ref C) (.ref D)=some b)\/∃n,xs=[.ref a,.ty n]/\kitOne X.K (.ref C) (.type n)=some b)/\Q (.bl b) H):=by
 intro J s σ H xs us Q I r h;obtain⟨a,C,bm,b,hH,he,hk,q⟩:=h;obtain⟨p,_,_⟩:=(show cI X.prog X.w H s.heap a (ni a C) from I.hok a _ hH);rcases hk with ⟨D,rfl,hk⟩|⟨n,rfl,hk⟩
 .obtain⟨u,w',rfl,ru,fS⟩:=xY r;cases (show u=Value.ref a from ru);cases (show w'=Value.ref D from fS);show VY (S0 he) I.kIn p hk (λz=>nomatch z) λtk=>⟨.bl b,H,I.tok _,Y,q⟩
 .obtain⟨u,w',rfl,ru,fS⟩:=xY r;cases (show u=Value.ref a from ru);cases (show w'=Value.type n from fS);show VY (S0 he) I.kIn p hk (λz=>nomatch z) λtk=>⟨.bl b,H,I.tok _,Y,q⟩
end
def zgq:bootBuiltins "ValueError" = some (.type "ValueError"):=by kernel_rfl
open PySem PySem.Spec PyProof.Rows
structure J1(X:Cx)(E:XK):Prop where
 own:iE X
 xe:∀e s',wpAny (model X.prog X.w) X.A (leaving X.env e) (λ_ mZ=>gX X.prog X.w X.outer X.H₀ X.s₀ E e mZ) (λ_ _=>False) s'->X.xe e s'
section
variable{P:Program}{w:World}{K:Frag}{mg:Str->Option Value}{base:Heap}
def Rh:iE (jh CX P w K mg base N qual scope f cd A outer s H E):=⟨Y,Y,Y⟩
def zcq(qac:iE X):iE X.nox:=⟨qac.stk,qac.fr,qac.ex⟩
def fZ:J1 (jh (gX P w) P w K mg base N qual scope f cd A outer s H E) E :=
 ⟨Rh,λ_ _ h=>cC h (λ_ _ z=>z) λ_ _ z=>False.elim z⟩
def mi.okE{x qual:Str}{st:Stmt}{f:Addr}{fd:FuncData}{N ps:List Str}{k:Nat}{sp:Sp}(F:mi K x qual st f fd)(S:nM N ps (bX st))(len:∀vs H Q E,sp vs H Q E->vs.length=ps.length)
  (hb:∀ (bL:Value) (A:Around) (outer:List Env) (s:Shared) (H:Hp) (vs:List V) (Q:VK) (E:XK),bY k (A.deeper (envOfC qual (bX st) s.heap.objs.size f bL))->sp vs H Q E -> ∃t,dg (jh (gX P w) P w K mg base N qual (bX st) f bL A outer s H E) (lP st) t/\t {nx:=λ_ O=>Q .non O,rt:=Q} (jF N vs) H):hV P w K mg base (gX P w) (k+1) f fd ps sp:=by
 obtain⟨oc,od,kV,doc,pm,an,bL,ct,oK,rfl,lk,jl⟩:=F.ex;show Wi lk jl S len λA outer s H vs Q E hr gU=>hb bL A outer s H vs Q E hr gU
end
section
variable{X:Cx}{E:XK}
def jr(L:J1 X E):qg (gX X.prog X.w) X E:=λ_ _ _ _ _ _ I h=>L.xe _ _ (zg1 L.own I h)
def zgC(C:Addr)(E:XK):TS:=λ_ _ H=>E (.ref C) none H
def vd{j}(L:J1 X E)(hc:X.calm=true)(hg:Gl X x)(hm:X.mg x=some (.ref C))(ex:iM X.K C bm=true)(hd:(x == ("__debug__" : Str))=false:=by decide) :
  PS X (.Raise (some (.Call (.Name x np) [.Constant (.str msg) j cp] [] bG)) none pos) (zgC C E):=by
 intro J s σ H D I h;obtain⟨nm,q,N,bs,bU,sn,sub,ab,col,dd,k0,k1,k2,k3,k5,m,hC,hN,hq,T⟩:=(vG I.ok.mod.kin ex).ex;have hb:bm.contains (.type "BaseException")=true:=T.toOwn.hasType tE;show wpAny_Raise_call_subT (C:=C) (nm:=nm) (q:=q) (N:=N) (bs:=bs) (bm:=bm) (hdct:=bU) (sn:=sn) (sub:=sub) (ab:=ab) (col:=col) (dd:=dd) (k0:=k0) (k1:=k1) (k2:=k2) (k3:=k3) (k5:=k5)
  PySem.F.excBase_ValueError (mN:=m) hb (I.ok.hd hc) Y (hq _ tD) (uA I hg hm ⟨Y,?_⟩ hd)
 have ha:PA X [.Constant (.str msg) j cp] (jw (tC (.str msg)) nV):=bN gZ dC;show zp (cC (ha bG J s σ H (λvs H1=>vs=[.str msg]/\H1=H) I ⟨Y,Y⟩) (λus s1 Z=>?_) λ_ _ z=>z);obtain⟨vs,H1,I1,rv,rfl,rfl⟩:=Z;have rl:=rv.length;exists Y,?_,I1.bk _ _ hC,hN.keeps I1.bk,T.toOwn.keeps I1.bk,λh' e hx=>L.xe _ _ (zd9 L.own I1 hx h);rw[<-rl];show 1<=sizeLine;decide
end
def PS.nox{X:Cx}{st:Stmt}{t:TS}(h:PS X.nox st t):PS X st t:=λJ s σ H D I hw =>
 cC (h J s σ H D (I.wish _) hw) (λ_ _ q=>q.unwish) λ_ _ z=>False.elim z
section
variable{X:Cx}{J:List (Addr×Obj)}{σ:St}{H:Hp}{s:Shared}
def AA(X:Cx)(J:List (Addr×Obj))(xs:List Addr):Prop:=∀b∈xs,b≠X.env.locals/\∀p∈X.pn++J,p.1≠b
def Inv.turn(qac:iE X)(nc:∀x,X.env.cells.lookup x=none)(qae:Inv X J σ H s)(gH:xq X H s.heap xs)(aw:AA X J xs)(st:(PySem.W.hideAll s.heap (bT X.stack++xs)).StaysIn h3)
  (ups:∀b o,b∈bT X.stack->s.heap.get? b=some o->∃sl,h3.get? b=some {o with slots:=sl}):Inv X J σ H {s with heap:=h3,toks:=t'}:=by
 obtain⟨hok,un⟩:=Inv.over qac qae gH st ups;have uS:bT X.stack=X.env.locals::X.fs:=by rw[qac.stk,UK qac.fr]
 have young:∀b o,X.s₀.heap.get? b=some o->b∉xs:=λb o e z=>by rw[(gH b z).1]at e;cases e
 have old:∀b o,X.s₀.heap.get? b=some o->b≠X.env.locals:=λb o e=>bR (cP (bh e) qae.ok.above)
 have nx:∀b:Addr,b∉X.ex:=λb=>by rw[qac.ex];simp
 exists qae.ok,qae.os,qae.bare,⟨λb o e n hb hx=>?_,λb o e n hb hx=>?_,qae.base.free,λb o e hx=>?_,qae.base.tups,qae.base.frzs,qae.base.tbls⟩,?_,λx c e=>(by rw[nc x]at e;cases e),qae.free,qae.freeC,λp hp=>?_,hok,qae.len
 .have e1:=qae.base.keep b o e n hb (nx b);show un.keep b o e1 (qae.base.free b o e n (nx b)) (by rw[uS];show λz=>(aV.mp z).elim (old b o e) hb) (young b o e)
 .obtain⟨sl,e1⟩:=qae.base.slot b o e n hb (nx b);obtain⟨yD,e2⟩:=un.slot b _ e1 (qae.base.free b o e n (nx b)) (by rw[uS];show cX _ hb) (young b o e);exists yD,e2
 .obtain⟨o1,e1⟩:=qae.base.there b o e (nx b);show un.there b o1 e1 (young b o e)
 .obtain⟨m,⟨o,es,ep,ho,hd,r⟩,hl⟩:=qae.loc;obtain⟨sl,e⟩:=ups X.env.locals o (by rw[uS];show jP) ho;exists m,⟨_,es,ep,e,hd,r⟩,λi x v Z M h3=>?_;obtain⟨u,ru,z⟩:=hl i x v Z M h3;exists u,ru,?_;rcases z with z|⟨_,c,z,_⟩
  .exact .inl z
  .rw[nc x]at z;cases z
 .obtain⟨e,n,ne,nf,d⟩:=qae.pin p hp;have hx:p.1∉xs:=λz=>(aw p.1 z).2 p hp rfl
  exists un.keep p.1 p.2 e n (by simp_all) hx,n,ne,nf,d
def Inv.takeUp(qac:iE X)(nc:∀x,X.env.cells.lookup x=none)(qae:Inv X J σ H s)(hn:H a=none)(h0:X.s₀.heap.get? a=none)(aw:AA X J [a])(ho:cI X.prog X.w (upd H a o) s.heap a o):Inv X J σ (upd H a o) s:=by
 have ne:∀b u,H b=some u->b≠a:=λb u e z=>by simp_all
 exists qae.ok,qae.os,qae.bare,⟨qae.base.keep,qae.base.slot,λb ob e n hx=>?_,qae.base.there,λb xs q=>?_,λb ob u q=>?_,λb ps q=>?_⟩,qae.loc,qae.cell,?_,λx c e=>(by rw[nc x]at e;cases e),λp hp=>?_,λb u e=>?_,qae.len
 .rw[aG (λz=>by simp_all)];show qae.base.free b ob e n hx
 .have:=qae.base.tups b xs q;rw[aG (ne b _ this)];show this
 .have:=qae.base.frzs b ob u q;rw[aG (ne b _ this)];show this
 .obtain⟨more,this⟩:=qae.base.tbls b ps q;show⟨more,by rw[aG (ne b _ this)];show this⟩
 .rw[aG (Ne.symm (aw a tS).1)];show qae.free
 .obtain⟨e,n,Z,M,h3⟩:=qae.pin p hp;exists e,by rw[aG ((aw a tS).2 p hp)];show n,Z,M,h3
 .by_cases hb:b=a
  .subst hb;rw[ao]at e;cases e;show ho
  .rw[aG hb]at e;show (qae.hok b u e).stay (λ_ _ _ q=>q) (λc q=>by rw[aG (ne c _ q)];show q) λc xs q=>by rw[aG (ne c _ q)];show q
def Inv.unbound(nc:∀x,X.env.cells.lookup x=none)(qae:Inv X J σ H s)(hN:X.N.Nodup)(hi:X.N[i]?=some n)(hm:∀(j:Nat) (x:Str) (v:V),X.N[j]?=some x->σ[j]?=some (some v)->zL X.env.scope x->∃u,RelV v u/\QV X.env s.heap m x u)
  (hn:h'.Ns X.env.locals (λx=>if x=n then u else m x)) (hs:Heap.SameBut X.env.locals s.heap h'):Inv X J (σ.set i none) H {s with heap:=h'}:=by
 have old:∀b o,X.s₀.heap.get? b=some o->b≠X.env.locals:=λb o e=>bR (cP (bh e) qae.ok.above)
 show⟨qae.ok,qae.os,qae.bare,⟨λb o e q hb hx=>(hs.2 b (old b o e)).trans (qae.base.keep b o e q hb hx),λb o e q hb hx=>?_,qae.base.free,λb o e hx=>?_,qae.base.tups,qae.base.frzs,qae.base.tbls⟩,⟨_,hn,λj x v Z M h3=>?_⟩,λx c e=>(by rw[nc x]at e;cases e),qae.free,qae.freeC,λp hp=>?_,λb ob e=>?_,by rw[JQ];show qae.len⟩
 .obtain⟨sl,z⟩:=qae.base.slot b o e q hb hx;exists sl,(hs.2 b (old b o e)).trans z
 .obtain⟨o',z⟩:=qae.base.there b o e hx;exists o',(hs.2 b (old b o e)).trans z
 .by_cases hj:j=i
  .subst hj;by_cases hl:j<σ.length
   .rw[xa hl]at M;cases M
   .rw[Co (by simp_all)]at M;cases M
  .rw[JO (Ne.symm hj)]at M;obtain⟨u',ru,z⟩:=hm j x v Z M h3;have hx:x≠n:=λe=>hj (Ij hN Z (e ▸ hi))
   exists u',ru,?_;rcases z with ⟨k,z⟩|⟨_,c,z,_⟩
   .exact .inl ⟨k,by simp_all⟩
   .rw[nc x]at z;cases z
 .obtain⟨e,q,Z,M,h3⟩:=qae.pin p hp;exists (hs.2 p.1 Z).trans e,q,Z,M,h3
 .refine (qae.hok b ob e).stay (λc v hc q=>(hs.2 c ?_).trans q) (λ_ q=>q) λ_ _ q=>q
  intro z;rcases hc with rfl|hc
  .rw[z,qae.free]at e;cases e
  .rw[z,qae.free]at hc;cases hc
def zd7{qad:Model}{A:Around}{E:Value->Shared->Prop}{h:Heap}{g:Array GenState}{d:Drawn}{t:Nat}{os:OsState}{a B C:Addr}{bm ue:List Value}{o:Obj}{Q:Bool->Shared->Prop}(qab:fh C bm h)(ZB:fh B ue h)
  (hx:h.get? a=some o) (hc:o.cls=.ref C) (hb:(Value.ref C::bm).contains (.ref B)=true) (hq:Q true ⟨h,g,d,t,os⟩):wpAny qad A (excMatches (.ref a) (.ref B)) Q E ⟨h,g,d,t,os⟩:=by
 have e1:(Value.ref B::ue).contains (.type "BaseException")=true:=ZB.has tE;have e2:=tc_notTuple;obtain⟨nm,q,N,bs,hd,sn,sub,ab,col,dd,k0,k1,k2,k3,k5,m,hB,_⟩:=ZB.ex;repeat (first|(with_reducible show rS hx ?_;rw[hc])|with_reducible show rS hB ?_|(with_reducible show fh.sub ZB ?_;rw[e1])|(with_reducible show fh.sub qab ?_;rw[hb])|wp_step)
 show hq
noncomputable abbrev Cx.held(X:Cx)(a:Addr):Cx:={X with A:=X.A.mark (some (.ref a)),calm:=false,xe:=λ_ _=>False}
def Inv.held(I:Inv X J σ H s)(a:Addr):Inv (X.held a) J σ H s :=
 ⟨⟨I.ok.mod,I.ok.kind,I.ok.glob,I.ok.blt,I.ok.above,I.ok.inj,I.ok.has,I.ok.cab,(λz=>by cases z),I.ok.frames,I.ok.stk,I.ok.exf,I.ok.bs,I.ok.bsz,I.ok.noex,I.ok.exfs,I.ok.funs,I.ok.frf⟩,I.os,I.bare,I.base,I.loc,I.cell,I.free,I.freeC,I.pin,I.hok,I.len⟩
def Inv.unheld(qac:X.Ok)(I:Inv (X.held a) J σ H s):Inv X J σ H s:=⟨qac,I.os,I.bare,I.base,I.loc,I.cell,I.free,I.freeC,I.pin,I.hok,I.len⟩
def XP(X:Cx)(J:List (Addr×Obj))(σ:St)(E:XK)(e:Value)(s':Shared):Prop :=
 ∃(a T:Addr) (C:Value) (O:Hp),e=.ref a/\Inv X J σ O s'/\xq X O s'.heap [a,T]/\AA X J [a,T]/\zt s'.heap a T C/\E C none O
def XP.of(qac:iE X)(qae:Inv X J σ H s)(h:gX X.prog X.w X.stack H s E e s'):XP X J σ E e s':=by
 obtain⟨a,T,C,O,rfl,J',Z,M,h3,h4,h5,h6⟩:=RU qae h;exists a,T,C,O,Y,J',S5 qac qae Z M h3 h4 h5,λb hb=>?_,h5,h6;have jY:s.heap.get? b=none:=by grind
 exists λz=>?_,λp hp z=>?_
 .obtain⟨m,⟨o,es,ep,ho,_⟩,_⟩:=qae.loc;rw[<-z,jY]at ho;cases ho
 .obtain⟨e,_⟩:=qae.pin p hp;rw[z,jY]at e;cases e
set_option tactic.hygienic true in
def zfx{B:Addr}{ue:List Value}{x n y:Str}{i j:Nat}{np py pn pa hp:Pos}(qac:iE X)(nc:∀x,X.env.cells.lookup x=none)(hN:X.N.Nodup)(hi:X.N[i]?=some n)(hj:X.N[j]?=some y)(cW:i≠j)
    (hn:X.env.scope.names.lookup n=some .local) (hy:X.env.scope.names.lookup y=some .local) (hg:Gl X x) (hm:X.mg x=some (.ref B)) (eB:iM X.K B ue=true) (hd:(x == ("__debug__" : Str))=false) (hd2:(n == ("__debug__" : Str))=false) (Gi:(n == ("__classdict__" : Str))=false)
    (qL:swapsWith (.Name n pn) (some (.Name y py)) pa.line X.env=pure false) {E:XK}{D:je}{e:Value}
    (hE:∀C O,E C none O->∃(c:Addr) (bm:List Value),C=.ref c/\iM X.K c bm=true/\(Value.ref c::bm).contains (.ref B)=true/\∀a,O a=none->D.nx ((σ.set j (some (.ref a))).set i none) (upd O a (ni a c))) (h:XP X J σ E e s) :
    wpAny (model X.prog X.w) X.A (noteFrame e X.env) (λ_ s₂=>wpAny (model X.prog X.w) X.A (setFlight e none) (λ_ s₃ =>
      wpAny (model X.prog X.w) X.A (handleBy e X.env [.ExceptHandler (some (.Name x np)) (some n) [.Assign [.Name y py] (.Name n pn) pa] hp]) (SP X J D) X.xe s₃) X.xe s₂) X.xe s:=by
  obtain ⟨a,T,C,H,rfl,qae,ap,aw,fly,hEc⟩:=h;obtain ⟨c,bm,rfl,ec,hbc,Yu⟩:=hE C H hEc;obtain ⟨a0,fl⟩:=TZ qae fly;have Ni:=fl;rw [show X.stack=X.env::X.outer from qac.stk]at Ni;have iT:X.A.frames=some (X.env::X.outer):=by rw [<-qac.stk];show qae.ok.frames
  show wpAny_looks_onW (a0:=a0) iT qac.fr Ni λh4 held4 sm4=>?_
  show wpAny_landsW held4 λh5 Bq sm5=>?_
  have sm:=sm4.trans sm5;rw [<-qac.stk]at Bq;have J5:=Inv.turn qac nc qae ap aw Bq.1 (Jh qae sm) (t':=s.toks);show wpAny_handleBy_cons (codeAny_handlers_test (uA (X:=X.held a) (J5.held a) hg hm ?_ hd)) (by intro q;cases q);obtain ⟨ob,Yi,hobc⟩:=Bq.there;show zd7 (vG J5.kIn ec) (vG J5.kIn eB) Yi hobc hbc (codeAny_handlers_suite_as ?_);show lands_againW Bq λh6 QE sm6=>?_
  have J6:=Inv.turn qac nc qae ap aw QE.1 (Jh qae (sm.trans sm6)) (t':=s.toks);obtain ⟨Nq,Rf,Xy⟩:=QE.there
  have WN  : AA   X J    [a] := fun b hb => aw b (by have e : b = a := by simpa using hb
                                                     rw [e]; simp)
  have Ja:Inv X J σ (upd H a (ni a c)) {s with heap:=h6}:=Inv.takeUp qac nc J6 (ap a tS).2.1 (ap a tS).1 WN ⟨⟨Nq,Rf,Xy⟩,⟨Nq,Rf⟩,λZ M ⟨o,z1,z2⟩ k=>⟨o,k o z1,z2⟩⟩;show wj (X:=X.held a) (Ja.held a) hN hi (.inl hn) (v:=.ref a) Y (λs7 J7=>?_) (.inr hn);have hσ:i<σ.length:=by rw [qae.len];show (cq.mp hi).1
  have hσj:j<σ.length:=by rw [qae.len];show (cq.mp hj).1
  have suite:=bQ (QW (X:=X.held a) hN hj (.inl hy) (VR hi (.inl hn) hd2 Gi) qL (.inr hy));show cC (suite J s7 _ _ {nx:=λσ' O=>σ'=(σ.set i (some (.ref a))).set j (some (.ref a))/\O=upd H a (ni a c),rt:=λ_ _=>False} J7 ⟨.ref a,by rw [xa hσ],Y,Y⟩) (λf s8 h8=>?_) λ_ _ z=>False.elim z
  cases f with
  |next =>
    obtain ⟨σ8,H8,J8,rfl,rfl⟩:=h8;have X9:=Inv.unheld qae.ok J8;show aq (wpAny_bindName (wj X9 hN hi (.inl hn) (v:=.non) Y (λs9 J9=>?_) (.inr hn)));show Dh ?_;obtain ⟨m,CL,hl⟩:=id J9.loc;have jR:(((σ.set i (some (.ref a))).set j (some (.ref a))).set i (some V.non))[i]?=some (some .non):=by simp_all
    obtain ⟨u,_,z⟩:=hl i n .non hi jR (.inl hn);have iX:m n=some u:=by
      rcases z with ⟨_,z⟩|⟨_,c',z,_⟩
      . show z
      . rw [nc n]at z;cases z
    show wpAny_unbindName_local hn CL iX (by rw [qae.ok.kind];rfl) λh' u' sW kM=>?_
    have J10:=Inv.unbound nc J9 hN hi hl sW kM;show ⟨_,_,J10,?_⟩;have e:((((σ.set i (some (.ref a))).set j (some (.ref a))).set i (some V.non)).set i none)=(σ.set j (some (.ref a))).set i none:=by
      rw [SH,List.set_comm _ _ cW,SH]
    rw [e];show Yu a (ap a tS).2.1
  |ret v=>obtain ⟨_,_,_,_,_,z⟩:=h8;show False.elim z
  |brk=>obtain ⟨_,_,_,z⟩:=h8;show False.elim z
  |cont=>obtain ⟨_,_,_,z⟩:=h8;show False.elim z
def Y5(K:Frag)(B:Addr)(i j:Nat)(D:je)(σ:St):XK:=λC _ O=>∃(c:Addr) (bm:List Value),C=.ref c/\iM K c bm=true/\(Value.ref c::bm).contains (.ref B)=true/\∀a,O a=none->D.nx ((σ.set j (some (.ref a))).set i none) (upd O a (ni a c))
end
open PySem PySem.Spec PyProof.Rows
section
variable{X:Cx}
def zfk(n k:Nat):fromIndex n (k:Int)=k:=by
 unfold fromIndex;rw[ah tL,Ep (jI _),iu]
def zcz:gn X "str.startswith" (λx vs H Q=>∃(i j:Str) (k:Nat),x=.str i/\vs=[.str j,.int (k:Int)]/\Q (.bl (decide (k+j.length<=i.length)&&Builtin.Str.subAt i j k)) H):=by
 intro J s σ H x xs v us Q I rx rv h;obtain⟨i,j,k,rfl,rfl,q⟩:=h;obtain⟨t,rfl⟩:=rx;obtain⟨u,u',rfl,⟨t2,rfl⟩,⟨t3,rfl⟩⟩:=rv.two;have g:=gives_str_startswith_from i j (k:Int) t t2 t3;rw[zfk]at g;show call_gives F.slot_str_startswith (lX _ _ _) F.entry_str_startswith (F.args_str_startswith_3 _ _ _) g ⟨.bl _,H,I,Y,q⟩
def Nl:gn X "str.strip" (λx vs H Q=>∃i,x=.str i/\vs=[]/\i.length<=sizeLine/\Q (.str (Txt.strip i)) H):=by
 intro J s σ H x xs v us Q I rx rv h;obtain⟨i,rfl,rfl,hz,q⟩:=h;obtain⟨t,rfl⟩:=rx;obtain rfl:=rv.zero;show SC.strip (λt' k=>⟨.str _,H,I.tok _,⟨_,Y⟩,q⟩) hz
end
end L2
namespace My
open PySem L2 OF
noncomputable def pH(w:Nat):List Nat:=if w=0 then [97,110,100]else if w=1 then [111,114]else [120,111,114]
noncomputable def t6:Sm->Bool
 |.two _ _ _=>true
 |_=>false
def sf:Sm->List (List Nat)
 |.bit k=>[[97+k]]
 |.fix b=>[[48+b.toNat]]
 |.no s=>[110,111,116,32]::(if t6 s then [40]::(sf s++[[41]])else sf s)
 |.two w s t=>(if t6 s then [40]::(sf s++[[41]])else sf s)++(([32]++pH w++[32])::(if t6 t then [40]::(sf t++[[41]])else sf t))
noncomputable def rk(l:List Nat):List Nat :=
 if [110,111,116,32] <+: l then [110,111,116,32]else if [32,97,110,100,32] <+: l then [32,97,110,100,32]else if [32,111,114,32] <+: l then [32,111,114,32]else if [32,120,111,114,32] <+: l then [32,120,111,114,32]else l.take 1
def Cuts:List (List Nat)->List Nat->Prop
 |[],_=>True
 |t::ts,r=>t≠[]/\rk (t++(ts.flatten++r))=t/\Cuts ts r
def kj:Sm->List Nat
 |.bit k=>[97+k]
 |.fix b=>eJ b.natAbs
 |.no s=>[110,111,116,32]++(if t6 s then [40]++kj s++[41]else kj s)
 |.two w s t=>(if t6 s then [40]++kj s++[41]else kj s)++[32]++pH w++[32]++(if t6 t then [40]++kj t++[41]else kj t)
def zc:("not " : Str)=S [110,111,116,32]:=by decide+kernel
def jo:("(" : Str)=S [40]:=by decide+kernel
def OX:(")" : Str)=S [41]:=by decide+kernel
def zfg(w:Nat):(pH w).length<=3:=by unfold pH;split<;>(try split)<;>simp
def cV(h:n<=40000):n<=sizeLine:=a9 h tD
open PySem L2 OF
def Xu(l t:List Nat)(k:Nat)(h:k<=l.length):(decide (k+(S t).length<=(S l).length)&&Builtin.Str.subAt (S l) (S t) k)=decide (t <+: l.drop k):=by
 rw[Ph,i0,i0,aH,aH];by_cases z:t <+: l.drop k
 .rw[aR z];obtain⟨r,hr⟩:=z;have hl:t.length<=(l.drop k).length:=by rw[<-hr,aX];lia
  rw[mW]at hl;rw[aR tL,Fh,<-hr,List.take_left];simp
 .rw[bw z]
  have:((l.drop k).take t.length == t)=false:=by grind
  rw[this,yv]
def Wq:(" and " : Str)=S [32,97,110,100,32]:=by decide+kernel
def zbn:(" or " : Str)=S [32,111,114,32]:=by decide+kernel
def ze3:(" xor " : Str)=S [32,120,111,114,32]:=by decide+kernel
noncomputable def nK:List (List Nat):=[[110,111,116,32],[32,97,110,100,32],[32,111,114,32],[32,120,111,114,32]]
def zah:[V.str "not ",V.str " and ",V.str " or ",V.str " xor "]=nK.map λt=>V.str (S t):=by
 rw[zc,Wq,zbn,ze3];rfl
def XN{l t:List Nat}{i:Nat}(ht:nK[i]?=some t)(hb:∀j t',j<i->nK[j]?=some t'->¬t' <+: l)(h:t <+: l):rk l=t:=by
 unfold rk
 match i,ht with
 |0,ht=>cases ht;show aj h
 |1,ht=>cases ht;rw[ah (hb 0 _ tD rfl)];show aj h
 |2,ht=>cases ht;rw[ah (hb 0 _ tD rfl),ah (hb 1 _ tD rfl)];show aj h
 |3,ht=>cases ht;rw[ah (hb 0 _ tD rfl),ah (hb 1 _ tD rfl),ah (hb 2 _ tD rfl)];show aj h
 |i+4,ht=>simp[nK]at ht
def zaj(hb:∀j t',j<4->nK[j]?=some t'->¬t' <+: l):rk l=l.take 1:=by
 unfold rk;rw[ah (hb 0 _ tD rfl),ah (hb 1 _ tD rfl),ah (hb 2 _ tD rfl),ah (hb 3 _ tD rfl)]
theorem P5:∀{ts:List (List Nat)}{r:List Nat}{i:Nat}{t:List Nat},Cuts ts r->ts[i]?=some t->t≠[]/\rk ((ts.drop i).flatten++r)=t
 |[],_,_,_,_,e=>by simp at e
 |u::ts,r,0,t,h,e=>by
  have:u=t:=by simpa using e
  subst this;exists h.1,?_;rw[lS,qk,dG];show h.2.1
 |u::ts,r,i+1,t,h,e=>by
  rw[LL];show P5 h.2.2 (by simpa using e)
theorem OJ:∀(ts:List (List Nat)) (i:Nat),ts.flatten.drop (ts.take i).flatten.length=(ts.drop i).flatten
 |[],i=>by simp
 |t::ts,0=>rfl
 |t::ts,i+1=>by
  rw[List.take_succ_cons,qk,qk,aX,LL,<-OJ ts i,<-Hr,Rx]
theorem Ki:∀{ts:List (List Nat)}{r:List Nat},Cuts ts r->ts.length<=ts.flatten.length
 |[],_,_=>aC _
 |t::ts,r,h=>by
  have Z:=Ki h.2.2;have M:=Qf.mpr h.1;rw[qk,aX,bf];lia
theorem VM:∀w:Nat,nY (V.str (wd w)) [V.str "and",V.str "or",V.str "xor"]=true
 |0=>by decide
 |1=>by decide
 |_+2=>by show nY (V.str "xor") _=true;decide
open PySem L2 OF
inductive Itm where
 |nt|op|jn (w:Nat) (s:Sm)
def Itm.d:Itm->D
 |.nt=>.tup [.str "not"]
 |.op=>.tup [.str "("]
 |.jn w s=>.tup [.str (wd w),s.d]
noncomputable def lU:Nat->Sm->Sm
 |0,s=>s
 |k+1,s=>lU k (.no s)
def pE(p:Itm->Prop)(ae:List Itm):Prop:=∀it,ae.getLast?=some it->¬p it
def zJ:Itm->Prop
 |.nt=>True
 |_=>False
def zgp:Itm->Prop
 |.jn _ _=>True
 |_=>False
abbrev j0:=Option Sm×List Itm
inductive Step:j0->List Nat->j0->Prop
 |no (ae:List Itm):Step (none,ae) [110,111,116,32] (none,ae++[.nt])
 |op (ae:List Itm):Step (none,ae) [40] (none,ae++[.op])
 |bit (ae:List Itm) (k j:Nat) (h:pE zJ ae) (hj:j<16):Step (none,ae++List.replicate k .nt) [97+j] (some (lU k (.bit j)),ae)
 |fix (ae:List Itm) (k:Nat) (b:Int) (h:pE zJ ae) (hb:b=0\/b=1):Step (none,ae++List.replicate k .nt) [48+b.toNat] (some (lU k (.fix b)),ae)
 |jn (ae:List Itm) (s:Sm) (w:Nat) (h:pE zgp ae) (hw:w<3):Step (some s,ae) ([32]++pH w++[32]) (none,ae++[.jn w s])
 |cl (ae:List Itm) (k w:Nat) (s t:Sm) (h:pE zJ ae) (hw:w<3):Step (some t,ae++List.replicate k .nt++[.op,.jn w s]) [41] (some (lU k (.two w s t)),ae)
def IT(ae:List Itm)(it:Itm):(ae++[it]).getLast?=some it:=by simp
def zc3(h:¬p it):pE p (ae++[it]):=λx hx=>by simp_all
def zcP(ae:List Itm)(k:Nat):ae++List.replicate k Itm.nt++[.nt]=ae++List.replicate (k+1) .nt:=by
 rw[dG,<-yt]
def mI(H:Hp)(v:V)(it:Itm):Prop:=Is H v it.d
def gp(H:Hp)(b:Addr)(ae:List Itm):Prop:=∃xs:List V,H b=some (.lst xs)/\Paired (mI H) xs ae
def MS(h:Is H v (.tup [d])):∃p x,v=.ref p/\H p=some (.tup [x])/\Is H x d:=by
 obtain⟨p,xs,rfl,Z,M⟩:=h;obtain⟨x,r,rfl,h3,h4⟩:=M;subst h4;exists p,x,Y,Z,h3
def DH(h:H p=some (.tup [x]))(Z:Is H x d):Is H (.ref p) (.tup [d]):=by
 exists p,_,Y,h,?_;exists _,_,Y,Z,?_;rfl
def Ag(h:mI H v .nt):∃p,v=.ref p/\H p=some (.tup [.str "not"]):=by
 obtain⟨p,x,rfl,Z,M⟩:=MS (show Is H v (.tup [.str "not"]) from h);rw[bE]at M;subst M;exists p,Y,Z
def CW(h:mI H v .op):∃p,v=.ref p/\H p=some (.tup [.str "("]):=by
 obtain⟨p,x,rfl,Z,M⟩:=MS (show Is H v (.tup [.str "("]) from h);rw[bE]at M;subst M;exists p,Y,Z
def Hh(h:mI H v (.jn w s)):∃p x,v=.ref p/\H p=some (.tup [.str (wd w),x])/\Is H x s.d:=by
 obtain⟨p,x,y,rfl,Z,M,h3⟩:=Aw (show Is H v (.tup [.str (wd w),s.d]) from h);rw[bE]at M;subst M;exists p,y,Y,Z,h3
def Yp(k:∀p xs,H p=some (.tup xs)->O p=some (.tup xs)):∀{it:Itm}{v:V},mI H v it->mI O v it
 |.nt,v,h=>by obtain⟨p,rfl,Z⟩:=Ag h;show DH (k _ _ Z) (bE.mpr Y)
 |.op,v,h=>by obtain⟨p,rfl,Z⟩:=CW h;show DH (k _ _ Z) (bE.mpr Y)
 |.jn w s,v,h=>by obtain⟨p,x,rfl,Z,M⟩:=Hh h;show nO (k _ _ Z) (bE.mpr Y) (jK k M)
def ay(b:Addr)(H O:Hp):Prop:=∀p o,p≠b->H p=some o->O p=some o
def ay.refl(b:Addr)(H:Hp):ay b H H:=λ_ _ _ e=>e
def ay.trans(h:ay b H O)(h':ay b O wc):ay b H wc:=λp o n e=>h' p o n (h p o n e)
def ay.of(h:ag H O):ay b H O:=λp o _ e=>h p o e
def ay.upd:ay b H (L2.upd H b o):=λp o' n e=>by rw[aG n];show e
def ay.tups(h:ay b H O)(hb:H b=some (.lst ys)):∀p xs,H p=some (.tup xs)->O p=some (.tup xs):=λp xs e=>h p _ (λz=>by simp_all) e
open PySem L2 OF
def pN(xs:List α)(y:α):gN (xs++[y]) (-1)=some y:=by
 have e:jE (xs++[y]).length (-1)=some xs.length:=by
  unfold jE;rw[aX];simp;lia
 unfold gN;rw[e];simp
theorem Pn:∀{zs:List α}{ae:List β}{it:β},Paired R zs (ae++[it])->∃xs y,zs=xs++[y]/\Paired R xs ae/\R y it
 |_,[],it,h=>by
  cases h with
  |cons r q=>cases q;exists [],_,Y,.nil,r
 |_,i::ae,it,h=>by
  cases h with
  |cons r q =>
   obtain⟨xs,y,e,p,r'⟩:=Pn q;exists _::xs,y,by rw[e];rfl,.cons r p,r'
def gp.last(h:gp H b (ae++[it])):∃xs y,H b=some (.lst (xs++[y]))/\Paired (mI H) xs ae/\mI H y it:=by
 obtain⟨zs,Z,M⟩:=h;obtain⟨xs,y,rfl,p,r⟩:=Pn M;exists xs,y,Z,p,r
def qw(k:∀p xs,H p=some (.tup xs)->O p=some (.tup xs))(h:Paired (mI H) xs ae):Paired (mI O) xs ae:=Paired.mapP h λ_ _ e=>Yp k e
def gp.nil(h:gp H b []):H b=some (.lst []):=by
 obtain⟨xs,Z,M⟩:=h;cases M;show Z
def Hb(l:List α):l=[]\/∃r x,l=r++[x]:=by
 rcases List.eq_nil_or_concat l with h|⟨r,x,h⟩
 .exact .inl h
 .exact .inr ⟨r,x,by simp_all⟩
def gp.keep(h:gp H b ae)(s:ag H O):gp O b ae:=by
 obtain⟨xs,Z,M⟩:=h;exists xs,s _ _ Z,qw (λp ys e=>s p _ e) M
open PySem L2 OF
def WL(h:Step a t b):b.2.length<=a.2.length+1:=by
 cases h<;>simp<;>lia
def ay.same(h:ag H O)(k:ay b O wc)(hb:H b=none):ag H wc:=λp o e=>k p o (λz=>by simp_all) (h p o e)
open PySem L2 OF
def Pl:∀{s:Sm},Is H v s.d->v≠.non
 |.bit _,h=>by obtain⟨p,rfl,_⟩:=yc h;show λz=>nomatch z
 |.fix _,h=>by obtain⟨p,rfl,_⟩:=B8 h;show λz=>nomatch z
 |.no _,h=>by obtain⟨p,x,rfl,_⟩:=yJ h;show λz=>nomatch z
 |.two _ _ _,h=>by obtain⟨p,x,y,rfl,_⟩:=vL h;show λz=>nomatch z
end My
namespace L2
open PySem PySem.Spec PyProof.Rows
def ZG{l:List Nat}{g:TG}{tc:TT}{te:TE}{σ:St}{H:Hp}{R:List V->Hp->Addr->Prop}(Pv:Nat->List V->St->Hp->Prop)(h0:Pv 0 [] σ H)(hl:∀i ys σ H,Pv i ys σ H->ys.length<=i)(hz:l.length<=sizeLine)
  (hs:∀i c ys σ H,l[i]?=some c->Pv i ys σ H->g (.str (My.S [c])) σ H λσ2 H2=>tc σ2 H2 λb H3=>if b=true then te σ2 H3 λy H4=>Pv (i+1) (ys++[y]) σ2 H4 else Pv (i+1) ys σ2 H3)
  (hd:∀ys σ H,Pv l.length ys σ H->∀D,H D=none->R ys H D) :
  ∃W:Nat->Nat->List V->St->Hp->Prop,(∃m,W 0 m [] σ H)/\∀i m ys σ H,W i m ys σ H ->
   ((pA (My.S l)).stop i H/\∀D,H D=none->R ys H D) \/
   ((pA (My.S l)).go i H/\ys.length<sizeLine/\∃ N:List V->St->Hp->Prop,(∀ cb σ' O,N cb σ' O->∃ m',m'<m/\W (i+1) m' cb σ' O) /\ ∀x O,(pA (My.S l)).yld i H x O->g x σ O λσ2 H2=>tc σ2 H2 λb H3=>if b=true then te σ2 H3 λy H4=>N (ys++[y]) σ2 H4 else N ys σ2 H3):=by
 exists λi m ys σ H=>m=l.length-i/\i<=l.length/\Pv i ys σ H,⟨l.length,tS,bJ _,h0⟩,?_;rintro i m ys σ H ⟨rfl,hi,p⟩;have q:=hl i ys σ H p;by_cases aF:i<l.length
 .refine .inr ⟨aF,tL,Pv (i+1),λcb σ' O p'=>⟨l.length-(i+1),tL,Y,aF,p'⟩,λx O y=>?_⟩;obtain⟨rfl,c,hc,rfl⟩:=y;show hs i c ys σ _ (by simpa [My.S] using hc) p
 .have e:i=l.length:=by lia
  subst e;show .inl ⟨aC _,hd ys σ H p⟩
end L2
namespace My
open PySem L2 OF
noncomputable def mX(c:Nat):Bool:=decide (48<=c/\c<=57)
noncomputable def nu(c:Nat):Int:=if 97<=c/\c<113 then (c:Int)-97 else -1
def zgR:∀c:Nat,c<128->Txt.find (S oZ) (S [c])=nu c:=by decide+kernel
def lL:List Nat->Int->Nat->Option Nat
 |[],_,m=>some m
 |c::r,la,m=>if nu c<=la then none else lL r (nu c) (m+2^(nu c).toNat)
def jJ(fs ls:List Nat):Option Nat :=
 if fs=[]/\ls≠[]then some 1 else if fs=[]\/fs.head?=some 48\/(fs=[49]/\ls≠[])then none else some (digitsVal fs)
def jQ(w:List Nat):List Nat:=w.takeWhile mX
def fm(w:List Nat):List Nat:=w.dropWhile mX
def XY(w:List Nat):w=jQ w++fm w:=(List.takeWhile_append_dropWhile).symm
def Ig(w:List Nat):∀c∈jQ w,48<=c/\c<=57:=λc hc=>by
 have:=List.all_takeWhile (p:=mX) (l:=w)
 show cx (kH.mp this c hc)
def zac{w:List Nat}:∀c r,fm w=c::r->¬(48<=c/\c<=57):=λc r e=>by
 have h:(w.dropWhile mX).head?=some c:=by show (fm w).head?=_;rw[e];rfl
 have:=List.head?_dropWhile_not mX w
 rw[h]at this;simpa [mX] using this
def mq(sg w:List Nat):Option (Int×Int) :=
 if sg=[43]\/sg=[45]then
  match jJ (jQ w) (fm w),lL (fm w) (-1) 0 with
  |some n,some m=>some ((m:Int),if sg=[45]then -(n:Int)else (n:Int))
  |_,_=>none
 else none
noncomputable def ip:ak->Int->Bool
 |[],_=>true
 |t::r,la=>if t.1<=la\/t.2=0 then false else ip r t.1
noncomputable def a8:List Nat->List (List Nat)
 |[]=>[[]]
 |c::r=>if c=32 then []::a8 r else match a8 r with
  |[]=>[[c]]
  |w::ws=>(c::w)::ws
theorem lE:∀l,a8 l≠[]
 |[]=>by unfold a8;simp
 |c::r=>by
  unfold a8;split
  .simp
  .split<;>simp
set_option tactic.hygienic true in
theorem xB:∀l,∀w∈a8 l,32∉w
 |[],w,h=>by unfold a8 at h;rw[bH.mp h];simp
 |c::r,w,h=>by
  have ih:=xB r;unfold a8 at h;split at h
  .rcases aV.mp h with z|z
   .rw[z];simp
   .exact ih w z
  .rename_i hc;split at h
   .rw[bH.mp h];simpa using λz=>hc z.symm
   .rename_i w0 ws e;rcases aV.mp h with z|z
    .rw[z];intro y;rcases aV.mp y with y|y
     .exact hc y.symm
     .exact ih w0 (by rw[e];simp) y
    .exact ih w (by simp_all)
set_option tactic.hygienic true in
theorem xJ:∀l,cu 32 (a8 l)=l
 |[]=>rfl
 |c::r=>by
  have ih:=xJ r;unfold a8;split
  .rename_i hc;cases e:a8 r with
   |nil=>show absurd e (lE r)
   |cons w ws =>
    rw[e]at ih;show []++32::cu 32 (w::ws)=c::r;rw[ih,hc];rfl
  .split
   .rename_i e;show absurd e (lE r)
   .rename_i w ws e;rw[e]at ih;cases ws with
    |nil=>show c::w=c::r;rw[show w=r from ih]
    |cons x xs=>show (c::w)++32::cu 32 (x::xs)=c::r;rw[<-ih];rfl
set_option tactic.hygienic true in
theorem xF:∀l,∀w∈a8 l,∀c∈w,c∈l
 |[],w,h,c,hc=>by unfold a8 at h;rw[bH.mp h]at hc;cases hc
 |a::r,w,h,c,hc=>by
  have ih:=xF r;unfold a8 at h;split at h
  .rcases aV.mp h with z|z
   .rw[z]at hc;cases hc
   .exact cX _ (ih w z c hc)
  .split at h
   .rw[bH.mp h]at hc;rw[bH.mp hc];simp
   .rename_i w0 ws e;rcases aV.mp h with z|z
    .rw[z]at hc;rcases aV.mp hc with y|y
     .rw[y];simp
     .exact cX _ (ih w0 (by rw[e];simp) c y)
    .exact cX _ (ih w (by simp_all) c hc)
set_option tactic.hygienic true in
theorem yM:∀l,(a8 l).length<=l.length+1/\∀w∈a8 l,w.length<=l.length
 |[]=>by unfold a8;show⟨tD,λw h=>by rw[bH.mp h];show aC _⟩
 |a::r=>by
  obtain⟨Z,M⟩:=yM r;unfold a8;split
  .exact⟨by simp_all,λw h=>by
    rcases aV.mp h with z|z
    .rw[z];simp
    .have:=M w z;rw[bf];lia⟩
  .split
   .exact⟨tS,λw h=>by rw[bH.mp h];simp⟩
   .rename_i w0 ws e;rw[e]at Z M;exists by rw[bf]at Z ⊢;rw[bf];lia,λw h=>?_;rcases aV.mp h with z|z
    .rw[z,bf,bf];have:=M w0 tS;lia
    .have:=M w (by simp[z]);rw[bf];lia
def eF(l:List Nat):List (List Nat):=if l.head?=some 45 then [45]::(match a8 l with|[]=>[]|w::r=>w.drop 1::r)else [43]::a8 l
def jD:List (List Nat)->Option ak
 |[]=>some []
 |[_]=>none
 |sg::w::r=>match mq sg w,jD r with
  |some t,some f=>some (t::f)
  |_,_=>none
def j8(l:List Nat):Option ak:=if l=[48]then some []else match jD (eF l)with
 |some f=>if ip f (-1)=true then some f else none
 |none=>none
def zb7{l:List Nat}{c:Nat}(h:l.head?=some c)(hc:c≠32){w0:List Nat}{wr:List (List Nat)}(e:a8 l=w0::wr):∃w',w0=c::w':=by
 cases l with
 |nil=>cases h
 |cons a r =>
  have:a=c:=by simpa using h
  subst this;unfold a8 at e;rw[ah hc]at e;split at e
  .cases e;exists [],rfl
  .cases e;exists _,rfl
set_option tactic.hygienic true in
def Ve(l:List Nat):2<=(eF l).length/\(eF l).length<=l.length+2/\∀w∈eF l,(∀c∈w,c∈l\/c=43)/\w.length<=l.length+1:=by
 obtain⟨w0,wr,ew⟩:∃w0 wr,a8 l=w0::wr:=by
  cases e:a8 l with
  |nil=>show absurd e (lE l)
  |cons a b=>exists a,b,rfl
 obtain⟨Z,M⟩:=yM l;have h3:=xF l;rw[ew]at Z M h3;rw[bf]at Z;unfold eF;rw[ew];split
 .rename_i qR;have h45m:=List.mem_of_mem_head? (by rw[qR];rfl);exists tS,by simp;lia,λw hw=>?_;rcases aV.mp hw with z|z
  .rw[z];exists λc hc=>.inl (by rw[bH.mp hc];show h45m),tS
  .rcases aV.mp z with z|z
   .rw[z];show⟨λc hc=>.inl (h3 w0 tS c (wz hc)),by rw[mW];have:=M w0 tS;lia⟩
   .exact⟨λc hc=>.inl (h3 w (by simp[z]) c hc),by have:=M w (by simp[z]);lia⟩
 .exists tS,by simp;lia,λw hw=>?_;rcases aV.mp hw with z|z
  .rw[z];exists λc hc=>.inr (bH.mp hc),tS
  .exact⟨λc hc=>.inl (h3 w z c hc),by grind⟩
theorem P4:∀{ws:List (List Nat)},¬ws.length%2=0->jD ws=none
 |[],h=>absurd Y h
 |[_],_=>rfl
 |a::b::r,h=>by
  have ih:=P4 (ws:=r) (by grind);unfold jD;rw[ih];cases mq a b<;>rfl
theorem R6:∀{ws:List (List Nat)},ws.length%2=0->∃pp:List (List Nat×List Nat),ws=pp.flatMap λt=>[t.1,t.2]
 |[],_=>⟨[],Y⟩
 |[_],h=>by simp at h
 |a::b::r,h=>by
  obtain⟨pp,hp⟩:=R6 (ws:=r) (by grind);show⟨(a,b)::pp,by simp_all⟩
def zd6(pp:List (List Nat×List Nat)):(pp.flatMap λt=>[t.1,t.2]).length=2*pp.length:=by
 induction pp with
 |nil=>rfl
 |cons t r ih=>rw[iZ,aX,ih];show 2+_=2*(r.length+1);lia
def i9:List (List Nat×List Nat)->Option ak
 |[]=>some []
 |p::r=>match mq p.1 p.2,i9 r with
  |some t,some f=>some (t::f)
  |_,_=>none
theorem Eh:∀pp:List (List Nat×List Nat),jD (pp.flatMap λt=>[t.1,t.2])=i9 pp
 |[]=>rfl
 |p::r=>by
  have ih:=Eh r;show jD (p.1::p.2::r.flatMap λt=>[t.1,t.2])=i9 (p::r);unfold jD i9;rw[ih]
def RA(l:List Nat):Txt.startswith (S l) (S [45])=decide (l.head?=some 45):=by
 rw[Wy];cases l with
 |nil=>rfl
 |cons c r =>
  show (c == 45)=decide (some c=some 45);by_cases h:c=45
  .subst h;rfl
  .rw[bw (λz=>h (di z))];simpa using h
structure We(la:Int)(ls:List Nat):Prop where
 ok:∀c∈ls,97<=c/\c<113
 up:ls.Pairwise (· < ·)
 ab:∀c∈ls,la<(c:Int)-97
noncomputable def zK(ls:List Nat):Nat:=(ls.map λc=>2^(c-97)).sum
theorem PB:∀{ls:List Nat}{la:Int} (m:Nat),We la ls->lL ls la m=some (m+zK ls)
 |[],la,m,_=>by show some m=some (m+0);rfl
 |c::r,la,m,h=>by
  have hc:=h.ok c tS;have hi:nu c=(c:Int)-97:=aj hc;obtain⟨u1,u2⟩:=fU.mp h.up;unfold lL;rw[hi,ah (by have:=h.ab c tS;lia)];rw[PB (ls:=r) _ ⟨λx hx=>h.ok x (by simp[hx]),u2,λx hx=>by simp_all⟩];have e:((c:Int)-97).toNat=c-97:=by lia
  rw[e];show some (m+2^(c-97)+zK r)=some (m+(2^(c-97)+zK r));congr 1;lia
def pP(l:List Nat):(V.str (S l)=V.str (ofString ""))↔l=[]:=⟨λz=>by
 injection z with z
 rw[iI]at z;show fR z,λz=>by rw[z,iI]⟩
def MA(x:V)(r:List V):dy (x::r) (some 1) none=r:=by
 unfold dy;rw[HT.sIx_none,show (1:Int)=((1:Nat):Int) from rfl,HT.sIx_nat];have e:min 1 (x::r).length=1:=by simp
 rw[e];show (r.take ((x::r).length-1))=r;rw[bf,Nat.add_sub_cancel,eV]
theorem EG:∀l:List Nat,((l.map λc=>S [c]).map (·.length)).sum=l.length
 |[]=>rfl
 |c::l=>by rw[bz,bz,yx,EG l,bf,aH];simp;lia
def zae(l:List Nat):(l.map λc=>[c]).flatten=l:=by
 induction l with
 |nil=>rfl
 |cons c l ih=>rw[bz,qk,ih];rfl
def O9(l:List Nat):Txt.join (S []) (l.map λc=>S [c])=S l:=by
 have:=JJ (l.map λc=>[c])
 rw[cE,zae]at this;show this
def Ox(K:Frag):Sp:=λvs H Q _=>∃(a:Addr) (f:ak),vs=[.ref a]/\aI H a f/\(∀t∈f,eT t)/\f.length<=310/\∀O,ag H O->Q (.str (S (txt f))) O
def Ht{n:Nat}(h:n<10^1000):(n:Int).natAbs<10^4300:=by
 rw[zw];show cP h (eO tD tD)
def IZ{t:Int×Int}(h:eT t)(h4:t.2.natAbs<10^4):(aY t).length<=20/\∀c∈aY t,c<128:=by
 have hm:t.1.toNat<2^16:=by have:=h.1;have:=h.2.1;lia
 have e:aY t=fG t.1.toNat t.2.natAbs++cy t.1.toNat:=rfl;have Z:=rD hm;have M:(fG t.1.toNat t.2.natAbs).length<=4:=by
  unfold fG;split
  .exact bJ _
  .exact xi (k:=3) h4
 rw[e];exists by grind,λc hc=>?_;rcases bC.mp hc with z|z
 .have:=WD z;lia
 .exact zeM hm c z
theorem Ri:∀{r:ak},(∀t∈r,eT t/\t.2.natAbs<10^4)->(r.flatMap ck).length<=23*r.length/\∀c∈r.flatMap ck,c<128
 |[],_=>⟨tS,λc h=>by cases h⟩
 |t::r,h=>by
  obtain⟨i1,i2⟩:=Ri (r:=r) λu hu=>h u (by simp[hu])
  obtain⟨w1,w2⟩:=IZ (h t tS).1 (h t tS).2;rw[iZ];exists ?_,λc hc=>?_
  .rw[aX,bf];show ([32,ba t.2,32]++aY t).length+_<=_;rw[aX];show 3+_+_<=_;lia
  .rcases bC.mp hc with z|z
   .have z':=z;rcases bC.mp z' with y|y
    .have hs:ba t.2=43\/ba t.2=45:=by unfold ba;split<;>simp
     simp only[aV,ly,lQ]at y;lia
    .exact w2 c y
   .exact i2 c z
open PySem L2 OF
noncomputable def EN:List Nat:=[110,111,116,32]
def jW(w:Nat):List Nat:=[32]++pH w++[32]
inductive um:j0->List Nat->j0->Prop
 |of {a b:j0}{t:List Nat}:Step a t b->um a t b
 |cl0 (ae:List Itm) (k:Nat) (t:Sm) (h:pE zJ ae):um (some t,ae++List.replicate k .nt++[.op]) [41] (some (lU k t),ae)
inductive qi:j0->List Nat->Prop
 |jn (ae:List Itm) (w:Nat) (hw:w<3):qi (none,ae) (jW w)
 |frm (ae:List Itm) (c:Nat) (hc:c<128) (h:c≠40/\c≠48/\c≠49/\¬(97<=c/\c<113)):qi (none,ae) [c]
 |jj (ae:List Itm) (w w':Nat) (s a:Sm) (hw:w<3):qi (some s,ae++[.jn w' a]) (jW w)
 |not (ae:List Itm) (s:Sm):qi (some s,ae) EN
 |ba (ae:List Itm) (s:Sm) (c:Nat) (hc:c<128) (h:c≠41):qi (some s,ae) [c]
 |cl (s:Sm):qi (some s,[]) [41]
 |cl1 (s a:Sm) (w:Nat):qi (some s,[.jn w a]) [41]
inductive eZ:j0->List (List Nat)->Option Sm->Prop
 |non (ae:List Itm):eZ (none,ae) [] none
 |one (s:Sm):eZ (some s,[]) [] (some s)
 |two (s a:Sm) (w:Nat):eZ (some s,[.jn w a]) [] (some (.two w a s))
 |op (ae:List Itm) (s:Sm):eZ (some s,ae++[.op]) [] none
 |opj (ae:List Itm) (s a:Sm) (w:Nat):eZ (some s,ae++[.op]++[.jn w a]) [] none
 |bad {st:j0}{t:List Nat}{ts:List (List Nat)}:qi st t->eZ st (t::ts) none
 |step {st af:j0}{t:List Nat}{ts:List (List Nat)}{x:Option Sm}:um st t af->eZ af ts x->eZ st (t::ts) x
def Z6(h:um a t b):b.2.length<=a.2.length+1:=by
 cases h with
 |of h=>show WL h
 |cl0 ae k t h=>simp;lia
def NQ(a b n:Nat):Builtin.Str.strSliceIndices (some (a:Int)) (some (b:Int)) 1 n=Builtin.Str.strSliceIndices (some ((min a n:Nat):Int)) (some ((min b n:Nat):Int)) 1 n:=by
 have h:∀c:Nat,¬((c:Int)<0):=λc=>by lia
 have e:∀c:Nat,max (0:Int) (min (c:Int) (n:Int))=max 0 (min ((min c n:Nat):Int) (n:Int)):=λc=>by lia
 simp only[Builtin.Str.strSliceIndices,h,dw];rw[aj (show (1:Int)>0 by decide),aj (show (1:Int)>0 by decide),aj (show (1:Int)>0 by decide),aj (show (1:Int)>0 by decide),e a,e b]
def Mm(l:List Nat){a b:Nat}(h:a<=b):Txt.slice (S l) (some (a:Int)) (some (b:Int))=S ((l.drop a).take (b-a)):=by
 have e:Txt.slice (S l) (some (a:Int)) (some (b:Int))=StrLaws.sliceText (S l) (some ((min a l.length:Nat):Int)) (some ((min b l.length:Nat):Int)):=by
  show StrLaws.sliceText (S l) _ _=_;unfold StrLaws.sliceText;rw[aH,NQ a b]
 rw[e,StrLaws.sliceText_nat (S l) (show min a l.length<=min b l.length by lia) (by rw[aH];lia)];show vh ?_;show (l.drop (min a l.length)).take (min b l.length-min a l.length)=(l.drop a).take (b-a);by_cases Z:a<=l.length
 .rw[gQ Z];by_cases M:b<=l.length
  .rw[gQ M]
  .rw[lM tL,f9 (by simp),f9 (by grind)]
 .rw[lM (show l.length<=a by lia),lM (show l.length<=b by lia),FE (aC _),FE (show l.length<=a by lia)];simp
def Yj(l:List Nat)(a:Nat):Txt.slice (S l) (some (a:Int)) none=S (l.drop a):=by
 have e:Txt.slice (S l) (some (a:Int)) none=Txt.slice (S l) (some (a:Int)) (some (l.length:Int)):=by
  show StrLaws.sliceText (S l) _ _=StrLaws.sliceText (S l) _ _;unfold StrLaws.sliceText;rw[aH,StrLaws.sliceIdx_none_hi]
 rw[e];by_cases h:a<=l.length
 .rw[Mm l h,f9 (by simp)]
 .have e2:Txt.slice (S l) (some (a:Int)) (some (l.length:Int))=Txt.slice (S l) (some (l.length:Int)) (some (l.length:Int)):=by
   show StrLaws.sliceText (S l) _ _=StrLaws.sliceText (S l) _ _;unfold StrLaws.sliceText;rw[aH,NQ a l.length,lM (show l.length<=a by lia),AE]
  rw[e2,Mm l (aC _),FE (show l.length<=a by lia)];simp
def zgD:∀c:Nat,c<128->(!(Builtin.Str.occurrences (S oZ) (S [c]) 0 (S oZ).length 1).isEmpty)=decide (97<=c/\c<113):=by decide+kernel
end My
namespace L2
open PySem PySem.Spec PyProof.Rows
def oB(w:World)(K:Frag)(a:Addr)(kvs:List (Str×Addr)):Prop :=
 (a == sysModules)=false/\∀(P:Program) (h:Heap),K.In h->h.DictOf (fu P w) a (kvs.map λp=>(Sum.inr p.1,Value.ref p.2))
def oB.of{w:World}{K:Frag}{a:Addr}{kvs:List (Str×Addr)}{ts:List Tok}{n:Nat}(hs:(a == sysModules)=false)(hl:kvs.length=ts.length)(hn:(kvs.map (·.1)).Nodup)
  (e:K.lookup a=some ⟨.type "dict",none,.dict ((kvs.zip ts).map λp=>⟨PyData.keyHash w.params p.1.1,.str p.1.1 p.2,.ref p.1.2⟩).toArray n,#[]⟩):oB w K a kvs:=by
 exists hs,λP h X=>⟨_,_,_,X _ _ e,⟨Y,Y,Y⟩,Y,λx hx=>?_,?_,?_⟩
 .obtain⟨p,_,rfl⟩:=aU.mp (List.mem_toArray.mp hx);exists Sum.inr p.1.1,vC P w p.1.1 p.2,rfl
 .clear e hn;induction kvs generalizing ts with
  |nil=>show .nil
  |cons p r ih =>
   cases ts with
   |nil=>cases hl
   |cons t ts=>show .cons (vC P w p.1 t) Y (ih (by simpa using hl))
 .rw[cE]
  have:((λx:bM×Value=>x.1) ∘ λp:Str×Addr=>(Sum.inr p.1,Value.ref p.2))=(λx:Str=>(Sum.inr x:bM)) ∘ (λp:Str×Addr=>p.1):=rfl
  rw[this,<-cE];show X0 _ (λx y h z=>h (Ih z)) hn
noncomputable def mS(kvs:List (Str×Addr))(x:Str):Option Addr:=(kvs.find? λp=>decide (p.1=x)).map (·.2)
def Kc(kvs:List (Str×Addr))(x:Str):valueAt (kvs.map λp=>((Sum.inr p.1:bM),Value.ref p.2)) (Sum.inr x)=(mS kvs x).map Value.ref:=by
 unfold valueAt mS;induction kvs with
 |nil=>rfl
 |cons p r ih =>
  rw[bz,cO,cO];by_cases z:p.1=x
  .rw[aR z,aR (show (Sum.inr p.1:bM)=Sum.inr x by rw[z])];rfl
  .rw[bw z,bw (λy=>z (Ih y))];show ih
def zaX(w:World)(K:Frag)(ty td:TE):TE:=λσ H Q=>ty σ H λy H1=>td σ H1 λx H2=>∃a kvs k,x=.ref a/\oB w K a kvs/\y=.str k/\Q (.bl (mS kvs k).isSome) H2
def zg4(w:World)(K:Frag)(td ty:TE):TE:=λσ H Q=>td σ H λx H1=>ty σ H1 λy H2=>∃a kvs k b,x=.ref a/\oB w K a kvs/\y=.str k/\mS kvs k=some b/\Q (.ref b) H2
def zaa(w:World)(K:Frag)(td ty:TE):TE:=λσ H Q=>td σ H λx H1=>∃a kvs,x=.ref a/\oB w K a kvs/\ty σ H1 λy H2=>∃k,y=.str k/\Q (match mS kvs k with|some b=>.ref b|none=>.non) H2
section
variable{X:Cx}{o i e:Expr}{td ty:TE}{pos da bG:Pos}
def zfq(hu:X.A.units+1<cLine)(hi:PE X i ty)(ho:PE X o td):PC X .In i o (zaX X.w X.K ty td):=by
 intro J s σ H Q I h;show ax (hi J s σ H _ I h) λiv s1 ⟨y,H1,I1,ry,q1⟩=>ax (ho J s1 σ H1 _ I1 q1) λu s2 ⟨x,H2,I2,rx,a,kvs,k,ex,D,ey,q2⟩=>?_
 subst ex ey;obtain rfl:u=Value.ref a:=rx;obtain⟨t,rfl⟩:=ry;have dd:=D.2 X.prog _ I2.kIn;show wpAny_in_of (vC X.prog X.w k t) D.1 dd.mapOf ?_;rw[Kc,Cw];exists .bl _,H2,I2.tok _,Y,q2
def za0(hu:X.A.units+1<cLine)(ho:PE X o td)(hi:PE X i ty)(hs:Bg i):PE X (.Subscript o i pos) (zg4 X.w X.K td ty):=by
 intro J s σ H Q I h;show MJ PySem.F.slot_dict_getitem.lookup hs (ax (ho J s σ H _ I h) λu s1 ⟨x,H1,I1,rx,q1⟩=>ax (hi J s1 σ H1 _ I1 q1) λiv s2 ⟨y,H2,I2,ry,a,kvs,k,b,ex,D,ey,hk,q2⟩=>?_);subst ex ey;obtain rfl:u=Value.ref a:=rx;obtain⟨t,rfl⟩:=ry;have dd:=D.2 X.prog _ I2.kIn;exists dd.typeIs,wpAny_getItem_of (vC X.prog X.w k t) dd.mapOf (by rw[Kc,hk];rfl) ⟨.ref b,H2,I2.tok _,Y,q2⟩
def zdp(hu:X.A.units+1<cLine)(ho:PE X o td)(he:PE X e ty)(m:M1 X o "get" da e bG):PE X (.Call (.Attribute o "get" da) [e] [] bG) (zaa X.w X.K td ty):=by
 intro J s σ H Q I h;show wpAny_Call_method m.base m.few m.line Qm yh Uq (ax (ho J s σ H _ I h) λu s1 ⟨x,H1,I1,rx,a,kvs,ex,D,q1⟩=>?_);subst ex;obtain rfl:u=Value.ref a:=rx;have dd:=D.2 X.prog _ I1.kIn;exists dd.typeIs,λb q=>?_,?_
 .cases q;obtain⟨ob,_,_,Z,M,_⟩:=dd;exists ob,Z,M.2.1
 rw[m.trees];show xp Y (zp (qf (ax (he J s1 σ H1 _ I1 q1) λiv s2 ⟨y,H2,I2,ry,k,ey,q2⟩=>xo ?_)));subst ey;obtain⟨t,rfl⟩:=ry;have pU:=D.2 X.prog _ I2.kIn;show call_meetsIn yh pU.typeIs Gd (PySem.F.args_dict_get_2 _ _) (meets_dict_get (fu X.prog X.w) a (vC X.prog X.w k t) D.1) ⟨_,pU.mapOf,?_⟩;rw[Kc];cases hk:mS kvs k with
 |none=>rw[hk]at q2;exists .non,H2,I2.tok _,Y,q2
 |some b=>rw[hk]at q2;exists .ref b,H2,I2.tok _,Y,q2
end
section
variable{X:Cx}{J:List (Addr×Obj)}{σ:St}{H:Hp}{s:Shared}
set_option tactic.hygienic true in
def zfb(qac:iE X)(ho:PE X.nox o ta)(c:lH X.K C)(hm:yr X.K C m f)(F:hV X.prog X.w X.K X.mg X.base (gX X.prog X.w) k f fd ps sp)(hr:bY k X.A)
  (hb:Binds X.K fd ps []) (ha:PA X.nox (e::es) t) (he:starEach (e::es) X.env=(false,eval e X.env)::starEach es X.env) (cj:(backTo pos (starEach es X.env)).any (·.1)=false)
  (ht:eval (.Call (.Attribute o m da) (e :: es) [] pos) X.env=(do
   let ov <-eval o X.env
   standAt da.atName
   let (f,first) <-holding [ov] (getMethod ov m pl)
   callWith pos f first (backTo pos (starEach (e::es) X.env)) (backToKw pos (keywordEach [] X.env))))
  (I:Inv X J σ H s) (h:ta σ H λx H1=>∃a dx fs,x=.ref a/\H1 a=some (.ins C dx fs)/\fs.lookup m=none/\t σ H1 λvs H2=>sp (x::vs) H2 Q E) :
  wpAny (model X.prog X.w) X.A (eval (.Call (.Attribute o m da) (e::es) [] pos) X.env) (EP X J σ Q) (XP X J σ E) s:=by
 show VW (pl:=pl) (cC (ho J s σ H _ (I.wish _) h) (λu s1 ⟨x,H1,I1,rx,a,dx,fs,ex,ea,l,q⟩=>?_) λ_ _ z=>False.elim z) ht;subst ex;obtain rfl:u=Value.ref a:=rx;show Qo I1.unwish ea c hm l ?_;show Ae (first:=[.ref a]) (h₀:=X.base) I.ok.mod.kin hm.kp (cC (ha pos J s1 σ H1 _ I1 q) (λus s2 ⟨vs,H2,I2,r,q2⟩=>⟨I2.kIn,?_⟩) λ_ _ z=>False.elim z) he cj;have qae:=I2.unwish;have r2:Vals (.ref a::vs) (.ref a::us):=.cons Y r;have hl:(Value.ref a::us).length=ps.length:=by rw[<-r2.length];show F.len _ _ _ _ q2
 have jY:BindsTo s2 fd ⟨Value.ref a::us,[]⟩ (ps.zip (Value.ref a::us)):=by
  have:=hb s2 (Value.ref a::us) qae.kIn (by simp_all)
  rw[gg]at this;show this
 show wpAny_call (yE (F.run X.A X.stack s2 H2 ⟨Value.ref a::us,[]⟩ (Value.ref a::us) (.ref a::vs) Q E hr qae.env0 jY r2 q2) λr s' hq=>?_);cases r with
 |error e=>show XP.of qac qae hq
 |ok fl =>
  cases fl with
  |ret u=>show qae.after hq
  |next=>show False.elim hq
  |brk=>show False.elim hq
  |cont=>show False.elim hq
def zcI(K:Frag)(B C:Addr)(m:Str)(i j l:Nat)(sp:Sp)(ta:TE)(t:TA):TS:=λD σ H=>ta σ H λx H1=>∃a dx fs,x=.ref a/\H1 a=some (.ins C dx fs)/\fs.lookup m=none/\t σ H1 λvs H2=>sp (x::vs) H2 (λv H3=>D.nx (σ.set l (some v)) H3) (Y5 K B i j D σ)
def Yy{pl:Sem Bool}{k:Nat}{f C:Addr}{fd:FuncData}{ps:List Str}{sp:Sp}{m:Str}{o:Expr}{ta:TE}{da bG ep pos:Pos}{e:Expr}{es:List Expr}{t:TA}{B:Addr}{ue:List Value}{x n y v:Str}{i j l:Nat}{np py pn pa hp pv:Pos}
  (qac:iE X) (ho:PE X.nox o ta) (c:lH X.K C) (hm:yr X.K C m f) (F:hV X.prog X.w X.K X.mg X.base (gX X.prog X.w) k f fd ps sp) (hr:bY k X.A) (hb:Binds X.K fd ps []) (ha:PA X.nox (e::es) t)
  (hN:X.N.Nodup) (hi:X.N[i]?=some n) (hj:X.N[j]?=some y) (hl:X.N[l]?=some v) (cW:i≠j) (hmB:X.mg x=some (.ref B)) (eB:iM X.K B ue=true)
  (nc:∀x,X.env.cells.lookup x=none:=by show λ_=>rfl) (hn:X.env.scope.names.lookup n=some .local:=by rfl) (hy:X.env.scope.names.lookup y=some .local:=by rfl) (hv:X.env.scope.names.lookup v=some .local:=by rfl) (yT:Gl X x:=by rfl) (hd:(x == ("__debug__" : Str))=false:=by decide)
  (hd2:(n == ("__debug__" : Str))=false:=by decide) (Gi:(n == ("__classdict__" : Str))=false:=by decide) (qL:swapsWith (.Name n pn) (some (.Name y py)) pa.line X.env=pure false:=by rfl) (hs:swapsWith (.Call (.Attribute o m da) (e::es) [] bG) (some (.Name v pv)) ep.line X.env=pure false:=by rfl)
  (he:starEach (e::es) X.env=(false,eval e X.env)::starEach es X.env:=by rfl) (cj:(backTo bG (starEach es X.env)).any (·.1)=false:=by rfl)
  (ht:eval (.Call (.Attribute o m da) (e :: es) [] bG) X.env=(do
   let ov <-eval o X.env
   standAt da.atName
   let (f,first) <-holding [ov] (getMethod ov m pl)
   callWith bG f first (backTo bG (starEach (e::es) X.env)) (backToKw bG (keywordEach [] X.env))):=by rfl) :
  PS X (.Try [.Assign [.Name v pv] (.Call (.Attribute o m da) (e::es) [] bG) ep] [.ExceptHandler (some (.Name x np)) (some n) [.Assign [.Name y py] (.Name n pn) pa] hp] [] [] pos) (zcI X.K B C m i j l sp ta t):=by
 intro J s σ H D I h;show wpAny_Try_except (vt (wpAny_Assign_Name (cC (zfb qac ho c hm F hr hb ha he cj ht I h) (λu s1 ⟨v',H1,I1,r,q⟩=>?_) λe' s1 z=>?_) hs))
 .exact wj I1 hN hl (.inl hv) r (λs2 I2=>uf (uf ⟨_,H1,I2,q⟩)) (.inr hv)
 .exact zfx qac nc hN hi hj cW hn hy yT hmB eB hd hd2 Gi qL (λC O z=>z) z
end
open PySem PySem.Spec PyProof.Rows
section
variable{prog:Program}{w:World}{A:Around}{E:Value->Shared->Prop}{s:Shared}
def Rc(t:Addr):¬(Value.ref t == Value.none)=true:=dj
def zdA(hp:s.heap.IsTupleIter p t k)(ht:s.heap.IsTuple t ae)(hx:ae[k]?=some x)
  (q:∀g,g.IsTupleIter p t (k+1)->Heap.SameBut p s.heap g->Q x {s with heap:=g}):wpAny (model prog w) A (Builtin.SmallTypes.nextOf (.ref p)) Q E s:=by
 obtain⟨op,e1,e2,e3⟩:=id hp;obtain⟨ot,e4,_,nt,e5⟩:=ht;show aq (tW (name:=ofString "__next__") hp.typeIs Dv (my Dv hp.typeIs U7 ?_ (UN _)));show wpAny _ _ (field (.ref p) 0 >>= _) _ _ s;show aq (iD e1 e3 (x:=.ref t) Y ?_);rw[ah (Rc t)];show aq (iD e1 e3 (x:=.int k 0) Y ?_);show aq (qu e4 e5 ?_);simp only[iu,hx];show aq (wpAny_setField e1 e3 tS (aS ⟨x,Y,aS (q _ ⟨_,RD _ e1 (Obj.isFreed_of_fields (SS e3 _)),(Obj.cls_mapFields ..).trans e2,?_⟩ (RK ..))⟩));rw[SS e3];simp[rawInt]
def zbj(hh:A.handled=none)(hp:s.heap.IsTupleIter p t k)(ht:s.heap.IsTuple t ae)(hx:ae[k]?=none)
  (q:∀g e,Heap.ExtBut p s.heap g->(∃o,g.get? e=some o/\o.cls=.type "StopIteration")->E (.ref e) {s with heap:=g}):wpAny (model prog w) A (Builtin.SmallTypes.nextOf (.ref p)) Q E s:=by
 obtain⟨op,e1,e2,e3⟩:=id hp;obtain⟨ot,e4,_,nt,e5⟩:=ht;show aq (tW (name:=ofString "__next__") hp.typeIs Dv (my Dv hp.typeIs U7 ?_ (UN _)));show wpAny _ _ (field (.ref p) 0 >>= _) _ _ s;show aq (iD e1 e3 (x:=.ref t) Y ?_);rw[ah (Rc t)];show aq (iD e1 e3 (x:=.int k 0) Y ?_);show aq (qu e4 e5 ?_);simp only[iu,hx];show aq (mD (aq (wpAny_setField e1 e3 tS ?_)));show aq ?_;simp only[newExc,newTuple];show aq (qH ?_ (by size_fits));show aq (m:=firstArgMember _ _) (wpAny_of_eq (a:=Value.none) (by first|rfl|(simp only[firstArgMember];rfl)) ?_);show qH ?_ (by size_fits);simp only[raiseNew];show aq (wpAny_handled ?_);first|rw[show A.in1.handled=none from hh]|rw[hh]
 show aq (aS (wpAny_throw (q _ _ (((RK ..).extBut.push _).push _) ⟨_,cQ _ Y,Y⟩)))
def zb9{z TI TO p r t l:Addr}{k:Nat}{xs ys:Array Value}{x y a b:Value}{Q:Value->Shared->Prop}(D:ZipApart z TI TO p r t l)
  (hz:IsZip s.heap z TI TO .none) (hI:IsPair s.heap TI (.ref p) (.ref r)) (hO:IsPair s.heap TO a b) (Z:s.heap.IsTupleIter p t k) (M:s.heap.IsListIter r l k) (ht:s.heap.IsTuple t xs) (hl:s.heap.IsList l ys) (hx:xs[k]?=some x) (hy:ys[k]?=some y)
  (q:∀ g,IsZip g z TI TO (rawInt s.heap.objs.size)->IsPair g TO x y->g.IsTupleIter p t (k+1)->g.IsListIter r l (k+1)->IsPair g s.heap.objs.size x y -> (∀c o,c≠z->c≠TO->c≠p->c≠r->s.heap.get? c=some o->g.get? c=some o)->Q (.ref s.heap.objs.size) {s with heap:=g}) :
  wpAny (model prog w) A (Builtin.«zip.__next__» ⟨[.ref z],[]⟩) (λfin s'=>∃v,fin=.done (.ret v)/\Q v s') E s:=by
 show wpAny _ _ (field (.ref z) 2 >>= _) _ _ _;show aq (iD hz Y (x:=.bool false) Y ?_);show aq (iD hz Y (x:=.ref TI) Y (aq (qu hI Y ?_)));show aq ?_;show aq (iD hz Y (x:=.none) Y (aS ?_));simp only[eS];show aq (mD (aq (iD hz Y (x:=.ref TO) Y (aq (zi hz tS λg1 mT b1=>?_)))))
 replace mT:IsZip g1 z TI TO .ellipsis:=mT
 show aq ?_;simp only[Kx,QI,A8,Nm];show aq (aq (Dh ?_));show aq (zdA (Z.extBut b1.extBut D.i1z) (ht.extBut b1.extBut D.l1z) hx λg2 p2 b2=>aS ?_);have o2:=b2.extBut _ _ D.TOi1 (b1.extBut _ _ D.TOz hO);show aq (qu o2 Y (aq (wpAny_updateSeq_pair o2 λg3 o3 b3=>?_)))
 replace o3:IsPair g3 TO x b:=o3
 show aq (wpAny_letGo (aS (aq (aq (Dh ?_)))));show aq (wpAny_nextOf_list_item (((M.extBut b1.extBut D.i2z).extBut b2.extBut D.i12.symm).extBut b3.extBut D.TOi2.symm) (((hl.extBut b1.extBut D.l2z).extBut b2.extBut D.l2i1).extBut b3.extBut D.l2TO) hy λg4 r4 b4=>aS ?_);have o4:=b4.extBut _ _ D.TOi2 o3;show aq (qu o4 Y (aq (wpAny_updateSeq_pair o4 λg5 o5 b5=>?_)))
 replace o5:IsPair g5 TO x y:=o5
 show aq (wpAny_letGo (aS (aS (aq (qu o5 Y (aq (BF ?_)))))));have n5:g5.objs.size=s.heap.objs.size:=by rw[b5.1,b4.1,b3.1,b2.1,b1.1]
 have z5:=b5.extBut _ _ D.TOz.symm (b4.extBut _ _ D.i2z.symm (b3.extBut _ _ D.TOz.symm (b2.extBut _ _ D.i1z.symm mT)));have k5:∀c o,c≠z->c≠TO->c≠p->c≠r->s.heap.get? c=some o->g5.get? c=some o:=λc o c1 c2 c3 c4 e=>b5.extBut _ _ c2 (b4.extBut _ _ c4 (b3.extBut _ _ c2 (b2.extBut _ _ c3 (b1.extBut _ _ c1 e))))
 have p5:=((p2.extBut b3.extBut D.TOi1.symm).extBut b4.extBut D.i12).extBut b5.extBut D.TOi1.symm;have r5:=r4.extBut b5.extBut D.TOi2.symm;have lz:=bh z5;show aq ?_;have z6:IsZip (g5.push {cls:=.type "tuple",data:=.seq #[x,y]}) z TI TO .ellipsis:=bZ _ z5;show aq (zi z6 tS λg7 z7 b7=>?_)
 replace z7:IsZip g7 z TI TO (rawInt g5.objs.size):=z7
 show zi z7 tS λg8 z8 b8=>?_
 replace z8:IsZip g8 z TI TO (rawInt g5.objs.size):=z8
 have up:∀c o,c≠z->g5.get? c=some o->g8.get? c=some o:=λc o c1 e=>b8.extBut _ _ c1 (b7.extBut _ _ c1 (bZ _ e))
 have T8:=b8.extBut _ _ (sC lz) (b7.extBut _ _ (sC lz) (cQ _ Y));rw[n5]at z8 T8;show aS ⟨_,Y,?_⟩;rw[n5];show q g8 z8 (up _ _ D.TOz o5) ?_ (r5.at λo e=>up _ o D.i2z e) T8 λc o c1 c2 c3 c4 e=>up c o c1 (k5 c o c1 c2 c3 c4 e)
 obtain⟨o,e,rest⟩:=p5;exists o,up _ o D.i1z e,rest
def zex{z TI TO p r t l:Addr}{k:Nat}{xs:Array Value}{a b:Value}{Q:Fin->Shared->Prop}(hh:A.handled=none)(D:ZipApart z TI TO p r t l)
  (hz:IsZip s.heap z TI TO .none) (hI:IsPair s.heap TI (.ref p) (.ref r)) (hO:IsPair s.heap TO a b) (Z:s.heap.IsTupleIter p t k) (ht:s.heap.IsTuple t xs) (hx:xs[k]?=none)
  (q:∀g e,(∀c o,c≠z->c≠TO->c≠p->c≠r->s.heap.get? c=some o->g.get? c=some o)->(∃o,g.get? e=some o/\o.cls=.type "StopIteration")->E (.ref e) {s with heap:=g}) :
  wpAny (model prog w) A (Builtin.«zip.__next__» ⟨[.ref z],[]⟩) Q E s:=by
 show wpAny _ _ (field (.ref z) 2 >>= _) _ _ _;show aq (iD hz Y (x:=.bool false) Y ?_);show aq (iD hz Y (x:=.ref TI) Y (aq (qu hI Y ?_)));show aq ?_;show aq (iD hz Y (x:=.none) Y (aS ?_));simp only[eS];show aq (mD (aq (iD hz Y (x:=.ref TO) Y (aq (zi hz tS λg1 mT b1=>?_)))))
 replace mT:IsZip g1 z TI TO .ellipsis:=mT
 show aq ?_;simp only[Kx,QI,A8,Nm];show aq (aq (Dh ?_));show aq (zbj hh (Z.extBut b1.extBut D.i1z) (ht.extBut b1.extBut D.l1z) hx λg2 e b2 he=>?_);obtain⟨oe,e1,e2⟩:=he;have z2:=b2 _ _ D.i1z.symm mT;have ne:e≠z:=λw=>by lia
 show zi z2 tS λg3 _ b3=>q g3 e (λc o c1 _ c3 _ w=>b3.extBut _ _ c1 (b2 _ _ c3 (b1.extBut _ _ c1 w))) ⟨oe,b3.extBut _ _ ne e1,e2⟩
noncomputable abbrev Bk(h:Heap)(t:Addr):Heap:=h.push {cls:=.type "tuple_iterator",data:=.fields #[.ref t,.int 0 0]}
abbrev Di(h:Heap)(t l:Addr):Heap:=(Bk h t).push {cls:=.type "list_iterator",data:=.fields #[.ref l,.int 0 0]}
abbrev Cg(h:Heap)(t l:Addr):Heap:=(Di h t l).push {cls:=.type "tuple",data:=.seq #[.ref h.objs.size,.ref (Bk h t).objs.size]}
abbrev B7(h:Heap)(t l:Addr):Heap:=(Cg h t l).push {cls:=.type "tuple",data:=.seq #[.none,.none]}
abbrev vp(h:Heap)(t l:Addr):Heap:=(B7 h t l).push {cls:=.type "zip",data:=.fields #[.none,.bool false,.bool false,.ref (Di h t l).objs.size,.ref (Cg h t l).objs.size]}
def zej(t l:Addr)(xs ys:Array Value):Meets (Builtin.«zip.__new__» ⟨[.type "zip",.ref t,.ref l],[]⟩) (λ_ R s=>s.heap.IsTuple t xs/\s.heap.IsList l ys/\R (.ok (.ret (.ref (B7 s.heap t l).objs.size))) {s with heap:=vp s.heap t l}) :=
 .of_wp λprog w A R s h=>by
  obtain⟨hp,g,d,tk,os⟩:=s;obtain⟨Z,M,h3⟩:=h;have xn:=sub_zip;have a1:=Z;have a2:Heap.IsList (Shared.heap ⟨hp.push {cls:=.type "tuple_iterator",data:=.fields #[.ref t,.int 0 0]},g,d,tk,os⟩) l ys:=jip M _
  wp_walk using wpAny_pyIter_tuple a1,vZ a2
  exists _,Y,h3
def rW(k:Bool)(K:Frag)(H:Hp)(a:Addr)(xs:List V):Prop:=match k with|true=>aD K H a xs|false=>ai K H a xs
noncomputable def pL(k:Bool)(h:Heap)(p t:Addr)(i:Nat):Prop:=match k with|true=>h.IsTupleIter p t i|false=>h.IsListIter p t i
noncomputable def CO(k:Bool)(h:Heap)(t:Addr)(xs:Array Value):Prop:=match k with|true=>h.IsTuple t xs|false=>h.IsList t xs
def za9{k:Bool}(Z:CO k s.heap t xs)(M:s.heap.IsList l ys)
  (q:∀ g,IsZip g (s.heap.objs.size+4) (s.heap.objs.size+2) (s.heap.objs.size+3) .none->IsPair g (s.heap.objs.size+2) (.ref s.heap.objs.size) (.ref (s.heap.objs.size+1))->IsPair g (s.heap.objs.size+3) .none .none->pL k g s.heap.objs.size t 0->g.IsListIter (s.heap.objs.size+1) l 0 -> (∀c o,s.heap.get? c=some o->g.get? c=some o)->Q (.ref (s.heap.objs.size+4)) {s with heap:=g}):wpAny (model prog w) A (call (.type "zip") [.ref t,.ref l]) Q E s:=by
 cases k
 .exact call_zip_2 Z M λg a b c d e _ z=>q g a b c d e z
 .refine callType_new F.called_zip tD (F.typeCall_zip_2 _ _) (F.newCall_zip_2 _ _) (λobj=>F.args_object_init_3 obj _ _) F.entry_zip_new (zej t l xs ys) ⟨Z,M,?_⟩;have n1:(Bk s.heap t).objs.size=s.heap.objs.size+1:=rK ..;have n2:(Di s.heap t l).objs.size=s.heap.objs.size+2:=by rw[rK,n1]
  have n3:(Cg s.heap t l).objs.size=s.heap.objs.size+3:=by rw[rK,n2]
  have n4:(B7 s.heap t l).objs.size=s.heap.objs.size+4:=by rw[rK,n3]
  have u:∀{h:Heap}{o:Obj}{c:Addr}{v:Obj},h.get? c=some v->(h.push o).get? c=some v:=λe=>bZ _ e
  have m5:(vp s.heap t l).get? (B7 s.heap t l).objs.size=some _:=cQ _ rfl;have m4:(vp s.heap t l).get? (Cg s.heap t l).objs.size=some _:=u (cQ _ Y);have m3:(vp s.heap t l).get? (Di s.heap t l).objs.size=some _:=u (u (cQ _ Y));have m2:(vp s.heap t l).get? (Bk s.heap t).objs.size=some _:=u (u (u (cQ _ Y)));have m1:(vp s.heap t l).get? s.heap.objs.size=some _:=u (u (u (u (cQ _ Y))));rw[n2,n3,n4]at m5;rw[n1,n2]at m3;rw[n3]at m4;rw[n1]at m2;rw[n4];exists ⟨_,m5,Y⟩,q _ m5 m3 m4 ⟨_,m1,Y,Y⟩ ⟨_,m2,Y,Y⟩ λc o e=>u (u (u (u (u e))))
def zcO{k:Bool}{z TI TO p r t l:Addr}{i:Nat}{xs ys:Array Value}{x y a b:Value}{Q:Option Value->Shared->Prop}(D:ZipApart z TI TO p r t l)
  (hz:IsZip s.heap z TI TO .none) (hI:IsPair s.heap TI (.ref p) (.ref r)) (hO:IsPair s.heap TO a b) (Z:pL k s.heap p t i) (M:s.heap.IsListIter r l i) (ht:CO k s.heap t xs) (hl:s.heap.IsList l ys) (hx:xs[i]?=some x) (hy:ys[i]?=some y)
  (q:∀ g,IsZip g z TI TO (rawInt s.heap.objs.size)->IsPair g TO x y->pL k g p t (i+1)->g.IsListIter r l (i+1)->IsPair g s.heap.objs.size x y -> (∀c o,c≠z->c≠TO->c≠p->c≠r->s.heap.get? c=some o->g.get? c=some o)->Q (some (.ref s.heap.objs.size)) {s with heap:=g}):wpAny (model prog w) A (pyNext (.ref z)) Q E s:=by
 cases k
 .exact wpAny_pyNext_zip_item D hz hI hO Z M ht hl hx hy λg a1 a2 a3 a4 a5 _ a6=>q g a1 a2 a3 a4 a5 a6
 .have hT:s.TypeIs (.ref z) "zip" := ⟨_,hz,Y⟩;show aq (Il (tW (name:=ofString "__next__") hT Dm (my Dm hT Mn (zb9 D hz hI hO Z M ht hl hx hy λg a1 a2 a3 a4 a5 a6=>aS (q g a1 a2 a3 a4 a5 a6)) (SX _))))
def zhc{k:Bool}{z TI TO p r t l:Addr}{i:Nat}{xs ys:Array Value}{a b:Value}{Q:Option Value->Shared->Prop}(hh:A.handled=none)(D:ZipApart z TI TO p r t l)
  (hz:IsZip s.heap z TI TO .none) (hI:IsPair s.heap TI (.ref p) (.ref r)) (hO:IsPair s.heap TO a b) (Z:pL k s.heap p t i) (M:s.heap.IsListIter r l i) (ht:CO k s.heap t xs) (hl:s.heap.IsList l ys) (hx:xs[i]?=none)
  (q:∀g,(∀c o,c≠z->c≠TO->c≠p->c≠r->s.heap.get? c=some o->g.get? c=some o)->Q none {s with heap:=g}):wpAny (model prog w) A (pyNext (.ref z)) Q E s:=by
 cases k
 .exact wpAny_pyNext_zip_end hh D hz hI hO Z M ht hl (.inl hx) q
 .have hT:s.TypeIs (.ref z) "zip" := ⟨_,hz,Y⟩;show aq (Il (tW (name:=ofString "__next__") hT Dm (my Dm hT Mn (zex hh D hz hI hO Z ht hx λg e hk he=>?_) (SX _))));obtain⟨o,ho,hc⟩:=he;show aq (wpAny_isInstance (T := "StopIteration") (b:=true) ⟨o,ho,hc⟩ isSubtype_stop (aS (q _ hk)))
end
def Tx{k:Bool}{g g':Heap}{p t:Addr}{i:Nat}(h:pL k g p t i)(f:∀o,g.get? p=some o->g'.get? p=some o):pL k g' p t i:=by
 cases k<;>show h.at f
def Su{k:Bool}{g:Heap}{p t:Addr}{i:Nat}(h:pL k g p t i):∃o,g.get? p=some o/\o.data=.fields #[.ref t,.int i 0]:=by
 cases k<;>obtain⟨o,e,_,d⟩:=h<;>exists o,e,d
def GP{X:Cx}{J:List (Addr×Obj)}{σ:St}{H:Hp}{s:Shared}{k:Bool}{a:Addr}{xs:List V}(I:Inv X J σ H s)(h:rW k X.K H a xs):∃ae,Vals xs ae/\CO k s.heap a ae.toArray/\a<s.heap.objs.size/\∀zs,rW k X.K H a zs->zs=xs:=by
 cases k
 .obtain⟨ae,rv,p,_⟩:=I.list h;exists ae,rv,p.isList,(let ⟨_,q,_⟩:=p.isList; bh q),λzs z=>I.list_inj z h
 .obtain⟨ae,rv,p,_⟩:=I.tuple h;exists ae,rv,p,(let ⟨_,q,_⟩:=p; bh q),λzs z=>I.tuple_inj z h
def yk(k:Bool)(K:Frag)(a b:Addr):It :=
 ⟨λi H=>∃xs ys x y,rW k K H a xs/\ai K H b ys/\xs[i]?=some x/\ys[i]?=some y,λi H v O=>∃T x y,H T=none/\v=.ref T/\O=upd H T (.tup [x,y])/\(∀xs,rW k K H a xs->xs[i]?=some x)/\∀ys,ai K H b ys->ys[i]?=some y,λi H=>∃xs ys,rW k K H a xs/\ai K H b ys/\xs.length<=i⟩
def zdc{k:Bool}{P:Program}{w:World}{K:Frag}{elts:List Expr}{x1:Nat}{pos:Pos}(a b z TI TO i1 i2:Addr)(D:ZipApart z TI TO i1 i2 a b) :
  mf P w K (.Tuple elts x1 pos) (yk k K a b) [z,TI,TO,i1,i2] z (λi h=>IsZip h z TI TO .none/\IsPair h TI (.ref i1) (.ref i2)/\(∃u v,IsPair h TO u v)/\pL k h i1 a i/\h.IsListIter i2 b i) where
 mem:=by simp
 obj:=λi h st c hc=>by
  obtain⟨hz,kW,⟨u,v,l9⟩,Z,⟨o2,e2,c2,d2⟩⟩:=st;simp only[aV,ly,lQ]at hc;rcases hc with rfl|rfl|rfl|rfl|rfl
  .exact⟨_,hz,λv z=>by cases z⟩
  .exact⟨_,kW,λv z=>by cases z⟩
  .exact⟨_,l9,λv z=>by cases z⟩
  .obtain⟨o1,e1,d1⟩:=Su Z;show⟨o1,e1,λv z=>by rw[d1]at z;cases z⟩
  .exact⟨o2,e2,λv z=>by simp_all⟩
 keep:=λi h h' st kp=>by
  obtain⟨hz,kW,⟨u,v,l9⟩,Z,M⟩:=st;exists kp z tS _ hz,kp TI tS _ kW,⟨u,v,kp TO tS _ l9⟩,Tx Z λo q=>kp i1 tS o q,M.at λo q=>kp i2 tS o q
 item:=by
  intro X hP hw hK hc i J s σ H E I hf st hg;subst hP hw hK;obtain⟨hz,kW,⟨u,v,l9⟩,Z,M⟩:=st;obtain⟨xs,ys,x,y,hq,ke,hx,hy⟩:=hg;obtain⟨ae,rv,p,ha,inj⟩:=GP I hq;obtain⟨its',m8,p',hsz'⟩:=I.list ke;obtain⟨ux,hu,ru⟩:=rv.get hx;obtain⟨uy,Pz,GO⟩:=m8.get hy;show zcO D hz kW l9 Z M p p'.isList (x:=ux) (y:=uy) (by simpa using hu) (by simpa using Pz) λbV mT hTO1 Dr HE hT k1=>⟨_,Y,?_⟩
  show wpAny_letOwnedTupleGo_zip mT λeE m9 sb=>?_
  have lz:=bh hz;have hTz:=sC lz;have kk:∀c o,c∉[z,TI,TO,i1,i2]->s.heap.get? c=some o->eE.get? c=some o:=λc o hc q=>by
   simp only[aV,ly,lQ,not_or]at hc;show (sb.2 c hc.1).trans (k1 c o hc.1 hc.2.2.1 hc.2.2.2.1 hc.2.2.2.2 q)
  have dz:=(sb.2 _ hTz).trans hT;have hTI2:=(sb.2 _ D.TIz).trans (k1 _ _ D.TIz D.TITO D.TIi1 D.TIi2 kW);exists .ref s.heap.objs.size,upd H s.heap.objs.size (.tup [x,y]),I.turnedL (t':=s.toks) _ kk hf (aC _) ⟨by show 2<=sizeLine;decide,[ux,uy],.cons ru (.cons GO .nil),?_⟩,Y,⟨_,x,y,I.hok.fresh (aC _),Y,Y,λzs h=>by rw[inj zs h];show hx,λzs h=>by rw[I.list_inj h ke];show hy⟩,⟨m9,hTI2,⟨ux,uy,(sb.2 _ D.TOz).trans hTO1⟩,?_,?_⟩,λc hc=>?_
  .exists _,dz,Y,0,rfl
  .exact Tx Dr λo q=>(sb.2 _ D.i1z).trans q
  .exact HE.at λo q=>(sb.2 _ D.i2z).trans q
  .have pX:c<s.heap.objs.size:=by
    simp only[aV,ly,lQ]at hc;rcases hc with rfl|rfl|rfl|rfl|rfl
    .exact lz
    .exact bh kW
    .exact bh l9
    .obtain⟨o,q,_⟩:=Su Z;show bh q
    .obtain⟨o,q,_⟩:=M;show bh q
   rw[aG (bR pX)];show (hf c hc).1
 done:=by
  intro X hP hw hK hc i J s σ H E I hf st hg;subst hP hw hK;obtain⟨hz,kW,⟨u,v,l9⟩,Z,M⟩:=st;obtain⟨xs,ys,hq,ke,hx⟩:=hg;obtain⟨its',m8,p',hsz'⟩:=I.list ke;obtain⟨ae,rv,p,ha,inj⟩:=GP I hq;have hl:=rv.length;show zhc (I.ok.hd hc) D hz kW l9 Z M p p'.isList (by simp;lia) λh' kk=>⟨Y,I.turnedN (t':=s.toks) [z,TI,TO,i1,i2] (λc o hc q=>?_) hf⟩
  simp only[aV,ly,lQ,not_or]at hc;show kk c o hc.1 hc.2.2.1 hc.2.2.2.1 hc.2.2.2.2 q
 self:=λ_ _ _ _ _ st h=>wpAny_pyIter_zip st.1 h
def zcY(k:Bool)(K:Frag)(ta:TA):TI:=λσ H R=>ta σ H λvs H1=>∃a b,vs=[.ref a,.ref b]/\(∃xs,rW k K H1 a xs)/\(∃ys,ai K H1 b ys)/\R (yk k K a b) H1
def GW(k:Bool){X:Cx}{elts:List Expr}{x1:Nat}{p0 p pos:Pos}{a b:Expr}{ta:TA}(hg:Gl X "zip")(hm:X.mg "zip" = none)(ha:PA X [a,b] ta)(hs:starEach [a,b] X.env=(false,eval a X.env)::starEach [b] X.env:=by rfl)(iy:(backTo pos (starEach [b] X.env)).any (·.1)=false:=by rfl) :
  PI X (.Tuple elts x1 p0) (.Call (.Name "zip" p) [a,b] [] pos) (zcY k X.K ta):=by
 intro J s σ H R I h;show Call_ (nq I hg hm Wo (su (ax (ha pos J s σ H _ I h) λus s1 ⟨vs,H1,I1,r1,q1⟩=>?_) hs iy));obtain⟨l1,l2,rfl,⟨xs,hq⟩,⟨ys,ke⟩,q⟩:=q1;obtain⟨u,v,rfl,ru,rv⟩:=xY r1;cases (show u=Value.ref l1 from ru);cases (show v=Value.ref l2 from rv);obtain⟨ae,rx,p,n1,_⟩:=GP I1 hq;obtain⟨its',rx',p',rj⟩:=I1.list ke;have n2:l2<s1.heap.objs.size:=by obtain⟨o,q,_⟩:=p'.isList;show bh q
 show za9 p p'.isList λh' hz kW l9 Z M k=>wpAny_pyIter_zip hz ?_
 have I2:=I1.kept (t':=s1.toks) k;exists _,_,_,_,H1,Y,I2,zdc l1 l2 _ _ _ _ _ (zipApart_new n1 n2),⟨hz,kW,⟨_,_,l9⟩,Z,M⟩,λc hc=>?_,q;have fr:∀c,s1.heap.objs.size<=c->gB X J H1 c:=λc hc=>I1.fpOk hc (I1.hok.fresh hc)
 simp only[aV,ly,lQ]at hc;rcases hc with rfl|rfl|rfl|rfl|rfl<;>show fr _ tL
def JS(k:Bool){K:Frag}{a b:Addr}{xs ys:List V}{g:TG}{tc:TT}{te:TE}{σ:St}{H:Hp}{R:List V->Hp->Addr->Prop}(DW:xs.length=ys.length)(Pv:Nat->List V->St->Hp->Prop)(h0:Pv 0 [] σ H)
  (hl:∀i zs σ H,i<=xs.length->Pv i zs σ H->rW k K H a xs/\ai K H b ys/\zs.length<=i) (hz:xs.length<=sizeLine)
  (hs:∀i x y zs σ H T,xs[i]?=some x->ys[i]?=some y->Pv i zs σ H->H T=none->g (.ref T) σ (upd H T (.tup [x,y])) λσ2 H2=>tc σ2 H2 λb H3=>if b=true then te σ2 H3 λy H4=>Pv (i+1) (zs++[y]) σ2 H4 else Pv (i+1) zs σ2 H3)
  (hd:∀zs σ H,Pv xs.length zs σ H->∀D,H D=none->R zs H D) :
  ∃W:Nat->Nat->List V->St->Hp->Prop,(∃m,W 0 m [] σ H)/\∀i m zs σ H,W i m zs σ H ->
   ((yk k K a b).stop i H/\∀D,H D=none->R zs H D) \/
   ((yk k K a b).go i H/\zs.length<sizeLine/\∃ N:List V->St->Hp->Prop,(∀ MQ σ' O,N MQ σ' O->∃ m',m'<m/\W (i+1) m' MQ σ' O) /\ ∀x O,(yk k K a b).yld i H x O->g x σ O λσ2 H2=>tc σ2 H2 λb H3=>if b=true then te σ2 H3 λy H4=>N (zs++[y]) σ2 H4 else N zs σ2 H3):=by
 exists λi m zs σ H=>m=xs.length-i/\i<=xs.length/\Pv i zs σ H,⟨xs.length,tS,bJ _,h0⟩,?_;rintro i m zs σ H ⟨rfl,hi,p⟩;obtain⟨q1,q2,q3⟩:=hl i zs σ H hi p;by_cases aF:i<xs.length
 .have hlt':i<ys.length:=by lia
  show .inr ⟨⟨xs,ys,xs[i],ys[i],q1,q2,by simp[aF],by simp[hlt']⟩,tL,Pv (i+1),λcb σ' O p'=>⟨xs.length-(i+1),tL,Y,aF,p'⟩,λx O y=>?_⟩;obtain⟨T,u,v,hT,rfl,rfl,y1,y2⟩:=y;show hs i u v zs σ _ T (y1 xs q1) (y2 ys q2) p hT
 .have e:i=xs.length:=by lia
  subst e;show .inl ⟨⟨xs,ys,q1,q2,aC _⟩,hd zs σ H p⟩
open PySem PySem.Spec PyProof.Rows
section
variable{X:Cx}
def zcU(i j:Int):Prop:=0<=j/\(intBits i:Int)*j<=2^27
def zgw:bx X (binaryOp .Pow) (rI zcU λi j=>.int (i^j.toNat)):=u9 λ_ _ _ _ _ _ _ hc q=>pow_int hc.1 hc.2 q
def zgb(hc:X.calm=true):gA X (.builtin "any") (λxs H Q=>∃(a:Addr) (bs:List Bool),xs=[.ref a]/\ai X.K H a (bs.map V.bl)/\Q (.bl (bs.any id)) H):=by
 intro J s σ H xs us Q I r h;obtain⟨a,bs,rfl,hq,q⟩:=h;obtain⟨u,rfl,ru⟩:=gF r;cases (show u=Value.ref a from ru);obtain⟨ae,rv,p,hz⟩:=I.list hq;have hl:=p.isList;have aF:a<s.heap.objs.size:=by obtain⟨_,e,_⟩:=hl;show bh e
 show call_any_walk (vZ hl ?_);show⟨s.heap.objs.size,[s.heap.objs.size,a],[s.heap.objs.size],ae.toArray.size,_,_,λi=>(bs[i]?).getD false,Y,Va (A:=X.A.in1) (I.ok.hd hc) _ a (bR aF) ae.toArray,⟨⟨_,cQ _ Y,Y,Y⟩,hl.push _⟩,λi v s' Q' E' hP hQ=>?_,λh' tk hk=>?_⟩
 .obtain⟨b,e,rfl⟩:=JM rv i v (by simpa using hP);simp only[e,Ax]at hQ;show mH hQ
 .have e:((List.range ae.toArray.size).any λi=>(bs[i]?).getD false)=bs.any id:=by
   have Z:=rv.length;rw[ar]at Z;rw[eR,<-Z,oQ,oI,oI];constructor
   .rintro⟨i,hi,z⟩;have cD:=eG.mp hi;simp only[fT cD,Ax]at z;exists _,Ov cD,z
   .rintro⟨b,hb,z⟩;obtain⟨i,hi,rfl⟩:=xZ hb;show⟨i,eG.mpr hi,by simpa [fT hi] using z⟩
  rw[e];exists .bl (bs.any id),H,I.kept (t':=tk) (λb o e=>hk b o (λhm=>?_) (bZ _ e)),Y,q;rw[bH.mp hm]at e;show nJ _ (bh e)
def XA:gn X "list.index" (λx vs H Q=>∃(l:Addr) (xs:List V) (y:V) (j:Nat),x=.ref l/\vs=[y]/\H l=some (.lst xs)/\ml y=true/\xs.all ml=true/\(∃z,xs[j]?=some z/\ka z y=true)/\(∀m z,m<j->xs[m]?=some z->ka z y=false)/\Q (.int (j:Int)) H):=by
 intro J s σ H x vs v us Q I rx rv h;obtain⟨l,xs,y,j,rfl,rfl,hH,fy,fs,⟨z,hz,ez⟩,zB,q⟩:=h;cases rx;obtain⟨u,rfl,ru⟩:=rv.one;obtain⟨sz,ae,n,r,e⟩:=(show cI X.prog X.w H s.heap l (.lst xs) from I.hok l _ hH);have hn:=r.length;have hj:=(cq.mp hz).1;have at_:∀m (hm:m<ae.length) w,xs[m]?=some w->jy y ae[m]=ka w y:=λm hm w hw=>by
  obtain⟨u',Pz,GO⟩:=r.get hw
  have:ae[m]=u':=by simp_all
  rw[this];show Fj GO (kH.mp fs w (c8 hw))
 have oN:(j:Int)<2^63-1:=by
  have:j<sizeLine:=cP hj sz
  have M:(sizeLine:Nat)<2^62:=by decide
  clear sz;lia
 show jV Mf ⟨_,e,Y⟩ L6 (U9 _ _)
  (Mg l ae.toArray n none #[] u (jy y) j (by simp_all) oN ?_ ?_) ⟨e,λw hw=>Dj ru fy r fs w (by simpa using hw),⟨.int _,H,I.tok _,⟨_,Y⟩,q⟩⟩
 .show jy y ae[j]=true;rw[at_ j tO z hz];show ez
 .intro m hm aF;have Sg:m<xs.length:=by lia
  show jy y ae[m]=false;rw[at_ m (by assumption) _ (fT Sg)];show zB m _ aF (fT Sg)
end
end L2
namespace My
open PySem L2 OF
noncomputable def Gk:List Nat:=[97,98,99,100,101,102,103,104,105,106,107,108,109,110,111,112,113,114,115,116,117,118,119,120,121,122]
def zgA:("abcdefghijklmnopqrstuvwxyz" : Str)=S Gk:=by decide+kernel
def zb6:∀c:Nat,c<128->(!(Builtin.Str.occurrences (S Gk) (S [c]) 0 (S Gk).length 1).isEmpty)=decide (97<=c/\c<123):=by decide+kernel
noncomputable def bI(w:List Nat):Bool:=decide (1<=w.length)&&(decide (w.length<=8)&&w.all λc=>decide (97<=c/\c<123))
noncomputable def K4(w:List Nat):Bool:=if w.head?=some 48 then decide (w=[48])else decide (1<=w.length)&&(decide (w.length<=18)&&w.all λc=>decide (48<=c/\c<58))
inductive Kd where
 |name|letter|bit|number|divisor
noncomputable def Kd.s:Kd->Str
 |.name => "name" |.letter => "letter" |.bit => "bit" |.number => "number" |.divisor => "divisor"
def sX:Kd->List Nat->Bool
 |.name,w=>bI w
 |.letter,w=>decide (w.length=1)&&w.all λc=>decide (97<=c/\c<113)
 |.bit,w=>decide (w=[48]) || decide (w=[49])
 |.number,w=>K4 w
 |.divisor,w=>K4 w && !decide (w=[48])
def xK:Kd->List Nat->V
 |.name,w=>.str (S w)
 |.letter,w=>.int (Txt.find (S oZ) (S w))
 |_,w=>.int ((digitsVal w:Nat):Int)
def rF(ks:List Kd)(ws:List (List Nat)):Option (List V) :=
 if ks.length=ws.length/\(ks.zip ws).all (λp=>sX p.1 p.2)=true then some ((ks.zip ws).map λp=>xK p.1 p.2)else none
def nh(ks:Option (List Kd))(ws:List (List Nat)):Option (List V):=match ks with|none=>none|some l=>rF l ws
def Ef(K:Frag)(kv:V):Option (List Kd)->Prop
 |none=>kv=.non
 |some l=>∃a,kv=.ref a/\l.length<=100/\∀G:Hp,aD K G a (l.map λk=>V.str k.s)
def IJ(K:Frag)(p:Str×Addr)(q:Str×List Kd):Prop:=p.1=q.1/\q.2.length<=100/\∀G:Hp,aD K G p.2 (q.2.map λk=>V.str k.s)
def c7(t:List (Str×List Kd))(w:List Nat):Option (List Kd):=(t.find? λp=>decide (p.1=S w)).map (·.2)
noncomputable def jH:List (Str×List Kd):=[("show",[.name]),("worth",[.name,.number]),("alike",[.name,.name]),("rest",[.name,.name,.divisor]),("least",[.name]),("ways",[.name]),("unknowns",[.name])]
noncomputable def gY:List (Str×List Kd):=[("plus",[.name,.name]),("less",[.name,.name]),("times",[.name,.name]),("fixed",[.name,.letter,.bit]),("put",[.name,.letter,.name])]
def UX{K:Frag}{kvs:List (Str×Addr)}{t:List (Str×List Kd)}(h:Paired (IJ K) kvs t)(w:List Nat) :
  (∃b l,mS kvs (S w)=some b/\c7 t w=some l/\Ef K (.ref b) (some l))\/(mS kvs (S w)=none/\c7 t w=none):=by
 induction h with
 |nil=>show .inr ⟨Y,Y⟩
 |@cons p r ps rs ZY _ ih =>
  obtain⟨e,e1,e2⟩:=ZY;unfold mS c7;rw[cO,cO,<-e];by_cases z:p.1=S w
  .rw[aR z];show .inl ⟨_,_,Y,Y,_,Y,e1,e2⟩
  .rw[bw z];show ih
def Cr:Option (List Nat)->V
 |none=>.non
 |some n=>.str (S n)
def mE(n sg t:List Nat):Option (Option (List Nat)×List Nat×List V) :=
 if sg=[61]/\(c7 gY ((a8 t).headD [])).isSome=true then (nh (c7 gY ((a8 t).headD [])) (a8 t).tail).map λvs=>(some n,(a8 t).headD [],vs)else some (some n,sg,[.str (S t)])
def dN(l:List Nat):Option (Option (List Nat)×List Nat×List V) :=
 if 2<(a8 l).length/\((a8 l).getD 1 []=[61]\/(a8 l).getD 1 []=[58,61])/\bI ((a8 l).headD [])=true then mE ((a8 l).headD []) ((a8 l).getD 1 []) (l.drop (((a8 l).headD []).length+((a8 l).getD 1 []).length+2))
 else (nh (c7 jH ((a8 l).headD [])) (a8 l).tail).map λvs=>(none,(a8 l).headD [],vs)
open PySem L2 OF
def K5(ls:List Nat)(l:ak):Prop:=∀t∈l,0<=t.1/\∀j,t.1.toNat.testBit j=true->j∈ls
def K5.app(h:K5 ls a)(k:K5 ls b):K5 ls (a++b):=λt ht=>(bC.mp ht).elim (h t) (k t)
def K5.sub(h:K5 ls b)(k:∀t∈a,t.1∈b.map (·.1)):K5 ls a:=λt ht=>by
 obtain⟨u,hu,e⟩:=aU.mp (k t ht);rw[<-e];show h u hu
def K5.of(h:K5 ls l)(k:aT f l):K5 ls f:=h.sub k.src
def K5.map(h:K5 ls l)(g:Int×Int->Int):K5 ls (l.map λt=>(t.1,g t)):=λt ht=>by
 obtain⟨u,hu,rfl⟩:=aU.mp ht;show h u hu
def K5.prod(h:K5 ls a)(k:K5 ls b):K5 ls (bt a b):=λx hx=>by
 obtain⟨t,ht,u,hu,rfl⟩:=qZ hx;obtain⟨t0,t1⟩:=h t ht;obtain⟨u0,u1⟩:=k u hu;obtain⟨m,hm⟩:=xD t0;obtain⟨n,hn⟩:=xD u0;rw[hm]at t1;rw[hn]at u1;have e:Builtin.bitOr t.1 u.1=((m|||n:Nat):Int):=by rw[hm,hn];show rA _ _
 exists by simp_all,λj hj=>?_;have ig:(m|||n).testBit j=true:=by simp_all
 rw[Gz,Hn]at ig;show ig.elim (t1 j) (u1 j)
def WI(hx:x<2^a)(hy:y<2^c)(h5:a+c<=5)(yZ:x<=2^n)(hy2:y<=2^n):x*y<=(n+1)*2^n:=by
 match n,yZ,hy2 with
 |0,h,k=>show jk h k
 |1,h,k=>show jk h k
 |2,h,k =>
  by_cases z:x<=3
  .exact jk z k
  .have ha:2<a:=by
    rcases lj 2 a with y|y
    .exact y
    .have:=eO (show 2>0 by decide) y;lia
   have hc:=eO (show 2>0 by decide) (show c<=2 by lia);rw[qA];show jk (show y<=3 by lia) h
 |n+3,_,_ =>
  have Z:=jk (dH hx) (dH hy);rw[<-Dp]at Z;have M:=eO (show 2>0 by decide) h5;have h3:4*2^3<=(n+3+1)*2^(n+3):=jk tL (eO tD tL);show a9 Z (a9 M h3)
def zba(hx:x<2^a)(hy:y<2^c)(hm:m<=x+y+x*y):m<2^(a+c):=by
 have h:(x+1)*(y+1)<=2^a*2^c:=jk hx hy;rw[<-Dp,Bo,CS]at h;lia
def aT.cnt(h:aT f l):f.length<=l.length:=by
 have:=sE (mM h.toIsForm) (B:=l.map (·.1)) λx hx=>by
  obtain⟨t,ht,rfl⟩:=aU.mp hx;show h.src t ht
 simpa using this
def y9(hI:IsForm f)(h:∀k,aA f k=aA L k):aT f L:=⟨hI,h,λp hp=>by
 by_cases z:p.1∈L.map (·.1)
 .exact z
 .have Z:=Iw hI p hp;rw[h,t9 L p.1 λq hq e=>z (aU.mpr ⟨q,hq,e⟩)]at Z;show absurd Z.symm (hI.nz p hp)⟩
def Sm.tl:Sm->ak
 |.bit k=>[((2:Int)^k,1)]
 |.fix b=>[(0,b)]
 |.no s=>zeu (Sm.tl s)
 |.two w s t=>gG w (Sm.tl s) (Sm.tl t)
def zcJ(w:Nat)(l o:ak):(gG w l o).length<=l.length+o.length+l.length*o.length:=by
 unfold gG;split
 .rw[vP];lia
 .rw[aX,aX,ar,vP];lia
def U4(b:Int):K5 ls [(0,b)]:=λt ht=>by rw[bH.mp ht];show⟨ik _,λj hj=>by simp at hj⟩
def K5.word(w:Nat)(h:K5 ls l)(k:K5 ls o):K5 ls (gG w l o):=by
 unfold gG;split
 .exact h.prod k
 .exact (h.app k).app ((h.prod k).map _)
theorem AK:∀{s:Sm},s.ok (λk=>k∈ls)->K5 ls s.tl
 |.bit k,h=>λt ht=>by
  rw[bH.mp ht];exists by rw[RC];show jI _,λj hj=>?_;rw[RC,iu,E5]at hj;rw[<-cx hj];show h
 |.fix b,h=>U4 b
 |.no s,h=>(U4 1).app ((AK (s:=s) h).map _)
 |.two w s t,h=>K5.word w (AK h.2.1) (AK h.2.2)
def zbP(ha:aT l a)(hb:aT o b)(h:aT f (gG w l o)):aT f (gG w a b):=y9 h.toIsForm λk=>by
 have e:∀k,aA (bt l o) k=aA (bt a b) k:=λk=>by rw[IQ hb.val,FR,IQ ha.val,FR]
 rw[h.val];unfold gG;split
 .exact e k
 .rw[gi,gi,gi,gi,ha.val,hb.val];congr 1;have m:∀(n:Int) (x:ak),aA (x.map λt=>(t.1,t.2*n)) k=aA x k*n:=λn x=>by rw[A1,A1,GU]
  rw[m,m,e]
def K5.low(h:K5 ls f)(Ah:∀x∈ls,x<16):∀t∈f,0<=t.1/\t.1<2^16:=λt ht=>by
 obtain⟨h0,hb⟩:=h t ht;have Z:t.1.toNat<2^16:=Fy _ λj hj=>by
  cases z:t.1.toNat.testBit j
  .rfl
  .have:=Ah j (hb j z);lia
 lia
def Bs(s:Sm)(f:ak):Prop:=aT f s.tl
def xN(h:b≠0):aT [(a,b)] [(a,b)]:=aT.self ⟨qt ..,λp hp=>by rw[bH.mp hp];show h⟩
open PySem L2 OF
abbrev bB:=List (List Nat×ak)
def lg(H:Hp)(kv:bM×V)(nf:List Nat×ak):Prop:=kv.1=Sum.inr (S nf.1)/\∃a,kv.2=.ref a/\aI H a nf.2
def ql(H:Hp)(d:Addr)(st:bB):Prop:=∃kvs,H d=some (.dK kvs)/\Paired (lg H) kvs st
noncomputable def az(st:bB)(n:List Nat):Option ak:=(st.find? λp=>decide (p.1=n)).map (·.2)
noncomputable def aJ(st:bB)(n:List Nat)(f:ak):bB:=if (st.any λp=>decide (p.1=n))=true then st.map (λp=>if p.1=n then (p.1,f)else p)else st++[(n,f)]
def Av:(Sum.inr (S a):bM)=Sum.inr (S b)↔a=b:=⟨λz=>fR (Ih z),λz=>by rw[z]⟩
def Xo(h:Paired (lg H) kvs st)(n:List Nat) :
  (gT kvs (Sum.inr (S n))=none/\az st n=none)\/∃a f,gT kvs (Sum.inr (S n))=some (.ref a)/\az st n=some f/\aI H a f:=by
 induction h with
 |nil=>show .inl ⟨Y,Y⟩
 |@cons p q ps qs k8 _ ih =>
  obtain⟨e,a,ea,hT⟩:=k8;by_cases z:q.1=n
  .refine .inr ⟨a,q.2,?_,?_,hT⟩
   .rw[wI (by rw[e,z]),ea]
   .unfold az;rw[cO,aR z];rfl
  .have e1:gT (p::ps) (Sum.inr (S n))=gT ps (Sum.inr (S n)):=yW (by rw[e];show λy=>z (Av.mp y));have e2:az (q::qs) n=az qs n:=by unfold az;rw[cO,bw z]
   rw[e1,e2];show ih
def zcA(h:Paired (lg H) kvs st)(n:List Nat):(kvs.any λkv=>decide (kv.1=Sum.inr (S n)))=st.any λp=>decide (p.1=n):=by
 induction h with
 |nil=>rfl
 |@cons p q ps qs k8 _ ih =>
  rw[ou,ou,ih,k8.1];congr 1;by_cases z:q.1=n
  .rw[aR z,aR (Av.mpr z)]
  .rw[bw z,bw λy=>z (Av.mp y)]
def zb0(hT:aI H a f)(h:Paired (lg H) kvs st):Paired (lg H) (kvs.map λkv=>if kv.1=Sum.inr (S n)then (kv.1,V.ref a)else kv) (st.map λp=>if p.1=n then (p.1,f)else p):=by
 induction h with
 |nil=>show .nil
 |@cons p q ps qs k8 _ ih =>
  show .cons ?_ ih;show lg H (if p.1=Sum.inr (S n)then (p.1,V.ref a)else p) (if q.1=n then (q.1,f)else q);by_cases z:q.1=n
  .rw[aj (by rw[k8.1,z]),aj z];exists k8.1,a,Y,hT
  .rw[ah (by rw[k8.1];show λy=>z (Av.mp y)),ah z];show k8
def zaf(h:Paired (lg H) kvs st)(hT:aI H a f):Paired (lg H) (ff kvs (Sum.inr (S n)) (.ref a)) (aJ st n f):=by
 unfold ff aJ;rw[zcA h n];split
 .exact zb0 hT h
 .exact lT h ⟨Y,a,Y,hT⟩
def aI.keepD(h:aI H a l)(k:ay b H O)(hb:H b=some (.dK kvs)):aI O a l:=by
 obtain⟨ps,Z,M⟩:=h;exists ps,k _ _ (λz=>by simp_all) Z,M.keep λp xs e=>k p _ (λz=>by simp_all) e
def zeL(k:ay b H O)(hb:H b=some (.dK vm))(h:Paired (lg H) kvs st):Paired (lg O) kvs st :=
 Paired.mapP h λp q ⟨e,a,ea,hT⟩=>⟨e,a,ea,aI.keepD hT k hb⟩
def ql.keep(h:ql H d st)(s:ag H O):ql O d st :=
 let ⟨kvs,Z,M⟩:=h; ⟨kvs,s _ _ Z,Paired.mapP M λp q ⟨e,a,ea,hT⟩=>⟨e,a,ea,hT.keep s⟩⟩
def ql.put(Z:H d=some (.dK kvs))(M:Paired (lg H) kvs st)(hT:aI H a f):ql (upd H d (.dK (ff kvs (Sum.inr (S n)) (.ref a)))) d (aJ st n f) :=
 ⟨_,ao,zaf (zeL ay.upd Z M) (aI.keepD hT ay.upd Z)⟩
def pf(st:bB)(n:List Nat)(f:ak):(aJ st n f).length<=st.length+1:=by
 unfold aJ;split<;>simp
def dE{P:ak->Prop}{st:bB}{n:List Nat}{f:ak}(h:∀p∈st,P p.2)(hf:P f):∀p∈aJ st n f,P p.2:=λp hp=>by
 unfold aJ at hp;split at hp
 .obtain⟨q,hq,rfl⟩:=aU.mp hp;by_cases z:q.1=n
  .rw[aj z];show hf
  .rw[ah z];show h q hq
 .rcases bC.mp hp with y|y
  .exact h p y
  .rw[bH.mp y];show hf
def xu{P:ak->Prop}{st:bB}{n:List Nat}{f:ak}(h:∀p∈st,P p.2)(e:az st n=some f):P f:=by
 obtain⟨p,hp,rfl⟩:=DM.mp e;show h p (List.mem_of_find?_eq_some hp)
set_option tactic.hygienic true in
def eI(m:List Nat):az (aJ st n f) m=if m=n then some f else az st m:=by
 have key:∀st:bB,(st.any λp=>decide (p.1=n))=true->az (st.map λp=>if p.1=n then (p.1,f)else p) m=if m=n then some f else az st m:=by
  intro st h;induction st with
  |nil=>cases h
  |cons p r ih =>
   rw[bz];unfold az;rw[cO,cO];by_cases z:p.1=n
   .rw[aj z];by_cases y:m=n
    .rw[aj y,aR (show (p.1,f).1=m by simp_all)];rfl
    .have cw:¬p.1=m:=λw=>y (by simp_all)
     rw[ah y,bw (show ¬(p.1,f).1=m from cw)];by_cases ha:(r.any λp=>decide (p.1=n))=true
     .have:=ih ha
      rw[ah y]at this;show this
     .have hr:(r.map λp=>if p.1=n then (p.1,f)else p)=r:=by
       conv=>rhs;rw[<-Lx r]
       show pO λq hq=>?_
       rw[ah (λw=>ha (oI.mpr ⟨q,hq,aR w⟩))];rfl
      rw[hr]
   .rw[ah z];have ha:(r.any λp=>decide (p.1=n))=true:=by
     rw[ou,bw z,V5]at h;show h
    by_cases y:p.1=m
    .rw[aR y,ah (λw=>z (by rw[y];show w))]
    .rw[bw y];show ih ha
 unfold aJ;split
 .rename_i h;show key st h
 .rename_i h;have hn:∀p∈st,p.1≠n:=λp hp z=>h (oI.mpr ⟨p,hp,aR z⟩)
  unfold az;rw[List.find?_append];by_cases y:m=n
  .have:st.find? (λp=>decide (p.1=m))=none:=List.find?_eq_none.mpr λp hp=>by rw[y];simpa using hn p hp
   rw[aj y,this,y];simp
  .rw[ah y];cases hf:st.find? (λp=>decide (p.1=m))with
   |some p=>rfl
   |none =>
    have cw:¬n=m:=λw=>y w.symm
    simp[cw]
structure cH(C:Addr)(H:Hp)(p d:Addr)(st:bB):Prop where
 ob:∃dx,H p=some (.ins C dx [("forms",.ref d)])
 dc:ql H d st
def cH.keep(h:cH C H p d st)(s:ag H O):cH C O p d st :=
 ⟨let ⟨dx,e⟩:=h.ob; ⟨dx,s _ _ e⟩,h.dc.keep s⟩
def iS(l:ak):Prop:=∃f,aT f (bt l l)/\f=l
noncomputable def om(w:Nat):Str:=if w=0 then "plus" else if w=1 then "less" else "times"
def nG(w:Nat)(l m:ak):ak:=if w=0 then l++m else if w=1 then l++m.map (λt=>(t.1,-t.2))else bt l m
def zaS(h:w<3):decide (V.str (om w)=V.str "=")=false/\decide (V.str (om w)=V.str ":=")=false/\decide (V.str (om w)=V.str "fixed")=false/\decide (V.str (om w)=V.str "put")=false:=by
 obtain rfl|rfl|rfl:w=0\/w=1\/w=2:=by lia
 .exists tD,tD,tD,tD
 .exists tD,tD,tD,tD
 .exists tD,tD,tD,tD
inductive aZ where
 |form (n t:List Nat)|stat (n:List Nat) (s:Sm)|fixd (n a:List Nat) (k:Nat) (b:Int)|put (n a:List Nat) (k:Nat) (b:List Nat)|two (w:Nat) (n a b:List Nat)
noncomputable def aZ.nm:aZ->List Nat
 |.form n _=>n|.stat n _=>n|.fixd n _ _ _=>n|.put n _ _ _=>n|.two _ n _ _=>n
def aZ.wd:aZ->Str
 |.form _ _ => "=" |.stat _ _ => ":=" |.fixd _ _ _ _ => "fixed" |.put _ _ _ _ => "put" |.two w _ _ _=>om w
def aZ.th:aZ->List V
 |.form _ t=>[.str (S t)]
 |.stat _ s=>[.str (S (kj s))]
 |.fixd _ a k b=>[.str (S a),.int (k:Int),.int b]
 |.put _ a k b=>[.str (S a),.int (k:Int),.str (S b)]
 |.two _ _ a b=>[.str (S a),.str (S b)]
inductive Rz where
 |name|yesno|form (f:ak)
def gb(ls:List Nat)(st:bB):aZ->Rz->Prop
 |.form _ t,r=>∃f,r=.form f/\j8 t=some f
 |.stat _ s,r=>∃f,r=.form f/\aT f s.tl
 |.fixd _ a k b,r=>(az st a=none/\r=.name)\/∃l f,az st a=some l/\r=.form f/\aT f (zct k b l)
 |.put _ a k b,r=>(az st a=none/\r=.name)\/(∃l,az st a=some l/\az st b=none/\r=.name)\/∃l o,az st a=some l/\az st b=some o/\((¬iS o/\r=.yesno)\/(iS o/\∃f,r=.form f/\aT f (vw k o l)))
 |.two w _ a b,r=>(az st a=none/\r=.name)\/(∃l,az st a=some l/\az st b=none/\r=.name)\/∃l o f,az st a=some l/\az st b=some o/\r=.form f/\aT f (nG w l o)
set_option tactic.hygienic true in
def zeo(ha:a.natAbs<10^60)(hb:b.natAbs<10^60):IntMulOk a b:=by
 have key:∀x:Int,x.natAbs<10^60->intBits x<=200:=λx hx=>by
  unfold intBits;split
  .exact bJ _
  .rename_i h;have h0:x.natAbs≠0:=λz=>h (by simp;clear h hx;lia)
   have:x.natAbs.log2<200:=(BS h0).mpr (nS hx tE)
   assumption
 have Z:=key a ha;have M:=key b hb;intro z;rw[iY,iY]at z;have z2:=z.2;unfold Builtin.Int.intTooBig at z2
 have:(intBits a:Int)+(intBits b:Int)>bitsLine:=by simpa using z2
 have MX:(400:Int)<=bitsLine:=by decide
 lia
noncomputable def lY(w:Nat):List Nat:=if w=0 then [112,108,117,115]else if w=1 then [108,101,115,115]else [116,105,109,101,115]
def aZ.wl:aZ->List Nat
 |.form _ _=>[61]|.stat _ _=>[58,61]|.fixd _ _ _ _=>[102,105,120,101,100]|.put _ _ _ _=>[112,117,116]|.two w _ _ _=>lY w
def wl_S(c:aZ):S c.wl=c.wd:=by
 cases c with
 |form _ _=>show S [61]=ofString "=";decide+kernel
 |stat _ _=>show S [58,61]=ofString ":=";decide+kernel
 |fixd _ _ _ _=>show S [102,105,120,101,100]=ofString "fixed";decide+kernel
 |put _ _ _ _=>show S [112,117,116]=ofString "put";decide+kernel
 |two w _ _ _ =>
  show S (lY w)=om w;unfold lY om;split
  .decide+kernel
  split
  .decide+kernel
  .decide+kernel
noncomputable def fz:List Nat:=[115,104,111,119]
def zbO:("show" : Str)=S fz:=by decide+kernel
open PySem L2 OF
theorem Et:∀{zs:List Nat},zs.Nodup->∀j,((zs.map λx=>2^x).sum).testBit j=decide (j∈zs)
 |[],_,j=>by simp
 |x::r,hn,j=>by
  rw[i8]at hn;have h0:((r.map λx=>2^x).sum).testBit x=false:=by rw[Et hn.2];show bw hn.1
  have Z:(r.map λx=>2^x).sum/2^x%2=0:=by grind
  rw[bz,yx,Ju,zdU Z,Gz,E5,Et hn.2];by_cases e:x=j
  .subst e;simp
  .have e':¬j=x:=λz=>e z.symm
   simp[e,e']
def zfZ(m:Nat):((lst m).map λk=>2^k).sum=m:=RG λj=>by
 have hn:(lst m).Nodup:=by unfold lst;show List.nodup_range.filter _
 rw[Et hn];by_cases z:m.testBit j=true
 .rw[z];show aR (KY.mpr z)
 .rw[Cc.mpr z];show bw λy=>z (KY.mp y)
def Np(m:Nat):zK (cy m)=m:=by
 unfold zK cy;rw[cE]
 have:((λc=>2^(c-97)) ∘ λk=>97+k)=λk:Nat=>2^k:=by
  funext k;show 2^(97+k-97)=_;rw[AV]
 rw[this,zfZ]
def zc6(hm:m<2^16):We (-1) (cy m):=⟨λc hc=>sS hm hc,by
 show fX.mpr ?_;show (List.pairwise_lt_range.filter _).imp λh=>tL,λc hc=>by have:=sS hm hc;lia⟩
def XJ(Z:∀c∈d,48<=c/\c<=57)(M:∀c∈l,97<=c):jQ (d++l)=d/\fm (d++l)=l:=by
 have h3:∀c∈d,mX c=true:=λc hc=>aR (Z c hc)
 have h4:l.takeWhile mX=[]/\l.dropWhile mX=l:=by
  cases l with
  |nil=>exists Y,rfl
  |cons c r =>
   have:mX c=false:=bw λz=>by have:=M c tS;lia
   rw[FD,List.dropWhile_cons,this];exists Y,rfl
 unfold jQ fm;rw[List.takeWhile_append_of_pos h3,List.dropWhile_append_of_pos h3,h4.1,h4.2,gg];exists Y,rfl
def zaT{t:Int×Int}:∀c∈fG t.1.toNat t.2.natAbs,48<=c/\c<=57:=λc hc=>by
 unfold fG at hc;split at hc
 .cases hc
 .exact Jn hc
def Ia:cy m=[]↔m=0:=by
 constructor
 .intro h
  have:=Np m
  rw[h]at this;show this.symm
 .rintro rfl;rfl
def zaJ(h:eT t):mq [ba t.2] (aY t)=some t:=by
 obtain⟨h0,Z,M,h3⟩:=h;have hm:t.1.toNat<2^16:=by lia
 obtain⟨e1,e2⟩:=XJ (zaT (t:=t)) (λc hc=>(sS hm hc).1);have ew:aY t=fG t.1.toNat t.2.natAbs++cy t.1.toNat:=rfl;have hn:0<t.2.natAbs:=by lia
 have eN:jJ (fG t.1.toNat t.2.natAbs) (cy t.1.toNat)=some t.2.natAbs:=by
  unfold jJ fG;by_cases z:t.2.natAbs=1/\t.1.toNat≠0
  .rw[aj z,aj ⟨rfl,λy=>z.2 (Ia.mp y)⟩,z.1]
  .obtain⟨d,r,ed,hd⟩:=N8 hn;rw[ah z,ah (λy=>by simp_all),ah,Ny];rintro (y|y|⟨y,y2⟩)
   .rw[ed]at y;cases y
   .rw[ed]at y;simp at y;lia
   .exact z ⟨ZF y,λx=>y2 (Ia.mpr x)⟩
 unfold mq;rw[aj (by unfold ba;split<;>simp),ew,e1,e2,eN,PB 0 (zc6 hm),Np];show some (((0+t.1.toNat:Nat):Int),if [ba t.2]=[45]then -((t.2.natAbs:Nat):Int)else ((t.2.natAbs:Nat):Int))=some t;have a1:((0+t.1.toNat:Nat):Int)=t.1:=by lia
 have a2:(if [ba t.2]=[45]then -((t.2.natAbs:Nat):Int)else ((t.2.natAbs:Nat):Int))=t.2:=by
  unfold ba;by_cases z:t.2<0
  .rw[aj z,aj rfl];lia
  .rw[ah z,ah tD];lia
 rw[a1,a2]
def Fo(h0:ws≠[])(h:∀w∈ws,32∉w):a8 (cu 32 ws)=ws:=Jp (lE _) h0 (xB _) h (xJ _)
theorem yz:∀{a b:List Nat},32∉a->a8 (a++32::b)=a::a8 b
 |[],b,_=>by show a8 (32::b)=_;rw[a8,aj rfl]
 |c::r,b,h=>by
  have hc:¬c=32:=λz=>h (by rw[z];simp)
  show a8 (c::(r++32::b))=_;rw[a8,ah hc,yz (a:=r) (b:=b) λz=>h (by simp[z])]
def Uo(h:32∉a):a8 a=[a]:=Fo (ws:=[a]) tS λw hw=>by rw[bH.mp hw];show h
def RB(h:eT t):32∉aY t:=λz=>by
 have:=Tb (by have:=h.1;have:=h.2.1;lia) z
 lia
def Wr(h:∀t∈f,eT t):∀w∈iU f,32∉w:=λw hw=>by
 cases f with
 |nil=>rw[bH.mp hw];decide
 |cons t r =>
  rcases aV.mp hw with rfl|hw
  .intro z;rcases bC.mp z with y|y
   .unfold cv at y;split at y
    .rw[bH]at y;cases y
    .cases y
   .exact RB (h t tS) y
  .obtain⟨u,hu,hw⟩:=qE.mp hw;have hw':w=[ba u.2]\/w=aY u:=by simpa using hw
   rcases hw' with rfl|rfl
   .unfold ba;split<;>decide
   .exact RB (h u (by simp[hu]))
def zbw(f:ak):iU f≠[]:=by cases f<;>simp[iU]
def Sz(h:∀t∈f,eT t):a8 (txt f)=iU f:=by
 rw[<-Es];show Fo (zbw f) (Wr h)
def Qp(h:eT t):∃c r,aY t=c::r/\49<=c:=by
 obtain⟨h0,Z,M,h3⟩:=h;have hm:t.1.toNat<2^16:=by lia
 have ew:aY t=fG t.1.toNat t.2.natAbs++cy t.1.toNat:=rfl;rw[ew];unfold fG;by_cases z:t.2.natAbs=1/\t.1.toNat≠0
 .rw[aj z];cases hl:cy t.1.toNat with
  |nil=>show absurd (Ia.mp hl) z.2
  |cons c r=>show⟨c,r,Y,by have:=sS hm (c:=c) (by rw[hl];simp);lia⟩
 .obtain⟨d,r,ed,hd⟩:=N8 (m:=t.2.natAbs) tL;rw[ah z,ed];exists 49+d,_,Y,tL
def JZ(h:∀u∈t::r,eT u):eF (txt (t::r))=((t::r).map λu=>([ba u.2],aY u)).flatMap λp=>[p.1,p.2]:=by
 obtain⟨c,w',ew,hc⟩:=Qp (h t tS);have e0:((t::r).map λu=>([ba u.2],aY u)).flatMap (λp=>[p.1,p.2])=[ba t.2]::aY t::r.flatMap λu=>[[ba u.2],aY u]:=by
  rw[List.flatMap_map];rfl
 rw[e0];unfold eF;rw[Sz h];have et:txt (t::r)=cv t.2++aY t++r.flatMap ck:=rfl;by_cases z:t.2<0
 .have ea:cv t.2=[45]:=aj z;have es:ba t.2=45:=aj z;rw[aj (by rw[et,ea];rfl),es];show [45]::(cv t.2++aY t).drop 1::_=_;rw[ea];rfl
 .have ea:cv t.2=[]:=ah z;have es:ba t.2=43:=ah z;rw[ah (by rw[et,ea,ew];simp;lia),es];show [43]::(cv t.2++aY t)::_=_;rw[ea];rfl
theorem Tp:∀{f:ak},(∀t∈f,eT t)->i9 (f.map λu=>([ba u.2],aY u))=some f
 |[],_=>rfl
 |t::r,h=>by
  rw[bz,i9,zaJ (h t tS),Tp (f:=r) λu hu=>h u (by simp[hu])]
theorem NV:∀{f:ak}{la:Int},IsForm f->(∀t∈f,la<t.1)->ip f la=true
 |[],_,_,_=>rfl
 |t::r,la,h,hl=>by
  have Z:=fU.mp h.rise;unfold ip;rw[ah (λz=>z.elim (λy=>by have:=hl t tS;lia) (h.nz t tS))];show NV ⟨Z.2,λu hu=>h.nz u (by simp[hu])⟩ λu hu=>Z.1 u hu
def UQ(hI:IsForm f)(h:∀t∈f,eT t):j8 (txt f)=some f:=by
 cases f with
 |nil=>rfl
 |cons t r =>
  have cw:¬txt (t::r)=[48]:=λz=>by
   obtain⟨c,w',ew,hc⟩:=Qp (h t tS);have et:txt (t::r)=cv t.2++aY t++r.flatMap ck:=rfl;rw[et,ew]at z;unfold cv at z;split at z
   .simp at z
   .simp at z;lia
  unfold j8;rw[ah cw,JZ h,Eh,Tp h];show (if ip (t::r) (-1)=true then some (t::r)else none)=_;rw[aj (NV hI λu hu=>by have:=(h u hu).1;assumption)]
def so(h:bI n=true):32∉n:=λz=>by
 unfold bI at h;rw[iY,iY,kH]at h
 have:=cx (h.2.2 32 z)
 lia
def lq(h:bI n=true):n.length<=8/\∀c∈n,c<128:=by
 unfold bI at h;rw[iY,iY,kH]at h;show⟨cx h.2.1,λc hc=>by have:=cx (h.2.2 c hc);lia⟩
noncomputable def zak:List Nat:=[102,105,120,101,100]
noncomputable def sO:List Nat:=[112,117,116]
def aZ.line:aZ->List Nat
 |.form n t=>n++([32,61,32]++t)
 |.stat n s=>n++([32,58,61,32]++kj s)
 |.fixd n a k b=>cu 32 [n,[61],zak,a,[97+k],[48+b.toNat]]
 |.put n a k b=>cu 32 [n,[61],sO,a,[97+k],b]
 |.two w n a b=>cu 32 [n,[61],lY w,a,b]
def zS(hn:bI n=true)(hs:sg=[61]\/sg=[58,61]):dN (n++32::(sg++32::t))=mE n sg t:=by
 have e:a8 (n++32::(sg++32::t))=n::sg::a8 t:=by
  rw[yz (so hn),yz (by rcases hs with rfl|rfl<;>decide)]
 have hl:1<=(a8 t).length:=by cases h:a8 t with|nil=>show absurd h (lE t)|cons _ _=>simp
 unfold dN;rw[e,aj ⟨by simp;assumption,hs,hn⟩];congr 1;have e1:(n++32::(sg++32::t))=(n++[32]++sg++[32])++t:=by simp
 rw[e1];show List.drop_left' (by simp;lia)
def EY:("plus" : Str)=S [112,108,117,115]/\("less" : Str)=S [108,101,115,115]/\("times" : Str)=S [116,105,109,101,115]/\("fixed" : Str)=S [102,105,120,101,100]/\("put" : Str)=S [112,117,116]:=by decide+kernel
def zfw(h:∀c∈w,c<113):c7 gY w=none:=by
 obtain⟨e1,e2,e3,e4,e5⟩:=EY;have no:∀l:List Nat,(∃c∈l,113<=c)->¬(S l=S w):=λl ⟨c,hc,Z⟩ z=>by
  have:=fR z
  subst this
  have:=h c hc
  lia
 unfold c7 gY;rw[e1,e2,e3,e4,e5];rw[cO,bw (no _ ⟨117,tD,tD⟩),cO,bw (no _ ⟨115,tD,tD⟩),cO,bw (no _ ⟨116,tD,tD⟩),cO,bw (no _ ⟨120,tD,tD⟩),cO,bw (no _ ⟨117,tD,tD⟩)];rfl
def X2(h:∀t∈f,eT t):∀c∈(a8 (txt f)).headD [],c<113:=by
 rw[Sz h];cases f with
 |nil=>decide
 |cons t r =>
  intro c hc;have oE:=hc;rcases bC.mp oE with z|z
  .unfold cv at z;split at z
   .rw[bH]at z;lia
   .cases z
  .have ht:=h t tS
   have:=Tb (by have:=ht.1;have:=ht.2.1;lia) z
   lia
def Rv(hn:bI n=true)(h:∀t∈f,eT t):dN (aZ.form n (txt f)).line=some (some (aZ.form n (txt f)).nm,(aZ.form n (txt f)).wl,(aZ.form n (txt f)).th):=by
 show dN (n++32::([61]++32::txt f))=_;rw[zS hn (.inl rfl)];unfold mE;rw[ah (λz=>by rw[zfw (X2 h)]at z;cases z.2)];rfl
def SG(hk:c7 gY w=some ks)(hw:32∉w)(h0:ws≠[])(hs:∀v∈ws,32∉v)(hl:ks.length=ws.length)(fP:(ks.zip ws).all (λp=>sX p.1 p.2)=true):mE n [61] (cu 32 (w::ws))=some (some n,w,(ks.zip ws).map λp=>xK p.1 p.2):=by
 have e:a8 (cu 32 (w::ws))=w::ws:=Fo tS λv hv=>by
  rcases aV.mp hv with rfl|z
  .exact hw
  .exact hs v z
 unfold mE;have ym:c7 gY ((w::ws).headD [])=some ks:=hk;rw[e,aj ⟨rfl,by rw[ym];rfl⟩,ym];show (rF ks ws).map _=_;unfold rF;rw[aj ⟨hl,fP⟩];rfl
def zdx(h:w<3):c7 gY (lY w)=some [.name,.name]:=by
 obtain⟨e1,e2,e3,e4,e5⟩:=EY;unfold c7 gY;rw[e1,e2,e3,e4,e5];obtain rfl|rfl|rfl:w=0\/w=1\/w=2:=by lia
 .rw[cO,aR (by rfl)];rfl
 .rw[cO,bw (λz=>by have:=fR z;cases this),cO,aR (by rfl)];rfl
 .rw[cO,bw (λz=>by have:=fR z;cases this),cO,bw (λz=>by have:=fR z;cases this),cO,aR (by rfl)];rfl
def zhd:c7 gY sO=some [.name,.letter,.name]:=by
 obtain⟨e1,e2,e3,e4,e5⟩:=EY;unfold c7 gY;rw[e1,e2,e3,e4,e5];rw[cO,bw (λz=>by have:=fR z;cases this),cO,bw (λz=>by have:=fR z;cases this),cO,bw (λz=>by have:=fR z;cases this),cO,bw (λz=>by have:=fR z;cases this),cO,aR (by rfl)];rfl
def zcp(h:k<16):sX .letter [97+k]=true:=by
 show (decide (1=1)&&(List.all [97+k] λc=>decide (97<=c/\c<113)))=true;simp;lia
def zd1(hw:w<3)(hn:bI n=true)(ha:bI a=true)(hb:bI b=true):dN (aZ.two w n a b).line=some (some (aZ.two w n a b).nm,(aZ.two w n a b).wl,(aZ.two w n a b).th):=by
  show dN (n++32::([61]++32::cu 32 [lY w,a,b]))=_
  rw [zS        hn (.inl rfl), SG        (zdx     hw) (by obtain rfl | rfl | rfl : w = 0 ∨ w = 1 ∨ w = 2 := by lia
                                                          all_goals decide) tS (fun v hv => by
    have:v=a\/v=b:=by simpa using hv
    rcases this with rfl|rfl
    . show so ha
    . show so hb) rfl (by show (bI a&&(bI b&&true))=true;rw [ha,hb];rfl)]
  rfl
def zfR(hn:bI n=true)(ha:bI a=true)(hb:bI b=true)(hk:k<16):dN (aZ.put n a k b).line=some (some (aZ.put n a k b).nm,(aZ.put n a k b).wl,(aZ.put n a k b).th):=by
 show dN (n++32::([61]++32::cu 32 [sO,a,[97+k],b]))=_;rw[zS hn (.inl rfl),SG zhd tD tS (λv hv=>by
  have:v=a\/v=[97+k]\/v=b:=by simpa using hv
  rcases this with rfl|rfl|rfl
  .exact so ha
  .simp;lia
  .exact so hb) rfl (by show (bI a&&(sX .letter [97+k]&&(bI b&&true)))=true;rw[ha,zcp hk,hb];rfl)]
 show some (some n,sO,[V.str (S a),V.int (Txt.find (S oZ) (S [97+k])),V.str (S b)])=some (some n,sO,[V.str (S a),V.int (k:Int),V.str (S b)]);rw[Uu k hk]
def zfG(hn:bI n=true):dN (fz++32::n)=some (none,fz,[.str (S n)]):=by
 have e:a8 (fz++32::n)=[fz,n]:=by rw[yz tD,Uo (so hn)]
 have hk:c7 jH fz=some [.name]:=by
  unfold c7 jH;rw[zbO,cO,aR (by rfl)];rfl
 unfold dN;rw[e,ah (λz=>absurd z.1 tS)];show (nh (c7 jH fz) [n]).map _=_;rw[hk];show (rF [.name] [n]).map _=_;unfold rF;rw[aj ⟨rfl,by show (bI n&&true)=true;rw[hn];rfl⟩];rfl
def ju(h:gb ls st c r)(h':gb ls st c r'):r=r':=by
 cases c with
 |form n t =>
  obtain⟨f,rfl,e⟩:=h;obtain⟨f',rfl,e'⟩:=h';rw[e]at e';rw[di e']
 |stat n s =>
  obtain⟨f,rfl,Z⟩:=h;obtain⟨f',rfl,bV⟩:=h';rw[aT.unique Z bV λk=>rfl]
 |fixd n a k b =>
  rcases h with ⟨Z,rfl⟩|⟨l,f,Z,rfl,M⟩<;>rcases h' with ⟨bV,rfl⟩|⟨l',f',bV,rfl,eE⟩
  .rfl
  .rw[Z]at bV;cases bV
  .rw[Z]at bV;cases bV
  .rw[Z]at bV;cases bV;rw[aT.unique M eE λk=>rfl]
 |put n a k b =>
  rcases h with ⟨Z,rfl⟩|⟨l,Z,M,rfl⟩|⟨l,o,Z,M,h3⟩<;>rcases h' with ⟨bV,rfl⟩|⟨l',bV,eE,rfl⟩|⟨l',o',bV,eE,qd⟩
  .rfl
  .rfl
  .rw[Z]at bV;cases bV
  .rfl
  .rfl
  .rw[M]at eE;cases eE
  .rw[Z]at bV;cases bV
  .rw[M]at eE;cases eE
  .rw[Z]at bV;cases bV;rw[M]at eE;cases eE;rcases h3 with ⟨y,rfl⟩|⟨y,f,rfl,h4⟩<;>rcases qd with ⟨y',rfl⟩|⟨y',f',rfl,h4'⟩
   .rfl
   .exact absurd y' y
   .exact absurd y y'
   .rw[aT.unique h4 h4' λk=>rfl]
 |two w n a b =>
  rcases h with ⟨Z,rfl⟩|⟨l,Z,M,rfl⟩|⟨l,o,f,Z,M,rfl,h3⟩<;>rcases h' with ⟨bV,rfl⟩|⟨l',bV,eE,rfl⟩|⟨l',o',f',bV,eE,rfl,qd⟩
  .rfl
  .rfl
  .rw[Z]at bV;cases bV
  .rfl
  .rfl
  .rw[M]at eE;cases eE
  .rw[Z]at bV;cases bV
  .rw[M]at eE;cases eE
  .rw[Z]at bV;cases bV;rw[M]at eE;cases eE;rw[aT.unique h3 qd λk=>rfl]
theorem Oi:∀{l:ak},(∀t∈l,t.2.natAbs<=B)->∀k,(aA l k).natAbs<=l.length*B
 |[],_,k=>by simp[aA]
 |t::r,h,k=>by
  have ih:=Oi (l:=r) (λu hu=>h u (by simp[hu])) k;have Z:=h t tS;rw[bf,O0];unfold aA;split<;>lia
def zaH(hF:aT f l)(hl:l.length<=n)(h:∀t∈l,t.2.natAbs<=B)(hC:n*B<C):∀t∈f,t.2.natAbs<C:=λt ht=>by
 have Z:=Oi h t.1;rw[<-hF.val,Iw hF.toIsForm t ht]at Z;show gv (a9 Z (GZ _ hl)) hC
theorem EV(c:Nat):∀ws:List (List Nat),(∀w∈ws,w.length<=8)->(cu c ws).length<=9*ws.length
 |[],_=>bJ _
 |[w],h=>by have:=h w tS;show w.length<=9*1;lia
 |w::v::r,h=>by
  have ih:=EV c (v::r) λx hx=>h x (by simp_all)
  have:=h w tS
  show (w++c::cu c (v::r)).length<=_;rw[aX,bf];rw[bf]at ih ⊢;rw[bf];lia
theorem GK:∀ws:List (List Nat),(∀w∈ws,∀c∈w,c<128)->∀c∈cu 32 ws,c<128
 |[],_,c,hc=>by cases hc
 |[w],h,c,hc=>h w tS c hc
 |w::v::r,h,c,hc=>by
  have ih:=GK (v::r) λx hx=>h x (by simp_all)
  have oE:=hc;rcases bC.mp oE with z|z
  .exact h w tS c z
  .rcases aV.mp z with rfl|z
   .decide
   .exact ih c z
def oP(h:H e=some (.lst [.str x])):Is H (.ref e) (.lst [.str x]):=zfO h (by
 show⟨_,[],Y,bE.mpr Y,by unfold cF;rfl⟩)
end My
namespace L2
open PySem PySem.Spec PyProof PyProof.Rows PySem.Builtin PySem.Builtin.Str PySem.Builtin.Int
section
variable{prog:Program}{w:World}{A:Around}{E:Value->Shared->Prop}{s:Shared}{a:Int}{t:Tok}
def Xk(hn:s.heap.NoDigits)(aF:a.natAbs<10^4300)(h:Q (.str (toString a) s.toks) {s with toks:=s.toks+1}):wpAny (model prog w) A (call (.builtin "int.__repr__") [.int a t]) Q E s:=by
 show my R5 (qM s a t) F.entry_int_repr ?_ (F.args_int_repr_1 _);unfold Builtin.«int.__repr__»;show wpAny _ _ (do let r <-Builtin.overDigitLimit? a; _) _ _ s;show aq (overDigitLimit_any hn (λaF=>?_) (λfE=>?_))
 .exact aq (wpAny_mkStr (aS ⟨_,Y,h⟩) (int_text_fits10 aF))
 .exact absurd aF (Pk.mpr fE)
def ZE(hn:s.heap.NoDigits)(aF:a.natAbs<10^4300)(h:Q (.str (toString a) s.toks) {s with toks:=s.toks+1}):wpAny (model prog w) A (Builtin.Str.strOf (.int a t)) Q E s:=by
 unfold Builtin.Str.strOf;rw[show isExactStr (.int a t)=false from rfl]
 try (have hv:[Value.int a t].any Value.onHeap=false:=rfl;simp only[cRoomFor,hv,eP,dw,pure_bind])
 show aq (m:=callSpecial? (.int a t) (ofString "__str__")) (tW (name:=ofString "__str__") (qM s a t) LA ?_);show my LA (qM s a t) entry_object_str ?_ (args_object_str _);unfold Builtin.«object.__str__»;show aq (m:=slotArgs "__str__" 0 _) (aS ?_)
 try (have hv:[Value.int a t].any Value.onHeap=false:=rfl;simp only[cRoomFor,hv,eP,dw,pure_bind])
 show aq (m:=callSpecialIfBound? (.int a t) (ofString "__repr__")) (wpAny_callSpecialIfBound?_slot (name:=ofString "__repr__") (qM s a t) R5 (Xk hn aF (aS ⟨_,Y,aS h⟩)))
def zer(hn:s.heap.NoDigits)(aF:a.natAbs<10^4300)(h:Q (.str (toString a) s.toks) {s with toks:=s.toks+1}):wpAny (model prog w) A (call (.type "str") [.int a t]) Q E s :=
 callType_new F.called_str tD (F.typeCall_str_1 _) (F.newCall_str_1 _) (λobj=>F.args_object_init_2 obj _) F.entry_str_new
  (meets_str_new (S:=λA R s=>s.heap.NoDigits/\R (.ok (.ret (.str (toString a) s.toks))) {s with toks:=s.toks+1}) λ_ _ _ _ _ hq=>ZE hq.1 aF hq.2)
  ⟨hn,lX _ _ _,h⟩
end
def zz(hK:∀h:Heap,X.K.In h->h.NoDigits):gA X (.type "str") (λxs H Q=>∃i,xs=[.int i]/\i.natAbs<10^4300/\Q (.str (toString i)) H):=by
 intro J s σ H xs us Q I r h;obtain⟨i,rfl,hz,q⟩:=h;obtain⟨u,rfl,t,rfl⟩:=gF r;show zer (hK _ I.kIn) hz ⟨.str _,H,I.tok _,⟨_,Y⟩,q⟩
open PySem PySem.Spec PyProof PyProof.Rows
def xb{K:Frag}(e:K.lookup 2=some ⟨.none,none,.dict #[] 0,#[]⟩)(h:Heap)(X:K.In h):h.NoDigits :=
 ⟨λ_=>none,⟨_,_,_,X _ _ e,Y,(λx hx=>by simp at hx),λ_=>rfl⟩,Y⟩
end L2
namespace OS
open PySem PySem.W PyProof.Rows
section
variable{prog:Program}{w:World}{A:Around}{E:Value->Shared->Prop}{s:Shared}
noncomputable def FstAt(h:Heap)(v:Value)(a:Int):Prop:=∃x o n b t u,v=.ref x/\h.get? x=some o/\o.cls=.type "tuple" /\ o.data=.seq #[.int a t,.int b u] n
def sort_twoS(ho:s.heap.get? a=some (seqObj "list" vs.toArray n))(hP:∀v∈vs,PrAt s.heap v)(M:2<=vs.length)(hz:vs.length<=100000)
  (h:∀out:List Value,out.Perm vs->out.Pairwise (λu v=>∀a b,FstAt s.heap u a->FstAt s.heap v b->a<=b)->P (.done (.ret .none)) {s with heap:=sortedHeap s.heap a vs out.toArray}):wpAny (model prog w) A (Builtin.«list.sort» ⟨[.ref a],[]⟩) P E s:=by
 have ha:a<s.heap.objs.size:=bh ho;obtain⟨e1,pQ⟩:∃e1,(s.heap.update a (Obj.mapSeq λ_=>(#[]:Array Value))).get? a=some (seqObj "list" #[] e1):=⟨_,Dw ho λ_ => #[]⟩;rw[Gp];show aq (listItems_at ho Y ?_);show aq (uK ho Y ?_ (by rw[eR,jZ];lia) (bJ _));show aq (ui pQ Y ?_);show aq (BF ?_ (by show vs.length<=_;rw[jZ];lia));show aq (wY ?_ (bJ _));show kI ?_;have qp:(((s.heap.update a (Obj.mapSeq λ_ => #[])).push (seqObj "tuple" vs.toArray 0)).push (seqObj "list" #[] 0)).get? a=some (seqObj "list" #[] e1):=by
  have l1:a≠((s.heap.update a (Obj.mapSeq λ_ => #[])).push (seqObj "tuple" vs.toArray 0)).objs.size:=by rw[sv,uW];show bR (gV ha)
  have l2:a≠(s.heap.update a (Obj.mapSeq λ_ => #[])).objs.size:=by rw[uW];show bR ha
  rw[j9 _ _ _ l1,j9 _ _ _ l2];show pQ
 show wpAny (model prog w) A _ P E {s with heap:=((s.heap.update a (Obj.mapSeq λ_=>(#[]:Array Value))).push (seqObj "tuple" vs.toArray 0)).push (seqObj "list" #[] 0)};dsimp only;have df:¬vs.toArray.size<2:=by simp_all
 rw[ah df,ah df];have Qc:∀v∈vs,PrAt (((s.heap.update a (Obj.mapSeq λ_=>(#[]:Array Value))).push (seqObj "tuple" vs.toArray 0)).push (seqObj "list" #[] 0)) v:=λv hv=>(hP v hv).keep λx o hc e=>by
  have cw:x≠a:=λz=>by lia
  show bZ _ (bZ _ ?_);rw[uE _ _ _ _ cw];show e
 obtain⟨fs,t1,t2,t3⟩:=RQ Qc;show aq (kat_kind (T:=.type "int") (s:={s with heap:=((s.heap.update a (Obj.mapSeq λ_=>(#[]:Array Value))).push (seqObj "tuple" vs.toArray 0)).push (seqObj "list" #[] 0)}) t1 tL (λv hv=>?_) Y ?_)
 .obtain⟨k,t,rfl⟩:=t3 v hv;show Looks.of_pure rfl
 generalize hS:({s with heap:=((s.heap.update a (Obj.mapSeq λ_=>(#[]:Array Value))).push (seqObj "tuple" vs.toArray 0)).push (seqObj "list" #[] 0)}:Shared)=S6;obtain⟨qad,hM⟩:=OW (show ∀v∈vs,PrAt S6.heap v by rw[<-hS];show Qc)
 letI:=F5 S6.heap qad
 haveI:KL prog w A S6:=YK
 have hK:∀x∈pairsOf vs,c6 x:=λx hx=>hM x.1 (by
  have dR:x∈vs.zip vs:=by simpa [pairsOf] using hx
  show (wb dR).1)
 show aq (cC (VT (a₀:=pairsOf vs) (st:=SortSt.mk' (tuples' true) (vs.toArray.zip vs.toArray) #[] 7 none) (Q:=λ_ af=>(arrOf af).Perm (pairsOf vs)/\failedOf af=none/\QX (arrOf af) (pairsOf vs).size) hK ⟨Y,Y⟩ (DU _) Y (by rw[pairsOf_size];lia) λaf a1 a2 a3=>⟨a1,a2,a3⟩) ?_ λ_ _ e=>e)
 rintro⟨⟨⟩,af⟩ s' ⟨rfl,hp,hf,hs⟩;dsimp only;have dP:((arrOf af).map (·.2)).toList.Perm vs:=by
  have Z:=(IS.mp hp).map (·.2);rw[Pu];show Z.trans (List.Perm.of_eq ?_);show ((vs.toArray.zip vs.toArray).toList).map (·.2)=vs;rw[Ss];show Ie (aC _)
 have aL:=dP.length_eq;rw[gy]at aL;have wD:((arrOf af).map (·.2)).toList.Pairwise (λu v=>∀a b,FstAt s.heap u a->FstAt s.heap v b->a<=b):=by
  rw[CG];intro i j hi hj cW x y hx hy;have cD:i<(arrOf af).size:=by simpa using hi
  have ig:j<(arrOf af).size:=by simpa using hj
  rw[Array.getElem_toList,Array.getElem_map]at hx hy;have Z:=hs i j (dH cW) (by rw[<-hp.size_eq];show ig);rw[r9 (mP cD),r9 (mP ig)]at Z;have key:∀{k:Nat} (hk:k<(arrOf af).size) {c:Int},FstAt s.heap (arrOf af)[k].2 c->∃d:Int,-(qad:Int)<=d/\d<=qad/\pY s'.heap qad (arrOf af)[k].1=c*(2*qad+1)+d:=fun {k} hk {c} hc=>by
   have hm:(arrOf af)[k]∈pairsOf vs:=hp.mem_iff.mp (Array.getElem_mem hk);have rj:(arrOf af)[k]∈vs.zip vs:=by simpa [pairsOf] using hm
   have he:(arrOf af)[k].1=(arrOf af)[k].2:=by
    obtain⟨q,hq,e⟩:=List.mem_iff_getElem.mp rj;rw[<-e,List.getElem_zip]
   obtain⟨z,o,n',d,t,u,e1,e2,e3,e4⟩:=hc;have hv:(arrOf af)[k].1∈vs:=(wb rj).1;obtain⟨z',o',n'',a',b',t',u',f1,f2,f3,f4,f5,f6⟩:=hM _ hv;rw[he,e1]at f1;cases f1;have e5:s'.heap.get? z=some o:=by
    rw[<-hS];have cw:z≠a:=λw=>by lia
    show bZ _ (bZ _ ?_);rw[uE _ _ _ _ cw];show e2
   rw[e5]at f2;cases f2;rw[e4]at f4;cases f4;show⟨d,f5,f6,by rw[he,e1];show Ga e5 e4⟩
  obtain⟨d1,b1,b2,n1⟩:=key cD hx;obtain⟨d2,b3,b4,n2⟩:=key ig hy;show yj.mp λw=>?_
  have:=(Vy (a:=y) (a':=x) b3 b4 b1 b2).mpr (.inl w)
  rw[<-n1,<-n2]at this;show absurd (show pY s'.heap qad (arrOf af)[i].1<=pY s'.heap qad (arrOf af)[j].1 from Z) (Int.not_le.mpr this)
 subst hS;show aq (ui qp Y ?_);show aq (uK qp Y ?_ (bJ _) (by rw[aL,jZ];lia));rw[hf];simp only[bne_self_eq_false,eP,dw];show aS (h _ dP wD)
end
end OS
namespace L2
open PySem PySem.Spec PyProof.Rows OS
section
variable{X:Cx}
theorem Ug:∀{ps:List Addr}{l:List (Int×Int)},bj H ps l->∀z∈ps.zip l,H z.1=some (.tup [.int z.2.1,.int z.2.2])
 |_,_,.nil,z,hz=>by cases hz
 |_,_,.cons h r,z,hz=>by
  rw[NA]at hz;rcases aV.mp hz with rfl|hz
  .exact h
  .exact Ug r z hz
theorem Us:∀{zs:List (Addr×(Int×Int))},(∀z∈zs,H z.1=some (.tup [.int z.2.1,.int z.2.2]))->bj H (zs.map (·.1)) (zs.map (·.2))
 |[],_=>.nil
 |z::zs,h=>.cons (h z tS) (Us λy hy=>h y (by simp[hy]))
theorem Ut:∀zs:List (Addr×(Int×Int)),Vals ((zs.map (·.1)).map V.ref) (zs.map λz=>Value.ref z.1)
 |[]=>.nil
 |_::zs=>.cons Y (Ut zs)
theorem NG:∀{ps:List Addr}{l:List (Int×Int)}{ae:List Value},Vals (ps.map V.ref) ae->ps.length=l.length->ae=(ps.zip l).map λz=>Value.ref z.1
 |[],[],_,.nil,_=>rfl
 |p::ps,t::l,_,.cons h r,e=>by
  cases (show _=Value.ref p from h);rw[NA,bz,<-NG r (by simpa using e)]
set_option tactic.hygienic true in
def zd8 (hc:X.calm=true):gA X (.builtin "sorted") (fun xs H Q=>∃ (a:Addr) (ps:List Addr) (l:List (Int × Int)),xs=[.ref a]/\ai X.K H a (ps.map V.ref)/\bj H ps l/\l.length<=1000 /\ ∀(b:Addr) (qs:List Addr) (m:List (Int×Int)),H b=none->bj H qs m->m.Perm l->m.Pairwise (λx y=>x.1<=y.1)->Q (.ref b) (upd H b (.lst (qs.map V.ref)))):=by
 intro J s σ H xs us Q I r h;obtain⟨a,ps,l,rfl,hq,hT,wy,q⟩:=h;obtain⟨u,rfl,ru⟩:=gF r;cases (show u=Value.ref a from ru);obtain⟨ae,rv,p,hz⟩:=I.list hq;have aL:=rv.length;rw[ar,hT.length]at aL;show Th kind_sorted plain_sorted entry_sorted (args_sorted1 _) ?_;unfold Builtin.«sorted»;show aq (m:=checkCount "sorted" 1 1 _) (aS ?_);show aq (collect_list p.isList ?_ (by rw[jZ];lia));show aq (wY ?_ (by rw[jZ];lia));have hsz:((s.heap.push (seqObj "list" #[] 0)).update s.heap.objs.size (Obj.mapSeq (· ++ ae.toArray))).objs.size=s.heap.objs.size+1:=by simp
 have iV:(((s.heap.push (seqObj "list" #[] 0)).update s.heap.objs.size (Obj.mapSeq (· ++ ae.toArray))).push (seqObj "list" ae.toArray 0)).get? (s.heap.objs.size+1)=some (seqObj "list" ae.toArray 0):=by
  rw[<-hsz];show cQ _ rfl
 have AF:∀b o,s.heap.get? b=some o->(((s.heap.push (seqObj "list" #[] 0)).update s.heap.objs.size (Obj.mapSeq (· ++ ae.toArray))).push (seqObj "list" ae.toArray 0)).get? b=some o:=λb o e=>by
  have aF:b<s.heap.objs.size:=bh e;rw[j9 _ _ _ (by rw[hsz];show bR (gV aF)),uE _ _ _ _ (bR aF),j9 _ _ _ (bR aF)];show e
 have nD:s.heap.get? (s.heap.objs.size+1)=none:=uH (mK _);have sN:H (s.heap.objs.size+1)=none:=by
  cases e:H (s.heap.objs.size+1)with
  |none=>rfl
  |some o=>obtain⟨ob,e'⟩:=(I.hok _ _ e).there;rw[nD]at e';cases e'
 have ha:∀z∈ps.zip l,H z.1=some (.tup [.int z.2.1,.int z.2.2]):=Ug hT;have Qi:ae=(ps.zip l).map λz=>Value.ref z.1:=NG rv hT.length
 have jR:∀z∈ps.zip l,∀(h':Heap),(∀b o,s.heap.get? b=some o->h'.get? b=some o)->OS.FstAt h' (.ref z.1) z.2.1/\OS.PrAt h' (.ref z.1):=λz hz h' kk=>by
  obtain⟨us,rv,⟨ot,ht,ML,nt,Lr⟩,_⟩:=I.tuple (aD.of (ha z hz));obtain⟨u1,u2,rfl,⟨t1,rfl⟩,⟨t2,rfl⟩⟩:=xY rv;exists ⟨z.1,ot,nt,_,t1,t2,Y,kk _ _ ht,ML,Lr⟩,⟨z.1,ot,nt,_,_,t1,t2,Y,kk _ _ ht,ML,Lr⟩
 have fin:∀out:List Value,out.Perm ae->out.Pairwise (λu v=>∀a b,OS.FstAt (((s.heap.push (seqObj "list" #[] 0)).update s.heap.objs.size (Obj.mapSeq (· ++ ae.toArray))).push (seqObj "list" ae.toArray 0)) u a->OS.FstAt (((s.heap.push (seqObj "list" #[] 0)).update s.heap.objs.size (Obj.mapSeq (· ++ ae.toArray))).push (seqObj "list" ae.toArray 0)) v b->a<=b)->EP X J σ Q (.ref (s.heap.objs.size+1)) {s with heap:=sortedAll s.heap ae out.toArray}:=λout hp hu=>by
  have keep:∀b o,s.heap.get? b=some o->(sortedAll s.heap ae out.toArray).get? b=some o:=λb o e=>by
   have aF:b<s.heap.objs.size:=bh e;unfold sortedAll;rw[Aj (bR (gV aF)) (by rw[sv,hsz];show gV (gV aF))];show AF b o e
  obtain⟨ee,vK⟩:=BM (out:=out.toArray) iV;obtain⟨zs,fq,e⟩:=perm_unmap hp Qi;have hm:∀z∈zs,z∈ps.zip l:=λz hz=>fq.mem_iff.mp hz
  have sY:bj H (zs.map (·.1)) (zs.map (·.2)):=Us λz hz=>ha z (hm z hz)
  have m8:Vals ((zs.map (·.1)).map V.ref) out:=by rw[e];show Ut zs
  have dO:((zs.map (·.1)).map V.ref).length<=sizeLine:=by rw[m8.length,hp.length_eq,jZ];lia
  exists .ref (s.heap.objs.size+1),_,I.laidN (o:=.lst ((zs.map (·.1)).map V.ref)) (t':=s.toks) keep nD ⟨dO,out,ee,m8,by simpa [sortedAll] using vK⟩,Y,q _ _ _ sN sY ?_ ?_
  .have:=fq.map (·.2)
   rwa [Ie (Ji hT.length.symm)]at this
  .rw[fX];rw[e,fX]at hu;show xG (λhx hy h=>h _ _ (jR _ (hm _ hx) _ AF).1 (jR _ (hm _ hy) _ AF).1) hu
 show wpAny _ _ _ _ _ {s with heap:=((s.heap.push (seqObj "list" #[] 0)).update s.heap.objs.size (Obj.mapSeq (· ++ ae.toArray))).push (seqObj "list" ae.toArray 0)};rw[hsz];show aq (kI (my slot_list_sort ⟨_,iV,Y⟩ entry_list_sort ?body (args_list_sort _)))
 case body =>
  by_cases M:2<=ae.length
  .exact OS.sort_twoS (s:={s with heap:=((s.heap.push (seqObj "list" #[] 0)).update s.heap.objs.size (Obj.mapSeq (· ++ ae.toArray))).push (seqObj "list" ae.toArray 0)}) iV (λv hv=>by
    rw[Qi]at hv;obtain⟨z,hz,rfl⟩:=aU.mp hv;show (jR z hz _ AF).2) M tL λout hp hu=>⟨_,Y,aS ⟨_,Y,fin out hp hu⟩⟩
  .refine zdH (s:={s with heap:=((s.heap.push (seqObj "list" #[] 0)).update s.heap.objs.size (Obj.mapSeq (· ++ ae.toArray))).push (seqObj "list" ae.toArray 0)}) iV tL ⟨_,Y,aS ⟨_,Y,fin ae (UW _) ?_⟩⟩
   have:ae=[]\/∃x,ae=[x]:=by
    cases ae with
    |nil=>show .inl rfl
    |cons x r=>cases r with|nil=>show .inr ⟨x,rfl⟩|cons _ _=>simp at M
   rcases this with e|⟨x,e⟩
   .rw[e];show List.Pairwise.nil
   .generalize hh:(λu v=>∀a b,OS.FstAt (((s.heap.push (seqObj "list" #[] 0)).update s.heap.objs.size (Obj.mapSeq (· ++ ae.toArray))).push (seqObj "list" ae.toArray 0)) u a->OS.FstAt (((s.heap.push (seqObj "list" #[] 0)).update s.heap.objs.size (Obj.mapSeq (· ++ ae.toArray))).push (seqObj "list" ae.toArray 0)) v b->a<=b)=RR;rw[e];show qt _ _
end
end L2
namespace My
open PySem L2 OF
def gr:List Nat->Nat->Nat
 |[],_=>0
 |x::r,s=>s%2*2^x+gr r (s/2)
theorem Ic:∀{ls:List Nat}{b:Nat} (s:Nat),(∀x∈ls,b<=x)->2^b ∣ gr ls s
 |[],_,_,_=>Nat.dvd_zero _
 |x::r,b,s,h=>Nat.dvd_add (Nat.dvd_mul_left_of_dvd (Nat.pow_dvd_pow 2 (h x tS)) _) (Ic _ λy hy=>h y (by simp[hy]))
theorem QY:∀{ls:List Nat} (s:Nat),ls.Pairwise (· < ·)->(∀x∈ls,x<16)->gr ls s<2^16
 |[],_,_,_=>(by decide:0<2^16)
 |x::r,s,hp,hx=>by
  have Z:=QY (ls:=r) (s/2) (fU.mp hp).2 λy hy=>hx y (by simp[hy])
  obtain⟨c,hc⟩:=Ic (ls:=r) (b:=x+1) (s/2) λy hy=>(fU.mp hp).1 y hy
  have Ah:(2:Nat)^16=2^(x+1)*2^(15-x):=by rw[<-Dp];congr 1;have:=hx x tS;lia
  show s%2*2^x+gr r (s/2)<2^16;rw[hc,Ah]at Z;rw[hc,Ah];have M:c+1<=2^(15-x):=Nat.lt_of_mul_lt_mul_left Z;have h3:=Nat.mul_le_mul_left (2^(x+1)) M;rw[CS,Pt]at h3;have h4:2^(x+1)=2*2^x:=by rw[jL,qA]
  have h5:s%2*2^x<=2^x:=by
   have:s%2=0\/s%2=1:=by clear hc;lia
   rcases this with z|z<;>rw[z]<;>lia
  have h6:0<2^x:=Bt tD;lia
theorem SD:∀{ls:List Nat}{s t:Nat},ls.Pairwise (· < ·)->s<2^ls.length->t<2^ls.length->gr ls s=gr ls t->s=t
 |[],s,t,_,Z,M,_=>by simp_all
 |x::r,s,t,hp,Z,M,h=>by
  have hd:∀u,∃c,gr r u=2*2^x*c:=λu=>by
   obtain⟨c,hc⟩:=Ic (ls:=r) (b:=x+1) u λy hy=>(fU.mp hp).1 y hy
   show⟨c,by rw[hc,jL,qA (2^x)]⟩
  have h':s%2*2^x+gr r (s/2)=t%2*2^x+gr r (t/2):=h;have h6:0<2^x:=Bt tD;have hm:s%2=t%2:=by
   obtain⟨c,hc⟩:=hd (s/2);obtain⟨d,qz⟩:=hd (t/2);rw[hc,qz]at h';have e:2^x*(s%2+2*c)=2^x*(t%2+2*d):=by
    rw[CS,CS,qA _ (s%2),qA _ (t%2),<-Qg,<-Qg,qA (2^x) 2];show h'
   have:=Nat.eq_of_mul_eq_mul_left h6 e
   clear e qz h' hc M;lia
  rw[hm]at h';rw[bf,jL]at Z M
  have:=SD (ls:=r) (s:=s/2) (t:=t/2) (fU.mp hp).2 tL (by clear Z;lia) tL
  lia
def me(ls:List Nat)(s i:Nat):List Int:=((List.range i).filter λk=>decide (s/2^k%2=1)).map λk=>((2^ls.getD k 0:Nat):Int)
theorem To:∀(ls:List Nat) (s:Nat),(me ls s ls.length).sum=(gr ls s:Int)
 |[],_=>rfl
 |x::r,s=>by
  have ih:=To r (s/2);have e:me (x::r) s (x::r).length=(if s%2=1 then [((2^x:Nat):Int)]else [])++me r (s/2) r.length:=by
   unfold me;rw[bf,Cm,zu,List.filter_map,Lf,Rt];have e2:(λk=>decide (s/2^k%2=1)) ∘ Nat.succ=λk=>decide (s/2/2^k%2=1):=by
    funext k
    show decide (s/2^(k+1)%2=1)=_;rw[jL,qA,LY]
   rw[e2];by_cases z:s%2=1
   .rw[aj (by simpa using z),aj z,bz,cE];rfl
   .rw[ah (by simpa using z),ah z,cE];rfl
  rw[e,rR,ih];show _=((s%2*2^x+gr r (s/2):Nat):Int);by_cases z:s%2=1
  .rw[aj z,z];simp
  .rw[ah z,show s%2=0 by clear e ih;lia];simp
open PySem L2 OF
noncomputable def v3(i j k:Nat):Nat:=2^i|||2^j|||2^k
def eM:List Nat:=(List.range 16).flatMap λi=>2^i::(List.range i).flatMap λj=>(2^i|||2^j)::(List.range j).map λk=>v3 i j k
noncomputable def zk:List Nat->Bool
 |x::y::r=>Nat.blt x y&&zk (y::r)
 |_=>true
theorem BR:∀{l:List Nat},zk l=true->l.Pairwise (· < ·)
 |[],_=>.nil
 |[x],_=>qt _ _
 |x::y::r,h=>by
  unfold zk at h;rw[iY]at h;have ih:=BR h.2;have DW:x<y:=by simp_all
  show fU.mpr ⟨λz hz=>?_,ih⟩;rcases aV.mp hz with rfl|hz
  .exact DW
  .exact nS DW ((fU.mp ih).1 z hz)
def Rr:eM.Pairwise (· < ·):=BR tE
def R4:eM.length=696:=by decide+kernel
def Vr:∀x∈eM,1<=x/\x<2^16:=by decide+kernel
def zdE:x∈eM↔∃i j k,k<=j/\j<=i/\i<16/\x=v3 i j k:=by
 unfold eM;rw[qE];constructor
 .rintro⟨i,hi,h⟩;rw[eG]at hi;rcases aV.mp h with rfl|h
  .exact⟨i,i,i,aC _,aC _,hi,by unfold v3;rw[rB,rB]⟩
  .obtain⟨j,hj,h⟩:=qE.mp h;rw[eG]at hj;rcases aV.mp h with rfl|h
   .exact⟨i,j,j,aC _,tL,hi,by unfold v3;rw[KG,rB]⟩
   .obtain⟨k,hk,rfl⟩:=aU.mp h;rw[eG]at hk;exists i,j,k,tL,tL,hi,rfl
 .rintro⟨i,j,k,hk,hj,hi,rfl⟩;have two:∀{j:Nat},j<=i->2^i|||2^j∈2^i::(List.range i).flatMap λj=>(2^i|||2^j)::(List.range j).map λk=>v3 i j k:=fun {j} hj=>by
   by_cases z:j=i
   .rw[z,rB];show jP ..
   .exact cX _ (qE.mpr ⟨j,eG.mpr tL,jP ..⟩)
  exists i,eG.mpr hi,?_;by_cases z:j=i
  .subst z;rw[show v3 j j k=2^j|||2^k by unfold v3;rw[rB]];show two hk
  .by_cases y:k=j
   .subst y;rw[show v3 i k k=2^i|||2^k by unfold v3;rw[KG,rB]];show two hj
   .exact cX _ (qE.mpr ⟨j,eG.mpr tL,cX _ (aU.mpr ⟨k,eG.mpr tL,Y⟩)⟩)
theorem Lv:∀{l m:List Nat},l.Pairwise (· < ·)->m.Pairwise (· < ·)->(∀x,x∈l↔x∈m)->l=m
 |[],[],_,_,_=>rfl
 |[],y::m,_,_,h=>absurd ((h y).mpr tS) tS
 |x::l,[],_,_,h=>absurd ((h x).mp tS) tS
 |x::l,y::m,hl,hm,h=>by
  have Z:=fU.mp hl;have M:=fU.mp hm;have e:x=y:=by
   rcases aV.mp ((h x).mp tS)with z|z
   .exact z
   .rcases aV.mp ((h y).mpr tS)with w|w
    .exact w.symm
    .have:=M.1 _ z;have:=Z.1 _ w;lia
  subst e;rw[Lv Z.2 M.2 λz=>?_];constructor
  .intro hz;rcases aV.mp ((h z).mp (cX _ hz))with w|w
   .have:=Z.1 _ hz;lia
   .exact w
  .intro hz;rcases aV.mp ((h z).mpr (cX _ hz))with w|w
   .have:=M.1 _ hz;lia
   .exact w
open PySem L2 OF
def eL(l:ak):Nat:=intBits ((dJ l 0:Nat):Int)
def iB(f:ak):Prop:=f.length<=300/\∀t∈f,t.2.natAbs<10^1000
structure FB(f:ak):Prop where
 form:IsForm f
 keys:∀t∈f,0<=t.1/\t.1<2^16
 fit:iB f
def VV:(10:Nat)^1000<2^3400:=by decide+kernel
def FB.mul(h:FB f)(k:FB g):∀t∈f,∀u∈g,IntMulOk t.2 u.2:=λt ht u hu=>zeE (j:=3400) (k:=3400) (nS (h.fit.2 t ht) VV) (nS (k.fit.2 u hu) VV) tD
def FB.len2(h:FB f)(k:FB g):f.length*g.length<=90000:=jk h.fit.1 k.fit.1
def FB.h0(h:FB f):∀t∈f,0<=t.1:=λt ht=>(h.keys t ht).1
theorem zg:∀{L:ak}{k:Int},k∉L.map (·.1)->aA L k=0
 |[],_,_=>rfl
 |u::r,k,h=>by
  rw[bz,aV,not_or]at h;show (if u.1=k then u.2 else 0)+aA r k=0;rw[ah (λz=>h.1 z.symm),zg h.2];rfl
theorem P0:∀{L:ak},(L.map (·.1)).Nodup->∀t∈L,aA L t.1=t.2
 |[],_,t,ht=>by cases ht
 |u::r,hn,t,ht=>by
  rw[bz,i8]at hn;show (if u.1=t.1 then u.2 else 0)+aA r t.1=t.2;rcases aV.mp ht with rfl|z
  .rw[aj rfl,zg hn.1,V8]
  .rw[ah (λy=>hn.1 (by rw[y];show aU.mpr ⟨t,z,rfl⟩)),P0 hn.2 t z,jf]
def mM(h:IsForm f):(f.map (·.1)).Nodup:=by
 have:=h.rise
 rw[List.Nodup,fX];show this.imp λh=>by lia
theorem S4:∀n,eJ (10^n)=49::List.replicate n 48
 |0=>Cb tD
 |n+1=>by
  have h:1<=10^n:=Nat.one_le_pow _ _ tD;rw[Kw (by rw[jL];lia),jL,Nat.mul_div_cancel _ tD,Nat.mul_mod_left,S4 n,yt,pK]
def sL:aZ->Prop
 |.form _ t=>(∀c∈t,c<128)/\t.length<=8000/\(∀w∈eF t,w.length<=1000)/\(j8 t).isSome=true
 |.stat _ _=>False
 |.fixd _ _ _ _=>False
 |.put _ _ k _=>k<=100
 |.two w _ _ _=>w<3
open PySem L2 OF
theorem TH:∀{ws:List (List Nat)}{f:ak},jD ws=some f->f.length<=ws.length
 |[],f,h=>by cases h;show aC _
 |[_],f,h=>by cases h
 |sg::w::r,f,h=>by
  unfold jD at h;cases e1:mq sg w with
  |none=>rw[e1]at h;cases h
  |some t =>
   cases e2:jD r with
   |none=>rw[e1,e2]at h;cases h
   |some g =>
    rw[e1,e2]at h;cases h
    have:=TH e2
    simp;lia
def zeB(h:j8 l=some f)(hl:l.length<=8000):f.length<=100000:=by
 unfold j8 at h;split at h
 .cases h;show bJ _
 .cases e:jD (eF l)with
  |none=>rw[e]at h;cases h
  |some g =>
   rw[e]at h;dsimp only at h;split at h
   .cases h;have Z:=TH e;have M:=(Ve l).2.1;lia
   .cases h
def zdB(l m:ak):(bt l m).length=l.length*m.length:=by
 unfold bt dm;induction l with
 |nil=>simp
 |cons t r ih=>rw[iZ,aX,ih,ar,bf,Bo];lia
def zfp(hw:w<3)(hl:FB l)(hm:FB m)(h:aT f (nG w l m)):f.length<=100000:=by
 have Z:=aT.cnt h;have M:=hl.fit.1;have h3:=hm.fit.1;have h4:=hl.len2 hm;obtain rfl|rfl|rfl:w=0\/w=1\/w=2:=by lia
 .have:(nG 0 l m).length=l.length+m.length:=aX
  lia
 .have:(nG 1 l m).length=l.length+m.length:=by show (l++_).length=_;rw[aX,ar]
  lia
 .have:(nG 2 l m).length=l.length*m.length:=zdB l m
  lia
open PySem L2 OF
def gP(f:ak):Prop:=∀t∈f,eT t/\t.2.natAbs<10^4
def px(hl:f.length<=310)(h:gP f):(txt f).length<=7200/\∀c∈txt f,c<128:=by
 cases f with
 |nil=>exists tD,tD
 |cons t r =>
  obtain⟨i1,i2⟩:=Ri (r:=r) λu hu=>h u (by simp[hu])
  obtain⟨w1,w2⟩:=IZ (h t tS).1 (h t tS).2;rw[bf]at hl;have ha:(cv t.2).length<=1/\∀c∈cv t.2,c<128:=by unfold cv;split<;>simp
  show (cv t.2++aY t++r.flatMap ck).length<=7200/\∀c∈cv t.2++aY t++r.flatMap ck,c<128;exists by rw[aX,aX];have:=ha.1;lia,λc hc=>?_;rcases bC.mp hc with z|z
  .rcases bC.mp z with y|y
   .exact ha.2 c y
   .exact w2 c y
  .exact i2 c z
def zbz(h:gP f):∀w∈eF (txt f),w.length<=1000:=by
 cases f with
 |nil=>decide
 |cons t r =>
  rw[JZ λu hu=>(h u hu).1];intro w hw;obtain⟨p,hp,hw⟩:=qE.mp hw;obtain⟨u,hu,rfl⟩:=aU.mp hp
  have:=(IZ (h u hu).1 (h u hu).2).1
  simp only[aV,ly,lQ]at hw;rcases hw with rfl|rfl
  .show 1<=1000;decide
  .lia
def Zb(hF:IsForm f)(hl:f.length<=310)(h:gP f):sL (.form n (txt f))/\j8 (txt f)=some f:=by
 have e:=UQ hF λt ht=>(h t ht).1
 exists ⟨(px hl h).2,a9 (px hl h).1 tD,zbz h,by rw[e];rfl⟩,e
def zH(h:IsForm f)(s:List.Sublist g f):IsForm g:=⟨h.rise.sublist s,λp hp=>h.nz p (s.subset hp)⟩
def iz(hF:IsForm f)(hl:f.length<=300)(h:gP f):FB f:=⟨hF,λt ht=>⟨(h t ht).1.1,(h t ht).1.2.1⟩,hl,λt ht=>(h t ht).1.2.2.2⟩
open PySem L2 OF
def EK(h:l.Perm m)(k:Int):aA l k=aA m k:=by
 induction h with
 |nil=>rfl
 |cons x _ ih=>simp only[aA,ih]
 |swap x y l=>simp only[aA];lia
 |trans _ _ a b=>show a.trans b
def FX(hn:(L.map (·.1)).Nodup)(h0:∀t∈L,t.2≠0):∃f,aT f L/\f.Perm L:=by
 have hp:(L.mergeSort λx y=>decide (x.1<=y.1)).Perm L:=List.mergeSort_perm _ _;have hs:(L.mergeSort λx y=>decide (x.1<=y.1)).Pairwise (λx y=>decide (x.1<=y.1)=true):=List.pairwise_mergeSort (λa b c Z M=>by simp only[Fw]at *;lia) (λa b=>by lia) L;exists _,⟨⟨?_,λt ht=>h0 t (hp.mem_iff.mp ht)⟩,λk=>EK hp k,λp fq=>aU.mpr ⟨p,hp.mem_iff.mp fq,Y⟩⟩,hp;have hN:((L.mergeSort λx y=>decide (x.1<=y.1)).map (·.1)).Nodup:=(hp.map _).nodup_iff.mpr hn;have M:=fX.mp (Eo.mp hN);show (hs.and M).imp λh=>by lia
def uw(ha:0<=a)(h:a<2^c)(hb:0<=b)(hd:(2:Int)^c ∣ b):Builtin.bitOr a b=a+b:=by
 obtain⟨x,rfl⟩:=xD ha;obtain⟨y,rfl⟩:=xD hb;have Z:x<2^c:=by exact_mod_cast h
 have M:2^c ∣ y:=by exact_mod_cast hd
 obtain⟨z,rfl⟩:=M;rw[rA,IC,<-BV Z];lia
def XQ(ha:0<=a)(h:a<2^c)(ha':0<=a')(h':a'<2^c)(hd:(2:Int)^c ∣ b)(qz:(2:Int)^c ∣ b')(e:a+b=a'+b'):a=a'/\b=b':=by
 obtain⟨z,rfl⟩:=hd;obtain⟨z',rfl⟩:=qz;have e1:(a+2^c*z)%2^c=a:=by rw[NU];show Nu ha h
 have e2:(a'+2^c*z')%2^c=a':=by rw[NU];show Nu ha' h'
 rw[e,e2]at e1;exists e1.symm,tL
def Ll(hl:(l.map (·.1)).Nodup)(hm:(m.map (·.1)).Nodup)(kl:∀t∈l,(0<=t.1/\t.1<2^c)/\t.2≠0)(km:∀u∈m,(0<=u.1/\(2:Int)^c ∣ u.1)/\u.2≠0):((bt l m).map (·.1)).Nodup/\(∀t∈bt l m,t.2≠0)/\(bt l m).length=l.length*m.length:=by
 exists ?_,λt ht=>?_,?_
 .induction l with
  |nil=>show .nil
  |cons t l ih =>
   rw[bz,i8]at hl;have ih:=ih hl.2 λt ht=>kl t (by simp[ht])
   have h0:=kl t tS;show ((dm t m++bt l m).map (·.1)).Nodup;rw[aN];show Eb.mpr ⟨?_,ih,λx hx y hy e=>?_⟩
   .unfold dm;rw[cE];show fX.mpr (xG (fun {u v} hu hv h z=>h ?_) (fX.mp hm));have z':Builtin.bitOr t.1 u.1=Builtin.bitOr t.1 v.1:=z;rw[uw h0.1.1 h0.1.2 (km u hu).1.1 (km u hu).1.2,uw h0.1.1 h0.1.2 (km v hv).1.1 (km v hv).1.2]at z';lia
   .subst e;obtain⟨p,hp,rfl⟩:=aU.mp hx;obtain⟨q,hq,e⟩:=aU.mp hy;obtain⟨u,hu,rfl⟩:=aU.mp hp;obtain⟨t',VX,v,hv,rfl⟩:=qZ hq;have Z:=kl t' (by simp[VX]);have e':Builtin.bitOr t'.1 v.1=Builtin.bitOr t.1 u.1:=e;rw[uw Z.1.1 Z.1.2 (km v hv).1.1 (km v hv).1.2,uw h0.1.1 h0.1.2 (km u hu).1.1 (km u hu).1.2]at e'
    have:=(XQ Z.1.1 Z.1.2 h0.1.1 h0.1.2 (km v hv).1.2 (km u hu).1.2 e').1
    show hl.1 (aU.mpr ⟨t',VX,this⟩)
 .obtain⟨a,ha,b,hb,rfl⟩:=qZ ht;show Ro (kl a ha).2 (km b hb).2
 .clear hl kl;induction l with
  |nil=>simp[bt]
  |cons t l ih =>
   show (dm t m++bt l m).length=_;rw[aX,ih,bf,Bo,Jc];unfold dm;rw[ar];lia
noncomputable def iQ:ak:=[(1,1),(2,1),(3,2),(4,1),(6,2),(7,3),(8,1),(12,2),(14,3),(16,1),(24,2),(28,3),(32,1),(48,2),(56,3),(64,1),(96,2),(112,3),(128,1),(192,2),(224,3)]
noncomputable def iO:ak:=[(512,1),(1024,1),(1536,2),(2048,1),(3072,2),(3584,3),(4096,1),(6144,2),(7168,3),(8192,1),(12288,2),(14336,3),(16384,1),(24576,2),(28672,3),(32768,1),(49152,2),(57344,3)]
noncomputable def IY:ak:=(List.range 8).map (λk=>((1*2^(0+k):Int),(1:Int)))++(List.range 7).map (λk=>((3*2^(0+k):Int),(2:Int)))++(List.range 6).map λk=>((7*2^(0+k):Int),(3:Int))
noncomputable def Hm:ak:=(List.range 7).map (λk=>((1*2^(9+k):Int),(1:Int)))++(List.range 6).map (λk=>((3*2^(9+k):Int),(2:Int)))++(List.range 5).map λk=>((7*2^(9+k):Int),(3:Int))
def UG:iQ.Perm IY:=by decide+kernel
def Mh:iO.Perm Hm:=by decide+kernel
def Nh:IsForm iQ:=⟨tE,tE⟩
def OT:IsForm iO:=⟨tE,tE⟩
def zay:aT iQ IY:=⟨Nh,λk=>EK UG k,λp hp=>aU.mpr ⟨p,UG.mem_iff.mp hp,Y⟩⟩
def zcV:aT iO Hm:=⟨OT,λk=>EK Mh k,λp hp=>aU.mpr ⟨p,Mh.mem_iff.mp hp,Y⟩⟩
def AG:∀t∈iQ,((0<=t.1/\t.1<2^8)/\t.2≠0)/\t.2.natAbs<=3:=by decide+kernel
def C8:∀t∈iO,((0<=t.1/\t.1<2^16/\(2:Int)^8 ∣ t.1)/\t.2≠0)/\t.2.natAbs<=3:=by decide+kernel
open PySem L2 OF
def Sm.bo:Sm->Prop
 |.bit k=>k<16
 |.two w s t=>w<2/\s.bo/\t.bo
 |_=>False
def Sm.lw:Sm->Nat
 |.bit _=>1
 |.fix _=>1
 |.no s=>s.lw+1
 |.two w s t=>if w=0/\s.lw=1/\t.lw=1 then 1 else s.lw+t.lw
theorem Kt:∀s:Sm,1<=s.lw
 |.bit _=>aC _
 |.fix _=>aC _
 |.no s=>UL _ _
 |.two w s t=>by
  have:=Kt s
  unfold Sm.lw;split<;>lia
set_option tactic.hygienic true in
def Qy(h:(Sm.two w s t).lw<=n)(hn:2<=n):s.lw+t.lw<=n/\s.lw<=(Sm.two w s t).lw/\t.lw<=(Sm.two w s t).lw:=by
 have Z:=Kt s;have M:=Kt t;rw[Sm.lw]at h ⊢;split at h
 .rename_i z;rw[aj z];lia
 .rename_i z;rw[ah z];lia
theorem Jo:∀{s p:Sm},s.bo->p∈s.pre->p.bo/\p.lw<=s.lw
 |.bit k,p,h,hp=>by rw[bH.mp hp];exists h,aC _
 |.two w s t,p,h,hp=>by
  obtain⟨hw,hs,ht⟩:=id h;have h3:=(Qy (w:=w) (s:=s) (t:=t) (n:=(Sm.two w s t).lw+2) tL tL).2;rcases aV.mp hp with rfl|z
  .exists h,aC _
  .rcases bC.mp z with z|z
   .have:=Jo ht z;exists this.1,tL
   .have:=Jo hs z;exists this.1,tL
set_option tactic.hygienic true in
theorem JW:∀{s:Sm},s.bo->s.tl.length<2^s.lw
 |.bit _,_=>by show 1<2^1;decide
 |.two w s t,h=>by
  have Z:=JW h.2.1;have M:=JW h.2.2;rw[Sm.lw];split
  .rename_i z;obtain⟨rfl,e1,e2⟩:=z;rw[e1]at Z;rw[e2]at M;show (gG 0 s.tl t.tl).length<2^1;unfold gG;rw[aj rfl,vP]
   have:s.tl.length*t.tl.length<=1*1:=jk tL tL
   lia
  .exact zba Z M (zcJ w s.tl t.tl)
theorem zf:∀{s:Sm},s.bo->∀t∈s.tl,t.2.natAbs<=1
 |.bit k,_,t,ht=>by rw[bH.mp ht];show aC _
 |.two w s t,h,x,hx=>by
  obtain⟨hw,hs,ht⟩:=h;have pr:∀u∈bt s.tl t.tl,u.2.natAbs<=1:=λu hu=>by
   obtain⟨y,hy,v,hv,rfl⟩:=qZ hu;show (y.2*v.2).natAbs<=1;rw[wV];show jk (zf hs y hy) (zf ht v hv)
  have dR:x∈gG w s.tl t.tl:=hx;unfold gG at dR;split at dR
  .exact pr x dR
  .rcases bC.mp dR with z|z
   .rcases bC.mp z with y|y
    .exact zf hs x y
    .exact zf ht x y
   .obtain⟨u,hu,rfl⟩:=aU.mp z
    have:=pr u hu
    show (u.2*_).natAbs<=1;rw[aj (show w=1 by lia),wV];show u.2.natAbs*1<=1;lia
theorem yG:∀{s:Sm},s.bo->s.ok (λk=>k<16)
 |.bit _,h=>h
 |.two _ _ _,h=>⟨by have:=h.1;lia,yG h.2.1,yG h.2.2⟩
def EH{s:Sm}{f:ak}(h:s.bo)(hl:s.lw<=5)(hF:aT f s.tl):f.length<2^s.lw/\f.length<32/\(∀t∈f,t.2.natAbs<10^60)/\∀t∈f,0<=t.1/\t.1<2^16:=by
 have Z:=aT.cnt hF;have M:=JW h;have h3:=eO (show 2>0 by decide) hl;have h4:s.ok (λk=>k∈List.range 16):=(yG h).imp λk hk=>eG.mpr hk
 exists tL,tL,zaH (n:=32) (B:=1) hF tL (zf h) tE,((AK h4).of hF).low λx hx=>eG.mp hx
structure ny(tx:List Nat)(s:Sm):Prop where
 asc:∀c∈tx,c<128
 len:tx.length<=8000
 ok:s.ok (λk=>k<16)
 dp:s.dp<=20
 KS:∃ts,tx=ts.flatten/\Cuts ts []/\eZ (none,[]) ts (some s)
def sF(s:Sm):Prop:=∃l:List Nat,l.Nodup/\8<l.length/\∀k∈l,Sm.bit k∈s.pre
def nA(s:Sm):Prop:=s.bo/\s.lw<=5/\∃ls:List Nat,ls.length<=8/\s.ok (λk=>k∈ls)
def Fq(h:nA s)(hF:aT f s.tl):FB f:=by
 obtain⟨Z,M,h3,h4⟩:=EH h.1 h.2.1 hF;exists hF.toIsForm,h4,tL,λt ht=>nS (h3 t ht) tE
noncomputable instance Cuts.dec:∀(ts:List (List Nat)) (r:List Nat),Decidable (Cuts ts r)
 |[],_=>isTrue trivial
 |t::ts,r=>by have:=Cuts.dec ts r;unfold Cuts;infer_instance
noncomputable def kE:List Nat:=[32,97,110,100,32]
def Dq(h:¬p .op)(m:Nat):pE p (List.replicate m .op):=λit e=>by
 have:=List.mem_of_getLast? e
 rw[(VN.mp this).2];show h
def zav(hl:l<16)(h:eZ (some (.two 0 s (.bit l)),List.replicate m .op) ts x):eZ (some s,List.replicate (m+1) .op) (kE::[97+l]::[41]::ts) x:=by
 have a1:Step (some s,List.replicate (m+1) .op) kE (none,List.replicate (m+1) .op++[.jn 0 s]):=Step.jn _ s 0 (Dq (by intro z;cases z) _) tD;have a2:Step (none,List.replicate (m+1) .op++[.jn 0 s]) [97+l] (some (.bit l),List.replicate (m+1) .op++[.jn 0 s]):=by
  have:=Step.bit (List.replicate (m+1) .op++[.jn 0 s]) 0 l (zc3 (by intro z;cases z)) hl
  rwa [C5,gg]at this
 have a3:Step (some (.bit l),List.replicate (m+1) .op++[.jn 0 s]) [41] (some (.two 0 s (.bit l)),List.replicate m .op):=by
  have:=Step.cl (List.replicate m .op) 0 0 s (.bit l) (Dq (by intro z;cases z) _) tD
  rw[C5,gg]at this;rw[yt,dG];show this
 show .step (.of a1) (.step (.of a2) (.step (.of a3) h))
theorem FF:∀(ls:List Nat) {s:Sm},(∀l∈ls,l<16)->eZ (some (ls.foldl (λs l=>.two 0 s (.bit l)) s),[]) ts x->eZ (some s,List.replicate ls.length .op) (ls.flatMap (λl=>[kE,[97+l],[41]])++ts) x
 |[],s,_,h=>h
 |l::ls,s,hl,h=>by
  rw[iZ,dG];show zav (hl l tS) (FF ls (λy hy=>hl y (by simp[hy])) h)
theorem Jt:∀(k j:Nat),eZ (none,List.replicate (j+k) .op) ts x->eZ (none,List.replicate j .op) (List.replicate k [40]++ts) x
 |0,j,h=>h
 |k+1,j,h=>by
  rw[uN,pK];show .step (.of (Step.op _)) ?_;rw[<-yt];show Jt k (j+1) (by rw[show j+1+k=j+(k+1) by lia];show h)
def Vn(hl:l<16)(h:eZ (some (.bit l),List.replicate m .op) ts x):eZ (none,List.replicate m .op) ([97+l]::ts) x:=by
 have:=Step.bit (List.replicate m .op) 0 l (Dq (by intro z;cases z) _) hl
 rw[C5,gg]at this;show .step (.of this) h
noncomputable def bK(r k:Nat):Nat:=(r+3*k)%16
def ja(r:Nat)(n:Nat):List Nat:=(List.range n).map λk=>bK r (k+1)
def iG(r:Nat):Sm:=(ja r 7).foldl (λs l=>.two 0 s (.bit l)) (.bit (bK r 0))
def zD(r:Nat):Sm:=.two 0 (iG r) (.no (.bit (bK r 8)))
def qY(r:Nat):List (List Nat):=List.replicate 6 [40]++[97+bK r 0]::((ja r 6).flatMap (λl=>[kE,[97+l],[41]])++[kE,[97+bK r 7]])
def rM(r:Nat):List (List Nat):=List.replicate 8 [40]++[97+bK r 0]::[41]::((ja r 7).flatMap (λl=>[kE,[97+l],[41]])++[kE,EN,[97+bK r 8]])
def iJ(r k:Nat):bK r k<16:=Bu _ tD
def TV:∀l∈ja r n,l<16:=λl hl=>by obtain⟨k,_,rfl⟩:=aU.mp hl;show iJ _ _
def Qk(r n:Nat):(ja r n).length=n:=by unfold ja;rw[ar,lh]
def zf1(r:Nat):eZ (none,[]) (qY r) (some (iG r)):=by
 show Jt 6 0 (Vn (iJ _ _) ?_);have h:=FF (ts:=[kE,[97+bK r 7]]) (x:=some (iG r)) (ja r 6) (s:=.bit (bK r 0)) TV ?_
 .rwa [Qk]at h
 .have a1:Step (some ((ja r 6).foldl (λs l=>.two 0 s (.bit l)) (.bit (bK r 0))),[]) kE (none,[.jn 0 _]):=Step.jn [] _ 0 (λit z=>by cases z) tD;show .step (.of a1) (.step (.of (Step.bit [.jn 0 _] 0 (bK r 7) (λit z=>by cases z;intro w;cases w) (iJ _ _))) ?_)
  have:iG r=.two 0 ((ja r 6).foldl (λs l=>.two 0 s (.bit l)) (.bit (bK r 0))) (.bit (bK r 7)):=by
   unfold iG;rw[show ja r 7=ja r 6++[bK r 7] by unfold ja;rw[iA,aN];rfl,List.foldl_append];rfl
  rw[this];show .two _ _ _
def zaY(r:Nat):eZ (none,[]) (rM r) (some (zD r)):=by
 show Jt 8 0 (Vn (iJ _ _) ?_);have a0:=um.cl0 (List.replicate 7 .op) 0 (.bit (bK r 0)) (Dq (by intro z;cases z) _);show .step a0 ?_;have h:=FF (ts:=[kE,EN,[97+bK r 8]]) (x:=some (zD r)) (ja r 7) (s:=.bit (bK r 0)) TV ?_
 .rwa [Qk]at h
 .have a1:Step (some (iG r),[]) kE (none,[.jn 0 (iG r)]):=Step.jn [] _ 0 (λit z=>by cases z) tD;show .step (.of a1) (.step (.of (Step.no [.jn 0 (iG r)])) (.step (.of (Step.bit [.jn 0 (iG r)] 1 (bK r 8) (λit z=>by cases z;intro w;cases w) (iJ _ _))) ?_));show .two _ _ _
def zcT:∀r<16,Cuts (qY r) []:=by decide+kernel
def WY:∀r<16,Cuts (rM r) []:=by decide+kernel
def HF:∀r<16,(∀c∈(qY r).flatten,c<128)/\(qY r).flatten.length<=100:=by decide+kernel
def Mj:∀r<16,(∀c∈(rM r).flatten,c<128)/\(rM r).flatten.length<=100:=by decide+kernel
def jT(r:Nat):List Nat:=(List.range 9).map (bK r)
def zgu:∀r<16,(jT r).Nodup:=by decide+kernel
def OQ(hr:r<16):ny (qY r).flatten (iG r)/\nA (iG r):=by
 have hb:(iG r).bo:=⟨tD,⟨tD,⟨tD,⟨tD,⟨tD,⟨tD,⟨tD,iJ _ _,iJ _ _⟩,iJ _ _⟩,iJ _ _⟩,iJ _ _⟩,iJ _ _⟩,iJ _ _⟩,iJ _ _⟩;exists ⟨(HF r hr).1,a9 (HF r hr).2 tD,yG hb,by show 7<=20;decide,_,Y,zcT r hr,zf1 r⟩,hb,by show (1:Nat)<=5;decide,(jT r).take 8,by simp[jT],?_;have hm:∀k,k<8->bK r k∈(jT r).take 8:=λk hk=>by
  rw[JC];show⟨k,by rw[List.getElem?_take,aj hk];unfold jT;rw[c9,yn tL];rfl⟩
 exists tD,⟨tD,⟨tD,⟨tD,⟨tD,⟨tD,⟨tD,hm 0 tD,hm 1 tD⟩,hm 2 tD⟩,hm 3 tD⟩,hm 4 tD⟩,hm 5 tD⟩,hm 6 tD⟩,hm 7 tD
def zbN(hr:r<16):ny (rM r).flatten (zD r)/\sF (zD r):=by
 have hb:=(OQ hr).1.ok;exists ⟨(Mj r hr).1,a9 (Mj r hr).2 tD,⟨tD,hb,iJ _ _⟩,by show 8<=20;decide,_,Y,WY r hr,zaY r⟩,jT r,zgu r hr,by simp[jT],λk hk=>?_;obtain⟨j,hj,rfl⟩:=aU.mp hk;have ig:=eG.mp hj
 have:j=0\/j=1\/j=2\/j=3\/j=4\/j=5\/j=6\/j=7\/j=8:=by lia
 rcases this with rfl|rfl|rfl|rfl|rfl|rfl|rfl|rfl|rfl<;>simp[zD,iG,ja,Sm.pre,iA]
noncomputable def pF:Sm:=.two 1 (.two 1 (.bit 0) (.bit 1)) (.two 1 (.bit 2) (.bit 3))
def HI:ny (kj pF) pF/\nA pF:=by
 have hb:pF.bo:=⟨tD,⟨tD,show 0<16 by decide,show 1<16 by decide⟩,⟨tD,show 2<16 by decide,show 3<16 by decide⟩⟩;exists ⟨tD,tD,yG hb,tD,sf pF,Y,tD,?_⟩,hb,tD,[0,1,2,3],tD,⟨tD,⟨tD,show 0∈[0,1,2,3] by decide,show 1∈[0,1,2,3] by decide⟩,⟨tD,show 2∈[0,1,2,3] by decide,show 3∈[0,1,2,3] by decide⟩⟩;show .step (.of (Step.op [])) (.step (.of (Step.bit [.op] 0 0 (λit z=>by cases z;intro w;cases w) tD)) (.step (.of (Step.jn [.op] (.bit 0) 1 (λit z=>by cases z;intro w;cases w) tD)) ?_));show .step (.of (Step.bit [.op,.jn 1 (.bit 0)] 0 1 (λit z=>by cases z;intro w;cases w) tD)) (.step (.of (Step.cl [] 0 1 (.bit 0) (.bit 1) (λit z=>by cases z) tD)) ?_);show .step (.of (Step.jn [] _ 1 (λit z=>by cases z) tD)) (.step (.of (Step.op [.jn 1 _])) ?_);show .step (.of (Step.bit [.jn 1 _,.op] 0 2 (λit z=>by cases z;intro w;cases w) tD)) (.step (.of (Step.jn [.jn 1 _,.op] (.bit 2) 1 (λit z=>by cases z;intro w;cases w) tD)) ?_);show .step (.of (Step.bit [.jn 1 _,.op,.jn 1 (.bit 2)] 0 3 (λit z=>by cases z;intro w;cases w) tD)) (.step (.of (Step.cl [.jn 1 _] 0 1 (.bit 2) (.bit 3) (λit z=>by cases z;intro w;cases w) tD)) ?_);show .two _ _ _
end My
namespace L2
open PySem PySem.Spec PyProof.Rows
def Tk(n:Nat)(u:Value):Prop:=∃x t,u=Value.str x t/\0<t/\t<n
def Tk.up(h:Tk n u)(k:n<=m):Tk m u:=let ⟨x,t,e,Z,M⟩:=h; ⟨x,t,e,Z,cP M k⟩
noncomputable abbrev oX(ae:List Value)(no:Nat):Obj:={cls:=.type "list",data:=.seq ae.toArray no}
section
variable(X:Cx)(n:Nat)
abbrev K9(e:Expr)(t:TE):Prop:=Kn Tk X e t
def Mz(e:Expr)(t:TE):Prop:=∀(J:List (Addr×Obj)) (s:Shared) (σ:St) (H:Hp) (Q:VK),n<=s.toks->Inv X J σ H s->t σ H Q->wpAny (model X.prog X.w) X.A (eval e X.env) (λu s'=>(∃x t,u=Value.str x t/\n<=t)/\EP X J σ Q u s') X.xe s
def vx(e:Expr)(t:TE):Prop:=∀(J:List (Addr×Obj)) (s:Shared) (σ:St) (H:Hp) (Q:VK),n<=s.toks->Inv X J σ H s->t σ H Q->wpAny (model X.prog X.w) X.A (eval e X.env) (EP X J σ Q) X.xe s
def Pr(e:Expr)(t:TT):Prop:=∀(J:List (Addr×Obj)) (s:Shared) (σ:St) (H:Hp) (Q:Bool->Hp->Prop),n<=s.toks->Inv X J σ H s->t σ H Q->wpAny (model X.prog X.w) X.A (isTrue e X.env (eval e X.env)) (TP X J σ Q) X.xe s
def BI(es:List Expr)(t:TA):Prop:=∀(pos:Pos) (J:List (Addr×Obj)) (s:Shared) (σ:St) (H:Hp) (Q:List V->Hp->Prop),n<=s.toks->Inv X J σ H s->t σ H Q->wpAny (model X.prog X.w) X.A (spliced (backTo pos (starEach es X.env))) (AP X J σ Q) X.xe s
def SY(st:Stmt)(t:TS):Prop:=∀(J:List (Addr×Obj)) (s:Shared) (σ:St) (H:Hp) (D:je),n<=s.toks->Inv X J σ H s->t D σ H->wpAny (model X.prog X.w) X.A (exec st X.env) (SP X J D) X.xe s
def DK(st:List Stmt)(t:TS):Prop:=∀(J:List (Addr×Obj)) (s:Shared) (σ:St) (H:Hp) (D:je),n<=s.toks->Inv X J σ H s->t D σ H->wpAny (model X.prog X.w) X.A (execs st X.env) (SP X J D) X.xe s
def KP(J:List (Addr×Obj))(N:Nat->St->Hp->Prop)(f:Flow)(s':Shared):Prop:=f=.next/\∃σ' O,Inv X J σ' O s'/\N s'.toks σ' O
def Qu(st:Stmt)(t:(Nat->St->Hp->Prop)->St->Hp->Prop):Prop:=∀(J:List (Addr×Obj)) (s:Shared) (σ:St) (H:Hp) (N:Nat->St->Hp->Prop),Inv X J σ H s->t N σ H->wpAny (model X.prog X.w) X.A (exec st X.env) (KP X J N) X.xe s
end
def sV(hn:n<=s.toks)(h:wpAny qad A t Q E s)(hQ:∀a s,n<=s.toks->Q a s->Q' a s):wpAny qad A t Q' E s:=cC (wG hn h) (λa s z=>hQ a s z.1 z.2) λ_ _ x=>x.2
def zgM(wi:TI)(nT:Nat)(js:List Nat)(g:TG)(tc:TT)(te:TE)(k:Nat):(Nat->St->Hp->Prop)->St->Hp->Prop:=λN0 σ H=>wi σ H λqae H1=>∃W:Nat->Nat->List V->St->Hp->Prop,(∃m,W 0 m [] (sh nT js σ) H1)/\∀i m ys σ' H,W i m ys σ' H ->
 (qae.stop i H/\∀D,H D=none->∀n ae no,(∀u∈ae,Tk n u)->N0 n (σ.set k (some (.ref D))) (upd H D (.frz (oX ae no) (.lst ys)))) \/
 (qae.go i H/\ys.length<sizeLine/\∃ N:List V->St->Hp->Prop,(∀ cb σ' O,N cb σ' O->∃ m',m'<m/\W (i+1) m' cb σ' O) /\ ∀x O,qae.yld i H x O->g x σ' O λσ2 H2=>tc σ2 H2 λb H3=>if b=true then te σ2 H3 λy H4=>N (ys++[y]) σ2 H4 else N ys σ2 H3)
set_option tactic.hygienic true in
def zg9{X:Cx}{tg iter elt:Expr}{ifs:List Expr}{scope:Scope}{bG pos pos':Pos}{x:Str}{i:Nat}(N':List Str)(nT:Nat)(js:List Nat){wi:TI}{g:TG}{tc:TT}{te:TE}
    (hN:X.nox.N.Nodup) (wC:X.nox.N[i]?=some x) (hx:oY X.nox.env.scope x)
    (hc:X.calm=true) (S:qe X.nox scope N' nT js) (hi:PI X.nox tg iter wi)
    (hg:∀cl C s₀ H₀ fp,PG (fM X.nox N' scope cl C s₀ H₀ fp) tg g) (ht:∀cl C s₀ H₀ fp,nX (fM X.nox N' scope cl C s₀ H₀ fp) ifs tc) (he:∀cl C s₀ H₀ fp,K9 (fM X.nox N' scope cl C s₀ H₀ fp) elt te)
    (hs:autoParam (∀x,foldedSetIterable iter X.env x=pure x) tI._auto_1) (qL:swapsWith (.ListComp elt [⟨tg,iter,ifs,0⟩] scope bG) (some (.Name x pos')) pos.line X.env=pure true:=by rfl)
    (hf:autoParam (X.nox.fn x=true\/X.nox.env.scope.names.lookup x=some .local) tF._auto_1) :
    Qu X.nox (.Assign [.Name x pos'] (.ListComp elt [⟨tg,iter,ifs,0⟩] scope bG) pos) (zgM wi nT js g tc te i):=by
  intro J s σ H N0 I h;have hG:PG X.nox (.Name x pos') (aQ i):=Ka hN wC hx hf;rw [exec_Assign_Name_used _ _ _ _ qL];obtain ⟨cl,e,l⟩:=yP (env:=X.env) scope.names [] λx hx=>I.ok.has x (.inl (S.kinds _ hx Y))
  have zy:closureFor scope X.env=pure cl:=by
    unfold closureFor;show (forIn scope.names [] λ(x:Str×NameKind) (cs:List (Str×Addr))=>(if (x.2 == NameKind.free)=true then (do let a <-cellOf X.env x.1;pure (ForInStep.yield ((x.1,a)::cs)))else pure (ForInStep.yield cs):Sem (ForInStep (List (Str×Addr))))) >>= (λs=>pure s)=pure cl;rw [e,pure_bind]
  show aq (Ac (aq ?_));show wpAny _ X.nox.A (do let _ <-comprehension (.ListComp elt [⟨tg,iter,ifs,0⟩] scope bG) scope X.env _ (newList []) false (eval iter X.env) (some (assign (.Name x pos') X.env))) _ _ s;show aq (cC (JI (cl:=cl) (use:=some (assign (.Name x pos') X.env)) (Q:=λ_ s'=>KP X.nox J N0 .next s') Y hs zy S.kind S.names ?_) (λ_ s' hq=>aS (aS hq)) λ_ _ e=>e);show ax (hi J s σ H _ I h) λv s1 Z=>ax Z λzb s2 M=>?_
  obtain ⟨it,fp,tn,qae,H2,rfl,I2,T,bg,f2,W,w0,turn⟩:=M;show Fe (X:=X.nox) Tk (λ_ _ _ h k=>h.up k) (λae no ys=>.frz (oX ae no) (.lst ys)) (λae no ys H h a z r e=>⟨e,z,ae,no,r,e⟩) (QQ:=λD ys O=>∀n ae no,(∀u∈ae,Tk n u)->N0 n (σ.set i (some (.ref D))) (upd O D (.frz (oX ae no) (.lst ys)))) (RR:=λacc C=>compPost (model X.prog X.w) X.A (λ_ _=>False) (some (assign (.Name x pos') X.env)) (λ_ s'=>KP X.nox J N0 .next s') acc C) hc S (λx=>by rw [l x];rfl) (hg cl) (ht cl) (he cl) I2 T bg f2 W w0 turn λD C s' ys O m ae no tk q hn nC hC j6 JY fin=>?_
  show wpAny _ X.A (assign (.Name x pos') X.env (.ref D)) _ _ _;have I3:Inv X.nox J σ (upd O D (.frz (oX ae no) (.lst ys))) s':=fin s'.heap ⟨Y,λ_ _=>rfl⟩;have ID:upd O D (.frz (oX ae no) (.lst ys)) C=none:=by rw [aG (Ne.symm j6)];show JY
  have xE:∀{H3:Hp},H3 C=none->gB X.nox J H3 C:=λh3=>I2.fpOk hC h3
  obtain ⟨oC,es,ep,zC,rC⟩:=id hn;have j3:∀v,oC.data≠.cell v:=λv z=>by simp_all
  have I4 := I3.pinned (fp := [C]) (fun b hb => by have z : b = C := by simpa using hb
                                                   subst z; exact xE  ID  ) (fun b hb => by have z : b = C := by simpa using hb
                                                                                            subst z; show ⟨oC, zC, j3⟩)
  show cC (wpAny_toks (hG _ s' σ _ (.ref D) (.ref D) (λσ' wc=>∀n,(∀u∈ae,Tk n u)->N0 n σ' wc) I4 Y (λn zT=>q n ae no zT))) (?_) λ_ _ e=>e.2
  rintro _ s5 ⟨n5,σ5,H5,I5,q5⟩;have pC:=I5.pin (C,oC) (ft _ (ft _ (vj tS zC)));show ⟨m,⟨oC,es,ep,pC.1,rC⟩,λh' sb=>?_⟩;obtain ⟨f0,f1,f2',f3,f4,f5⟩:=xE pC.2.1;show ⟨Y,σ5,H5,(I5.unpinned).turned (t':=s5.toks) (λb o hb e=>(sb.2 b hb).trans e) f0 f1 f3 f4 f5,q5 s5.toks λu hu=>(tk u hu).up n5⟩
section
variable{X:Cx}{n:Nat}{a b c e es o:Expr}{ta tb tc te to ts t1:TE}{pos p1 p2:Pos}{st:Stmt}{rest:List Stmt}
def zfA(ha:PE X a ta)(hc:PE X c tc)(ho:bx X (binaryOp op) r)(hs:uX (.BinOp c op (.Constant (.int i) j p1) p2)):K9 X (.Subscript a (.BinOp c op (.Constant (.int i) j p1) p2) pos) (fL LP ta (fL r tc (tC (.int i)))):=by
 intro J s σ H Q I h;show tZ (ax (ha J s σ H _ I h) ?_);rintro v s1 ⟨x,H1,I1,r1,q1⟩;show AY (ax (hc J s1 σ H1 _ I1 q1) ?_);rintro w s2 ⟨y,H2,I2,r2,q2⟩;show HP ?_;show sV (n:=1) (by simp) (ho J _ σ H2 y (.int i) w _ _ (I2.tok _) r2 ⟨_,Y⟩ q2) ?_;rintro u s3 n3 ⟨z,H3,I3,r3,q3⟩;obtain⟨z0,k,cp,rfl,rfl,hz,he,q⟩:=q3;obtain⟨t,rfl⟩:=r1;obtain⟨t',rfl⟩:=r3;obtain⟨jj,Z,M,h3,h4,h5⟩:=Cq he;have hl:z0.cps.toList.length=z0.length:=by simp[Str.length]
 rw[hl]at Z h4 h5;have hn:=mL;show tail_any (lX s3 z0 t) slot_str_getitem.lookup (W3 (c:=cp) (by lia) (by rw[Z];simpa using M) ⟨⟨_,_,Y,n3,B5 _⟩,.str ⟨#[cp]⟩,H3,I3.tok _,⟨_,Y⟩,q⟩) (hs _ _)
def WM:R2:=λx y H Q=>∃i j,x=.str i/\y=.str j/\(i.length == 0)=false/\(j.length == 0)=false/\i.length+j.length<=sizeLine/\Q (.str (i++j)) H
def YO(ha:PE X a ta)(hb:PE X b tb):Mz X n (.BinOp a .Add b pos) (fL WM ta tb):=by
 intro J s σ H Q hn I h;show AY (sV hn (ha J s σ H _ I h) ?_);rintro v s1 n1 ⟨x,H1,I1,r1,q1⟩;show sV n1 (hb J s1 σ H1 _ I1 q1) ?_;rintro u s2 n2 ⟨y,H2,I2,r2,q2⟩;obtain⟨i,j,rfl,rfl,Z,M,hz,q⟩:=q2;obtain⟨t,rfl⟩:=r1;obtain⟨t',rfl⟩:=r2;show P.add_str ?_;rw[Z,M];simp only[eP,dw];exists by show (i++j).length<=sizeLine;rw[Str.length_append];show hz,⟨_,_,Y,n2⟩,.str (i++j),H2,I2.tok _,⟨_,Y⟩,q
def YW(n:Nat)(to t1 ts:TE):TE:=λσ H Q=>to σ H λx H1=>∃i,x=.str i/\t1 σ H1 λy H2=>∃j,y=.str j/\ts σ H2 λl H3=>∃(D:Addr) (ae:List Value) (no:Nat) (ys:List V) (z:Str),l=.ref D/\H3 D=some (.frz (oX ae no) (.lst ys))/\ys[0]?=some (.str z)/\(∀u∈ae,Tk n u) /\
 (j == z)=false/\i.length+(i.length+1)*z.length<=16777216/\Q (.str (Txt.replace i j z)) H3
def zcg(ho:PE X o to)(Z:Mz X n e1 t1)(hx:PE X es ts)
  (wN:attributeBase o "replace" X.env (eval o X.env)=eval o X.env:=by rfl)
  (IX:((backTo bG (starEach [e1,.Subscript es (.Constant (.int 0) j p1) p2] X.env)).all (fun x => !x.1) && (backToKw bG (keywordEach [] X.env)).all (fun x=>x.1.isSome) && decide ([e1,.Subscript es (.Constant (.int 0) j p1) p2].length+([]:List Keyword).length+(if ([]:List Keyword).isEmpty then 0 else 1)<30))=true:=by rfl)
  (wQ:(da.endLine == bG.line)=true:=by rfl) (hs:starEach [e1,.Subscript es (.Constant (.int 0) j p1) p2] X.env=(false,eval e1 X.env)::starEach [.Subscript es (.Constant (.int 0) j p1) p2] X.env:=by rfl)
  (iy:starEach [.Subscript es (.Constant (.int 0) j p1) p2] X.env=[(false,eval (.Subscript es (.Constant (.int 0) j p1) p2) X.env)]:=by rfl)
  (hplain:(backTo bG (starEach [.Subscript es (.Constant (.int 0) j p1) p2] X.env)).any (·.1)=false:=by rfl) :
  vx X n (.Call (.Attribute o "replace" da) [e1,.Subscript es (.Constant (.int 0) j p1) p2] [] bG) (YW n to t1 ts):=by
 intro J s σ H Q hn I h;show wpAny_Call_method_late wN IX wQ Y (sV hn (ho J s σ H _ I h) ?_);rintro v s1 n1 ⟨x,H1,I1,r1,i,hi,q1⟩;subst hi;obtain⟨bV,eE⟩:=ED I1 r1 (show BC X.K "str" (.str i) H1 from Y);exists "str","str.replace",F.plainAttrs_str,F.slot_str_replace,F.type_str_replace,bV,eE,?_;rw[hs];show xp (by assumption) (zp ?_);show wpAny _ _ (spliced ((false,eval e1 X.env)::backTo bG (starEach [.Subscript es (.Constant (.int 0) j p1) p2] X.env))) _ _ s1;show qf (cC (Z J s1 σ H1 _ n1 I1 q1) (?_) λ_ _ z=>z);rintro u s2 ⟨⟨ux,ut,eu,Vg⟩,y,H2,I2,r2,jj,hj,q2⟩;subst hj eu;rw[iy];show wpAny _ _ (spliced [(false,eval (.Subscript es (.Constant (.int 0) j p1) p2) X.env)]) _ _ s2;show qf (tZ (ax (hx J s2 σ H2 _ I2 q2) ?_));rintro l s3 ⟨lv,H3,I3,r3,q3⟩;show HP ?_;obtain⟨D,ae,no,ys,z,rfl,hD,hy,tk,WX,aL,q⟩:=q3;cases r3;have I4:=I3.tok (s3.toks+1);obtain⟨eD,hz,its',no',rv,eD'⟩:=I4.hok D _ hD;have eq:its'=ae:=by lia
 subst eq;obtain⟨w,ew,fS⟩:=rv.get hy;obtain⟨tz,rfl⟩:=fS;obtain⟨_,t0,e0,tp,tl⟩:=tk _ (c8 ew);cases e0;have pl:PlainL ({s3 with toks:=s3.toks+1}:Shared).heap D its'.toArray:=⟨_,no,eD,Y,Y,Y⟩;have Ab:=mL;have dZ:its'.length<=sizeLine:=by rw[<-rv.length];show hz
 obtain⟨tt1,rfl⟩:=r1;obtain⟨tt2,e2⟩:=r2;cases e2;show item_listR pl.isList tD tD (by simpa using ew) ?_ rfl;show xo ?_;show SC.replace (sC (cP (nS tp tl) Vg)) (sC tp) (λe=>absurd (cP tl Vg) (by rw[e];show nJ _)) WX aL λt' k=>⟨.str _,H3,I4.tok _,⟨_,Y⟩,q⟩
def zb8(ho:bx X (binaryOp op) r)(ha:PE X a ta)(hb:vx X n b tb):vx X n (.BinOp a op b pos) (fL r ta tb):=by
 intro J s σ H Q hn I h;show AY (sV hn (ha J s σ H _ I h) (by rintro v s1 n1 ⟨x,H1,I1,r1,q1⟩;show ax (hb J s1 σ H1 _ n1 I1 q1) (by rintro u s2 ⟨y,H2,I2,r2,q2⟩;show ho J s2 σ H2 x y v u Q I2 r1 r2 q2)))
def Xv(ha:vx X n e te)(hs:starEach [e] X.env=[(false,eval e X.env)]:=by rfl):BI X n [e] (jw te nV):=by
 intro pos J s σ H Q hn I h;rw[hs];show wpAny _ _ (spliced [(false,eval e X.env)]) _ _ s;show qf (ax (ha J s σ H _ hn I h) (by rintro u s1 ⟨x,H1,I1,r1,q1⟩;show xo ⟨[x],H1,I1,.cons r1 .nil,q1⟩))
def zbC{es:List Expr}{t:TA}(ha:PE X e te)(hr:BI X n es t)(hs:starEach (e::es) X.env=(false,eval e X.env)::starEach es X.env:=by rfl):BI X n (e::es) (jw te t):=by
 intro pos J s σ H Q hn I h;rw[hs];show wpAny _ _ (spliced ((false,eval e X.env)::backTo pos (starEach es X.env))) _ _ s;show qf (sV hn (ha J s σ H _ I h) ?_);rintro u s1 n1 ⟨x,H1,I1,r1,q1⟩;show ax (hr pos J s1 σ H1 _ n1 I1 q1) (by rintro us s2 ⟨xs,H2,I2,r2,q2⟩;exists x::xs,H2,I2,.cons r1 r2,q2)
def zbV(ho:bx X (compareOp op) r)(ha:vx X n a ta)(hb:PE X b tb)(hm:behindInMarks op b=false):Pr X n (.Compare a [op] [b] pos) (Bw (fL r ta tb)):=by
 intro J s σ H Q hn I h;show CC (ax (ha J s σ H _ hn I h) λv s1 ⟨x,H1,I1,r1,q1⟩=>ax (hb J s1 σ H1 _ I1 q1) λu s2 ⟨y,H2,I2,r2,q2⟩ =>
  ax (ho J s2 σ H2 x y v u _ I2 r1 r2 q2) λc s3 ⟨z,H3,I3,r3,k,e,q3⟩=>?_) hm
 subst e;cases r3;show mH ⟨H3,I3,q3⟩
def zgd{tc:TT}{A B:List Stmt}{t u:TS}(hc:Pr X n c tc)(ha:dg X A t)(hb:dg X B u):SY X n (.If c A B pos) (UB tc t u):=by
 intro J s σ H D hn I h;show wpAny_If (ax (hc J s σ H _ hn I h) ?_);rintro d s1 ⟨H1,I1,q1⟩;cases d with
 |true=>show ha J s1 σ H1 D I1 q1
 |false=>show hb J s1 σ H1 D I1 q1
set_option tactic.hygienic true in
def OY(Z:PS X st t)(M:DK X n rest u):DK X n (st::rest) (aE t u):=by
 intro J s σ H D hn I h;show vt (sV hn (Z J s σ H {D with nx:=u D} I h) λf s1 n1 q=>?_);cases f with
 |next =>
  obtain⟨σ',O,I',q⟩:=q;show M J s1 σ' O D n1 I' q
 |ret v=>show q
 |brk=>show q
 |cont=>show q
set_option tactic.hygienic true in
def zeP(Z:SY X n st t)(M:dg X rest u):DK X n (st::rest) (aE t u):=by
 intro J s σ H D hn I h;show vt (ax (Z J s σ H {D with nx:=u D} hn I h) λf s1 q=>?_);cases f with
 |next =>
  obtain⟨σ',O,I',q⟩:=q;show M J s1 σ' O D I' q
 |ret v=>show q
 |brk=>show q
 |cont=>show q
def YX(t:(Nat->St->Hp->Prop)->St->Hp->Prop)(u:Nat->TS):TS:=λD σ H=>t (λn σ' O=>u n D σ' O) σ H
def Xd(Z:Qu X st t)(M:∀n,DK X n rest (u n)):dg X (st::rest) (YX t u):=by
 intro J s σ H D I h;show vt (ax (Z J s σ H _ I h) λf s1 q=>?_);obtain⟨rfl,σ',O,I',q⟩:=q;show M s1.toks J s1 σ' O D (aC _) I' q
end
section
variable{X:Cx}{n:Nat}{CX:kd}{k:Nat}{f:Addr}{fd:FuncData}{ps:List Str}{sp:Sp}{eX:List V}{ds:List Value}{E:XK}{x:Str}{p pos:Pos}{e:Expr}{es:List Expr}{t:TA}
def zgG(F:hV X.prog X.w X.K X.mg X.base CX k f fd ps sp)(hr:bY k X.A)(hm:X.mg x=some (.ref f))(hk:PySem.W.keepIn X.K (.ref f)=true)(hb:Binds X.K fd ps ds)(hd:Vals eX ds)(hx:qg CX X E)
  (ha:BI X n (e::es) t) (hg:Gl X x:=by rfl) (kN:(x == ("__debug__" : Str))=false:=by decide) (he:starEach (e::es) X.env=(false,eval e X.env)::starEach es X.env:=by rfl) (cj:(backTo pos (starEach es X.env)).any (·.1)=false:=by rfl) :
  vx X n (.Call (.Name x p) (e::es) [] pos) (AM sp eX E t):=by
 intro J s σ H Q hn I h;show xk (uA I hg hm ?_ kN);show Ae (h₀:=X.base) I.ok.mod.kin hk (ax (ha pos J s σ H _ hn I h) ?_) he cj;rintro us s1 ⟨vs,H1,I1,r,q⟩;exists I1.kIn,?_;show Hi F hr hb hd hx I1 r q
end
theorem SU:∀{ae:List Value}{ss:List Str},StrsAre ae ss->Vals (ss.map V.str) ae
 |_,_,.nil=>.nil
 |_,_,.cons x t h=>.cons ⟨t,Y⟩ (SU h)
section
variable{X:Cx}
def zg0 (hc:X.calm=true):gA X (.builtin "sorted") (fun xs H Q=>∃ (a:Addr) (ss:List Str),xs=[.ref a]/\ai X.K H a (ss.map V.str)/\ss.length<64 /\ ∀(l:Addr) (FZ:List Str),H l=none->FZ.Perm ss->sortedS FZ=true->Q (.ref l) (upd H l (.lst (FZ.map V.str)))):=by
 intro J s σ H xs us Q I r h;obtain⟨a,ns,rfl,hq,wy,q⟩:=h;obtain⟨u,rfl,ru⟩:=gF r;cases (show u=Value.ref a from ru);obtain⟨ae,rv,p,hz⟩:=I.list hq;have hi:=Ir rv;have aL:=rv.length;rw[ar]at aL;show sorted_strs p.isList hi tL λout dU a1 a2 a3=>?_
 have hsz:((s.heap.push (seqObj "list" #[] 0)).update s.heap.objs.size (Obj.mapSeq (· ++ ae.toArray))).objs.size=s.heap.objs.size+1:=by simp
 have iV:(((s.heap.push (seqObj "list" #[] 0)).update s.heap.objs.size (Obj.mapSeq (· ++ ae.toArray))).push (seqObj "list" ae.toArray 0)).get? (s.heap.objs.size+1)=some (seqObj "list" ae.toArray 0):=by
  rw[<-hsz];show cQ _ rfl
 have keep:∀b o,s.heap.get? b=some o->(sortedAll s.heap ae out).get? b=some o:=λb o e=>by
  have aF:b<s.heap.objs.size:=bh e;unfold sortedAll;rw[Aj (bR (gV aF)) (by rw[sv,hsz];show gV (gV aF))];rw[j9 _ _ _ (by rw[hsz];show bR (gV aF)),uE _ _ _ _ (bR aF),j9 _ _ _ (bR aF)];show e
 have nD:s.heap.get? (s.heap.objs.size+1)=none:=uH (mK _);obtain⟨ee,vK⟩:=BM (out:=out) iV;have sN:H (s.heap.objs.size+1)=none:=by
  cases e:H (s.heap.objs.size+1)with
  |none=>rfl
  |some o=>obtain⟨ob,e'⟩:=(I.hok _ _ e).there;rw[nD]at e';cases e'
 have m8:Vals (dU.map V.str) out.toList:=SU a1;have Ab:dU.length=ns.length:=a2.length_eq;exists .ref (s.heap.objs.size+1),_,I.laidN (o:=.lst (dU.map V.str)) (t':=s.toks) keep nD ⟨by simp_all,out.toList,ee,m8,by simpa [sortedAll] using vK⟩,Y,q _ dU sN a2 a3
end
open PySem PySem.Spec PyProof.Rows
section
variable{X:Cx}
def Io:bx X (binaryOp .Mult) (λx y H Q=>∃(c:Nat) (n:Nat),x=.str ⟨#[c]⟩/\y=.int (n:Int)/\2<=n/\n<=100000/\Q (.str ⟨(List.replicate n c).toArray⟩) H):=by
 intro J s σ H x y v u Q I rx ry h;obtain⟨c,n,rfl,rfl,Z,M,q⟩:=h;obtain⟨t,rfl⟩:=rx;obtain⟨t',rfl⟩:=ry;have gh:((⟨#[c]⟩:Str).length)=1:=rfl;have hsz:n<=sizeLine:=a9 M tD;show P.mul_str (by lia) (λ_ _=>?_) (λ_ _=>?_) ?_
 .rw[gh]
  have:(1:Int)<=(2^63-1)/(n:Int):=Int.le_ediv_of_mul_le tL tL
  lia
 .rw[gh,iu,Jc];unfold Builtin.Str.tooLong;show bw tL
 .rw[ah tL,gh,show (((n:Int) == 1 || ((1:Nat) == 0))=false) by simp;lia];simp only[eP,dw];have e:(List.replicate ((n:Int)).toNat (#[c]:Array Nat)).foldl (λx1 x2=>x1++x2) #[]=(List.replicate n c).toArray:=by
   rw[iu];have key:∀(m:Nat) (a:List Nat),(List.replicate m (#[c]:Array Nat)).foldl (λx1 x2=>x1++x2) a.toArray=(a++List.replicate m c).toArray:=λm=>by
    induction m with
    |zero=>intro a;simp
    |succ m ih =>
     intro a;rw[uN,JE,show a.toArray ++ #[c]=(a++[c]).toArray by simp,ih,uN,dG];rfl
   show key n []
  show (Made.str ⟨(List.replicate ((n:Int)).toNat (#[c]:Array Nat)).foldl (λx1 x2=>x1++x2) #[]⟩).post _ s;rw[e];exists by show (List.replicate n c).toArray.size<=sizeLine;simp;show hsz,.str _,H,I.tok _,⟨_,Y⟩,q
end
end L2
namespace My
open PySem L2 OF PyProof.Rows PySem.Spec
def pD(r:Nat):Nat->List Nat
 |0=>[97+bK r 0]
 |i+1=>[40]++pD r i++[41,32,97,110,100,32]++[97+bK r (i+1)]
theorem HQ(r:Nat):∀i,(pD r i).length=1+8*i
 |0=>rfl
 |i+1=>by simp[pD,HQ r i];lia
def Te:∀r<16,Txt.replace (S (pD r 7)) (S ([40]++[97+bK r 0]++[41])) (S [97+bK r 0])=S (qY r).flatten:=by decide+kernel
def Yl:∀r<16,[40]++pD r 7++[41,32,97,110,100,32,110,111,116,32]++[97+bK r 8]=(rM r).flatten:=by decide+kernel
def o9(r:Nat):List Nat:=(List.range 16).filter λl=>((jT r).take 8).contains l
def Wn:∀r<16,(o9 r).isPerm ((jT r).take 8)=true:=by decide+kernel
def zeY:∀r<16,(o9 r).Pairwise (· <= ·):=by decide+kernel
def mh(r:Nat):Int:=(((o9 r).map λl=>2^l).sum:Nat)
def zaP:∀r<16,(iG r).tl=[(mh r,1)]:=by decide+kernel
def zeT:∀r<16,txt [(mh r,1)]=(o9 r).map λl=>97+l:=by decide+kernel
def L1(l:Nat):Str:=S [97+l]
theorem Ur:∀(ls:List Nat) (a:Nat),risingS (L1 a) (ls.map L1)=true->(a::ls).Pairwise (· <= ·)
 |[],a,_=>qt _ _
 |b::ls,a,h=>by
  have h':(!ltCps [97+b] [97+a]&&risingS (L1 b) (ls.map L1))=true:=h;rw[iY,ltCps_eq]at h';have Z:¬ [97+b] < [97+a]:=by simp_all
  have pG:a<=b:=by
   rcases lj b a with y|y
   .exact absurd (List.Lex.rel tL) Z
   .exact y
  have ih:=Ur ls b h'.2;show fU.mpr ⟨λc hc=>?_,ih⟩;rcases aV.mp hc with rfl|z
  .exact pG
  .exact a9 pG ((fU.mp ih).1 c z)
def zfN{ls:List Nat}(h:sortedS (ls.map L1)=true):ls.Pairwise (· <= ·):=by
 cases ls with
 |nil=>show List.Pairwise.nil
 |cons a r=>show Ur r a h
def XR{r:Nat}(hr:r<16){ss:List Str}(hp:ss.Perm (((jT r).take 8).map L1))(hs:sortedS ss=true):ss=(o9 r).map L1:=by
 obtain⟨ls,Z,rfl⟩:=OS.perm_unmap hp rfl;have M:=zfN hs;have h3:ls.Perm (o9 r):=Z.trans (List.isPerm_iff.mp (Wn r hr)).symm;rw[h3.eq_of_pairwise (λa b _ _ h h'=>Nat.le_antisymm h h') M (zeY r hr)]
def zdi(ls:List Nat):Txt.join (S []) (ls.map L1)=S (ls.map λl=>97+l):=by
 have e:ls.map L1=(ls.map λl=>[97+l]).map S:=by rw[cE];rfl
 rw[e,JJ];congr 1;clear e;induction ls with
 |nil=>rfl
 |cons a r ih=>simp[ih]
noncomputable def mJ(r:Nat):ak:=[(2^r+2^9,1)]
noncomputable def nB(r:Nat):ak:=[(2^r+2^10,1)]
noncomputable def vO:ak:=[(2^10,2)]
def w9(h0:0<=m)(Z:m<2^16)(hc:c≠0)(hb:c.natAbs<10^4):IsForm [(m,c)]/\gP [(m,c)]:=⟨⟨qt _ _,λp hp=>by rw[bH.mp hp];show hc⟩,λt ht=>by rw[bH.mp ht];show⟨⟨h0,Z,hc,nS hb tE⟩,hb⟩⟩
def Sq:∀r<9,(0<=(2:Int)^r+2^9/\(2:Int)^r+2^9<2^16)/\(0<=(2:Int)^r+2^10/\(2:Int)^r+2^10<2^16):=by decide+kernel
def zaI:∀r<9,txt (mJ r)=[97+r,106]/\txt (nB r)=[97+r,107]:=by decide+kernel
def zaR:txt vO=[50,107]:=by decide+kernel
def zax:∀r<9,eL (mJ r)=10/\eL (nB r)=11:=by decide+kernel
def Qv:eL vO=11:=by decide+kernel
def VF(h:0<=m):iS [(m,1)]:=by
 exists [(m,1)],?_,rfl;have e:bt [(m,1)] [(m,1)]=[(m,1)]:=by
  show [(Builtin.bitOr m m,(1:Int)*1)]=_;obtain⟨k,rfl⟩:∃k:Nat,m=(k:Int):=⟨m.toNat,tL⟩;rw[rA,rB];rfl
 rw[e];show xN tD
def V0:¬iS vO:=λ⟨f,hf,e⟩=>by
 have h:=hf.val (2^10);rw[e]at h;show absurd h tE
open PySem L2 OF
def br(k:Nat):ak:=(eM.take k).map λx:Nat=>((x:Int),(2:Int))
def jN(k:Nat):IsForm (br k)/\gP (br k):=by
 exists ⟨?_,λt ht=>?_⟩,λt ht=>?_
 .exact fX.mpr ((Rr.sublist (dQ _ _)).imp λh=>by simp_all)
 .obtain⟨x,_,rfl⟩:=aU.mp ht;show (2:Int)≠0;decide
 .obtain⟨x,hx,rfl⟩:=aU.mp ht
  have:=Vr x ((dQ _ _).subset hx)
  show⟨⟨by simp,by lia,by simp,by simp⟩,by simp⟩
def pZ(h:k<=696):(br k).length=k:=by unfold br;rw[ar,cZ,R4];lia
def zI(h:j<=k):(br k).take j=br j:=by unfold br;rw[<-tY,Az,gQ h]
def xA(h:IsForm f/\gP f)(s:List.Sublist g f):IsForm g/\gP g:=⟨zH h.1 s,λt ht=>h.2 t (s.subset ht)⟩
theorem Sf(a:Int)(k:Int):∀t:ak,aA (t.filter λy=>decide (y.1≠a)) k=if k=a then 0 else aA t k
 |[]=>by split<;>rfl
 |y::t=>by
  have ih:=Sf a k t;rw[zu];by_cases z:y.1=a
  .rw[ah (by simp[z]),ih];by_cases w:k=a
   .rw[aj w,aj w]
   .rw[ah w,ah w];show _=(if y.1=k then y.2 else 0)+aA t k;rw[ah (λe=>w (by rw[<-e,z])),jf]
  .rw[aj (by simp[z])];show (if y.1=k then y.2 else 0)+_=if k=a then 0 else (if y.1=k then y.2 else 0)+aA t k
   rw[ih];by_cases w:k=a
   .rw[aj w,aj w,ah (λe=>z (by rw[e,w])),jf]
   .rw[ah w,ah w]
def zfV(ht:IsForm t)(hx:x∈t):∃f,aT f (t++[(x.1,-x.2)])/\List.Sublist f t/\f.length<t.length:=by
 exists t.filter λy=>decide (y.1≠x.1),y9 (zH ht Ii) λk=>?_,Ii,?_
 .rw[Sf,gi];show _=_+((if x.1=k then -x.2 else 0)+0);by_cases z:k=x.1
  .rw[aj z,aj z.symm,z,P0 (mM ht) x hx];lia
  .rw[ah z,ah (λe=>z e.symm)];lia
 .refine Nat.lt_of_not_le λh=>?_
  have:=Ii (p:=λy:Int×Int=>decide (y.1≠x.1)) (l:=t)|>.eq_of_length_le h
  have hm:x∈t.filter λy=>decide (y.1≠x.1):=by rw[this];show hx
  simp at hm
def YI(h:List.Sublist (t++s) (br 302)):∃f,aT f (t++s.map λx=>(x.1,-x.2))/\f.length=t.length+s.length:=by
 have hn:=(mM (jN 302).1).sublist (h.map (·.1));have e:(t++s.map λx=>(x.1,-x.2)).map (·.1)=(t++s).map (·.1):=by simp
 obtain⟨f,hf,hp⟩:=FX (L:=t++s.map λx=>(x.1,-x.2)) (by rw[e];show hn) λu hu=>by
  rcases bC.mp hu with z|z
  .exact (jN 302).1.nz u (h.subset (qr _ z))
  .obtain⟨v,hv,rfl⟩:=aU.mp z
   have:=(jN 302).1.nz v (h.subset (ft _ hv))
   show -v.2≠0;lia
 show⟨f,hf,by rw[hp.length_eq,aX,ar]⟩
def Mx(hI:IsForm f)(Z:∀t∈f,0<=t.1/\t.1<16)(M:∀t∈L,0<=t.1/\t.1<16)(hc:∀k:Nat,k<16->aA f (k:Int)=aA L (k:Int)):aT f L:=y9 hI λk=>by
 by_cases z:0<=k/\k<16
 .obtain⟨j,rfl⟩:∃j:Nat,k=(j:Int):=⟨k.toNat,tL⟩;show hc j tO
 .rw[zg (λh=>z (by obtain⟨t,ht,rfl⟩:=aU.mp h;show Z t ht)),zg (λh=>z (by obtain⟨t,ht,rfl⟩:=aU.mp h;show M t ht))]
noncomputable def yF:ak:=[(1,1),(2,1),(3,-1),(4,1),(5,-1),(6,-1),(7,1),(8,1),(9,-1),(10,-1),(11,1),(12,-1),(13,1),(14,1),(15,-1)]
def Fi:IsForm yF:=⟨tE,tE⟩
def Vd:∀t∈yF,((0<=t.1/\t.1<2^4)/\t.2≠0)/\t.2.natAbs<=1:=by decide+kernel
def MB:aT yF pF.tl:=Mx Fi tE tE tE
def zep:iS yF:=⟨yF,Mx Fi tE tE tE,Y⟩
def eC:List Nat:=((eM.take 600).filter λx=>decide (x&&&32783=0)&&decide (0<x&&&(x-1))).map λx=>x+32768
def vF(k:Nat):ak:=(eC.take k).map λx:Nat=>((x:Int),(1:Int))
def Rn:22<=eC.length:=by decide+kernel
def OE:zk (eC.take 22)=true/\∀x∈eC.take 22,32768<x/\x<65536/\(x-32768)%16=0:=by decide+kernel
def US(h:k<=22):IsForm (vF k)/\gP (vF k)/\(vF k).length=k:=by
 have hs:List.Sublist (eC.take k) (eC.take 22):=by rw[show eC.take k=(eC.take 22).take k by rw[Az,gQ h]];show dQ _ _
 exists ⟨?_,λt ht=>?_⟩,λt ht=>?_,?_
 .exact fX.mpr (((BR OE.1).sublist hs).imp λh=>by simp_all)
 .obtain⟨x,_,rfl⟩:=aU.mp ht;show (1:Int)≠0;decide
 .obtain⟨x,hx,rfl⟩:=aU.mp ht
  have:=OE.2 x (hs.subset hx)
  show⟨⟨by simp,by lia,by simp,by simp⟩,by simp⟩
 .have:=Rn
  unfold vF;rw[ar,cZ];lia
def oV(k:Nat):ak:=oa 15 (vF k)
def zeC:∀k<23,19<=k->rT 15 (vF k)=[]/\(oV k).length=k/\zk ((oV k).map λt=>t.1.toNat)=true/\∀t∈oV k,((0<=t.1/\(2:Int)^4 ∣ t.1)/\t.2≠0)/\t.1<2^15/\t.2.natAbs<=1:=by decide+kernel
def zbF(Z:k<23)(M:19<=k):∃f,aT f (vw 15 yF (vF k))/\f.length=15*k/\∀t∈f,(0<=t.1/\t.1<2^16)/\t.2.natAbs<=1:=by
 obtain⟨e0,e1,e2,e3⟩:=zeC k Z M;have hn:((oV k).map (·.1)).Nodup:=by
  have:=fX.mp (BR e2)
  show fX.mpr (this.imp λh z=>tL)
 obtain⟨a1,a2,a3⟩:=Ll (l:=yF) (m:=oV k) (c:=4) (mM Fi) hn (λt ht=>(Vd t ht).1) λu hu=>(e3 u hu).1
 obtain⟨f,hf,hp⟩:=FX a1 a2;exists f,y9 hf.toIsForm λj=>?_,by rw[hp.length_eq,a3,e1];rfl,λt ht=>?_
 .show _=aA (rT 15 (vF k)++bt (oV k) yF) j;rw[hf.val,FR,e0];rfl
 .obtain⟨a,ha,b,hb,rfl⟩:=qZ (hp.mem_iff.mp ht);obtain⟨⟨⟨y1,y2⟩,_⟩,y3⟩:=Vd a ha;obtain⟨⟨⟨z1,z2⟩,_⟩,z3,z4⟩:=e3 b hb;exists ?_,?_
  .show 0<=Builtin.bitOr a.1 b.1/\Builtin.bitOr a.1 b.1<2^16;rw[uw y1 y2 z1 z2];lia
  .show (a.2*b.2).natAbs<=1;rw[wV];show jk y3 z4
noncomputable def nF(a:Int):ak:=[(0,a)]
def Na(a b:Int)(h:a*b≠0):aT (nF (a*b)) (nG 2 (nF a) (nF b)):=by
 show aT [((0:Int),a*b)] [(Builtin.bitOr 0 0,a*b)];rw[show Builtin.bitOr 0 0=0 by decide+kernel];show xN h
def Fp(h:a≠0)(hb:a.natAbs<10^1000):FB (nF a):=⟨(xN h).toIsForm,λt ht=>by rw[bH.mp ht];show⟨ik _,by simp⟩,by show 1<=300;decide,λt ht=>by rw[bH.mp ht];show hb⟩
def NL(hb:10^1000<=a.natAbs):¬iB (nF a):=λh=>by
 have:=h.2 (0,a) (by simp[nF])
 show absurd this (Pk.mpr hb)
open PySem L2 OF PyProof.Rows
def oM:1<=sizeLine:=by decide
def fK:2<=sizeLine:=by decide
def sP:3<=sizeLine:=by decide
def sl6:6<=sizeLine:=by decide
namespace Rw
def scOk(r:Rw):Bool :=
 (match (bX r.s).kind with|.function=>true|_=>false) && !(bX r.s).isCoroutine && !(bX r.s).isGenerator&&decide r.N.Nodup&&decide (r.N.take r.ps.length=r.ps)&&decide (∀x∈r.ps,(bX r.s).names.lookup x=some .local\/(bX r.s).names.lookup x=some .cell)&&decide (∀y∈(bX r.s).names,y.2≠.free)
def sc{r:Rw}(h:r.scOk=true):nM r.N r.ps (bX r.s):=by
 unfold scOk at h;simp only[iY,Fw,QZ]at h;obtain⟨⟨⟨⟨⟨⟨Z,M⟩,h3⟩,h4⟩,h5⟩,h6⟩,h7⟩:=h;exists ?_,M,h3,h4,h5,h6,h7;cases e:(bX r.s).kind with
 |function=>rfl
 |_=>rw[e]at Z;cases Z
end Rw
section
variable{P:Program}{w:World}{K:Frag}{mg:Str->Option Value}{base:Heap}{r:Rw}{C:Addr}
structure Def(K:Frag)(mg:Str->Option Value)(r:Rw):Prop where
 F:mi K r.n r.q r.s r.a r.fd
 m:mg r.n=some (.ref r.a)
 b:Binds K r.fd r.ps []
 S:nM r.N r.ps (bX r.s)
structure pW(K:Frag)(C:Addr)(r:Rw):Prop where
 F:mi K r.n r.q r.s r.a r.fd
 m:yr K C r.n r.a
 b:Binds K r.fd r.ps []
 S:nM r.N r.ps (bX r.s)
def vH(h:us.length=n+1):∃a v,us=a::v/\v.length=n:=by
 cases us with
 |nil=>cases h
 |cons a v=>exists a,v,Y,GV h
def UI{fd:FuncData}{ps:List Str}(h:∀a,bindArgs fd ⟨[a],[]⟩=pure (ps.zip [a]))(us:List Value)(hl:us.length=1):bindArgs fd ⟨us,[]⟩=pure (ps.zip us):=by
 obtain⟨a,v0,rfl,h0⟩:=vH hl;cases uc h0;show h a
def R8{fd:FuncData}{ps:List Str}(h:∀a b,bindArgs fd ⟨[a,b],[]⟩=pure (ps.zip [a,b]))(us:List Value)(hl:us.length=2):bindArgs fd ⟨us,[]⟩=pure (ps.zip us):=by
 obtain⟨a,v0,rfl,h0⟩:=vH hl;obtain⟨b,v1,rfl,Z⟩:=vH h0;cases uc Z;show h a b
def Lz{fd:FuncData}{ps:List Str}(h:∀a b c,bindArgs fd ⟨[a,b,c],[]⟩=pure (ps.zip [a,b,c]))(us:List Value)(hl:us.length=3):bindArgs fd ⟨us,[]⟩=pure (ps.zip us):=by
 obtain⟨a,v0,rfl,h0⟩:=vH hl;obtain⟨b,v1,rfl,Z⟩:=vH h0;obtain⟨c,v2,rfl,M⟩:=vH Z;cases uc M;show h a b c
def Rw.fun(l:K.lookup r.a=some (⟨.type "function",none,.func r.fd,#[]⟩))(c:PySem.W.codeIn K (.ref (r.a-1)) r.q=true)(k:PySem.W.keepIn K (.ref r.a)=true):mi K r.n r.q r.s r.a r.fd:=zbM l c k
def Def.of(X:K.In h)(G:h.Ns mainGlobals mg)(u:∀us:List Value,us.length=r.ps.length->bindArgs r.fd ⟨us,[]⟩=pure (r.ps.zip us))(a:PySem.W.nsIn K mainGlobals r.n=some (some (.ref r.a)))
  (l:K.lookup r.a=some (⟨.type "function",none,.func r.fd,#[]⟩)) (c:PySem.W.codeIn K (.ref (r.a-1)) r.q=true) (k:PySem.W.keepIn K (.ref r.a)=true) (s:r.scOk=true):Def K mg r :=
 ⟨Rw.fun l c k,Vc X G a,.all u,Rw.sc s⟩
def pW.of(u:∀us:List Value,us.length=r.ps.length->bindArgs r.fd ⟨us,[]⟩=pure (r.ps.zip us))(a:PySem.W.findIn K (.ref C) r.n=some (some (.ref r.a)))
  (l:K.lookup r.a=some (⟨.type "function",none,.func r.fd,#[]⟩)) (c:PySem.W.codeIn K (.ref (r.a-1)) r.q=true) (k:PySem.W.keepIn K (.ref r.a)=true) (s:r.scOk=true) (y:PySem.W.isFn K (.ref r.a)=true):pW K C r :=
 ⟨Rw.fun l c k,⟨a,y,k⟩,.all u,Rw.sc s⟩
def iW(xs:List Str)(ts:List Tok)(hl:xs.length=ts.length)(hs:ts.length<=sizeLine)(h:K.lookup a=some ⟨.type "tuple",none,.seq ((xs.zip ts).map λp=>.str p.1 p.2).toArray 0,#[]⟩)(H:Hp):aD K H a (xs.map V.str):=by
 show .inr ⟨_,_,_,h,Y,Y,?_,?_⟩
 .rw[eR,ar,List.length_zip,hl,AE];show hs
 .show Vals _ ((xs.zip ts).map _);clear h hs;induction xs generalizing ts with
  |nil=>show .nil
  |cons x xs ih =>
   cases ts with
   |nil=>cases hl
   |cons t ts=>show .cons ⟨_,Y⟩ (ih ts (GV hl))
abbrev Rw.Ok(r:Rw)(P:Program)(w:World)(K:Frag)(mg:Str->Option Value)(base:Heap)(k:Nat)(sp:Sp):Prop:=hV P w K mg base pz k r.a r.fd r.ps sp
abbrev Rw.OkE(r:Rw)(P:Program)(w:World)(K:Frag)(mg:Str->Option Value)(base:Heap)(k:Nat)(sp:Sp):Prop:=hV P w K mg base (gX P w) k r.a r.fd r.ps sp
def Rw.ok{k:Nat}{sp:Sp}(F:mi K r.n r.q r.s r.a r.fd)(S:nM r.N r.ps (bX r.s))
  (h:∀ vs H Q E,sp vs H Q E->vs.length=r.ps.length/\∀ (bL:Value) (A:Around) (outer:List Env) (s:Shared),bY k (A.deeper (envOfC r.q (bX r.s) s.heap.objs.size r.a bL))->(A.deeper (envOfC r.q (bX r.s) s.heap.objs.size r.a bL)).units+1<cLine->r.N.Nodup -> ∃t,dg (jh pz P w K mg base r.N r.q (bX r.s) r.a bL A outer s H E).nox (lP r.s) t/\t {nx:=λ_ O=>Q .non O,rt:=Q} (jF r.N vs) H):r.Ok P w K mg base (k+1) sp :=
 F.ok S (λvs H Q E z=>(h vs H Q E z).1) λbL A outer s H vs Q E hr z=>(h vs H Q E z).2 bL A outer s hr (Mw hr) S.nd
def Rw.okE{k:Nat}{sp:Sp}(F:mi K r.n r.q r.s r.a r.fd)(S:nM r.N r.ps (bX r.s))
  (h:∀ vs H Q E,sp vs H Q E->vs.length=r.ps.length/\∀ (bL:Value) (A:Around) (outer:List Env) (s:Shared),bY k (A.deeper (envOfC r.q (bX r.s) s.heap.objs.size r.a bL))->(A.deeper (envOfC r.q (bX r.s) s.heap.objs.size r.a bL)).units+1<cLine->r.N.Nodup -> ∃t,dg (jh (gX P w) P w K mg base r.N r.q (bX r.s) r.a bL A outer s H E) (lP r.s) t/\t {nx:=λ_ O=>Q .non O,rt:=Q} (jF r.N vs) H):r.OkE P w K mg base (k+1) sp :=
 F.okE S (λvs H Q E z=>(h vs H Q E z).1) λbL A outer s H vs Q E hr z=>(h vs H Q E z).2 bL A outer s hr (Mw hr) S.nd
theorem Def.k{k:Nat}{sp:Sp}(D:Def K mg r)
  (h:∀ vs H Q E,sp vs H Q E->vs.length=r.ps.length/\∀ (bL:Value) (A:Around) (outer:List Env) (s:Shared),bY k (A.deeper (envOfC r.q (bX r.s) s.heap.objs.size r.a bL))->(A.deeper (envOfC r.q (bX r.s) s.heap.objs.size r.a bL)).units+1<cLine->r.N.Nodup -> ∃t,dg (jh pz P w K mg base r.N r.q (bX r.s) r.a bL A outer s H E).nox (lP r.s) t/\t {nx:=λ_ O=>Q .non O,rt:=Q} (jF r.N vs) H):r.Ok P w K mg base (k+1) sp:=Rw.ok D.F D.S h
def Def.e{k:Nat}{sp:Sp}(D:Def K mg r)
  (h:∀ vs H Q E,sp vs H Q E->vs.length=r.ps.length/\∀ (bL:Value) (A:Around) (outer:List Env) (s:Shared),bY k (A.deeper (envOfC r.q (bX r.s) s.heap.objs.size r.a bL))->(A.deeper (envOfC r.q (bX r.s) s.heap.objs.size r.a bL)).units+1<cLine->r.N.Nodup -> ∃t,dg (jh (gX P w) P w K mg base r.N r.q (bX r.s) r.a bL A outer s H E) (lP r.s) t/\t {nx:=λ_ O=>Q .non O,rt:=Q} (jF r.N vs) H):r.OkE P w K mg base (k+1) sp:=Rw.okE D.F D.S h
def wl{a b:Nat}{F:Value->Around->List Env->Shared->Prop}(h:∀{c A o s},F c A o s)(e:a=b:=by rfl):a=b/\∀c A o s,F c A o s:=⟨e,λ_ _ _ _=>h⟩
end
section
variable{X:Cx}{r:Rw}{k:Nat}{sp:Sp}{e:Expr}{es:List Expr}{t:TA}{p pos:Pos}{E:XK}
def au(D:Def X.K X.mg r)(F:hV X.prog X.w X.K X.mg X.base pz k r.a r.fd r.ps sp)(hr:bY k X.A)(ha:PA X (e::es) t)(hx:r.n=x:=by rfl)(hg:Gl X x:=by rfl)(kN:(x == ("__debug__" : Str))=false:=by decide)
  (he:starEach (e::es) X.env=(false,eval e X.env)::starEach es X.env:=by rfl) (cj:(backTo pos (starEach es X.env)).any (·.1)=false:=by rfl):PE X (.Call (.Name x p) (e::es) [] pos) (AM sp [] E0 t):=by
 subst hx;show oU F hr hg D.m D.F.kp D.b .nil F8 ha kN he cj
def gu(i:Nat)(hN:X.N.Nodup)(he:PE X e te)(hi:X.N[i]?=some x:=by rfl)(hx:autoParam (oY X.env.scope x) tH._auto_1)(hs:swapsWith e (some (.Name x pos')) pos.line X.env=pure false:=by rfl)
  (hf:autoParam (X.fn x=true\/X.env.scope.names.lookup x=some .local) tF._auto_1):PS X (.Assign [.Name x pos'] e pos) (tQ te (aQ i)):=QW hN hi hx he hs hf
def bb(i:Nat)(hN:X.N.Nodup)(hi:X.N[i]?=some x:=by rfl)(hx:autoParam (oY X.env.scope x) tH._auto_1)(hf:autoParam (X.fn x=true\/X.env.scope.names.lookup x=some .local) tF._auto_1):PG X (.Name x pos) (aQ i):=Ka hN hi hx hf
def cB(r:Rw)(Z:X.env.scope=bX r.s:=by rfl)(M:X.N=r.N:=by rfl)(hk:scope.kind=.function:=by rfl)
  (fP:(scope.names.all λy=>y.2 != .cell&&(y.2 != .local || scope.names.lookup y.1 == some .local)&&(y.2 != .free || (bX r.s).names.lookup y.1 == some .cell))=true:=by decide+kernel)
  (aL:N'.length=nT+js.length:=by rfl) (hf:(js.map λj=>r.N[j]?)=(N'.drop nT).map some:=by decide+kernel) (hv:((N'.drop nT).all λx=>scope.names.lookup x == some .free)=true:=by decide+kernel):qe X scope N' nT js :=
 qe.of _ _ Z M hk fP aL hf hv
end
def nw(e:upd H p o=B)(h:H p=none):ag H B/\B p=some o:=by subst e;exists ag.upd h,ao
end My
namespace L2
open PySem PySem.Spec PyProof.Rows
section
variable{X:Cx}
def PE.to(h:PE X e t)(m:∀σ H Q,u σ H Q->t σ H Q):PE X e u:=λJ s σ H Q I q=>h J s σ H Q I (m _ _ _ q)
def bx.to(h:bx X f r)(m:∀x y H Q,u x y H Q->r x y H Q):bx X f u:=λJ s σ H x y v w Q I r1 r2 q=>h J s σ H x y v w Q I r1 r2 (m _ _ _ _ q)
def kD.to(h:kD X r)(m:∀x y H Q,u x y H Q->r x y H Q):kD X u:=λa b J s σ H x y v w Q I r1 r2 q=>h a b J s σ H x y v w Q I r1 r2 (m _ _ _ _ q)
def tV(i:Nat):TE:=λσ H Q=>match σ[i]? with|some (some v)=>Q v H|_=>False
set_option tactic.hygienic true in
def zfe:∀σ H Q,tV i σ H Q->iH i σ H Q:=λσ H Q h=>by
 unfold tV at h;split at h
 .rename_i v e;exists v,e,h
 .exact h.elim
def vI(x:V)(k:Int->Prop):Prop:=match x with|.int i=>k i|_=>False
def Vl(x:V)(k:Bool->Prop):Prop:=match x with|.bl i=>k i|_=>False
def vR(x:V)(k:Addr->Prop):Prop:=match x with|.ref i=>k i|_=>False
def sx(h:vI x k):∃i,x=.int i/\k i:=by cases x<;>first|show h.elim|exists _,Y,h
def zau(h:Vl x k):∃i,x=.bl i/\k i:=by cases x<;>first|show h.elim|exists _,Y,h
def uR(h:vR x k):∃i,x=.ref i/\k i:=by cases x<;>first|show h.elim|exists _,Y,h
def tT(t:TE):TT:=λσ H Q=>t σ H λx H1=>Vl x λc=>Q c H1
def rIc(C:Int->Int->Prop)(g:Int->Int->V):R2:=λx y H Q=>vI x λi=>vI y λj=>C i j/\Q (g i j) H
def W6(g:Int->Int->V):R2:=λx y H Q=>vI x λi=>vI y λj=>Q (g i j) H
def Ce(f:Bool->Bool):R2:=λx y H Q=>match wF x y with|true=>Q (.bl (f (decide (x=y)))) H|false=>False
inductive Ix (S:List V->Prop) (i:Int) (Q:V->Prop):Prop
 |mk {xs:List V} (v:V) (h:S xs) (e:gN xs i=some v) (k:Q v)
def Gn(K:Frag):R2:=λx y H Q=>vR x λp=>vI y λi=>Ix (ai K H p) i λv=>Q v H
def Le(K:Frag):R2:=λx y H Q=>vR x λp=>vI y λi=>Ix (aD K H p) i λv=>Q v H
def bx.c(h:bx X f (rI C g)):bx X f (rIc C g):=h.to λx y H Q q=>by
 obtain⟨i,rfl,q1⟩:=sx q;obtain⟨j,rfl,q2⟩:=sx q1;exists i,j,Y,Y,q2
theorem bx.j(h:bx X f (jO g)):bx X f (W6 g):=h.to λx y H Q q=>by
 obtain⟨i,rfl,q1⟩:=sx q;obtain⟨j,rfl,q2⟩:=sx q1;exists i,j,Y,Y,q2
def L3(h:Ce f x y H Q):wF x y=true/\Q (.bl (f (decide (x=y)))) H:=by
 unfold Ce at h;cases e:wF x y<;>rw[e]at h
 .exact h.elim
 .exists Y,h
def bO:bx X (compareOp .Eq) (Ce id):=kK.to λx y H Q q=>L3 q
def mF:bx X (compareOp .NotEq) (Ce not):=Bv.to λx y H Q q=>L3 q
def xl:kD X (Gn X.K):=Pa.to λx y H Q q=>by
 obtain⟨p,rfl,q1⟩:=uR q;obtain⟨i,rfl,v,Z,M,q2⟩:=sx q1;exists p,_,i,v,Y,Y,Z,M,q2
def xt:kD X (Le X.K):=zbk.to λx y H Q q=>by
 obtain⟨p,rfl,q1⟩:=uR q;obtain⟨i,rfl,v,Z,M,q2⟩:=sx q1;exists p,_,i,v,Y,Y,Z,M,q2
def xlK(K:Frag)(h:X.K=K):kD X (Gn K):=h ▸ xl
variable{a b:Expr}{ta tb:TE}{pos:Pos}
def cN(ho:bx X (compareOp op) r)(ha:PE X a ta)(hb:PE X b tb)(g:op≠.In:=by decide)(g2:op≠.NotIn:=by decide):PT X (.Compare a [op] [b] pos) (tT (fL r ta tb)):=by
 intro J s σ H Q I h;show CC (ax (ha J s σ H _ I h) λv s1 ⟨x,H1,I1,r1,q1⟩=>ax (hb J s1 σ H1 _ I1 q1) λu s2 ⟨y,H2,I2,r2,q2⟩ =>
  ax (ho J s2 σ H2 x y v u _ I2 r1 r2 q2) λc s3 ⟨z,H3,I3,r3,q3⟩=>?_) (B4 _ g g2)
 obtain⟨k,rfl,q3⟩:=zau q3;cases r3;show mH ⟨H3,I3,q3⟩
def pV(i:Nat)(hN:X.N[i]?=some x:=by rfl)(hv:autoParam (zL X.env.scope x) tG._auto_1)(hd:(x == ("__debug__" : Str))=false:=by decide)
  (jl:(x == ("__classdict__" : Str))=false:=by decide):PE X (.Name x pos) (tV i):=(pv i hN hv hd jl).to zfe
def xL(ha:PE X a ta)(hb:PE X b tb)(hs:autoParam (uX b) tJ._auto_1):PE X (.Subscript a b pos) (fL (Gn X.K) ta tb):=BQ xl ha hb hs
def xT(ha:PE X a ta)(hb:PE X b tb)(hs:autoParam (uX b) tJ._auto_1):PE X (.Subscript a b pos) (fL (Le X.K) ta tb):=BQ xt ha hb hs
def PG.to(h:PG X e t)(m:∀v σ H Q,u v σ H Q->t v σ H Q):PG X e u:=λJ s σ H v w Q I r q=>h J s σ H v w Q I r (m _ _ _ _ q)
def lI.to(h:lI X es t)(m:∀v σ H Q,u v σ H Q->t v σ H Q):lI X es u:=λJ s σ H v w Q I r q=>h J s σ H v w Q I r (m _ _ _ _ q)
def gTc(K:Frag)(n:Nat)(t:oG):TG:=λv σ H Q=>vR v λa=>∃xs,aD K H a xs/\xs.length=n/\t xs σ H Q
def gCc(t:TG)(u:oG):oG:=λvs σ H Q=>match vs with|v::r=>t v σ H λσ' O=>u r σ' O Q|[]=>False
def gNc:oG:=λvs σ H Q=>match vs with|[]=>Q σ H|_::_=>False
def xS(hc:X.calm=true)(h:lI X es t)
  (hn:(assignEach es X.env).length=n:=by rfl) (bp:(assignEach es X.env).findIdx? (·.1)=none:=by rfl):PG X (.Tuple es k pos) (gTc X.K n t):=(tu hc h hn bp).to λv σ H Q q=>let ⟨a,e,xs,r⟩:=uR q; ⟨a,xs,e,r⟩
def BX(Z:PG X e t)(M:lI X es u)
  (hs:(assignEach (e::es) X.env).map (·.2)=assign e X.env::(assignEach es X.env).map (·.2):=by rfl):lI X (e::es) (gCc t u):=(rf Z M hs).to λv σ H Q q=>by
 cases v with
 |nil=>show q.elim
 |cons v r=>exists v,r,Y,q
def CB:lI X [] gNc:=uT.to λv σ H Q q=>by
 cases v with
 |nil=>exists Y,q
 |cons v r=>show q.elim
def gn.to{id:String}{r u:V->List V->Hp->VK->Prop}(h:gn X id r)(m:∀x v H Q,u x v H Q->r x v H Q):gn X id u:=λJ s σ H x xs v us Q I r1 r2 q=>h J s σ H x xs v us Q I r1 r2 (m _ _ _ _ q)
inductive Ap (o:Option HO) (Q:List V->Prop):Prop
 |mk (xs:List V) (h:o=some (.lst xs)) (e:xs.length<sizeLine) (k:Q xs)
def zgJ:V->List V->Hp->VK->Prop:=λx vs H Q=>vR x λl=>match vs with|[y]=>Ap (H l) λxs=>Q .non (upd H l (.lst (xs++[y])))|_=>False
def V3:gn X "list.append" zgJ:=Sx.to λx vs H Q q=>by
 obtain⟨l,rfl,q1⟩:=uR q;cases vs with
 |nil=>show q1.elim
 |cons y r =>
  cases r with
  |nil=>obtain⟨xs,Z,M,h3⟩:=q1;exists l,xs,y,Y,Y,Z,M,h3
  |cons _ _=>show q1.elim
def cl(t:TE):TE:=λσ H Q=>∃R:VK,(∀v H,R v H->Q v H)/\t σ H R
def PE.cl(h:PE X e t):PE X e (cl t):=λJ s σ H Q I ⟨R,m,q⟩=>ax (h J s σ H R I q) λv s1 ⟨x,H1,I1,r1,q1⟩=>⟨x,H1,I1,r1,m _ _ q1⟩
def Xr(t:TE):TO:=λσ H Q=>t σ H λx H1=>vI x λi=>Q (some i) H1
def iLc(K:Frag)(tl:TE):TI:=λσ H R=>tl σ H λx H1=>vR x λa=>(∃xs,ai K H1 a xs)/\R (gq K a) H1
inductive Dg (H:Hp) (a:Addr) (y:V) (Q:V->Prop):Prop
 |mk (v:V) (h:fV H a y (some v)) (k:Q v)
def tDc(td ty:TE):TE:=λσ H Q=>td σ H λx H1=>ty σ H1 λy H2=>vR x λa=>Dg H2 a y λv=>Q v H2
def fj(h:PE X e te):PO X (some e) (Xr te):=λJ s σ H Q I q=>lD h.cl J s σ H Q I ⟨_,λv H1 z=>sx z,q⟩
def eQ(hl:PE X l tl):PI X tg l (iLc X.K tl):=λJ s σ H R I q=>rJ hl.cl J s σ H R I ⟨_,λv H1 z=>uR z,q⟩
def we(hu:X.A.units+1<cLine)(ho:PE X o td)(hi:PE X i ty)(hs:autoParam (Bg i) tJ._auto_1):PE X (.Subscript o i pos) (tDc td ty):=λJ s σ H Q I q=>XS hu ho.cl hi.cl hs J s σ H Q I ⟨λx H1=>ty σ H1 λy H2=>vR x λa=>Dg H2 a y λv=>Q v H2,λx H1 z=>⟨λy H2=>vR x λa=>Dg H2 a y λv=>Q v H2,λy H2 w=>by obtain⟨a,e,v,g,q⟩:=uR w;show⟨a,v,e,g,q⟩,z⟩,q⟩
def clT(t:TT):TT:=λσ H Q=>∃R:Bool->Hp->Prop,(∀v H,R v H->Q v H)/\t σ H R
def PT.cl(h:PT X e t):PT X e (clT t):=λJ s σ H Q I ⟨R,m,q⟩=>ax (h J s σ H R I q) λv s1 ⟨H1,I1,q1⟩=>⟨H1,I1,m _ _ q1⟩
inductive qo (b:Bool) (A B:Prop):Prop
 |t (h:b=true) (k:A)
 |f (h:b=false) (k:B)
def qo.ite{b:Bool}{A B:Prop}(h:qo b A B):if b=true then A else B:=by
 cases h with
 |t h k=>rw[aj h];show k
 |f h k=>rw[ah (by simp_all)];show k
def vN{b:Bool}{A B:Prop}(h:¬b=true)(k:B):qo b A B:=.f (Cc.mpr h) k
def vY{b:Bool}{A B:Prop}(h:b=true)(k:A):qo b A B:=.t h k
def vn{b:Bool}{A B:Prop}(k:B)(h:b=false:=by decide):qo b A B:=.f h k
def vy{b:Bool}{A B:Prop}(k:A)(h:b=true:=by decide):qo b A B:=.t h k
def v2{b:Bool}{A B:Prop}(h:b=true->A)(k:¬b=true->B):qo b A B:=by
 by_cases z:b=true
 .exact .t z (h z)
 .exact vN z (k z)
def zg7(c:TT)(t u:TS):TS:=λD σ H=>c σ H λb H1=>qo b (t D σ H1) (u D σ H1)
def cL{c:Expr}{a b:List Stmt}{tc:TT}{t u:TS}(hc:PT X c tc)(ha:dg X a t)(hb:dg X b u):PS X (.If c a b pos) (zg7 tc t u):=λJ s σ H D I q=>bD hc.cl ha hb J s σ H D I ⟨_,λb H1 z=>z.ite,q⟩
def bY.m(r:bY k A)(h:j<=k:=by decide):bY j A:=r.mono h
def uC(hr:kD X r)(ha:PE X a ta)(hb:PE X b tb)(hs:autoParam (uX b) tJ._auto_1):PE X (.Subscript a b pos) (fL r ta tb):=BQ hr ha hb hs
def xc(ha:PE X a ta)(hb:PE X b tb)(hs:autoParam (uX b) tJ._auto_1):PE X (.Subscript a b pos) (fL (VA X.K) ta tb):=BQ Pa ha hb hs
def aW(ho:bx X (compareOp op) r)(ha:PE X a ta)(hb:PE X b tb)(h:op≠.In:=by decide)(M:op≠.NotIn:=by decide):PT X (.Compare a [op] [b] pos) (Bw (fL r ta tb)):=uh ho ha hb (B4 _ h M)
def kO(ho:bx X (compareOp op) r)(ha:PE X a ta)(hb:PE X b tb)(h:op≠.In:=by decide)(M:op≠.NotIn:=by decide):PE X (.Compare a [op] [b] pos) (fL r ta tb):=Hv ho ha hb (B4 _ h M)
end
end L2
set_option hygiene false in
local macro_rules|`(tactic|and_intros)=>`(tactic|repeat' (guard_target=~(_:Prop);first|(guard_target=~PE _ _ _;first|exact eY|exact gZ|exact pV 0|exact pV 1|exact pV 2|exact pV 3|exact pV 4|exact pV 5|exact pV 6|exact pV 7|exact pV 8|exact pV 9|exact pV 10|exact pV 11|exact pV 12|refine' gD ?_ ?_ ?_|refine' gj ?_ (by rfl) T.b8 PySem.boot_len ?_|refine' fF qV PySem.F.slot_list_append PySem.F.type_list_append V3 ?_ ?_|refine' gj zek (by rfl) T.b7 jgA ?_|refine' qI qV PySem.F.slot_list_pop PySem.F.type_list_pop zbT ?_|refine' zcB ?_|refine' V2 ?_|exact T9|exact yQ|refine' zcM ?_ ?_)|(guard_target=~PA _ _ _;first|exact dC|refine' bN ?_ ?_)|(guard_target=~PS _ _ _;first|refine' sD ?_|refine' gu 0 nd ?_|refine' gu 1 nd ?_|refine' gu 2 nd ?_|refine' gu 3 nd ?_|refine' gu 4 nd ?_|refine' gu 5 nd ?_|refine' gu 6 nd ?_|refine' gu 7 nd ?_|refine' gu 8 nd ?_|refine' gu 9 nd ?_|refine' XG ?_|refine' HY sU rfl ?_ ?_ ?_)|(guard_target=~dg _ _ _;first|refine' bQ ?_|refine' aO ?_ ?_|exact yA)|refine' KN ?_|refine' JU ?_ ?_|refine' Ho ?_|refine' zf4 ?_ ?_|refine' zc2 ?_|exact JP|refine' ZZ ?_|exact MC|(guard_target=~PG _ _ _;first|exact bb 0 nd|exact bb 1 nd|exact bb 2 nd|exact bb 3 nd|exact bb 4 nd|exact bb 5 nd|exact bb 6 nd|exact bb 7 nd|refine' xS (n:=2) rfl ?_|refine' xS (n:=3) rfl ?_|refine' tu (n:=2) rfl ?_|refine' tu (n:=3) rfl ?_)|refine' SJ rfl T.am ?_|refine' BX ?_ ?_|exact CB|refine' rf ?_ ?_|exact uT|((first|guard_target=~∀_ _ _ _ _,PE _ _ _|guard_target=~∀_ _ _ _ _,PG _ _ _|guard_target=~∀_ _ _ _ _,nX _ _ _);intro _ _ _ _ _)))
local macro_rules|`(tactic|apply_mod_cast $e)=>`(tactic|first|((first|refine' $e|refine' $e ?_|refine' $e ?_ ?_|refine' $e ?_ ?_ ?_|refine' $e ?_ ?_ ?_ ?_)<;>and_intros)|(rotate_left;apply_mod_cast $e))
set_option hygiene false in
local macro_rules|`(tactic|show #[$e,*])=>`(tactic|(exists rfl,?_;intro _ _ _ _ hr hu nd;exists _,(by $[apply_mod_cast $e];*),?_;dsimp only[jh,Cx.nox]))
set_option hygiene false in
local macro_rules|`(tactic|left)=>`(tactic|((try(change let N9:=_;aE _ (aE _ (aE _ (aE _ (aE _ (aE _ (aE _ (aE _ (aE _ (aE _ (aE _ (aE _ (aE _ N9)))))))))))) _ _ _;intro N9));(try(change let N9:=_;aE _ (aE _ (aE _ (aE _ (aE _ (aE _ (aE _ (aE _ (aE _ (aE _ (aE _ (aE _ N9))))))))))) _ _ _;intro N9));(try(change let N9:=_;aE _ (aE _ (aE _ (aE _ (aE _ (aE _ (aE _ (aE _ (aE _ (aE _ (aE _ N9)))))))))) _ _ _;intro N9));(try(change let N9:=_;aE _ (aE _ (aE _ (aE _ (aE _ (aE _ (aE _ (aE _ (aE _ (aE _ N9))))))))) _ _ _;intro N9));(try(change let N9:=_;aE _ (aE _ (aE _ (aE _ (aE _ (aE _ (aE _ (aE _ (aE _ N9)))))))) _ _ _;intro N9));(try(change let N9:=_;aE _ (aE _ (aE _ (aE _ (aE _ (aE _ (aE _ (aE _ N9))))))) _ _ _;intro N9));(try(change let N9:=_;aE _ (aE _ (aE _ (aE _ (aE _ (aE _ (aE _ N9)))))) _ _ _;intro N9));(try(change let N9:=_;aE _ (aE _ (aE _ (aE _ (aE _ (aE _ N9))))) _ _ _;intro N9));(try(change let N9:=_;aE _ (aE _ (aE _ (aE _ (aE _ N9)))) _ _ _;intro N9));(try(change let N9:=_;aE _ (aE _ (aE _ (aE _ N9))) _ _ _;intro N9));(try(change let N9:=_;aE _ (aE _ (aE _ N9)) _ _ _;intro N9));(try(change let N9:=_;aE _ (aE _ N9) _ _ _;intro N9));(try(change let N9:=_;aE _ N9 _ _ _;intro N9))))
namespace My
open PySem L2 OF
noncomputable abbrev Bn:Addr:=435
noncomputable abbrev AX:Addr:=436
noncomputable abbrev A7:Addr:=437
noncomputable abbrev BD:Addr:=438
noncomputable abbrev Cn:Addr:=439
noncomputable abbrev Ca:Addr:=440
noncomputable abbrev BJ:Addr:=441
noncomputable abbrev Cj:Addr:=442
noncomputable abbrev dD:Addr:=543
noncomputable abbrev zE:Addr:=150
noncomputable abbrev gL:Addr:=313
noncomputable abbrev tM:Addr:=443
noncomputable abbrev IB:Addr:=444
noncomputable abbrev E4:Addr:=445
noncomputable abbrev F4:Addr:=446
noncomputable abbrev GC:Addr:=447
noncomputable abbrev Iq:Addr:=448
noncomputable abbrev rp:Addr:=187
noncomputable abbrev sR:Addr:=199
noncomputable abbrev dY:Addr:=211
noncomputable abbrev rO:Addr:=175
noncomputable abbrev r6:Addr:=163
noncomputable abbrev dS:Addr:=223
noncomputable abbrev uD:Addr:=314
noncomputable abbrev dr:Addr:=235
set_option genInjectivity false
structure Txt(w:World)(K:Frag)(mg:Str->Option Value):Prop where
 aZ:Def K mg A5
 a0:Def K mg Am
 aJ:pW K dD DR
 aK:Def K mg CA
 a1:Def K mg KC
 a2:Def K mg FT
 aL:Def K mg Bi
 a3:Def K mg Ft
 a4:Def K mg IE
 ae:pW K dD K2
 aM:Def K mg Aa
 an:Def K mg Fc
 au:Def K mg KA
 ak:Def K mg HM
 aN:Def K mg Dd
 a5:Def K mg Ik
 a6:Def K mg JH
 a7:Def K mg GF
 af:Def K mg KQ
 a8:Def K mg J0
 a9:Def K mg GS
 ba:Def K mg Ip
 bb:Def K mg Ak
 bc:Def K mg FU
 bd:Def K mg HH
 aO:Def K mg Ku
 av:Def K mg Je
 be:Def K mg Hd
 bf:Def K mg Ec
 bg:Def K mg FN
 aP:Def K mg Ky
 aw:Def K mg Fg
 bh:Def K mg F6
 bi:Def K mg Kk
 aQ:Def K mg KZ
 bj:Def K mg Ek
 bk:Def K mg Js
 ax:Def K mg Ei
 bl:Def K mg AI
 bm:Def K mg B6
 bn:Def K mg EE
 bo:Def K mg DX
 ah:Def K mg Ha
 ay:pW K dD GL
 az:Def K mg Cv
 bp:Def K mg Dc
 bq:Def K mg AD
 br:Def K mg Au
 bs:Def K mg FL
 bt:Def K mg Bd
 aR:Def K mg FY
 bu:Def K mg HZ
 bv:Def K mg Ci
 aS:Def K mg DO
 bw:Def K mg ET
 bx:Def K mg CP
 ai:Def K mg Hq
 bz:Def K mg GJ
 bA:Def K mg C1
 bB:Def K mg Gj
 aA:Def K mg JR
 aB:pW K dD Hc
 aC:pW K dD Ks
 aa:Def K mg Ao
 bC:Def K mg Cd
 ab:Def K mg Ed
 bD:Def K mg E1
 aT:Def K mg GX
 aE:Def K mg IV
 bE:Def K mg Cp
 bF:Def K mg Bx
 aU:Def K mg Bc
 bG:Def K mg oF
 aV:Def K mg BY
 bH:Def K mg ug
 bI:Def K mg pM
 b0:mg "Desk" = some (.ref dD)
 ac:lH K dD
 al:qS K dD "forms"
 b1:Mk K dD DR.a
 b2:mg "ValueError" = none
 aF:mg "abs" = none
 b3:mg "all" = none
 b4:mg "any" = none
 b5:mg "dict" = none
 b6:mg "enumerate" = none
 ao:mg "int" = none
 b7:mg "isinstance" = none
 b8:mg "len" = none
 b9:mg "min" = none
 am:mg "range" = none
 ca:mg "reversed" = none
 aj:mg "sorted" = none
 ap:mg "str" = none
 aW:mg "sum" = none
 aX:mg "zip" = none
 cb:mg "SMALL_LETTERS" = some (.str "abcdefghijklmnopqrstuvwxyz" 764)
 aq:mg "LETTERS" = some (.str "abcdefghijklmnop" 589)
 bJ:mg "MADE" = some (.ref tM)
 bK:∀H:Hp,aD K H IB [.str "name",.str "name"]
 bL:∀H:Hp,aD K H E4 [.str "name",.str "name"]
 bM:∀H:Hp,aD K H F4 [.str "name",.str "name"]
 bN:∀H:Hp,aD K H GC [.str "name",.str "letter",.str "bit"]
 bO:∀H:Hp,aD K H Iq [.str "name",.str "letter",.str "name"]
 aY:oB w K tM [("plus",IB),("less",E4),("times",F4),("fixed",GC),("put",Iq)]
 cc:mg "ASKED" = some (.ref Bn)
 bP:∀H:Hp,aD K H AX [.str "name"]
 bQ:∀H:Hp,aD K H A7 [.str "name",.str "number"]
 bR:∀H:Hp,aD K H BD [.str "name",.str "name"]
 bS:∀H:Hp,aD K H Cn [.str "name",.str "name",.str "divisor"]
 bT:∀H:Hp,aD K H Ca [.str "name"]
 bU:∀H:Hp,aD K H BJ [.str "name"]
 bV:∀H:Hp,aD K H Cj [.str "name"]
 bW:oB w K Bn [("show",AX),("worth",A7),("alike",BD),("rest",Cn),("least",Ca),("ways",BJ),("unknowns",Cj)]
 cd:mg "FIGURES" = some (.str "0123456789" 696)
 ce:mg "SPACED" = some (.ref uD)
 bX:∀H:Hp,aD K H uD [.str "not ",.str " and ",.str " or ",.str " xor "]
 aG:mg "JOINING" = some (.ref gL)
 ad:∀H:Hp,aD K H gL [.str "and",.str "or",.str "xor"]
 bY:mg "NoName" = some (.ref dY)
 aH:iM K dY (.ref zE::vB)=true
 cf:mg "FormError" = some (.ref zE)
 cg:iM K zE vB=true
 ar:mg "TooMany" = some (.ref dr)
 ag:iM K dr (.ref zE::vB)=true
 bZ:mg "NoYesNo" = some (.ref dS)
 aI:iM K dS (.ref zE::vB)=true
 ch:mg "NoLine" = some (.ref sR)
 ci:mg "NoForm" = some (.ref rp)
 cj:mg "NoStatement" = some (.ref r6)
 ck:mg "NoPull" = some (.ref rO)
 cl:kitOne K (.ref dY) (.ref dY)=some true
 cm:kitOne K (.ref dY) (.ref dr)=some false
 cn:kitOne K (.ref dY) (.ref dS)=some false
 co:kitOne K (.ref dY) (.ref sR)=some false
 cp:kitOne K (.ref dY) (.ref rp)=some false
 cq:kitOne K (.ref dY) (.ref r6)=some false
 cr:kitOne K (.ref dY) (.ref rO)=some false
 ct:kitOne K (.ref dY) (.type "ValueError")=some true
 cu:kitOne K (.ref dr) (.ref dY)=some false
 cv:kitOne K (.ref dr) (.ref dr)=some true
 cw:kitOne K (.ref dr) (.ref dS)=some false
 cx:kitOne K (.ref dr) (.ref sR)=some false
 cy:kitOne K (.ref dr) (.ref rp)=some false
 cz:kitOne K (.ref dr) (.ref r6)=some false
 cA:kitOne K (.ref dr) (.ref rO)=some false
 cB:kitOne K (.ref dr) (.type "ValueError")=some true
 cC:kitOne K (.ref dS) (.ref dY)=some false
 cD:kitOne K (.ref dS) (.ref dr)=some false
 cE:kitOne K (.ref dS) (.ref dS)=some true
 cF:kitOne K (.ref dS) (.ref sR)=some false
 cG:kitOne K (.ref dS) (.ref rp)=some false
 cH:kitOne K (.ref dS) (.ref r6)=some false
 cI:kitOne K (.ref dS) (.ref rO)=some false
 cJ:kitOne K (.ref dS) (.type "ValueError")=some true
 cs:K.lookup 2=some ⟨.none,none,.dict #[] 0,#[]⟩
set_option genInjectivity true
def du:PS X st (λ_ _ _=>False):=λ_ _ _ _ _ _ h=>h.elim
seal L2.PS L2.dg L2.PE L2.PT L2.PA L2.PI L2.PG L2.PW L2.PO L2.nX
section
variable{P:Program}{w:World}{K:Frag}{mg:Str->Option Value}{base:Heap}
def zfd(C:Addr):Sp:=λvs H Q _=>∃p dx:Addr,vs=[.ref p]/\H p=some (.ins C dx [])/\∀(d:Addr) (O:Hp),H d=none->cH C O p d []->(∀b o,H b=some o->b≠p->O b=some o)->Q .non O
def zfn(T:Txt w K mg):DR.Ok P w K mg base 1 (zfd dD):=by
  show Rw.ok T.aJ.F T.aJ.S ?_;rintro vs H Q E ⟨p,dx,rfl,hp,q⟩;show #[?_,YY ?_ ?_ Y,uq];left;intro d hd;have uJ:=de hp hd;exists p,dD,dx,[],Y,(by rw[aG uJ];show hp),T.ac,T.al,(by simp),?_;show q d _ hd ⟨⟨dx,ao⟩,[],by rw[aG uJ.symm,ao],.nil⟩ λb o e hb=>?_
  rw[aG hb,aG (de e hd)];show e
def zcx:Sp:=λvs H Q _=>∃w:List Nat,vs=[.str (S w)]/\(∀c∈w,c<128)/\w.length<=10000/\∀O,ag H O->Q (.bl (bI w)) O
def zc7:(["letter"]:List Str).Nodup:=by decide+kernel
def Ud(T:Txt w K mg):CA.Ok P w K mg base 1 zcx:=by
  show T.aK.k ?_;rintro vs H Q E ⟨wo,rfl,ha,hl,q⟩;show #[?_,Af,zcN rX.j rX.j ?_ ?_ ?_,oo,Hz,gj (Xs Y) (by rfl) T.b3 jhK ?_,dq (g:=(aQ 0)) ["letter"] 1 [] Y (cB CA) ?_ ?_ ?_ ?_,HD,bb 0 zc7,Hv Mp ?_ ?_ Y,eK (v:=.str "abcdefghijklmnopqrstuvwxyz") (by rfl) T.cb ⟨_,Y⟩];have hz:(S wo).length<=sizeLine:=by rw[aH];show cV tL
  exists _,Y,hz,_,Y,?_;by_cases Z:1<=wo.length
  rotate_left
  .refine aK (λy=>Z (by have:=cx y;rw[aH]at this;lia)) ⟨_,Y,aK tD ?_⟩;have e:bI wo=false:=by unfold bI;rw[bw Z];rfl
   rw[e]at q;show q H (ag.refl _)
  show bq (aR (by rw[aH];lia)) ⟨_,Y,?_⟩;by_cases M:wo.length<=8
  rotate_left
  .refine aK (λy=>M (by have:=cx y;rw[aH]at this;lia)) ?_;have e:bI wo=false:=by unfold bI;rw[bw M,Hg,yv]
   rw[e]at q;show q H (ag.refl _)
  show bq (aR (by rw[aH];lia)) ?_;have e:bI wo=(wo.map λc=>decide (97<=c/\c<123)).all id:=by unfold bI;rw[aR Z,aR M,Fh,Fh,Qq];rfl
  rw[e]at q;exists _,Y,KR ha,?_;show ZG (l:=wo) (λi ys σ G=>∃v0:Option V,σ=[v0]/\ys=((wo.take i).map λc=>decide (97<=c/\c<123)).map V.bl/\G=H)
   ⟨none,Y,Y,Y⟩ (λi ys σ G ⟨_,_,e1,_⟩=>by rw[e1];simp;clear hz hu;omega) (by assumption) ?_ ?_
  .rintro i c ys σ G hc ⟨v0,rfl,rfl,rfl⟩;have cA:wo.take (i+1)=wo.take i++[c]:=by rw[dM,hc];rfl
   unfold aQ;show tt ?_;exists _,_,Y,Y,?_;rw[zgA,zb6 c (ha c (c8 hc))];exists _,Y,?_,rfl;rw[cA,aN,aN];rfl
  .rintro ys σ G ⟨v0,rfl,rfl,rfl⟩ D hD;rw[eV];exists D,_,Y,ai.of ao,q _ (ag.upd hD)
def Kd.kn(k:Kd):Prop:=k=.name\/k=.letter
def Bm(o:Option (List Kd)):Prop:=∀ks,o=some ks->∀k∈ks,k.kn
def XC:Sp:=λvs H Q _=>∃(k:Kd) (w:List Nat),vs=[.str k.s,.str (S w)]/\(∀c∈w,c<128)/\w.length<=10000/\k.kn/\sX k w=true/\∀O,ag H O->Q (.bl true) O
def zdM(T:Txt w K mg):KC.Ok P w K mg base 2 XC:=by
  show T.a1.k ?_;rintro vs H Q E ⟨k,wo,rfl,ha,hl,hk,hb,q⟩;show #[aO ?_ (aO ?_ (aO (cL ?_ (bQ du) ?_) (bQ du))),cL,cN bO,au T.aK (Ud T) hr ?_,cL,cN bO,Af,kO bO,oo,Hz,Hv Mp ?_ ?_ Y,eK (v:=.str "abcdefghijklmnop") (by rfl) T.aq ⟨_,Y⟩,cN bO];left;rcases hk with rfl|rfl
  .refine vy ?_;show⟨wo,Y,ha,hl,λH1 s1=>by rw[show bI wo=true from hb];show q H1 s1⟩
  .refine vn ?_;show vy ?_;have jY:(decide (wo.length=1)&&wo.all λc=>decide (97<=c/\c<113))=true:=hb;rw[iY]at jY;obtain⟨c,rfl⟩:=List.length_eq_one_iff.mp (cx jY.1);exists _,Y,(by rw[aH];show cV (by clear jY;lia)),_,Y,bq (by rw[aH];show aR Y) ?_;exists _,_,Y,Y,?_;rw[qq,zgD c (ha c tS),show decide (97<=c/\c<113)=true by have:=jY.2;simpa using this];show q H (ag.refl _)
def zd0:Sp:=λvs H Q E=>∃(k:Kd) (w:List Nat),vs=[.str k.s,.str (S w)]/\(∀c∈w,c<128)/\w.length<=10000/\k.kn/\sX k w=true/\∀O,ag H O->Q (xK k w) O
def YC(T:Txt w K mg):FT.Ok P w K mg base 3 zd0:=by
  show T.a2.k ?_;rintro vs H Q E ⟨k,wo,rfl,ha,hl,hk,hb,q⟩;have pV:=@pv;show #[aO (bD ?_ (bQ du) ?_) (aO ?_ (aO ?_ (bQ du))),lR,au T.a1 (zdM T) hr ?_,bD,aW kK,bD,aW kK,fF ie EU FK Kv ?_ ?_,eK (v:=.str "abcdefghijklmnop") (by rfl) T.aq ⟨_,Y⟩];left;exists _,Y,_,Y,k,wo,Y,ha,hl,hk,hb,λH1 s1=>?_;exists _,Y,gC ?_;rcases hk with rfl|rfl
  .exists _,Y,Y,_,Y,bq tD ?_;exists _,Y,q H1 s1
  .exists _,Y,Y,_,Y,aK tD ?_;exists _,Y,Y,_,Y,bq tD ?_;exists Y,_,Y,_,_,Y,Y,?_;rw[qq];show q H1 s1
def zeH(K:Frag):Sp:=λvs H Q E=>∃(kv:V) (b:Addr) (ks:Option (List Kd)) (ws:List (List Nat)) (gO:List V),vs=[kv,.ref b]/\H b=some (.lst (ws.map λw=>V.str (S w))) /\
 Ef K kv ks/\Bm ks/\(∀w∈ws,w.length<=10000/\∀c∈w,c<128)/\ws.length<=10000/\nh ks ws=some gO/\∀O c,H c=none->O c=some (.lst gO)->ag H O->Q (.ref c) O
def NZ:(["kind","word"]:List Str).Nodup:=by decide+kernel
set_option tactic.hygienic true in
def Wc(T:Txt w K mg):Bi.Ok P w K mg base 4 (zeH K):=by
  show T.aL.k ?_;rintro vs H Q E ⟨kv,b,ks,ws,gO,rfl,hb,hk,jB,ha,hl,mz,q⟩;show #[aO (bD ?_ (bQ du) ?_) ?_,PW.pt,aW rV,aW mF,fN,fN,dq (g:=(gd K 2 (bW (aQ 0) (bW (aQ 1) gc)))) ["kind","word"] 2 [] Y (cB Bi) ?_ ?_ ?_ ?_,GW true Y T.aX ?_,bb 0 NZ,bb 1 NZ,au T.a2 (YC T) hr ?_];cases ks with
  |none=>cases mz
  |some ks =>
   obtain⟨a,rfl,ma,cm⟩:=hk;obtain⟨⟨aL,fP⟩,rfl⟩:(ks.length=ws.length/\(ks.zip ws).all (λp=>sX p.1 p.2)=true)/\(ks.zip ws).map (λp=>xK p.1 p.2)=gO:=by
    have h:(if _ then _ else _)=some gO:=mz;split at h
    .rename_i z;exists z,di h
    .cases h
   exists Y,_,Y,aK tS ?_;exists a,_,Y,.inr (cm _),b,_,Y,.inl (ai.of hb),_,Y,?_;rw[ar,ar];show aK (by simp_all) ?_;have hzl:(ks.zip ws).length=ks.length:=by simp_all
   exists a,b,Y,⟨_,cm _⟩,⟨_,ai.of hb⟩,?_;show JS true (K:=K) (a:=a) (b:=b) (xs:=ks.map λk:Kd=>V.str k.s) (ys:=ws.map λw=>V.str (S w)) (by simp_all)
    (λi zs σ G=>∃v0 v1:Option V,σ=[v0,v1]/\zs=((ks.zip ws).take i).map (λp=>xK p.1 p.2)/\ag H G)
    ⟨none,none,Y,Y,ag.refl _⟩ (by rintro i zs σ G hi ⟨_,_,_,e1,e3⟩;show⟨cm _,ai.of (e3 _ _ hb),by simp_all⟩) (by rw[ar];show dH (cJ tL)) ?_ ?_
   .rintro i x y zs σ G T' hx hy ⟨v0,v1,rfl,rfl,g2⟩ sY;rw[c9]at hx hy;obtain⟨k,qD,rfl⟩:∃k,ks[i]?=some k/\V.str k.s=x:=by simp_all
    obtain⟨wo,Pf,rfl⟩:∃wo,ws[i]?=some wo/\V.str (S wo)=y:=by simp_all
    have SR:(ks.zip ws)[i]?=some (k,wo):=by rw[List.getElem?_zip_eq_some];exists qD,Pf
    have cA:(ks.zip ws).take (i+1)=(ks.zip ws).take i++[(k,wo)]:=by rw[dM,SR];rfl
    have c1:ag G (upd G T' (.tup [V.str k.s,V.str (S wo)])):=ag.upd sY;obtain⟨a1,a2⟩:=ha wo (c8 Pf);exists T',_,Y,aD.of ao,Y,_,_,Y,_,_,Y,Y,?_;show tt ?_;exists k,wo,Y,a2,a1,jB ks Y k (c8 qD),kH.mp fP (k,wo) (c8 SR),λH2 s2=>?_;exists _,_,Y,(by rw[cA,aN];rfl),g2.trans (c1.trans s2)
   .rintro zs σ G ⟨v0,v1,rfl,rfl,g2⟩ D hD;rw[ar,<-hzl,eV];show q _ D (g2.free hD) ao (g2.trans (ag.upd hD))
def GN:("=" : Str)=S [61]:=by decide+kernel
def zaV:(":=" : Str)=S [58,61]:=by decide+kernel
def rm(w:List Nat):Prop:=Bm (c7 gY w)/\Bm (c7 jH w)
def zai(K:Frag):Sp:=λvs H Q E=>∃(n sg l:List Nat) (o:Option (List Nat)) (wo:List Nat) (gO:List V),vs=[.str (S n),.str (S sg),.str (S l)]/\(∀c∈l,c<128)/\l.length<=9000/\mE n sg l=some (o,wo,gO)/\rm wo /\
 ∀p c O,O p=some (.tup [Cr o,.str (S wo),.ref c])->O c=some (.lst gO)->ag H O->Q (.ref p) O
def YE(T:Txt w K mg):Ft.Ok P w K mg base 5 (zai K):=by
  show T.a3.k ?_;rintro vs H Q E ⟨n,sg,l,o,wo,gO,rfl,ha,hl,Vh,jB,q⟩;have pV:=@pv;show #[?_,fF ie EF He IH ?_ ?_,bD,PW.pt,aW kK,QJ,zfq hu ?_ ?_,xc,eK (v:=.ref tM) (by rfl) T.bJ Y,xc,au T.aL (Wc T) hr ?_,za0 hu ?_ ?_ (λ_ _=>rfl),eK (v:=.ref tM) (by rfl) T.bJ Y,xc,fI iK,lD];left;have gU:Txt.split (S l) (S [32])=(a8 l).map S:=by
   have:=Gg (c:=32) (lE l) (xB l)
   rwa [xJ l]at this
  have K3:(S l).length<=sizeLine:=by rw[aH];show cV tL
  have vq:Paired (IJ K) [(ofString "plus",IB),(ofString "less",E4),(ofString "times",F4),(ofString "fixed",GC),(ofString "put",Iq)] gY :=
   .cons ⟨Y,tD,T.bK⟩ (.cons ⟨Y,tD,T.bL⟩ (.cons ⟨Y,tD,T.bM⟩ (.cons ⟨Y,tD,T.bN⟩ (.cons ⟨Y,tD,T.bO⟩ .nil))))
  exists _,Y,Y,_,_,Y,Y,(by rw[qF];rfl),(by rw[aH];show gv hl tD),λW hW=>?_;rw[qF,gU];obtain⟨w0,wr,ew⟩:∃w0 wr,a8 l=w0::wr:=by
   cases e:a8 l with
   |nil=>show absurd e (lE l)
   |cons a b=>exists a,b,rfl
  have k9:=yM l;have lV:=xF l;rw[ew]at k9 lV;generalize eU:upd H W _=H1;have s1:=(nw eU hW).1;have w1:H1 W=some (.lst (((w0::wr).map S).map V.str)):=by rw[(nw eU hW).2,ew]
  have oO:mE n sg l=if sg=[61]/\(c7 gY w0).isSome=true then (nh (c7 gY w0) wr).map λvs=>(some n,w0,vs)else some (some n,sg,[.str (S l)]):=by
   unfold mE;rw[ew];rfl
  have fH:(((w0::wr).map S).map V.str)=(w0::wr).map λw=>V.str (S w):=by rw[cE];rfl
  have Hj:wr.length<=9000:=by have:=k9.1;rw[bf]at this;lia
  have last:¬(sg=[61]/\(c7 gY w0).isSome=true)->(KH (Jj (jw (iH 0) (jw (iH 1) (jw (Sd (jw (iH 2) nV)) nV))))) {nx:=λx O=>Q V.non O,rt:=Q} [some (.str (S n)),some (.str (S sg)),some (.str (S l)),some (.ref W)] H1:=λhn=>by
   rw[ah hn,Vh]at oO;cases oO;exists _,Y,_,Y,_,Y,oM,λc hc=>⟨sP,λp hp=>q p c _ ao ?_ (s1.trans ((ag.upd hc).trans (ag.upd hp)))⟩;rw[aG (λz=>by rw[z,ao]at hp;cases hp)];show ao
  exists _,Y,Y,_,Y,?_;by_cases hs:sg=[61]
  rotate_left
  .refine aK (λy=>hs (by have:=cx y;injection this with this;rw[GN]at this;show fR this)) ?_;show gC ?_;show last λz=>hs z.1
  show bq (aR (by rw[hs,GN])) ?_;exists _,Y,W,_,_,V.str (S w0),Y,Y,ai.of w1,(cf (j:=0) Y),tM,_,_,Y,T.aY,Y,_,Y,?_;rcases UX vq w0 with ⟨b,kl,hb,jb,xO⟩|⟨hb,jb⟩
  rotate_left
  .refine aK (by simp_all) ?_;show last λz=>by simp_all
  show bq (by rw[hb];rfl) ?_;have oh:sg=[61]/\(c7 gY w0).isSome=true:=⟨hs,by rw[jb];rfl⟩;rw[aj oh,jb,Vh]at oO;cases p4:nh (some kl) wr with
  |none=>rw[p4]at oO;cases oO
  |some HV =>
  rw[p4]at oO;obtain⟨Z,M,h3⟩:o=some n/\wo=w0/\gO=HV:=by simpa using oO
  subst Z h3;subst wo;exists _,Y,_,Y,W,_,_,V.str (S w0),Y,Y,ai.of w1,(cf (j:=0) Y),_,Y,W,_,_,V.str (S w0),Y,Y,ai.of w1,(cf (j:=0) Y),tM,_,_,b,Y,T.aY,Y,hb,?_;exists _,Y,_,Y,W,_,Y,ai.of w1,λV1 FQ=>?_;have ec:dy (((w0::wr).map S).map V.str) (some 1) none=wr.map λw=>V.str (S w):=by rw[fH];show MA _ _
  rw[ec];have s2:ag H1 (upd H1 V1 (.lst (wr.map λw=>V.str (S w)))):=ag.upd FQ;exists .ref b,V1,some kl,wr,_,Y,ao,xO,(λks h=>jB.1 ks (jb.trans h)),(λw hw=>⟨?_,λc hc=>?_⟩),tL,p4,λH2 c hc pX s3=>?_
  .have:=k9.2 w (cX _ hw);lia
  .exact ha c (lV w (cX _ hw) c hc)
  .exists sP,λp hp=>?_;have s4:ag H2 (upd H2 p (.tup [.str (S n),.str (S w0),.ref c])):=ag.upd hp;show q p c _ ao (s4 _ _ pX) (s1.trans (s2.trans (s3.trans s4)))
def zcD(K:Frag):Sp:=λvs H Q E=>∃(l:List Nat) (o:Option (List Nat)) (wo:List Nat) (gO:List V),vs=[.str (S l)]/\(∀c∈l,c<128)/\l.length<=9000/\dN l=some (o,wo,gO)/\rm wo /\
 ∀p c O,O p=some (.tup [Cr o,.str (S wo),.ref c])->O c=some (.lst gO)->ag H O->Q (.ref p) O
def zcy(T:Txt w K mg):IE.Ok P w K mg base 6 (zcD K):=by
  show T.a4.k ?_;rintro vs H Q E ⟨l,o,wo,gO,rfl,ha,hl,U3,jB,q⟩;show #[?_,fF ie EF He IH ?_ ?_,uM,bD,PW.pt,aW sQ.j,fN,uh zh ?_ ?_ Y,xL,lR,au T.aK (Ud T) hr.m ?_,xL,au T.a3 (YE T) hr ?_,xL,xL,fI Bf,fj,dA.j,dA.j,oo,xL,oo,xL,xL,au T.aL (Wc T) hr.m ?_,zdp hu ?_ ?_ ⟨Y,Y,Y,Y⟩,eK (v:=.ref Bn) (by rfl) T.cc Y,xL,fI iK,fj];left;have gU:Txt.split (S l) (S [32])=(a8 l).map S:=by
   have:=Gg (c:=32) (lE l) (xB l)
   rwa [xJ l]at this
  have K3:(S l).length<=sizeLine:=by rw[aH];show cV tL
  have vq:Paired (IJ K) [(ofString "show",AX),(ofString "worth",A7),(ofString "alike",BD),(ofString "rest",Cn),(ofString "least",Ca),(ofString "ways",BJ),(ofString "unknowns",Cj)] jH :=
   .cons ⟨Y,tD,T.bP⟩ (.cons ⟨Y,tD,T.bQ⟩ (.cons ⟨Y,tD,T.bR⟩ (.cons ⟨Y,tD,T.bS⟩ (.cons ⟨Y,tD,T.bT⟩ (.cons ⟨Y,tD,T.bU⟩ (.cons ⟨Y,tD,T.bV⟩ .nil))))))
  exists Y,_,_,Y,Y,(by rw[qF];rfl),(by rw[aH];show gv hl tD),λW hW=>?_;rw[qF,gU];obtain⟨w0,wr,ew⟩:∃w0 wr,a8 l=w0::wr:=by
   cases e:a8 l with
   |nil=>show absurd e (lE l)
   |cons a b=>exists a,b,rfl
  have k9:=yM l;have lV:=xF l;rw[ew]at k9 lV;generalize eU:upd H W _=H1;have s1:=(nw eU hW).1;have w1:H1 W=some (.lst (((w0::wr).map S).map V.str)):=by rw[(nw eU hW).2,ew]
  have fH:(((w0::wr).map S).map V.str)=(w0::wr).map λw=>V.str (S w):=by rw[cE];rfl
  have Hj:wr.length<=9000:=by grind
  have mx:dN l=if 2<(w0::wr).length/\((w0::wr).getD 1 []=[61]\/(w0::wr).getD 1 []=[58,61])/\bI w0=true then mE w0 ((w0::wr).getD 1 []) (l.drop (w0.length+((w0::wr).getD 1 []).length+2))else (nh (c7 jH w0) wr).map λvs=>(none,w0,vs):=by
   unfold dN;rw[ew];rfl
  have x1e:∀x:List Nat,nY (V.str (S x)) [V.str (ofString "="),V.str (ofString ":=")]=decide (x=[61]\/x=[58,61]):=λx=>by
   rw[GN,zaV];show (S [61] == S x || (S [58,61] == S x || false))=_;have e1:∀b:List Nat,(S b == S x)=decide (x=b):=λb=>by
    by_cases z:x=b
    .rw[z,aR rfl];simp
    .rw[bw z];show Cc.mpr λy=>z (fR (kR.mp y)).symm
   rw[e1,e1,U8,<-Bool.decide_or]
  exists λσ' G'=>σ'=[some (.str (S l)),some (.ref W)]/\ag H1 G'/\¬(2<(w0::wr).length/\((w0::wr).getD 1 []=[61]\/(w0::wr).getD 1 []=[58,61])/\bI w0=true),?_,?_
  .exists W,_,Y,.inl (ai.of w1),_,Y,?_;by_cases M:2<(w0::wr).length
   rotate_left
   .refine aK (λy=>M (by have:=cx y;rw[ar,ar]at this;lia)) ?_;show gC ?_;exists Y,ag.refl _,λz=>M z.1
   show bq (aR (by rw[ar,ar];lia)) ?_;obtain⟨x1,xr,rfl⟩:∃x1 xr,wr=x1::xr:=by
    cases wr with
    |nil=>simp at M
    |cons a b=>exists a,b,rfl
   exists V.str (S x1),ai.of w1,cf (j:=1) Y,fK,λtp Bz=>?_;have s2:ag H1 (upd H1 tp (.tup [V.str (ofString "="),V.str (ofString ":=")])):=ag.upd Bz;exists tp,_,Y,.inr (aD.of ao),Y,Y,_,Y,?_;rw[show (if false=true then !nY (V.str (S x1)) [V.str (ofString "="),V.str (ofString ":=")]else nY (V.str (S x1)) [V.str (ofString "="),V.str (ofString ":=")])=decide (x1=[61]\/x1=[58,61]) from x1e x1];by_cases h3:x1=[61]\/x1=[58,61]
   rotate_left
   .refine aK (λy=>h3 (cx y)) ?_;show gC ?_;exists Y,s2,λz=>h3 z.2.1
   show bq (aR h3) ?_;have a0:=k9.2 w0 tS;have a1:=k9.2 x1 tS;exists V.str (S w0),ai.of (s2 _ _ w1),cf (j:=0) Y,w0,Y,(λc hc=>ha c (lV w0 tS c hc)),tL,λH2 s3=>⟨_,Y,?_⟩;cases h4:bI w0 with
   |false =>
    show aK tD ?_;exists Y,s2.trans s3,λz=>absurd z.2.2 tD
   |true =>
    show bq Y ?_;rw[aj ⟨M,h3,h4⟩]at mx;have w2:=(s2.trans s3) _ _ w1;have S2:=s1.trans (s2.trans s3);exists V.str (S w0),ai.of w2,cf (j:=0) Y,V.str (S x1),ai.of w2,cf (j:=1) Y,V.str (S w0),ai.of w2,cf (j:=0) Y,_,Y,(by rw[aH];show cV tL),V.str (S x1),ai.of w2,cf (j:=1) Y,_,Y,(by rw[aH];show cV tL),_,Y,K3,?_;have ei:((S w0).length:Int)+((S x1).length:Int)+2=((w0.length+x1.length+2:Nat):Int):=by rw[aH,aH];lia
    rw[ei,Yj];exists w0,x1,l.drop (w0.length+x1.length+2),o,wo,gO,Y,(λc hc=>ha c (wz hc)),(by rw[mW];lia),(by rw[<-U3,mx];rfl),jB,λp c H3 hp hc s4=>q p c H3 hp hc (S2.trans s4)
  .rintro σ' G' ⟨rfl,s2,hn⟩;rw[ah hn,U3]at mx;cases p4:nh (c7 jH w0) wr with
   |none=>rw[p4]at mx;cases mx
   |some HV =>
   rw[p4]at mx;obtain⟨Z,M,h3⟩:o=none/\wo=w0/\gO=HV:=by simpa using mx
   subst Z h3;subst wo;have w2:=s2 _ _ w1;exists V.str (S w0),ai.of w2,cf (j:=0) Y,Bn,_,Y,T.bW,V.str (S w0),ai.of w2,cf (j:=0) Y,_,Y,?_;exists W,_,Y,ai.of w2,λV1 FQ=>?_;have ec:dy (((w0::wr).map S).map V.str) (some 1) none=wr.map λw=>V.str (S w):=by rw[fH];show MA _ _
   rw[ec];have s3:ag G' (upd G' V1 (.lst (wr.map λw=>V.str (S w)))):=ag.upd FQ;have S3:=s1.trans (s2.trans s3);have xO:Ef K (match mS [(ofString "show",AX),(ofString "worth",A7),(ofString "alike",BD),(ofString "rest",Cn),(ofString "least",Ca),(ofString "ways",BJ),(ofString "unknowns",Cj)] (S w0)with|some b=>V.ref b|none=>V.non) (c7 jH w0):=by
    rcases UX vq w0 with ⟨b,kl,hb,jb,xO⟩|⟨hb,jb⟩
    .rw[hb,jb];show xO
    .rw[hb,jb];rfl
   exists _,V1,c7 jH w0,wr,_,Y,ao,xO,jB.2,(λw hw=>⟨?_,λc hc=>?_⟩),tL,p4,λH2 c hc pX s4=>?_
   .have:=k9.2 w (cX _ hw);lia
   .exact ha c (lV w (cX _ hw) c hc)
   .exists sP,λp hp=>?_;have s5:ag H2 (upd H2 p (.tup [.non,.str (S w0),.ref c])):=ag.upd hp;show q p c _ ao (s5 _ _ pX) (S3.trans (s4.trans s5))
def zd4(C NN:Addr):Sp:=λvs H Q E=>∃(p d:Addr) (st:bB) (n:List Nat),vs=[.ref p,.str (S n)]/\cH C H p d st/\(∀a f,az st n=some f->aI H a f->Q (.ref a) H)/\(az st n=none->E (.ref NN) none H)
def CQ(d:Addr):([(("forms" : Str),V.ref d)]:List (Str×V)).lookup ("forms" : Str)=some (.ref d):=by simp
def oH(d:Addr){m:Str}(h:¬m = "forms"):([(("forms" : Str),V.ref d)]:List (Str×V)).lookup m=none:=by simp_all
def DF(T:Txt w K mg):K2.OkE P w K mg base 1 (zd4 dD dY):=by
  show Rw.okE T.ae.F T.ae.S ?_;rintro vs H Q E ⟨p,d,st,n,rfl,hD,q,e⟩;show #[aO ?_ (bQ (PS.nox ?_)),bD,QJ,zgT hu ?_ ?_,Jm ?_ Y,vd fZ Y (by rfl) T.bY T.aH,we hu ?_ ?_,Jm ?_ rfl];obtain⟨⟨dx,ho⟩,kvs,hd,hk⟩:=id hD;have hg:=fV.k (k:=Sum.inr (S n)) hd;exists p,_,dx,_,_,Y,ho,T.ac,T.al,CQ d,d,_,Y,hg,_,Y,?_;rcases Xo hk n with ⟨Z,M⟩|⟨a,f,Z,M,h3⟩
  .refine bq (by rw[Z];rfl) ?_;show e M
  .refine aK (by rw[Z];simp) ?_;rw[Z]at hg;exists p,_,dx,_,_,Y,ho,T.ac,T.al,CQ d,_,hg,q a f M h3
def Rk:(["members","numbers"]:List Str).Nodup:=by decide+kernel
def RI(T:Txt w K mg):Aa.Ok P w K mg base 1 zab:=by
  show T.aM.k ?_;rintro vs H Q E ⟨d,dd,rfl,hd,EJ,aL,q⟩;show #[?_,dq (g:=(aQ 0)) ["members","numbers"] 1 [0] Y (cB Aa) ?_ ?_ ?_ ?_,eQ,gj (Ba Y) (by rfl) T.aj qG ?_,bb 0 Rk,aW mF,we hu ?_ ?_,we hu ?_ ?_];exists d,_,dd.map (·.1),Y,hd,Lp dd,λe ks he dP qv=>?_;have IM:=de hd he;exists ⟨_,ai.of ao⟩,?_;have jb:ks.length<=100000:=by have:=dP.length_eq;rw[ar]at this;lia
  show jg (K:=K) (a:=e) (xs:=ks.map V.int) (λi ys σ H2=>∃(v0:Option V) (qs:List Addr),σ=[v0,some (.ref d)]/\ys=qs.map V.ref/\bj H2 qs (cS dd (ks.take i))/\H2 d=some (.dK (dd.map cR))/\H2 e=some (.lst (ks.map V.int))/\ag H H2)
   ⟨none,[],Y,Y,.nil,(by rw[aG IM];show hd),ao,ag.upd he⟩ (λi ys σ H2 hi ⟨_,qs,_,e1,e2,_,e4,_⟩=>⟨ai.of e4,by
    rw[e1,ar,e2.length]
    have:=yK dd (ks.take i)
    rw[cZ]at this;clear hi hu aL;omega⟩) (by rw[ar];show dH (cJ tL)) ?_ ?_
  .rintro i y ys σ H2 hi ⟨v0,qs,rfl,rfl,g2,g3,g4,g5⟩;obtain⟨k,qD,rfl⟩:=DP hi;have Ex:=dP.mem_iff.mp (c8 qD);obtain⟨v,hv⟩:∃v,look dd k=some v:=by
    cases e:look dd k with
    |none=>show absurd e (yB.mpr Ex)
    |some v=>exists v,rfl
   have yN:cK dd k=v:=by unfold cK;rw[hv];rfl
   have cA:ks.take (i+1)=ks.take i++[k]:=by rw[dM,qD];rfl
   have wU:∀{H3:Hp},H3 d=some (.dK (dd.map cR))->fV H3 d (.int k) (some (.int v)):=fun {H3} z=>by
    have:=fV.k (k:=Sum.inl k) z
    rw[oW,hv]at this;show this
   exists _,wU g3,_,Y,?_;by_cases hv0:v=0
   .subst hv0;show O4 Y ⟨_,qs,Y,Y,?_,g3,g4,g5⟩
    have:cS dd (ks.take (i+1))=cS dd (ks.take i):=by
     rw[cA];unfold cS;rw[iw,aN];simp[yN]
    rw[this];show g2
   .have cw:¬(V.int v=V.int 0):=λz=>hv0 (by injection z)
    rw[bw cw];show il ?_;exists _,wU g3,fK,λt ht=>?_;have s3:ag H2 (upd H2 t (.tup [.int k,.int v])):=ag.upd ht;exists _,qs++[t],Y,(by rw[aN];rfl),?_,s3 _ _ g3,s3 _ _ g4,g5.trans s3
    have:cS dd (ks.take (i+1))=cS dd (ks.take i)++[(k,v)]:=by
     rw[cA];unfold cS;rw[iw,aN];simp[yN,hv0]
    rw[this];show bj.snoc (g2.keep λb xs z=>s3 b _ z) ao
  .rintro ys σ H2 ⟨v0,qs,rfl,rfl,g2,g3,g4,g5⟩ D hD;rw[ar,eV]at g2;have s3:ag H2 (upd H2 D (.lst (qs.map V.ref))):=ag.upd hD;show q D ks _ (g5.free hD) ⟨qs,ao,g2.keep λb xs z=>s3 b _ z⟩ dP qv (g5.trans s3)
def zb5(K:Frag):Sp:=λvs H Q _=>∃(a b:Addr) (l m:ak),vs=[.ref a,.ref b]/\TL K H a l/\TL K H b m/\l.length*m.length<=100000/\(∀t∈l,∀u∈m,IntMulOk t.2 u.2) /\
 ∀(c:Addr) (f:ak) (O:Hp),H c=none->aI O c f->aT f (bt l m)->f.length<=l.length*m.length->ag H O->Q (.ref c) O
def AS(T:Txt w K mg):Fc.Ok P w K mg base 2 (zb5 K):=by
  show T.an.k ?_;rintro vs H Q E ⟨a,b,l,m,rfl,⟨ps,hS,hT⟩,⟨qs,Qw,dz⟩,aL,kC,q⟩;show #[?_,uq,eQ,eQ,yX.j,vc hu ?_ ?_ ?_ Y,dA.j,CK hu ?_ ?_ ?_ ⟨Y,Y,Y,Y⟩,gw.c,au T.aM (RI T) hr ?_];left;intro d hd;have s0:∀o,ag H (upd H d o):=λo=>ag.upd hd
  exists ⟨_,(s0 _).seq hS⟩,?_;show kP (K:=K) (a:=a) (xs:=ps.map V.ref) (λi σ H2=>∃(dd:ak) (v3 v4 v5 v6 v7:Option V),σ=[some (.ref a),some (.ref b),some (.ref d),v3,v4,v5,v6,v7]/\H2=upd H d (.dK (dd.map cR))/\DictOf dd (bt (l.take i) m))
   ⟨[],none,none,none,none,none,Y,Y,Hx⟩ (λi σ H2 _ ⟨_,_,_,_,_,_,_,e,_⟩=>by rw[e];show (s0 _).seq hS) ?_ ?_
  .rintro i y σ H2 hi ⟨dd,v3,v4,v5,v6,v7,rfl,rfl,bU⟩;obtain⟨p,dv,rfl⟩:=gM hi;obtain⟨t,bA,dk⟩:=hT.at' dv;have dZ:=(cq.mp bA).1;have cA:l.take (i+1)=l.take i++[t]:=by rw[dM,bA];rfl
   exists _,aD.of (s0 _ _ _ dk),Y,?_;exists ⟨_,(s0 _).seq Qw⟩,?_;show kP (K:=K) (a:=b) (xs:=qs.map V.ref) (λj σ H2=>∃(dd:ak) (v5 v6 v7:Option V),σ=[some (.ref a),some (.ref b),some (.ref d),some (.int t.1),some (.int t.2),v5,v6,v7]/\H2=upd H d (.dK (dd.map cR))/\DictOf dd (bt (l.take i) m++dm t (m.take j)))
    ⟨dd,v5,v6,v7,Y,Y,by rw[MR];show (gg _).symm ▸ bU⟩ (λi σ H2 _ ⟨_,_,_,_,_,e,_⟩=>by rw[e];show (s0 _).seq Qw) ?_ ?_
   .rintro j z σ H2 hj ⟨dd,v5,v6,v7,rfl,rfl,bU⟩;obtain⟨p',hpj,rfl⟩:=gM hj;obtain⟨u,uB,hu2⟩:=dz.at' hpj;have oN:=(cq.mp uB).1;have Zo:m.take (j+1)=m.take j++[u]:=by rw[dM,uB];rfl
    exists _,aD.of (s0 _ _ _ hu2),Y,?_;have pe:=bU.snoc (Builtin.bitOr t.1 u.1,t.2*u.2);rw[dG,<-YU,<-Zo]at pe;have vi:=bU.len;have h9:=vP (l.take i) m;rw[aX,Ql,h9,cZ,cZ,gQ (dH dZ),gQ (dH oN)]at vi;have yL:i*m.length+m.length<=l.length*m.length:=by rw[<-O0];show GZ _ dZ
    exists d,Y,.inl ⟨_,.inl ao⟩,_,fV.k (k:=Sum.inl (Builtin.bitOr t.1 u.1)) ao,?_;rw[oW];have eg:((look dd (Builtin.bitOr t.1 u.1)).map V.int).getD (V.int 0)=V.int (cK dd (Builtin.bitOr t.1 u.1)):=by
     unfold cK;cases look dd (Builtin.bitOr t.1 u.1)<;>rfl
    rw[eg];exists kC t (c8 bA) u (c8 uB),d,_,Y,jU.k (k:=Sum.inl (Builtin.bitOr t.1 u.1)) ao ?_,gm dd (Builtin.bitOr t.1 u.1) (cK dd (Builtin.bitOr t.1 u.1)+t.2*u.2),_,_,_,Y,?_,pe
    .rw[ar];show cJ tL
    .rw[yp,Df]
   .rintro σ H2 ⟨dd,v5,v6,v7,rfl,rfl,bU⟩;have nH:m.take (qs.map V.ref).length=m:=by rw[ar,dz.length,eV]
    rw[nH,<-X4,<-cA]at bU;exists dd,_,_,_,_,_,Y,Y,bU
  .rintro σ H2 ⟨dd,v3,v4,v5,v6,v7,rfl,rfl,bU⟩;have nH:l.take (ps.map V.ref).length=l:=by rw[ar,hT.length,eV]
   rw[nH]at bU;have vi:=bU.len;rw[vP]at vi;exists d,dd,Y,ao,bU.nd,tL,λc ks H3 hc rn dP qv s3=>?_;show q c (cS dd ks) H3 ((s0 _).free hc) rn (FV bU dP qv) ?_ ((s0 _).trans s3);have Z:=yK dd ks;have M:=dP.length_eq;rw[ar]at M;lia
def Iv(T:Txt w K mg):KA.Ok P w K mg base 2 (R0 K):=by
  show T.au.k ?_;rintro vs H Q E ⟨a,l,rfl,⟨ps,hS,hT⟩,aL,q⟩;show #[?_,uq,eQ,vc hu ?_ ?_ ?_ Y,dA.j,CK hu ?_ ?_ ?_ ⟨Y,Y,Y,Y⟩,au T.aM (RI T) hr ?_];left;intro d hd;have s0:ag H (upd H d (.dK [])):=ag.upd hd;exists ⟨_,s0.seq hS⟩,?_;show kP (K:=K) (a:=a) (xs:=ps.map V.ref) (λi σ H2=>∃(dd:ak) (v2 v3:Option V),σ=[some (.ref a),some (.ref d),v2,v3]/\H2=upd H d (.dK (dd.map cR))/\DictOf dd (l.take i))
   ⟨[],none,none,Y,Y,Hx⟩ (λi σ H2 _ ⟨_,_,_,_,e,_⟩=>by rw[e];show (ag.upd hd).seq hS) ?_ ?_
  .rintro i y σ H2 hi ⟨dd,v2,v3,rfl,rfl,bU⟩;obtain⟨p,dv,rfl⟩:=gM hi;obtain⟨t,bA,dk⟩:=hT.at' dv;have cA:l.take (i+1)=l.take i++[t]:=by rw[dM,bA];rfl
   have dZ:=(cq.mp bA).1;have vi:dd.length<=i:=a9 bU.len (by grind);have pe:=bU.snoc t;rw[<-cA]at pe;exists _,aD.of ((ag.upd hd) _ _ dk),Y,?_;exists d,Y,.inl ⟨_,.inl ao⟩,_,fV.k (k:=Sum.inl t.1) ao,?_;rw[oW];have eg:((look dd t.1).map V.int).getD (V.int 0)=V.int (cK dd t.1):=by
    unfold cK;cases look dd t.1<;>rfl
   rw[eg];exists d,_,Y,jU.k (k:=Sum.inl t.1) ao ?_,gm dd t.1 (cK dd t.1+t.2),_,_,Y,?_,pe
   .rw[ar];show cJ tL
   .rw[yp,Df]
  .rintro σ H2 ⟨dd,v2,v3,rfl,rfl,bU⟩;have nH:l.take (ps.map V.ref).length=l:=by rw[ar,hT.length,eV]
   rw[nH]at bU;exists d,dd,Y,ao,bU.nd,a9 bU.len aL,λb ks H3 hb rn dP qv s3=>?_;have hbd:b≠d:=by intro z;subst z;rw[ao]at hb;cases hb
   have hHb:H b=none:=by have:=hb;rw[aG hbd]at this;show this
   show q b (cS dd ks) H3 hHb rn (FV bU dP qv) ?_ ((ag.upd hd).trans s3);have Z:=yK dd ks;have M:=dP.length_eq;rw[ar]at M;have h3:=bU.len;lia
def zdq:Sp:=λvs H Q _=>∃(a b:Addr) (l m:ak),vs=[.ref a,.ref b]/\aI H a l/\aI H b m/\l.length+m.length<=100000 /\
 ∀(c:Addr) (f:ak) (O:Hp),H c=none->aI O c f->aT f (l++m)->f.length<=l.length+m.length->ag H O->Q (.ref c) O
def xI(T:Txt w K mg):HM.Ok P w K mg base 3 zdq:=by
  show T.ak.k ?_;rintro vs H Q E ⟨a,b,l,m,rfl,oj,qJ,aL,q⟩;show #[?_,au T.au (Iv T) hr ?_,gf];obtain⟨ps,ha,hp⟩:=id oj;obtain⟨qs,hb,hq⟩:=id qJ;have n1:=hp.length;have n2:=hq.length;exists a,b,_,_,Y,Y,ha,hb,(by rw[ar,ar];show dH (cJ tL)),λc hc=>?_;have s1:ag H (upd H c (.lst (ps.map V.ref++qs.map V.ref))):=ag.upd hc;exists c,l++m,Y,(aI.cat (a:=a) (b:=b) hp hq s1 ao).tl,(by simp_all),λd f O hd hT hF hl s2=>?_;rw[aX]at hl;show q d f O (s1.free hd) hT hF hl (s1.trans s2)
def zfs(K:Frag):Sp:=λvs H Q _=>∃(a:Addr) (l:ak) (n:Int),vs=[.ref a,.int n]/\TL K H a l/\l.length<=100000/\(∀t∈l,IntMulOk t.2 n) /\
 ∀(b:Addr) (f:ak) (O:Hp),H b=none->aI O b f->aT f (l.map λt=>(t.1,t.2*n))->f.length<=l.length->ag H O->Q (.ref b) O
def Oe:(["members","own","number"]:List Str).Nodup:=by decide+kernel
def SE(T:Txt w K mg):Dd.Ok P w K mg base 3 (zfs K):=by
  show T.aN.k ?_;rintro vs H Q E ⟨a,l,n,rfl,hT,aL,kC,q⟩;show #[?_,au T.au (Iv T) hr ?_,dq (g:=(gd K 2 (bW (aQ 0) (bW (aQ 1) gc)))) ["members","own","number"] 2 [1] Y (cB Dd) ?_ ?_ ?_ ?_,eQ,bb 0 Oe,bb 1 Oe,gw.c];exists hT.seq,?_;show zbh (λt=>(t.1,t.2*n)) hT tL [some (.int n)] Y (λt ht H2 R s2 k=>?_) λD ys H2 hD iq s1=>?_
  .exists kC t ht,fK,k
  .exists D,_,Y,iq.tl,(by simp_all),λb f O hb sY hF hl s'=>?_;rw[ar]at hl;show q b f O (s1.free hb) sY hF hl (s1.trans s')
def zfB:Sp:=λvs H Q _=>∃(a b:Addr) (l m:ak),vs=[.ref a,.ref b]/\aI H a l/\aI H b m/\l.length+m.length<=100000 /\
 ∀(c:Addr) (f:ak) (O:Hp),H c=none->aI O c f->IsForm f->(∀k,aA f k=aA l k-aA m k)->f.length<=l.length+m.length->ag H O->Q (.ref c) O
def zgt(T:Txt w K mg):Ik.Ok P w K mg base 4 zfB:=by
  show T.a5.k ?_;rintro vs H Q E ⟨a,b,l,m,rfl,oj,qJ,aL,q⟩;show #[?_,au T.ak (xI T) hr ?_,au T.aN (SE T) hr ?_,nL];exists _,Y,b,m,-1,Y,qJ.tl,tL,λt _=>sk tD tD,λd g H1 hd iq qc gh s1=>?_;exists a,d,l,g,Y,oj.keep s1,iq,tL,λc f H2 hc dz mj dO s2=>?_;show q c f H2 (s1.free hc) dz mj.toIsForm (λk=>?_) tL (s1.trans s2);rw[mj.val,gi,qc.val];have e:(m.map λt=>(t.1,t.2 * -1))=m.map λt=>(t.1,-t.2):=pO λt _=>by simp
  rw[e,DI];lia
def zf8(K:Frag):Sp:=λvs H Q _=>∃(w:Nat) (a b:Addr) (l m:ak),vs=[.str (om w),.ref a,.ref b]/\w<3/\aI H a l/\aI H b m/\FB l/\FB m /\
 ∀(c:Addr) (f:ak) (O:Hp),H c=none->aI O c f->aT f (nG w l m)->ag H O->Q (.ref c) O
def zfU(T:Txt w K mg):JH.Ok P w K mg base 5 (zf8 K):=by
  show T.a6.k ?_;rintro vs H Q E ⟨wo,a,b,l,m,rfl,hw,oj,qJ,hl,hm,q⟩;show #[?_,cL,cN bO,au T.ak (xI T) hr.m ?_,cL,cN bO,au T.a5 (zgt T) hr ?_,au T.an (AS T) hr.m ?_];left;have Z:=hl.fit.1;have M:=hm.fit.1;have h3:=hl.len2 hm;obtain rfl|rfl|rfl:wo=0\/wo=1\/wo=2:=by lia
  .refine vy ?_;exists a,b,l,m,Y,oj,qJ,tL,λc f H1 hc hT hF hl s1=>q c f H1 hc hT hF s1
  .refine vn ?_;show vy ?_;exists a,b,l,m,Y,oj,qJ,tL,λc f H1 hc hT hI hv hl s1=>?_;show q c f H1 hc hT (y9 hI λk=>?_) s1;show _=aA (l++m.map λt=>(t.1,-t.2)) k;rw[hv,gi,DI];lia
  .refine vn ?_;show vn ?_;exists a,b,l,m,Y,oj.tl,qJ.tl,tL,hl.mul hm,λc f H1 hc hT hF hl s1=>q c f H1 hc hT hF s1
def zgc:Sp:=λvs H Q E=>∃fs ls:List Nat,vs=[.str (S fs),.str (S ls)]/\(∀c∈fs,48<=c/\c<=57)/\fs.length<=1000/\(∀n:Nat,jJ fs ls=some n->Q (.int (n:Int)) H)/\(jJ fs ls=none->False)
def zet(T:Txt w K mg):GF.Ok P w K mg base 1 zgc:=by
  show T.a7.k ?_;rintro vs H Q E ⟨fs,ls,rfl,hd,aL,q,e⟩;have pV:=@pv;show #[aO ?_ (aO (bD ?_ (bQ du) ?_) ?_),bD,PW.pt,aW kK,aW Bv,PW.pt,aW kK,aW kK,uC zO,PW.pt,aW kK,aW Bv,HD,dA,gw,kr SW Y T.ao yf ?_];left;have run:∀n:Nat,digitsVal fs=n->Q (.int (n:Int)) H->aE (tQ (tC (V.int 0)) (aQ 2)) (aE (Ta (Lk (iH 0)) (aQ 3) (tQ (fL (jO λi j=>V.int (i+j)) (fL (rI IntMulOk λi j=>V.int (i*j)) (iH 2) (tC (V.int 10))) (F7 (λxs H Q=>∃x n,xs=[V.str x]/\intText? x=some n/\x.length<=640/\Q (V.int n) H) (jw (iH 3) nV))) (aQ 2))) (KH (iH 2))) {nx:=λx O=>Q V.non O,rt:=Q} [some (V.str (S (fs))),some (V.str (S (ls))),none,none] H:=by
   intro n hn hq;exists _,Y,_,Y,KR (λc hc=>by have:=hd c hc;lia),?_;show UE (l:=fs) (λi σ G=>∃v3:Option V,σ=[some (.str (S fs)),some (.str (S ls)),some (.int ((digitsVal (fs.take i):Nat):Int)),v3]/\G=H)
    ⟨none,Y,Y⟩ ?_ ?_
   .rintro i c σ G hc ⟨v3,rfl,rfl⟩;have jl:=hd c (c8 hc);obtain⟨d,rfl⟩:∃d,c=48+d:=⟨c-48,tL⟩;have cA:fs.take (i+1)=fs.take i++[48+d]:=by rw[dM,hc];rfl
    exists _,Y,_,_,Y,Y,sk tD tD,_,Y,_,_,Y,Jw d tL,(by show 1<=640;decide),_,_,Y,Y,?_;exists some (.str (S [48+d])),?_,rfl;rw[cA,NumText.digitsVal_snoc];have e:((digitsVal (fs.take i)*10+(48+d-48):Nat):Int)=((digitsVal (fs.take i):Nat):Int)*10+(d:Int):=by lia
    rw[e];rfl
   .rintro σ G ⟨v3,rfl,rfl⟩;exists _,Y,?_;rw[eV,hn];show hq
  exists _,Y,Y,_,Y,?_;by_cases Z:fs=[]
  .refine bq (aR ((pP _).mpr Z)) ?_;exists _,Y,Y,_,Y,?_;by_cases M:ls=[]
   .refine aK (by rw[aR ((pP _).mpr M)];decide) ?_;exists _,Y,Y,_,Y,bq (aR ((pP _).mpr Z)) ?_;show e (by unfold jJ;rw[ah (λz=>z.2 M),aj (.inl Z)])
   .refine bq (by rw[bw (λy=>M ((pP _).mp y))];rfl) ?_;show q 1 (by unfold jJ;rw[aj ⟨Z,M⟩])
  .refine aK (λy=>Z ((pP _).mp (cx y))) ?_;exists _,Y,Y,_,Y,aK (λy=>Z ((pP _).mp (cx y))) ?_;obtain⟨c,r,PL⟩:∃c r,fs=c::r:=by
    cases fs with
    |nil=>show absurd Y Z
    |cons c r=>exists c,r,rfl
   have hz:(S fs).length<=sizeLine:=by rw[aH];show a9 aL tD
   have jR:gN (S fs).cps.toList 0=some c:=by rw[i0,PL];show cf (j:=0) rfl
   exists _,Y,_,_,_,Y,Y,hz,jR,Y,_,Y,?_;by_cases h3:c=48
   .refine bq (aR (by rw[h3,oy];rfl)) ?_;show e (by unfold jJ;rw[ah (λz=>Z z.1),aj (.inr (.inl (by rw[PL,h3];rfl)))])
   .refine aK (λy=>h3 (by
     have:=cx y
     injection this with this
     rw[oy]at this
     have:=fR (a:=[c]) this
     simpa using this)) ?_
    have qd:¬fs.head?=some 48:=by simp_all
    exists _,Y,Y,_,Y,?_;by_cases h4:fs=[49]
    .refine bq (aR (by rw[h4,BL])) ?_;exists _,Y,Y,_,Y,?_;by_cases M:ls=[]
     .refine aK (by rw[aR ((pP _).mpr M)];decide) ?_;show run _ Y (q _ (by unfold jJ;rw[ah (λz=>Z z.1),ah (λz=>by lia)]))
     .refine bq (by rw[bw (λy=>M ((pP _).mp y))];rfl) ?_;show e (by unfold jJ;rw[ah (λz=>Z z.1),aj (.inr (.inr ⟨h4,M⟩))])
    .refine aK (λw=>h4 (by
      have:=cx w
      injection this with this
      rw[BL]at this;show fR this)) ?_
     show run _ Y (q _ (by unfold jJ;rw[ah (λz=>Z z.1),ah (λz=>by
      rcases z with z|z|z
      .exact Z z
      .exact qd z
      .exact h4 z.1)]))
def ZP:Sp:=λvs H Q _=>∃m:Nat,vs=[.int (m:Int)]/\m<=100/\Q (.int (2^m)) H
def rZ(T:Txt w K mg):KQ.Ok P w K mg base 1 ZP:=by
  show T.af.k ?_;rintro vs H Q E ⟨m,rfl,hm,q⟩;show #[?_,gw.c];left;exists (m:Int),Y,tL,tL,rY (n:=m) (λi σ H2=>∃v2:Option V,σ=[some (.int (m:Int)),some (.int (2^i)),v2]/\H2=H) ⟨none,Y,Y⟩ ?_ ?_
  .rintro i σ H2 hi ⟨v2,rfl,rfl⟩;exists sk tD tD,some (.int (0+(i:Int))),?_,rfl;rw[Int.pow_succ];rfl
  .rintro σ H2 ⟨v2,rfl,rfl⟩;show q
def zgE:Sp:=λvs H Q E=>∃l:List Nat,vs=[.str (S l)]/\(∀c∈l,c<128)/\(∀m:Nat,lL l (-1) 0=some m->Q (.int (m:Int)) H)/\(lL l (-1) 0=none->False)
def zeK(T:Txt w K mg):J0.Ok P w K mg base 2 zgE:=by
  show T.a8.k ?_;rintro vs H Q E ⟨l,rfl,ha,q,e⟩;show #[aO ?_ (aO ?_ (aO (HY sU Y ?_ ?_ (aO ?_ (aO (cL ?_ (bQ du) ?_) ?_))) ?_)),nL,HD,fF ie EU FK Kv ?_ ?_,eK (v:=.str "abcdefghijklmnop") (by rfl) T.aq ⟨_,Y⟩,cN rX.j,dA.j,au T.af (rZ T) hr ?_];left;exists _,Y,_,Y,KR ha,?_;show UE (l:=l) (λi σ G=>∃(v3 v4:Option V) (la:Int) (m:Nat),σ=[some (.str (S l)),some (.int (m:Int)),some (.int la),v3,v4] /\ -1<=la/\lL l (-1) 0=lL (l.drop i) la m/\G=H)
   ⟨none,none,-1,0,Y,tL,by simp,Y⟩ ?_ ?_
  .rintro i c σ G hc ⟨v3,v4,la,m,rfl,ox,hr,rfl⟩;have dZ:=(cq.mp hc).1;have ed:l.drop i=c::l.drop (i+1):=by
    rw[jc dZ];congr 1;show (cq.mp hc).2
   have hc128:=ha c (c8 hc);rw[ed]at hr;exists Y,_,_,Y,Y,?_;rw[qq,zgR c hc128];show v2 (λz=>?_) (λz=>?_)
   .have z':=cx z;show e (by rw[hr];unfold lL;rw[aj z'])
   .have z':¬nu c<=la:=λy=>z (aR y)
    obtain⟨k,hk⟩:∃k:Nat,nu c=(k:Int):=⟨(nu c).toNat,tL⟩;have Kr:k<16:=by
     unfold nu at hk;split at hk<;>lia
    rw[hk];exists k,Y,tL,?_;exists some (.str (S [c])),some (.int (k:Int)),(k:Int),m+2^k,?_,(by clear z' z;lia),?_,rfl
    .rw[show ((m+2^k:Nat):Int)=(m:Int)+2^k by simp];rfl
    .rw[hr]
     conv=>lhs;unfold lL
     rw[ah z',hk,iu]
  .rintro σ G ⟨v3,v4,la,m,rfl,ox,hr,rfl⟩;rw[wk]at hr;show q m hr
def zdu:Sp:=λvs H Q E=>∃sg wo:List Nat,vs=[.str (S sg),.str (S wo)]/\(∀c∈wo,c<128)/\wo.length<=1000/\(∀t,mq sg wo=some t->∀c,H c=none->Q (.ref c) (upd H c (.tup [.int t.1,.int t.2])))/\(mq sg wo=none->False)
def Xa(T:Txt w K mg):GS.Ok P w K mg base 3 zdu:=by
  show T.a9.k ?_;rintro vs H Q E ⟨A4,wo,rfl,ha,hl,q,e⟩;show #[aO (bD ?_ (bQ du) ?_) ?_,PW.pt,aW mF,aW mF,fF ie PySem.F.slot_str_lstrip PySem.F.type_str_lstrip ze4 ?_ ?_,eK (v:=.str "0123456789") (by rfl) T.cd ⟨_,Y⟩,au T.a7 (zet T) hr.m ?_,fI Bf,fj,zr.j,oo,oo,au T.a8 (zeK T) hr ?_,C9,aW bO,nL];left;have sg:∀(a:List Nat) (b:Nat),(V.str (S a)=V.str (S [b]))↔a=[b]:=λa b=>⟨λz=>by
   injection z with z
   show fR z,λz=>by rw[z]⟩
  have hZ:=XY wo;have hll':(jQ wo).length+(fm wo).length=wo.length:=by grind
  have fH:(S wo).length<=sizeLine:=by rw[aH];show a9 hl tD
  have zd:(S (fm wo)).length<=sizeLine:=by rw[aH];show a9 (show (fm wo).length<=1000 by lia) tD
  have el:Txt.lstripChars (S wo) (ofString "0123456789")=S (fm wo):=by
   rw[zfS]
   conv=>lhs;rw[hZ]
   show zeV (Ig wo) zac
  have es:Txt.slice (S wo) none (some (((S wo).length:Int)-((S (fm wo)).length:Int)))=S (jQ wo):=by
   have e1:((S wo).length:Int)-((S (fm wo)).length:Int)=((jQ wo).length:Int):=by
    rw[aH,aH];lia
   rw[e1]
   have:=zfE (a:=jQ wo) (b:=fm wo)
   rwa [<-hZ]at this
  have zP:∀c∈fm wo,c<128:=λc hc=>ha c (by rw[hZ];show ft _ hc)
  by_cases hs:A4=[43]\/A4=[45]
  .have hT:mq A4 wo=match jJ (jQ wo) (fm wo),lL (fm wo) (-1) 0 with
    |some n,some m=>some ((m:Int),if A4=[45]then -(n:Int)else (n:Int))
    |_,_=>none:=aj hs
   rcases hs with rfl|rfl
   .exists _,Y,aK (by rw[xQ,aR rfl];decide) ?_;exists Y,_,_,Y,Y,fH,?_;rw[el];exists _,Y,fH,_,Y,zd,_,Y,fH,jQ wo,fm wo,(by rw[es];rfl),Ig wo,tL,λn hn=>?_,λhn=>e (by rw[hT,hn]);exists fm wo,Y,zP,λm hm=>?_,λhm=>e (by rw[hT,hn,hm]);exists _,Y,?_;show aK (by rw[jq];show λy=>absurd ((sg _ _).mp (cx y)) tD) ?_;exists fK,λc hc=>q _ (by rw[hT,hn,hm]) c hc
   .exists _,Y,bq (by rw[xQ,bw (λy=>absurd ((sg _ _).mp y) tD)];rfl) ?_;exists _,Y,aK (by rw[jq,aR rfl];decide) ?_;exists Y,_,_,Y,Y,fH,?_;rw[el];exists _,Y,fH,_,Y,zd,_,Y,fH,jQ wo,fm wo,(by rw[es];rfl),Ig wo,tL,λn hn=>?_,λhn=>e (by rw[hT,hn]);exists fm wo,Y,zP,λm hm=>?_,λhm=>e (by rw[hT,hn,hm]);exists _,Y,?_;show bq (by rw[jq];show aR Y) ?_;exists _,Y,fK,λc hc=>q _ (by rw[hT,hn,hm]) c hc
  .exists _,Y,bq (by rw[xQ,bw (λy=>hs (.inl ((sg _ _).mp y)))];rfl) ?_;exists _,Y,bq (by rw[jq,bw (λy=>hs (.inr ((sg _ _).mp y)))];rfl) ?_;show e (by unfold mq;rw[ah hs])
def zda(K:Frag):Sp:=λvs H Q _=>∃(a:Addr) (f:ak),vs=[.ref a]/\aI H a f/\Q (.bl (ip f (-1))) H
def za7(T:Txt w K mg):Ip.Ok P w K mg base 1 (zda K):=by
  show T.ba.k ?_;rintro vs H Q E ⟨a,f,rfl,hT,q⟩;show #[?_,nL,eQ,bD,PW.pt,aW rX.j,aW bO];left;obtain⟨ps,hS,hP⟩:=id hT;have cj:=hP.length;exists _,Y,⟨_,ai.of hS⟩,?_;show kP (K:=K) (a:=a) (xs:=ps.map V.ref) (λi σ G=>∃(v2 v3:Option V) (la:Int),σ=[some (.ref a),some (.int la),v2,v3]/\ip f (-1)=ip (f.drop i) la/\G=H)
   ⟨none,none,-1,Y,by simp,Y⟩ (λi σ G _ ⟨_,_,_,_,_,e⟩=>by rw[e];show ai.of hS) ?_ ?_
  .rintro i y σ G hi ⟨v2,v3,la,rfl,ox,rfl⟩;obtain⟨p,dv,rfl⟩:=gM hi;obtain⟨t,bA,dk⟩:=hP.at' dv;have ed:f.drop i=t::f.drop (i+1):=by
    rw[jc (cq.mp bA).1];congr 1;show (cq.mp bA).2
   rw[ed]at ox;exists _,aD.of dk,Y,?_;exists _,Y,md (λz=>?_) (λz=>?_)
   .have z':=cx z;have e1:ip f (-1)=false:=by rw[ox];unfold ip;rw[aj (.inl z')]
    rw[e1]at q;show il q
   .have z':¬t.1<=la:=λy=>z (aR y)
    exists _,Y,md (λz2=>?_) (λz2=>?_)
    .have y:t.2=0:=by have h:=cx z2;injection h
     have e1:ip f (-1)=false:=by rw[ox];unfold ip;rw[aj (.inr y)]
     rw[e1]at q;show q
    .have y:¬t.2=0:=λy=>z2 (aR (by rw[y]))
     exists _,_,t.1,Y,?_,rfl;rw[ox]
     conv=>lhs;unfold ip
     rw[ah (λw=>w.elim z' y)]
  .rintro σ G ⟨v2,v3,la,rfl,ox,rfl⟩;rw[ar,cj,wk]at ox;rw[ox]at q;show q
def za1:Sp:=λvs H Q E=>∃l:List Nat,vs=[.str (S l)]/\(∀c∈l,c<128)/\l.length<=8000/\(∀w∈eF l,w.length<=1000)/\(∀f,j8 l=some f->∀(c:Addr) (O:Hp),H c=none->aI O c f->ag H O->Q (.ref c) O)/\(j8 l=none->∀O,ag H O->False)
def Po:(["sign","word"]:List Str).Nodup:=by decide+kernel
def Wz(T:Txt w K mg):Ak.Ok P w K mg base 4 za1:=by
  show T.bb.k ?_;rintro vs H Q E ⟨l,rfl,ha,hl,hw,q,e⟩;show #[aO ?_ (aO ?_ (aO ?_ (aO (bD ?_ (bQ du) ?_) (aO ?_ (aO (bD ?_ (bQ du) ?_) ?_))))),bD,aW bO,fF ie EF He IH ?_ ?_,uM,bD,lR,fF ie Ls Uw zbs ?_ ?_,Hs,fI Bf,xL,fj,V9 ?_ ?_ TB,fF qV Sa SQ Vk ?_ ?_,fF qV Sa SQ Vk ?_ ?_,aW mF,fY.c,fN,yg (i:=2) (g:=(gd K 2 (bW (aQ 0) (bW (aQ 1) gc)))) ["sign","word"] 2 [] nd Y (Or.inl Y) Y (cB Ak) ?_ ?_ ?_ ?_,GW false Y T.aX ?_,A6,fj,fj,A6,fj,fj,bb 0 Po,bb 1 Po,au T.a9 (Xa T) hr ?_,lR,au T.ba (za7 T) hr.m ?_];left;exists _,Y,?_;by_cases h0:l=[48]
  .refine bq (aR (by rw[h0,oy])) ?_;exists bJ _,λc hc=>q [] (by unfold j8;rw[aj h0]) c _ hc ⟨[],ao,.nil⟩ (ag.upd hc)
  show aK (λw=>h0 (by
   have:=cx w
   injection this with this
   rw[oy]at this;show fR this)) ?_
  have gU:Txt.split (S l) (S [32])=(a8 l).map S:=by
   have:=Gg (c:=32) (lE l) (xB l)
   rwa [xJ l]at this
  exists Y,_,_,Y,Y,(by rw[qF];rfl),(by rw[aH];show gv hl tD),λW hW=>?_;rw[qF,gU];generalize eU:upd H W _=H1;obtain⟨s1,w1⟩:=nw eU hW;have k9:=yM l;have lV:=xF l;exists λσ' G'=>σ'=[some (.str (S l)),some (.ref W),none]/\G' W=some (.lst (((eF l).map S).map V.str))/\ag H G',?_,?_
  .obtain⟨w0,wr,ew⟩:∃w0 wr,a8 l=w0::wr:=by
    cases e:a8 l with
    |nil=>show absurd e (lE l)
    |cons a b=>exists a,b,rfl
   rw[ew]at w1;exists Y,_,_,Y,Y,_,Y,?_;have hwrl:((wr.map S).map V.str).length<=8001:=by rw[ar,ar];rw[ew,bf]at k9;lia
   by_cases qR:l.head?=some 45
   .refine bq (by rw[jq,RA];show aR qR) ?_;obtain⟨w',rfl⟩:=zb7 qR tD ew;have fH:(S (45::w')).length<=sizeLine:=by
     rw[aH]
     have:=k9.2 (45::w') (by rw[ew];simp)
     show a9 this (a9 hl tD)
    have esl:Txt.slice (S (45::w')) (some 1) none=S w':=QH (a:=[45]) (b:=w');exists _,ai.of w1,cf (j:=0) Y,_,Y,fH,W,_,_,0,Y,Y,w1,(by show jE (_+1) 0=some 0;unfold jE;simp),?_;exists .inl ⟨Y,_,ai.of ao⟩,W,_,0,_,Y,Y,ao,bJ _,?_,?_
    .rw[JQ];show ((wr.map S).map V.str).length+1<_;show cJ tL
    exists Y,?_,(s1.write hW).write hW;rw[ao,esl,jq];unfold eF;rw[aj qR,ew];rfl
   .refine aK (by rw[jq,RA,bw qR];decide) ?_;exists .inl ⟨Y,_,ai.of w1⟩,W,_,0,_,Y,Y,w1,bJ _,?_,?_
    .show ((wr.map S).map V.str).length+1<_;show cJ tL
    exists Y,?_,s1.write hW;rw[ao,xQ];unfold eF;rw[ah qR,ew];rfl
  .rintro σ' G' ⟨rfl,w2,s2⟩;have Hj:=Ve l;have iT:∀x,jD (eF l)=x->j8 l=match x with
     |some f=>if ip f (-1)=true then some f else none
     |none=>none:=λx hx=>by unfold j8;rw[ah h0,hx]<;>(cases x<;>rfl)
   exists W,_,Y,.inl (ai.of w2),(by simp),_,Y,?_;by_cases hev:(eF l).length%2=0
   rotate_left
   .refine bq (by
     show (!decide (V.int (((((eF l).map S).map V.str).length:Int)%2)=V.int 0))=true;rw[ar,ar,bw (λz=>by lia)];rfl) ?_
    show e (iT none (P4 hev)) G' s2
   show aK (by
    show ¬(!decide (V.int (((((eF l).map S).map V.str).length:Int)%2)=V.int 0))=true;rw[ar,ar,aR (by congr 1;lia)];decide) ?_
   obtain⟨pp,o7⟩:=R6 hev;have cj:2*pp.length=(eF l).length:=by rw[o7,zd6]
   have ev:((eF l).map S).map V.str=pp.flatMap λt:List Nat×List Nat=>[V.str (S t.1),V.str (S t.2)]:=by
    rw[o7,cE,LW];rfl
   have Jf:jD (eF l)=i9 pp:=by rw[o7];show Eh pp
   have hmem:∀t∈pp,t.2∈eF l:=λt ht=>by rw[o7];show qE.mpr ⟨t,ht,tS⟩
   rw[ev]at w2;have pB:(pp.flatMap λt:List Nat×List Nat=>[V.str (S t.1),V.str (S t.2)]).length=2*pp.length:=vQ _ _ _;exists Y,0,W,_,Y,Y,ai.of w2,bJ _,λA hA=>?_;rw[zgi (λt:List Nat×List Nat=>V.str (S t.1)) (λt=>V.str (S t.2))];have b1:ag G' (upd G' A (.lst (pp.map λt=>V.str (S t.1)))):=ag.upd hA;have gk:1<=pp.length:=by lia
   exists Y,1,W,_,Y,Y,ai.of (b1 _ _ w2),by rw[pB];lia,λB hB=>?_;rw[zez (λt:List Nat×List Nat=>V.str (S t.1)) (λt=>V.str (S t.2))];have b2:ag (upd G' A (.lst (pp.map λt=>V.str (S t.1)))) (upd (upd G' A (.lst (pp.map λt=>V.str (S t.1)))) B (.lst (pp.map λt=>V.str (S t.2)))):=ag.upd hB;have s3:=s2.trans (b1.trans b2);have wA:=b2 _ _ (ao:upd G' A (.lst (pp.map λt=>V.str (S t.1))) A=_);have wB:(upd (upd G' A (.lst (pp.map λt=>V.str (S t.1)))) B (.lst (pp.map λt=>V.str (S t.2)))) B=some (.lst (pp.map λt=>V.str (S t.2))):=ao;generalize upd (upd G' A (.lst (pp.map λt=>V.str (S t.1)))) B (.lst (pp.map λt=>V.str (S t.2)))=H2 at s3 wA wB;exists A,B,Y,⟨_,ai.of wA⟩,⟨_,ai.of wB⟩,?_;show JS false (K:=K) (a:=A) (b:=B) (xs:=pp.map λt=>V.str (S t.1)) (ys:=pp.map λt=>V.str (S t.2)) (by simp)
    (λi zs σ G=>∃(v0 v1:Option V) (qs:List Addr) (fs:ak),σ=[v0,v1]/\zs=qs.map V.ref/\bj G qs fs/\fs.length=i/\(∀rest,i9 (pp.drop i)=some rest->i9 pp=some (fs++rest))/\(i9 (pp.drop i)=none->i9 pp=none)/\G A=some (.lst (pp.map λt=>V.str (S t.1)))/\G B=some (.lst (pp.map λt=>V.str (S t.2)))/\ag H G)
    ⟨none,none,[],[],Y,Y,.nil,Y,(λrest h=>by assumption),(λh=>by assumption),wA,wB,s3⟩ (by rintro i zs σ G hi ⟨_,_,qs,fs,_,e1,e2,e5,_,_,e3,e4,_⟩;show⟨ai.of e3,ai.of e4,by rw[e1,ar,e2.length,e5];show aC _⟩) (by rw[ar];show dH (cJ (by lia))) ?_ ?_
   .rintro i x y zs σ G T' hx hy ⟨v0,v1,qs,fs,rfl,rfl,g1,g5,g6,g7,g2,g3,g4⟩ sY;rw[c9]at hx hy;obtain⟨t,ht,rfl⟩:∃t,pp[i]?=some t/\V.str (S t.1)=x:=by simp_all
    rw[ht]at hy;cases hy;have ed:pp.drop i=t::pp.drop (i+1):=by
     rw[jc (cq.mp ht).1];congr 1;show (cq.mp ht).2
    have rH:=hmem t (c8 ht);have c1:ag G (upd G T' (.tup [V.str (S t.1),V.str (S t.2)])):=ag.upd sY;exists T',_,Y,aD.of ao,Y,_,_,Y,_,_,Y,Y,?_;show tt ?_;exists t.1,t.2,Y,(λc hc=>((Hj.2.2 t.2 rH).1 c hc).elim (ha c) (λz=>by rw[z];decide)),(hw t.2 rH),λu hu c hc=>?_,λhn=>?_
    .have c2:ag (upd G T' (.tup [V.str (S t.1),V.str (S t.2)])) (upd (upd G T' (.tup [V.str (S t.1),V.str (S t.2)])) c (.tup [.int u.1,.int u.2])):=ag.upd hc;have c3:=c1.trans c2;exists _,_,qs++[c],fs++[u],Y,(by rw[aN];rfl),bj.snoc (g1.keep λb xs z=>c3 b _ z) ao,by simp_all,λrest hr=>?_,λhr=>?_,c3 _ _ g2,c3 _ _ g3,g4.trans c3
     .rw[dG];show g6 (u::rest) (by rw[ed];unfold i9;rw[hu,hr])
     .exact g7 (by rw[ed];unfold i9;rw[hu,hr])
    .exact e (iT none (by rw[Jf];show g7 (by rw[ed];unfold i9;rw[hn]))) _ (g4.trans c1)
   .rintro zs σ G ⟨v0,v1,qs,fs,rfl,rfl,g1,g5,g6,g7,g2,g3,g4⟩ D hD;rw[ar,wk]at g6;have OR:=g6 [] rfl;rw[gg]at OR;have d1:ag G (upd G D (.lst (qs.map V.ref))):=ag.upd hD;have hT:aI (upd G D (.lst (qs.map V.ref))) D fs:=⟨qs,ao,g1.keep λb xs z=>d1 b _ z⟩;have F0:=iT (some fs) (by rw[Jf];show OR);exists D,fs,Y,hT,?_;cases hi:ip fs (-1)with
    |true=>exists true,Y,gC (q fs (by rw[F0];show aj hi) D _ (g4.free hD) hT (g4.trans d1))
    |false=>exists false,Y,il (e (by rw[F0];show ah (by rw[hi];decide)) _ (g4.trans d1))
def YR(K:Frag):Sp:=λvs H Q _=>∃(l:List Nat) (k:Nat),vs=[.str (S l),.int (k:Int)]/\k<l.length/\l.length<=100000/\Q (.str (S (rk (l.drop k)))) H
def zaE(T:Txt w K mg):FU.Ok P w K mg base 1 (YR K):=by
  show T.bc.k ?_;rintro vs H Q E ⟨l,k,rfl,hk,hl,q⟩;show #[?_,zgH,eK (v:=.ref uD) (by rfl) T.ce Y,bD,lR,fF ie Ls Uw zcz ?_ ?_,uC zO];have hq:∀G:Hp,aD K G uD (nK.map λt=>V.str (S t)):=λG=>by rw[<-zah];show T.bX G
  exists uD,Y,⟨_,hq _⟩,?_;show zeQ (K:=K) (a:=uD) (xs:=nK.map λt=>V.str (S t)) (λi σ G=>∃v2:Option V,σ=[some (.str (S l)),some (.int (k:Int)),v2]/\(∀j t',j<i->nK[j]?=some t'->¬t' <+: l.drop k)/\G=H)
   ⟨none,Y,(λj t' hj _=>absurd hj (BH _)),Y⟩ (λi σ G _ _=>hq _) ?_ ?_
  .rintro i y σ G hi ⟨v2,rfl,hb,rfl⟩;rw[c9]at hi;obtain⟨t,ht,rfl⟩:∃t,nK[i]?=some t/\V.str (S t)=y:=by simp_all
   exists Y,_,_,k,Y,Y,_,Y,?_;rw[Xu l t k (dH hk)];by_cases z:t <+: l.drop k
   .refine bq (aR z) ?_;rw[XN ht hb z]at q;show q
   .refine aK (λy=>z (cx y)) ?_;exists _,Y,λj t' hj ig=>?_,rfl;rcases lj j i with w|w
    .exact hb j t' w ig
    .have:j=i:=by lia
     subst this;rw[ht]at ig;cases ig;show z
  .rintro σ G ⟨v2,rfl,hb,rfl⟩;have e:=zaj hb;obtain⟨c,hc⟩:∃c,l[k]?=some c:=⟨_,fT hk⟩;have e1:(l.drop k).take 1=[c]:=by rw[List.take_one,List.head?_drop,hc];rfl
   rw[e,e1]at q;exists _,_,c,Y,Y,by rw[aH];show dH (cJ tL),by rw[i0];show cf hc,q
def zfX(K:Frag):Sp:=λvs H Q _=>∃ts:List (List Nat),vs=[.str (S ts.flatten)]/\Cuts ts []/\ts.flatten.length<=10000/\∀(c:Addr) (O:Hp),H c=none->O c=some (.lst (ts.map λt=>V.str (S t)))->ag H O->Q (.ref c) O
def zew(T:Txt w K mg):HH.Ok P w K mg base 2 (zfX K):=by
  show T.bd.k ?_;rintro vs H Q E ⟨ts,rfl,hc,hl,q⟩;show #[?_,As sU ?_ ?_,aW oq.j,oo,au T.bc (zaE T) hr ?_,dA.j,oo];left;exists bJ _,λc DT=>?_;have s0:ag H (upd H c (.lst [])):=ag.upd DT;have hz:(S ts.flatten).length<=sizeLine:=by rw[aH];show cV tL
  exists λm σ G=>∃(i:Nat) (v3:Option V),σ=[some (.str (S ts.flatten)),some (.ref c),some (.int (((ts.take i).flatten.length:Nat):Int)),v3]/\i<=ts.length/\m=ts.length-i/\G c=some (.lst ((ts.take i).map λt=>V.str (S t)))/\ag H G,⟨ts.length,0,none,Y,bJ _,Y,ao,s0⟩,?_;rintro m σ G ⟨i,v3,rfl,hi,rfl,g1,sG⟩;exists _,Y,hz,_,Y,?_;by_cases z:i<ts.length
  .obtain⟨t,ht⟩:∃t,ts[i]?=some t:=⟨_,fT z⟩;obtain⟨tn,tf⟩:=P5 hc ht;rw[gg]at tf;have cA:ts.take (i+1)=ts.take i++[t]:=by rw[dM,ht];rfl
   have mG:(ts.take (i+1)).flatten.length=(ts.take i).flatten.length+t.length:=by simp_all
   have Bz:=Qf.mpr tn;have hle:(ts.take (i+1)).flatten.length<=ts.flatten.length:=by
    have:=congrArg (λx:List (List Nat)=>x.flatten.length) (j5 (i+1) ts)
    simp only[List.flatten_append,aX]at this;lia
   show bq (by rw[aH];show aR tL) ?_;exists λσ' G'=>∃v3:Option V,σ'=[some (.str (S ts.flatten)),some (.ref c),some (.int (((ts.take (i+1)).flatten.length:Nat):Int)),v3]/\G' c=some (.lst ((ts.take (i+1)).map λt=>V.str (S t)))/\ag H G',(by rintro σ' G' ⟨v3,e1,e2,e3⟩;exists ts.length-(i+1),tL,i+1,v3,e1,z,Y,e2,e3),?_;exists ts.flatten,(ts.take i).flatten.length,Y,tL,tL,?_;rw[OJ,tf];show⟨.inl ⟨Y,_,ai.of g1⟩,_,g1,(by
    rw[ar,cZ];have hn:=Ki hc;show cJ tL),?_⟩
   exists _,Y,(by rw[aH];show cV tL),?_;exists some (.str (S t)),?_,?_,sG.write DT
   .have e:(((ts.take (i+1)).flatten.length:Nat):Int)=(((ts.take i).flatten.length:Nat):Int)+((S t).length:Int):=by rw[mG,aH];lia
    rw[e];rfl
   .rw[ao,cA,aN];rfl
  .have cD:i=ts.length:=by lia
   subst cD;rw[eV]at g1 ⊢;show aK (by rw[aH];simp) ?_;show q c G DT g1 sG
def uQ(t:Sm)(ae:List Itm):Sm×List Itm:=match ae.getLast? with
 |some (.jn w s)=>(.two w s t,ae.dropLast)
 |_=>(t,ae)
def FG(t:Sm)(r:List Itm)(it:Itm):uQ t (r++[it])=match it with|.jn w s=>(.two w s t,r)|_=>(t,r++[it]):=by
 unfold uQ;rw[IT];cases it<;>simp
def zbt(K:Frag):Sp:=λvs H Q _=>∃(v:V) (s:Sm) (b:Addr) (ae:List Itm),vs=[v,.ref b]/\Is H v s.d/\gp H b ae/\ae.length<=10000 /\
 ∀(v':V) (O:Hp),Is O v' (uQ s ae).1.d->gp O b (uQ s ae).2->ay b H O->Q v' O
def Tw(T:Txt w K mg):Ku.Ok P w K mg base 1 (zbt K):=by
  show T.aO.k ?_;rintro vs H Q E ⟨v,s0,b,ae,rfl,hI,hB,hl,q⟩;show #[?_,bD,PW.pt,rg ?_ (λ_=>rfl),uh zh ?_ ?_ Y,xT,xL,nL,eK (v:=.ref gL) (by rfl) T.aG Y,LH];rcases Hb ae with rfl|⟨r,it,rfl⟩
  .exists false,.inl ⟨_,ai.of hB.nil,Y⟩,?_;show gC ?_;show gC ?_;show q v H hI hB (ay.refl _ _)
  .obtain⟨xs,y,hb,hp,hy⟩:=hB.last;rw[FG]at q;exists true,.inl ⟨_,ai.of hb,tS⟩,?_;show il ?_;cases it with
   |nt =>
    obtain⟨p,rfl,Z⟩:=Ag hy;exists _,Y,_,ai.of hb,pN _ _,_,aD.of Z,Y,gL,_,Y,.inr (T.ad _),Y,Y,_,Y,aK tD ?_;show q v H hI hB (ay.refl _ _)
   |op =>
    obtain⟨p,rfl,Z⟩:=CW hy;exists _,Y,_,ai.of hb,pN _ _,_,aD.of Z,Y,gL,_,Y,.inr (T.ad _),Y,Y,_,Y,aK tD ?_;show q v H hI hB (ay.refl _ _)
   |jn w s2 =>
    obtain⟨p,x,rfl,Z,M⟩:=Hh hy;exists _,Y,_,ai.of hb,pN _ _,_,aD.of Z,Y,gL,_,Y,.inr (T.ad _),Y,Y,_,Y,bq (VM w) ?_;exists .inl ⟨Y,_,ai.of hb⟩,b,_,.ref p,Y,Y,hb,tS,?_;rw[uY];have b1:ay b H (upd H b (.lst xs)):=ay.upd;exists oM,λt ht=>?_;have yS:p≠b:=λz=>by rw[z,hb]at Z;cases Z
    have gk:upd H b (.lst xs) p=some (.tup [.str (wd w),x]):=by rw[aG yS];show Z
    have b2:ag (upd H b (.lst xs)) (upd (upd H b (.lst xs)) t (.tup [v])):=ag.upd ht;exists p,t,_,_,Y,Y,aD.of (b2 _ _ gk),aD.of ao,tS,sP,(λz=>by cases z),λ_ p' fq=>?_;have b3:ag (upd (upd H b (.lst xs)) t (.tup [v])) (upd (upd (upd H b (.lst xs)) t (.tup [v])) p' (.tup ([.str (wd w),x]++[v]))):=ag.upd fq;have wM:=b1.trans (ay.of (b2.trans b3));have kt:=wM.tups hb;show q (.ref p') _ (Wd ao (bE.mpr Y) (jK kt M) (jK kt hI)) ⟨xs,(b2.trans b3) _ _ ao,qw kt hp⟩ wM
def zfT(K:Frag):Sp:=λvs H Q _=>∃(v:V) (s:Sm) (b:Addr) (ae:List Itm) (k:Nat),vs=[v,.ref b]/\Is H v s.d/\gp H b (ae++List.replicate k .nt)/\pE zJ ae/\ae.length+k<=10000 /\
 ∀(v':V) (O:Hp),Is O v' (lU k s).d->gp O b ae->ay b H O->Q v' O
def EC(T:Txt w K mg):Je.Ok P w K mg base 1 (zfT K):=by
  show T.av.k ?_;rintro vs H Q E ⟨v,s0,b,ae,kk,rfl,hI,hB,hn,hl,q⟩;show #[?_,As sU ?_ ?_,PW.pt,rg ?_ (λ_=>rfl),aW bO,xT,xL,nL,LH];exists λm σ G=>∃(v1:V) (s1:Sm) (k:Nat),σ=[some v1,some (.ref b)]/\Is G v1 s1.d/\gp G b (ae++List.replicate k .nt)/\m=k/\lU k s1=lU kk s0/\k<=kk/\ay b H G,⟨kk,v,s0,kk,Y,hI,hB,Y,Y,aC _,ay.refl _ _⟩,?_;rintro m σ G ⟨v1,s1,k,rfl,Oz,vz,rfl,e,hk,sB⟩;cases m with
  |zero =>
   rw[C5,gg]at vz;have fin:∀G',G'=G->Q v1 G':=λG' z=>by rw[z];show q v1 G (by rw[<-e];show Oz) vz sB
   rcases Hb ae with rfl|⟨r,it,rfl⟩
   .exists false,.inl ⟨_,ai.of vz.nil,Y⟩,?_;show gC ?_;show gC ?_;show fin _ rfl
   .obtain⟨xs,y,hb,hp,hy⟩:=vz.last;have cw:=hn it (IT r it);exists true,.inl ⟨_,ai.of hb,tS⟩,?_;show il ?_;cases it with
    |nt=>show absurd trivial cw
    |op =>
     obtain⟨p,rfl,Z⟩:=CW hy;exists _,Y,_,ai.of hb,pN _ _,_,aD.of Z,Y,_,Y,?_;show aK tD ?_;show fin _ rfl
    |jn w s2 =>
     obtain⟨p,x,rfl,Z,M⟩:=Hh hy;exists _,Y,_,ai.of hb,pN _ _,_,aD.of Z,Y,_,Y,?_;show aK (λz=>wZ.2.2 (by have z':=cx z;injection z')) ?_;show fin _ rfl
  |succ k =>
   rw[<-zcP]at vz;obtain⟨xs,y,hb,hp,hy⟩:=vz.last;obtain⟨p,rfl,Z⟩:=Ag hy;have aL:xs.length=ae.length+k:=by have:=eo hp;rw[aX,yd]at this;show this
   exists true,.inl ⟨_,ai.of hb,tS⟩,?_;show il ?_;exists _,Y,_,ai.of hb,pN _ _,_,aD.of Z,Y,_,Y,?_;show bq tD ?_;exists λσ' G'=>∃(v2:V) (s2:Sm),σ'=[some v2,some (.ref b)]/\Is G' v2 s2.d/\gp G' b (ae++List.replicate k .nt)/\lU k s2=lU kk s0/\ay b H G',(by rintro σ' G' ⟨v2,s2,e1,e2,e3,e4,e5⟩;exists k,B5 k,v2,s2,k,e1,e2,e3,Y,e4,tL,e5),?_;exists .inl ⟨Y,_,ai.of hb⟩,b,_,.ref p,Y,Y,hb,tS,?_;rw[uY];have b1:ay b G (upd G b (.lst xs)):=ay.upd;exists oM,λt ht=>?_;have yS:p≠b:=λz=>by simp_all
   have gk:upd G b (.lst xs) p=some (.tup [.str "not"]):=by rw[aG yS];show Z
   have b2:ag (upd G b (.lst xs)) (upd (upd G b (.lst xs)) t (.tup [v1])):=ag.upd ht;exists p,t,_,_,Y,Y,aD.of (b2 _ _ gk),aD.of ao,tS,fK,(λz=>by cases z),λ_ p' fq=>?_;have b3:ag (upd (upd G b (.lst xs)) t (.tup [v1])) (upd (upd (upd G b (.lst xs)) t (.tup [v1])) p' (.tup ([.str "not"]++[v1]))):=ag.upd fq;have wM:=b1.trans (ay.of (b2.trans b3));have kt:=wM.tups hb;exists .ref p',.no s1,Y,nO ao (bE.mpr Y) (jK kt Oz),⟨xs,(b2.trans b3) _ _ ao,qw kt hp⟩,e,sB.trans wM
def DV(H:Hp)(v:V):Option Sm->Prop
 |none=>v=.non
 |some s=>Is H v s.d
def zcC(K:Frag):Sp:=λvs H Q _=>∃(t:List Nat) (b:Addr) (ae:List Itm) (st:j0),vs=[.str (S t),.ref b]/\gp H b ae/\ae.length<=9000/\Step (none,ae) t st /\
 ∀(v':V) (O:Hp),DV O v' st.1->gp O b st.2->ay b H O->Q v' O
def WA:Txt.strip (S [110,111,116,32])=ofString "not" := by decide+kernel
def zgr:Txt.strip (S [40])=ofString "(" := by decide+kernel
def YV(T:Txt w K mg):Hd.Ok P w K mg base 2 (zcC K):=by
  show T.be.k ?_;rintro vs H Q E ⟨t,b,ae,st,rfl,hB,hl,bp,q⟩;show #[aO ?_ (aO ?_ (aO ?_ (aO (cL ?_ (bQ du) ?_) ?_))),bD,PW.pt,aW bO,aW bO,qI ie LD VG Nl ?_,bD,PW.pt,aW bO,aW bO,au T.av (EC T) hr ?_,kr SW Y T.ao yf ?_,fF ie EU FK Kv ?_ ?_,eK (v:=.str "abcdefghijklmnop") (by rfl) T.aq ⟨_,Y⟩,cN oq.j,au T.av (EC T) hr ?_];left;have nb:∀{a c:List Nat},a≠c->¬decide (V.str (S a)=V.str (S c))=true:=λh z=>h (by have:=cx z;injection this with this;show fR this)
  cases bp with
  |no ae =>
   obtain⟨xs,Z,M⟩:=hB;exists _,Y,bq (by rw[zc];show aR Y) ?_;show il ?_;exists .inl ⟨Y,_,ai.of Z⟩,Y,_,Y,Y,(by rw[aH];show 4<=sizeLine;decide),?_;rw[WA];exists oM,λt' ht=>?_;have c1:ag H (upd H t' (.tup [.str "not"])):=ag.upd ht;exists _,c1 _ _ Z,(by rw[eo M];show cJ tL),?_;have c2:ay b H (upd (upd H t' (.tup [.str "not"])) b (.lst (xs++[.ref t']))):=(ay.of c1).trans ay.upd;have kt:=c2.tups Z;have zQ:t'≠b:=λz=>by simp_all
   show q .non _ Y ⟨xs++[.ref t'],ao,lT (qw kt M) (show Is _ _ (.tup [.str "not"]) from DH (by rw[aG zQ];show ao) (bE.mpr Y))⟩ c2
  |op ae =>
   obtain⟨xs,Z,M⟩:=hB;exists _,Y,aK (by rw[zc];show nb tD) ?_;exists _,Y,?_;have e40:decide (V.str (S [40])=V.str (ofString "("))=true:=by rw[jo];show aR rfl
   rw[e40];show il ?_;exists .inl ⟨Y,_,ai.of Z⟩,Y,_,Y,Y,(by rw[aH];show 1<=sizeLine;decide),?_;rw[zgr];exists oM,λt' ht=>?_;have c1:ag H (upd H t' (.tup [.str "("])):=ag.upd ht;exists _,c1 _ _ Z,(by rw[eo M];show cJ tL),?_;have c2:ay b H (upd (upd H t' (.tup [.str "("])) b (.lst (xs++[.ref t']))):=(ay.of c1).trans ay.upd;have kt:=c2.tups Z;have zQ:t'≠b:=λz=>by simp_all
   show q .non _ Y ⟨xs++[.ref t'],ao,lT (qw kt M) (show Is _ _ (.tup [.str "("]) from DH (by rw[aG zQ];show ao) (bE.mpr Y))⟩ c2
  |bit ae k j hn hj =>
   exists _,Y,aK (by rw[zc];show nb (λz=>by simp at z)) ?_;exists _,Y,aK (by rw[jo];show nb (λz=>by simp at z;lia)) ?_;exists _,Y,aK (by rw[oy];show nb (λz=>by simp at z;lia)) ?_;exists _,Y,aK (by rw[BL];show nb (λz=>by simp at z;lia)) ?_;exists Y,_,_,Y,Y,?_;rw[qq,Uu j hj];show vN (by simp) ?_;exists fK,λt' ht=>?_;have c1:ag H (upd H t' (.tup [.str "bit",.int (j:Int)])):=ag.upd ht;exists .ref t',.bit j,b,ae,k,Y,nO ao (bE.mpr Y) (qT.mpr Y),hB.keep c1,hn,by simp at hl;lia,λv' O i' s' b'=>q v' O i' s' ((ay.of c1).trans b')
  |fix ae k c hn hc =>
   exists _,Y,aK (by rw[zc];show nb (λz=>by simp at z)) ?_;exists _,Y,aK (by rw[jo];show nb (λz=>by simp at z;lia)) ?_;rcases hc with rfl|rfl
   .exists _,Y,bq (by rw[oy];show aR Y) ?_;show il ?_;exists _,_,Y,Jw 0 tD,(by show 1<=640;decide),fK,λt' ht=>?_;have c1:ag H (upd H t' (.tup [.str "fix",.int ((0:Nat):Int)])):=ag.upd ht;exists .ref t',.fix 0,b,ae,k,Y,nO ao (bE.mpr Y) (qT.mpr Y),hB.keep c1,hn,by simp at hl;lia,λv' O i' s' b'=>q v' O i' s' ((ay.of c1).trans b')
   .exists _,Y,aK (by rw[oy];show nb tD) ?_;exists _,Y,?_;have e1:decide (V.str (S [48+(1:Int).toNat])=V.str (ofString "1"))=true:=by rw[BL];show aR rfl
    rw[e1];show il ?_;exists _,_,Y,Jw 1 tD,(by show 1<=640;decide),fK,λt' ht=>?_;have c1:ag H (upd H t' (.tup [.str "fix",.int ((1:Nat):Int)])):=ag.upd ht;exists .ref t',.fix 1,b,ae,k,Y,nO ao (bE.mpr Y) (qT.mpr Y),hB.keep c1,hn,by grind,λv' O i' s' b'=>q v' O i' s' ((ay.of c1).trans b')
def Yk{w:Nat}(h:w<3):Txt.strip (S ([32]++pH w++[32]))=wd w:=by
 rcases (show w=0\/w=1\/w=2 by lia)with rfl|rfl|rfl<;>decide+kernel
def LR:Txt.strip (S [41])=ofString ")" := by decide+kernel
def zbi(K:Frag):Sp:=λvs H Q _=>∃(t:List Nat) (v:V) (s:Sm) (b:Addr) (ae:List Itm) (st:j0),vs=[.str (S t),v,.ref b]/\Is H v s.d/\gp H b ae/\ae.length<=9000/\um (some s,ae) t st /\
 ∀(v':V) (O:Hp),DV O v' st.1->gp O b st.2->ay b H O->Q v' O
def zfi(T:Txt w K mg):Ec.Ok P w K mg base 2 (zbi K):=by
  show T.bf.k ?_;rintro vs H Q E ⟨t,v,s0,b,ae,st,rfl,hI,hB,hl,hst0,q⟩;show #[aO ?_ (aO (bD ?_ (aO (uM (bD ?_ (bQ du) ?_)) ?_) ?_) (aO (cL ?_ (bQ du) ?_) (aO ?_ (aO (bD ?_ (bQ du) ?_) ?_)))),qI ie LD VG Nl ?_,uh zh ?_ ?_ Y,eK (v:=.ref gL) (by rfl) T.aG Y,PW.pt,rg ?_ (λ_=>rfl),uh zh ?_ ?_ Y,xT,xL,nL,eK (v:=.ref gL) (by rfl) T.aG Y,cN mF,au T.aO (Tw T) hr ?_,rg ?_ (λ_=>rfl),au T.av (EC T) hr ?_];left;cases hst0 with
  |cl0 ae k t1 hn =>
   have ej:uQ s0 (ae++List.replicate k .nt++[.op])=(s0,ae++List.replicate k .nt++[.op]):=FG _ _ _;exists Y,_,Y,Y,(by rw[aH];show 1<=sizeLine;decide),?_;rw[LR];exists gL,_,Y,.inr (T.ad _),Y,Y,_,Y,aK tD ?_;show vN (by rw[OX,aR rfl];decide) ?_;exists v,s0,b,_,Y,hI,hB,by lia,λv1 H1 i1 bu b1=>?_;rw[ej]at i1 bu;obtain⟨xs,y,hb,hp,hy⟩:=bu.last;exists true,.inl ⟨_,ai.of hb,tS⟩,?_;show gC ?_;exists .inl ⟨Y,_,ai.of hb⟩,b,_,y,Y,Y,hb,tS,?_;rw[uY];have c1:ay b H1 (upd H1 b (.lst xs)):=ay.upd;have kt:=c1.tups hb;exists v1,s0,b,ae,k,Y,jK kt i1,⟨xs,ao,qw kt hp⟩,hn,by simp at hl;lia,λv' O i' s' b'=>q v' O i' s' (b1.trans (c1.trans b'))
  |of bp =>
  cases bp with
  |jn ae s1 w hn hw =>
   obtain⟨xs,Z,M⟩:=id hB;have fH:=zfg w;exists Y,_,Y,Y,(by rw[aH];show cV (by simp;lia)),?_;rw[Yk hw];exists gL,_,Y,.inr (T.ad _),Y,Y,_,Y,bq (VM w) ?_;exists λσ' G'=>σ'=[some (.str (S ([32]++pH w++[32]))),some v,some (.ref b),some (.str (wd w))]/\G'=H,?_,?_
   .rcases Hb ae with rfl|⟨r,it,rfl⟩
    .exists false,.inl ⟨_,ai.of hB.nil,Y⟩,?_;show gC ?_;show gC ?_;exists Y,rfl
    .obtain⟨xs',y,hb,hp,hy⟩:=hB.last;have cw:=hn it (IT r it);exists true,.inl ⟨_,ai.of hb,tS⟩,?_;show il ?_;cases it with
     |jn w' s'=>show absurd trivial cw
     |nt =>
      obtain⟨p,rfl,h3⟩:=Ag hy;exists _,Y,_,ai.of hb,pN _ _,_,aD.of h3,Y,gL,_,Y,.inr (T.ad _),Y,Y,_,Y,aK tD ?_;exists Y,rfl
     |op =>
      obtain⟨p,rfl,h3⟩:=CW hy;exists _,Y,_,ai.of hb,pN _ _,_,aD.of h3,Y,gL,_,Y,.inr (T.ad _),Y,Y,_,Y,aK tD ?_;exists Y,rfl
   .rintro σ' G' ⟨rfl,rfl⟩;exists .inl ⟨Y,_,ai.of Z⟩,fK,λt' ht=>?_;have c1:ag G' (upd G' t' (.tup [.str (wd w),v])):=ag.upd ht;exists _,c1 _ _ Z,(by rw[eo M];show cJ tL),?_;have c2:ay b G' (upd (upd G' t' (.tup [.str (wd w),v])) b (.lst (xs++[.ref t']))):=(ay.of c1).trans ay.upd;have kt:=c2.tups Z;have zQ:t'≠b:=λz=>by simp_all
    show q .non _ Y ⟨xs++[.ref t'],ao,lT (qw kt M) (show Is _ _ (.tup [.str (wd w),s0.d]) from nO (by rw[aG zQ];show ao) (bE.mpr Y) (jK kt hI))⟩ c2
  |cl ae k w s1 t1 hn hw =>
   have ej:uQ s0 (ae++List.replicate k .nt++[.op,.jn w s1])=(.two w s1 s0,ae++List.replicate k .nt++[.op]):=by
    have:ae++List.replicate k Itm.nt++[.op,.jn w s1]=(ae++List.replicate k Itm.nt++[.op])++[.jn w s1]:=by simp
    rw[this,FG]
   exists Y,_,Y,Y,(by rw[aH];show 1<=sizeLine;decide),?_;rw[LR];exists gL,_,Y,.inr (T.ad _),Y,Y,_,Y,aK tD ?_;show vN (by rw[OX,aR rfl];decide) ?_;exists v,s0,b,_,Y,hI,hB,by lia,λv1 H1 i1 bu b1=>?_;rw[ej]at i1 bu;obtain⟨xs,y,hb,hp,hy⟩:=bu.last;exists true,.inl ⟨_,ai.of hb,tS⟩,?_;show gC ?_;exists .inl ⟨Y,_,ai.of hb⟩,b,_,y,Y,Y,hb,tS,?_;rw[uY];have c1:ay b H1 (upd H1 b (.lst xs)):=ay.upd;have kt:=c1.tups hb;exists v1,.two w s1 s0,b,ae,k,Y,jK kt i1,⟨xs,ao,qw kt hp⟩,hn,by simp at hl;lia,λv' O i' s' b'=>q v' O i' s' (b1.trans (c1.trans b'))
def zcF(K:Frag):Sp:=λvs H Q _=>∃(ts:List (List Nat)) (s:Sm),vs=[.str (S ts.flatten)]/\Cuts ts []/\ts.flatten.length<=9000/\eZ (none,[]) ts (some s)/\∀(v':V) (O:Hp),Is O v' s.d->ag H O->Q v' O
def Xx(T:Txt w K mg):FN.Ok P w K mg base 3 (zcF K):=by
  show T.bg.k ?_;rintro vs H Q E ⟨ts,s0,rfl,hZ,hl,yC,q⟩;show #[aO ?_ (aO ?_ (aO ?_ (aO (cL ?_ (bQ du) ?_) (aO ?_ (aO (bD ?_ (bQ du) ?_) ?_))))),eQ,au T.bd (zew T) hr ?_,cL,cN rV,au T.be (YV T) hr ?_,au T.bf (zfi T) hr ?_,cN rV,au T.aO (Tw T) hr.m ?_,rg ?_ (λ_=>rfl)];left;have htn:ts.length<=9000:=by have:=Ki hZ;lia
  exists bJ _,λb hb=>?_;have s1:ag H (upd H b (.lst [])):=ag.upd hb;exists ts,Y,hZ,tL,λc H1 hc tU s2=>?_;have hJ:=s2 _ _ ao;have W7:c≠b:=λz=>by rw[z,ao]at hc;cases hc
  exists ⟨_,ai.of tU⟩,?_;show kP (K:=K) (a:=c) (xs:=ts.map λt=>V.str (S t)) (λi σ G=>∃(v:V) (v3:Option V) (st:j0),σ=[some (.str (S ts.flatten)),some (.ref b),some v,v3]/\eZ st (ts.drop i) (some s0)/\DV G v st.1/\gp G b st.2/\st.2.length<=i/\ay b H1 G)
   ⟨.non,none,(none,[]),Y,by assumption,Y,⟨[],hJ,.nil⟩,aC _,ay.refl _ _⟩ (by rintro i σ G _ ⟨_,_,_,_,_,_,_,_,e⟩;show ai.of (e _ _ W7 tU)) ?_ ?_
  .rintro i y σ G hi ⟨v,v3,⟨po,ae⟩,rfl,g0,g1,g2,g3,g4⟩;rw[c9]at hi;obtain⟨t,ht,rfl⟩:∃t,ts[i]?=some t/\V.str (S t)=y:=by simp_all
   have dZ:i<ts.length:=(cq.mp ht).1;have ed:ts.drop i=t::ts.drop (i+1):=by
    rw[jc dZ];congr 1;show (cq.mp ht).2
   rw[ed]at g0;have Gq:ae.length<=i:=g3;cases g0 with
   |@step _ af _ _ _ hs ho =>
   have jm:=Z6 hs;cases po with
   |none =>
    cases (show v=.non from g1);exists Y,vy ?_;exists t,b,ae,af,Y,g2,tL,(by cases hs with|of h=>show h),λv' G' p' s' b'=>⟨v',_,af,Y,ho,p',s',a9 jm (Wj Gq),g4.trans b'⟩
   |some s1' =>
    have hI:=g1;exists Y,vN (λz=>Pl hI (cx z)) ?_;exists t,v,s1',b,ae,af,Y,hI,g2,tL,hs,λv' G' p' s' b'=>⟨v',_,af,Y,ho,p',s',a9 jm (Wj Gq),g4.trans b'⟩
  .rintro σ G ⟨v,v3,⟨po,ae⟩,rfl,g0,g1,g2,g3,g4⟩;rw[ar,wk]at g0;rw[ar]at g3;have Gq:ae.length<=ts.length:=g3;cases po with
   |none=>cases g0
   |some ee =>
    have hI:=g1;exists Y,vN (λz=>Pl hI (cx z)) ?_;exists v,ee,b,ae,Y,hI,g2,tL,λv1 H2 i1 bu b1=>?_;have sH:=ay.same (s1.trans s2) (g4.trans b1) hb;cases g0 with
    |one s =>
     have bg:=bu;exists false,.inl ⟨_,ai.of bg.nil,Y⟩,?_;show gC ?_;show q v1 H2 i1 sH
    |two s a w =>
     have bg:=bu;exists false,.inl ⟨_,ai.of bg.nil,Y⟩,?_;show gC ?_;show q v1 H2 i1 sH
def zbu:Sp:=λvs H Q _=>∃(v:V) (s:Sm),vs=[v]/\Is H v s.d/\s.dp<=20/\∀(D:Addr) (xs:List V) (O:Hp),H D=none->O D=some (.lst xs)->d6 H xs s.pre->ag H O->Q (.ref D) O
def O8(T:Txt w K mg):Ky.Ok P w K mg base 1 zbu:=by
  show T.aP.k ?_;rintro vs H Q E ⟨v,s',rfl,hI,hdp,q⟩;show #[?_,As sU ?_ ?_,rg ?_ (λ_=>rfl),bD,PW.pt,aW bO,xT,uh zh ?_ ?_ Y,xT,eK (v:=.ref gL) (by rfl) T.aG Y,fF qV PySem.F.slot_list_extend PySem.F.type_list_extend zbW ?_ ?_,fI zbm,fj];left;exists bJ _,λD hD=>?_;exists oM,λW hW=>?_;have s0:ag H (upd H D (.lst [])):=ag.upd hD;have s1:ag (upd H D (.lst [])) (upd (upd H D (.lst [])) W (.lst [v])):=ag.upd hW;have DQ:D≠W:=λz=>by rw[<-z,ao]at hW;cases hW
  have HX:=s0.free hW;exists λm σ G=>∃(ps ws:List V) (dn td:List Sm) (v3:Option V),σ=[some v,some (.ref D),some (.ref W),v3]/\G D=some (.lst ps)/\G W=some (.lst ws)/\d6 H ps dn/\d6 H ws td/\dn++(td.reverse.flatMap Sm.pre)=s'.pre/\(td.map Sm.sz).sum=m/\ag H G,⟨s'.sz,[],[v],[],[s'],none,Y,s1 _ _ ao,ao,.nil,.cons hI .nil,tS,tS,s0.trans s1⟩,?_;rintro m σ G ⟨ps,ws,dn,td,v3,rfl,g1,g2,g3,g4,g5,g6,sG⟩;exists _,.inl ⟨ws,ai.of g2,Y⟩,?_;have cj:=eo g3;have vi:dn.length+(td.reverse.flatMap Sm.pre).length=s'.sz:=by rw[<-Sm.pre_len,<-g5,aX]
  have hsm:=Q4 hdp;by_cases cw:ws=[]
  .refine aK (by rw[cw];simp) ?_;have e:td=[]:=by subst cw;cases g4;rfl
   subst e;show q D ps G hD g1 (by simp_all) sG
  .refine bq (by simpa using cw) ?_;obtain⟨ys,y,kZ,p,rfl,rfl,Z,M⟩:=d6.last g4 cw;have hyl:=eo Z;have htl:kZ.length+p.sz<=((kZ++[p]).reverse.flatMap Sm.pre).length:=by
    rw[mQ,List.reverse_singleton,Q7,iZ,aX,Sm.pre_len]
    have:∀l:List Sm,l.length<=(l.flatMap Sm.pre).length:=λl=>by
     induction l with
     |nil=>show aC _
     |cons a l ih =>
      rw[iZ,aX,Sm.pre_len,bf]
      have:=a.sz_pos
      lia
    have:=this kZ.reverse
    rw[List.length_reverse]at this;lia
   have hpz:=p.sz_pos;exists _,λσ' G' z=>z,?_;exists .inl ⟨Y,_,ai.of g2⟩,W,ys++[y],y,Y,Y,g2,tS,?_;have wH:=sG.write (o:=.lst (ys++[y]).dropLast) HX;have w1:upd G W (.lst (ys++[y]).dropLast) W=some (.lst ys):=by rw[ao,uY]
   have w2:upd G W (.lst (ys++[y]).dropLast) D=some (.lst ps):=by rw[aG DQ];show g1
   generalize upd G W (.lst (ys++[y]).dropLast)=G1 at wH w1 w2 ⊢;exists .inl ⟨Y,_,ai.of w2⟩,_,w2,zx tL,?_;have ix:=wH.write (o:=.lst (ps++[y])) hD;have w3:upd G1 D (.lst (ps++[y])) D=some (.lst (ps++[y])):=ao;have w4:upd G1 D (.lst (ps++[y])) W=some (.lst ys):=by rw[aG (Ne.symm DQ)];show w1
   generalize upd G1 D (.lst (ps++[y]))=G2 at ix w3 w4 ⊢;have lF:=d6.snoc g3 M;cases p with
   |bit k =>
    obtain⟨p,rfl,hp⟩:=yc (M.keep ix);exists _,aD.of hp,Y,_,Y,aK tD ?_;exists _,aD.of hp,Y,gL,_,Y,.inr (T.ad _),Y,Y,_,Y,aK tD ?_;exists (kZ.map Sm.sz).sum,?_,ps++[.ref p],ys,dn++[.bit k],kZ,_,Y,w3,w4,lF,Z,?_,Y,ix
    .rw[<-g6,aN,rR];simp[Sm.sz]
    .rw[<-g5,mQ];simp[Sm.pre]
   |fix c =>
    obtain⟨p,rfl,hp⟩:=B8 (M.keep ix);exists _,aD.of hp,Y,_,Y,aK tD ?_;exists _,aD.of hp,Y,gL,_,Y,.inr (T.ad _),Y,Y,_,Y,aK tD ?_;exists (kZ.map Sm.sz).sum,?_,ps++[.ref p],ys,dn++[.fix c],kZ,_,Y,w3,w4,lF,Z,?_,Y,ix
    .rw[<-g6,aN,rR];simp[Sm.sz]
    .rw[<-g5,mQ];simp[Sm.pre]
   |no s1 =>
    obtain⟨p,x,rfl,hp,hx⟩:=yJ (M.keep ix);have FO:Is H x s1.d:=by
     obtain⟨p',x',e',fq,dR⟩:=yJ M;cases e'
     have:=ix _ _ fq
     rw[hp]at this;cases this;show dR
    exists _,aD.of hp,Y,_,Y,bq tD (il ?_);exists .inl ⟨Y,_,ai.of w4⟩,p,_,Y,aD.of hp,(by show ¬(1=0/\_);show λz=>absurd z.1 tD),λt ht=>?_;have st:ag G2 (upd G2 t (.tup [x])):=ag.upd ht;have wt:upd G2 t (.tup [x]) t=some (.tup [x]):=ao;exists W,t,ys,[x],Y,Y,st _ _ w4,aD.of wt,(by show ys.length+1<=sizeLine;show zx tL),?_;exists ((kZ++[s1]).map Sm.sz).sum,?_,ps++[.ref p],ys++[x],dn++[.no s1],kZ++[s1],_,Y,(by rw[aG DQ];show st _ _ w3),ao,lF,d6.snoc Z FO,?_,Y,(ix.trans st).write HX
    .rw[<-g6,aN,aN,rR,rR];simp[Sm.sz]
    .rw[<-g5,mQ,mQ];simp[Sm.pre]
   |two j s1 s2 =>
    obtain⟨p,x,z,rfl,hp,hx,hz⟩:=vL (M.keep ix);obtain⟨FO,Z9⟩:Is H x s1.d/\Is H z s2.d:=by
     obtain⟨p',x',z',e',fq,dR,rj⟩:=vL M;cases e'
     have:=ix _ _ fq
     rw[hp]at this;cases this;exists dR,rj
    obtain⟨n1,n2,n3⟩:=wZ (w:=j);have hsz:(Sm.two j s1 s2).sz=s1.sz+s2.sz+1:=rfl;have mT:=s1.sz_pos;have m9:=s2.sz_pos;exists _,aD.of hp,Y,_,Y,aK (by simpa using n3) ?_;exists _,aD.of hp,Y,gL,_,Y,.inr (T.ad _),Y,Y,_,Y,bq (Xf j) ?_;exists .inl ⟨Y,_,ai.of w4⟩,p,_,Y,aD.of hp,(by show ¬(1=0/\_);show λz=>absurd z.1 tD),λt ht=>?_;have st:ag G2 (upd G2 t (.tup [x,z])):=ag.upd ht;have wt:upd G2 t (.tup [x,z]) t=some (.tup [x,z]):=ao;exists W,t,ys,[x,z],Y,Y,st _ _ w4,aD.of wt,(by show ys.length+2<=sizeLine;show zx tL),?_;exists ((kZ++[s1,s2]).map Sm.sz).sum,?_,ps++[.ref p],ys++[x,z],dn++[.two j s1 s2],kZ++[s1,s2],_,Y,(by rw[aG DQ];show st _ _ w3),ao,lF,?_,?_,Y,(ix.trans st).write HX
    .rw[<-g6,aN,aN,rR,rR];simp[Sm.sz]
    .have:=d6.snoc (d6.snoc Z FO) Z9
     rwa [dG,dG]at this
    .rw[<-g5,mQ,mQ];simp[Sm.pre]
def zbY(K:Frag):Sp:=λvs H Q _=>∃(a:Addr) (l:ak),vs=[.ref a]/\TL K H a l/\(∀t∈l,0<=t.1)/\Q (.int (dJ l 0:Nat)) H
def Gv(T:Txt w K mg):Fg.Ok P w K mg base 1 (zbY K):=by
  show T.aw.k ?_;rintro vs H Q E ⟨a,l,rfl,⟨ps,hS,hT⟩,h0,q⟩;show #[?_,eQ,yX.j];left;exists ⟨_,hS⟩,?_;show kP (K:=K) (a:=a) (xs:=ps.map V.ref) (λi σ H2=>∃(v2 v3:Option V),σ=[some (.ref a),some (.int (dJ (l.take i) 0:Nat)),v2,v3]/\H2=H)
   ⟨none,none,Y,Y⟩ (λi σ H2 _ ⟨_,_,_,e⟩=>by rw[e];show hS) ?_ ?_
  .rintro i y σ H2 hi ⟨v2,v3,rfl,rfl⟩;obtain⟨p,dv,rfl⟩:=gM hi;obtain⟨t,bA,dk⟩:=hT.at' dv;have rH:=c8 bA;have cA:l.take (i+1)=l.take i++[t]:=by rw[dM,bA];rfl
   have e:=vg (h0 t rH);exists _,aD.of dk,Y,?_;exists some (.int t.1),some (.int t.2),?_,rfl;rw[cA,TC];show [some (.ref a),some (V.int (Builtin.bitOr ((dJ (l.take i) 0:Nat):Int) t.1)),_,_]=_;rw[<-e,rA,e]
  .rintro σ H2 ⟨v2,v3,rfl,rfl⟩;rw[ar,hT.length,eV];show q
def zdf(K:Frag):Sp:=λvs H Q _=>∃(p r:Addr) (l o:ak) (qad:Nat),vs=[.ref p,.ref r]/\aI H p l/\aI H r o/\(∀t∈l,0<=t.1/\t.1<2^qad)/\(∀t∈o,0<=t.1/\t.1<2^qad)/\l.length<=32/\o.length<=32/\qad<=16/\(∀m:Nat,(∀t∈l,0<=t.1/\t.1<2^m)->(∀t∈o,0<=t.1/\t.1<2^m)->l.length*o.length<=(m+1)*2^m)/\Q .non H
def zgQ(T:Txt w K mg):F6.Ok P w K mg base 2 (zdf K):=by
  show T.bh.k ?_;rintro vs H Q E ⟨p,r,l,o,qad,rfl,gW,mm,hl,ho,ll,lo,hM,hth,q1⟩;show #[aO ?_ (aO ?_ (bQ du)),qI Bj zU Ar zZ ?_,yX.j,au T.aw (Gv T) hr ?_,au T.aw (Gv T) hr ?_,bD,aW rX.j,gw.c,fN,fN,gw.c,dA.j,au T.af (rZ T) hr ?_];left;have u1:=Ui hl;have u2:=Ui ho;exists p,l,Y,gW.tl,(λt ht=>(hl t ht).1),?_;exists r,o,Y,mm.tl,(λt ht=>(ho t ht).1),Y,_,Y,Y,?_;have Sw:Builtin.bitOr ((dJ l 0:Nat):Int) ((dJ o 0:Nat):Int)=((dJ l 0|||dJ o 0:Nat):Int):=rA _ _;have hmany:intBits (Builtin.bitOr ((dJ l 0:Nat):Int) ((dJ o 0:Nat):Int))<=qad:=by
   rw[Sw];show FJ (Nat.or_lt_two_pow u1 u2)
  have kl:=JK (U:=dJ l 0|||dJ o 0) (λt ht=>(hl t ht).1) λj hj=>by simp_all
  have ko:=JK (U:=dJ l 0|||dJ o 0) (λt ht=>(ho t ht).1) λj hj=>by simp_all
  rw[<-Sw]at kl ko;generalize intBits (Builtin.bitOr ((dJ l 0:Nat):Int) ((dJ o 0:Nat):Int))=many at hmany kl ko;obtain⟨pa,hpa1,Y2⟩:=id gW;obtain⟨pc,hpc1,Yv⟩:=id mm;have la:=Y2.length;have lc:=Yv.length;exists p,_,Y,.inl (ai.of hpa1),r,_,Y,.inl (ai.of hpc1),lN (by lia) (by rw[ar];lia),?_;exists many,Y,tL,lN (by lia) tL,_,Y,?_;have h:=hth many kl ko;show bq (aR ?_) q1;rw[ar,ar,la,lc];exact_mod_cast h
def zca(K:Frag):Sp:=λvs H Q _=>∃(a b:Addr) (l o:ak) (w:Nat),vs=[.str (wd w),.ref a,.ref b]/\aI H a l/\aI H b o/\w<2/\l.length+o.length+l.length*o.length<=100000/\(∀t∈l,∀u∈o,IntMulOk t.2 u.2) /\
 ∀(c:Addr) (f:ak) (O:Hp),H c=none->aI O c f->aT f (gG w l o)->ag H O->Q (.ref c) O
def zdQ(T:Txt w K mg):Kk.Ok P w K mg base 4 (zca K):=by
  show T.bi.k ?_;rintro vs H Q E ⟨a,b,l,o,w',rfl,hT,nk,hw,aL,kC,q⟩;show #[?_,au T.an (AS T) hr.m ?_,cL,cN bO,C9,aW bO,nL,nL,au T.ak (xI T) hr ?_,au T.ak (xI T) hr ?_,au T.aN (SE T) hr ?_];left;exists a,b,l,o,Y,hT.tl,nk.tl,tL,kC,λc p H1 hc iq qc gh s1=>?_;have comb:∀(n:Int) (f g h:ak),w'≠0->n=(if w'=1 then -1 else -2)->aT g (l++o)->aT h (p.map λt=>(t.1,t.2*n))->aT f (g++h)->aT f (gG w' l o):=λn f g h TF hn hg hh hf=>by
   have ec:∀k,aA (g++h) k=aA (gG w' l o) k:=λk=>by
    unfold gG;rw[ah TF,gi,gi,hg.val,hh.val,<-hn];have e:∀(x:ak),aA (x.map λt=>(t.1,t.2*n)) k=aA x k*n:=λx=>by
     rw[A1,A1,GU]
    rw[e,e,qc.val]
   exists hf.toIsForm,λk=>by rw[hf.val,ec],λt ht=>?_;have Z:=hf.src t ht;unfold gG;rw[ah TF,aN,bC];rw[aN,bC]at Z;rcases Z with z|z
   .obtain⟨u,hu,e⟩:=aU.mp z;show .inl (by rw[<-e];show hg.src u hu)
   .obtain⟨u,hu,e⟩:=aU.mp z;have M:=hh.src u hu;rw[cE]at M ⊢;obtain⟨v,hv,e2⟩:=aU.mp M;have h3:=qc.src v hv;obtain⟨x,hx,e3⟩:=aU.mp h3;show .inr (aU.mpr ⟨x,hx,by rw[<-e,<-e2];show e3⟩)
  obtain rfl|rfl:w'=0\/w'=1:=by lia
  .refine vy ?_;show q c p H1 hc iq (by assumption) s1
  .refine vn ?_;exists _,Y,bq tD ⟨_,Y,?_⟩;exists a,b,l,o,Y,hT.keep s1,nk.keep s1,tL,λx g H2 hx dz mj dO s2=>?_;exists c,p,(-1),Y,(iq.keep s2).tl,tL,(λt _=>sk tD tD),λy h H3 hy rn C0 m6 s3=>?_;exists x,y,g,h,Y,dz.keep s3,rn,tL,λz f H4 hz zv xC AU s4=>?_;show q z f H4 (s1.free (s2.free (s3.free hz))) zv (comb (-1) f g h tD Y mj C0 xC) (s1.trans (s2.trans (s3.trans s4)))
def zaG(K:Frag):Sp:=λvs H Q _=>∃(b:Addr) (w:Nat) (s t:Sm) (l o:ak),vs=[.str (wd w),.ref b]/\(Sm.two w s t).bo/\(Sm.two w s t).lw<=5/\aT l s.tl/\aT o t.tl/\Yn H b [l,o] /\
 ∀(c:Addr) (f:ak) (O:Hp),H c=none->aI O c f->aT f (Sm.two w s t).tl->ag H O->Q (.ref c) O
set_option tactic.hygienic true in
def LS(T:Txt w K mg):KZ.Ok P w K mg base 5 (zaG K):=by
  show T.aQ.k ?_;rintro vs H Q E ⟨b,w,s0,t0,l,o,rfl,hbo,pB,HR,jG,hFL,q⟩;show #[aO (cL ?_ (bQ du) ?_) (aO ?_ (aO ?_ (bQ du))),cN bO,au T.bh (zgQ T) hr.m ?_,xL,xL,cL,cN rV,au T.bi (zdQ T) hr ?_,xL,xL];left;obtain⟨hw,ok1,ok2⟩:=hbo;obtain⟨hln',gh,dO⟩:=Qy pB tD;obtain⟨ps,hb,hQ⟩:=hFL;cases hQ with
  |cons gW r =>
  cases r with
  |cons mm r =>
  cases r;rename_i p r;obtain⟨lz,ll,lb,kl⟩:=EH ok1 tL HR;obtain⟨oz,lo,ob,ko⟩:=EH ok2 tL jG;have zd:l.length*o.length<=32*32:=jk tL tL;obtain⟨_,_,n3⟩:=wZ (w:=w);show vN (by simpa using n3) ?_;exists _,ai.of hb,Y,_,ai.of hb,Y,p,r,l,o,16,Y,gW,mm,kl,ko,tL,tL,tD,(λm k1 k2=>WI lz oz hln' (Tt HR.toIsForm k1) (Tt jG.toIsForm k2)),?_;exists Y,vy ?_;exists _,ai.of hb,Y,_,ai.of hb,Y,p,r,l,o,w,Y,gW,mm,hw,tL,(λt ht u hu=>zeo (lb t ht) (ob u hu)),λd f H2 hd dz mj s2=>?_;show q d f H2 hd dz (zbP HR jG mj) s2
def zha(K:Frag):Sp:=λvs H Q _=>∃(v:V) (s:Sm),vs=[v]/\Is H v s.d/\s.bo/\s.dp<=20/\s.lw<=5 /\
 ∀(b:Addr) (f:ak) (O:Hp),H b=none->aI O b f->aT f s.tl->ag H O->Q (.ref b) O
set_option tactic.hygienic true in
def zf0(T:Txt w K mg):Ek.Ok P w K mg base 6 (zha K):=by
  show T.bj.k ?_;rintro vs H Q E ⟨v,s',rfl,hI,hok,hsz,pB,q⟩;show #[?_,zgo Y T.ca ?_,au T.aP (O8 T) hr.m ?_,xT,cL,cN bO,au T.af (rZ T) hr.m ?_,xT,cL,cN bO,au T.au (Iv T) hr.m ?_,xT,cL,cN bO,au T.aQ (LS T) hr ?_,au T.aQ (LS T) hr ?_,xL];left;exists bJ _,λC hC=>?_;have s0:ag H (upd H C (.lst [])):=ag.upd hC;exists v,s',Y,hI.keep s0,hsz,λD xs H1 hD hX hS s1=>⟨D,xs,Y,ai.of hX,?_⟩;have UH:d6 H xs s'.pre:=Paired.mapP hS λx p e=>jK (λa ys z=>by
   by_cases y:a=C
   .rw[y,ao]at z;cases z
   .rw[aG y]at z;show z) e
  have j6:D≠C:=λz=>by rw[z,ao]at hD;cases hD
  have tq:xs.length=s'.sz:=by rw[<-Sm.pre_len];show eo UH
  have hsm:=Q4 hsz;show zg3 (K:=K) (a:=D) (xs:=xs) (λi σ G=>∃(qs:List Addr) (fl:List ak) (st:List Sm) (v2 v3 v4:Option V),σ=[some v,some (.ref C),v2,v3,v4]/\G C=some (.lst (qs.map V.ref))/\dW G qs fl/\Paired Bs st fl/\qK [s'] st (s'.pre.reverse.drop i)/\st.length<=i/\(∀p∈qs,H p=none/\p≠C)/\G D=some (.lst xs)/\ag H G)
   ⟨[],[],[],none,none,none,Y,s1 _ _ ao,.nil,.nil,(by have:=BB (fin:=[s']) s' [] [] rfl;rwa [gg]at this),aC _,(λp hp=>by cases hp),hX,s0.trans s1⟩
   (by rintro i σ G _ ⟨_,_,_,_,_,_,_,_,_,_,_,_,_,e,_⟩;show ai.of e) ?_ ?_
  .rintro i y σ G hi ⟨qs,fl,st,v2,v3,v4,rfl,g1,g2,g3,g4,g5,g6,g7,sG⟩;obtain⟨p,gk,gW⟩:=UH.rev.at hi;obtain⟨Ct,hlp'⟩:=Jo hok (List.mem_reverse.mp (c8 gk));have mx:=a9 hlp' pB;have dZ:i<s'.sz:=by grind
   have hdr:s'.pre.reverse.drop i=p::s'.pre.reverse.drop (i+1):=by
    obtain⟨Z,M⟩:=cq.mp gk;rw[jc Z,M]
   rw[hdr]at g4;obtain⟨af,hN,hR⟩:=g4;have MM:=g2.length;have mG:=eo g3;have put:∀{G2:Hp}{e:Addr}{f:ak}{qa:List Addr}{fa:List ak}{sa:List Sm},G2 C=some (.lst (qa.map V.ref))->dW G2 qa fa->Paired Bs sa fa->(∀p∈qa,H p=none/\p≠C)->G2 D=some (.lst xs)->ag H G2->sa.length<=i->H e=none->e≠C->aI G2 e f->Bs p f->af=sa++[p]->∀v2 v3 v4:Option V,
     (∃(qs:List Addr) (fl:List ak) (st:List Sm) (v2' pj v4':Option V),[some v,some (.ref C),v2,v3,v4]=[some v,some (V.ref C),v2',pj,v4']/\upd G2 C (.lst (qa.map V.ref++[.ref e])) C=some (.lst (qs.map V.ref))/\dW (upd G2 C (.lst (qa.map V.ref++[.ref e]))) qs fl/\Paired Bs st fl/\qK [s'] st (s'.pre.reverse.drop (i+1))/\st.length<=i+1/\(∀p∈qs,H p=none/\p≠C)/\upd G2 C (.lst (qa.map V.ref++[.ref e])) D=some (.lst xs)/\ag H (upd G2 C (.lst (qa.map V.ref++[.ref e])))):=by
    intro G2 e f qa fa sa Z M h3 h4 h5 h6 h6b h7 h8 h9 yL zX v2 v3 v4;exists qa++[e],fa++[f],sa++[p],v2,v3,v4,Y,(by rw[ao,aN];rfl),?_,lT h3 yL,(by simp_all),(by simp_all),λp' fq=>?_,(by rw[aG j6];show h5),h6.write hC
    .refine dW.keepU Z (dW.snoc M h9) λz=>?_
     rcases bC.mp z with y|y
     .exact (h4 C y).2 rfl
     .exact h8 (bH.mp y).symm
    .rcases bC.mp fq with y|y
     .exact h4 p' y
     .rw[bH.mp y];exists h7,h8
   cases p with
   |bit k =>
    obtain⟨p,rfl,hp⟩:=yc (gW.keep sG);have Kr:k<16:=Ct;exists _,aD.of hp,Y,?_;show vy ?_;exists .inl ⟨Y,_,ai.of g1⟩,_,aD.of hp,Y,k,Y,tL,fK,λt1 bA=>⟨oM,λe1 qO=>?_⟩;have b1:ag G (upd G t1 (.tup [.int (2^k),.int 1])):=ag.upd bA;have b2:ag (upd G t1 (.tup [.int (2^k),.int 1])) (upd (upd G t1 (.tup [.int (2^k),.int 1])) e1 (.lst [.ref t1])):=ag.upd qO;have B:=b1.trans b2;exists _,B _ _ g1,zx (by rw[ar];lia),put (B _ _ g1) (g2.keep B) g3 g6 (B _ _ g7) (sG.trans B) g5 (sG.free (b1.free qO)) (V4 g1 (b1.free qO)) ⟨[t1],ao,.cons (b2 _ _ ao) .nil⟩ (xN tD) hN _ _ _
   |fix c=>show Ct.elim
   |no s1=>show Ct.elim
   |two j s1 s2 =>
    obtain⟨sa,rfl,rfl⟩:=hN;obtain⟨fa,fb,rfl,a1,a2⟩:=TU g3;cases a2 with
    |cons xP a3 =>
    cases a3 with
    |cons GD a4 =>
    cases a4;rename_i f1 f2;obtain⟨qa,qb,rfl,c1,c2⟩:=IL (m:=fa) g2;cases c2 with
    |cons Lh c3 =>
    cases c3 with
    |cons hq2 c4 =>
    cases c4;rename_i b1 b2;obtain⟨p,x,z,rfl,hp,hx,hz⟩:=vL (gW.keep sG);obtain⟨n1,n2,n3⟩:=wZ (w:=j);exists _,aD.of hp,Y,?_;show vN (by simpa using n1) ?_;show vN (by simpa using n2) ?_;show vN (by simpa using n3) ?_;have hlast:((qa++[b1,b2]).map V.ref)[((qa++[b1,b2]).map V.ref).length-1]?=some (V.ref b2):=by simp
    exists .inl ⟨Y,_,ai.of g1⟩,C,_,.ref b2,Y,Y,g1,hlast,?_;have ed:((qa++[b1,b2]).map V.ref).dropLast=(qa++[b1]).map V.ref:=by rw[aN,aN];show List.dropLast_append_cons
    have w1:upd G C (.lst ((qa++[b1,b2]).map V.ref).dropLast) C=some (.lst ((qa++[b1]).map V.ref)):=by rw[ao,ed]
    have w2:dW (upd G C (.lst ((qa++[b1,b2]).map V.ref).dropLast)) (qa++[b1,b2]) (fa++[f1,f2]):=dW.keepU g1 g2 λz=>(g6 C z).2 rfl
    have w3:upd G C (.lst ((qa++[b1,b2]).map V.ref).dropLast) D=some (.lst xs):=by rw[aG j6];show g7
    have wH:=sG.write (o:=.lst ((qa++[b1,b2]).map V.ref).dropLast) hC;generalize upd G C (.lst ((qa++[b1,b2]).map V.ref).dropLast)=G1 at w1 w2 w3 wH ⊢;have WV:((qa++[b1]).map V.ref)[((qa++[b1]).map V.ref).length-1]?=some (V.ref b1):=by simp
    exists .inl ⟨Y,_,ai.of w1⟩,.inl ⟨Y,_,ai.of w1⟩,C,_,.ref b1,Y,Y,w1,WV,?_;have y1:upd G1 C (.lst ((qa++[b1]).map V.ref).dropLast) C=some (.lst (qa.map V.ref)):=by rw[ao,aN];show congrArg (λz=>some (HO.lst z)) uY
    have y2:dW (upd G1 C (.lst ((qa++[b1]).map V.ref).dropLast)) (qa++[b1,b2]) (fa++[f1,f2]):=dW.keepU w1 w2 λz=>(g6 C z).2 rfl
    have y3:upd G1 C (.lst ((qa++[b1]).map V.ref).dropLast) D=some (.lst xs):=by rw[aG j6];show w3
    have ix:=wH.write (o:=.lst ((qa++[b1]).map V.ref).dropLast) hC;generalize upd G1 C (.lst ((qa++[b1]).map V.ref).dropLast)=G2 at y1 y2 y3 ix ⊢;obtain⟨x1,x2,ex,w4,w5⟩:=IL (m:=fa) y2;obtain⟨rfl,ex2⟩:=List.append_inj ex (by rw[eo c1,eo w4]);subst ex2;cases w5 with
    |cons hJ w6 =>
    cases w6 with
    |cons lO w7 =>
    exists fK,λe he=>?_;have k1:ag G2 (upd G2 e (.lst [.ref b1,.ref b2])):=ag.upd he;exists e,j,s1,s2,f1,f2,Y,Ct,mx,xP,GD,⟨[b1,b2],ao,.cons (hJ.keep k1) (.cons (lO.keep k1) .nil)⟩,λc f H6 hc hT hF s6=>?_;have B:=k1.trans s6;exists _,B _ _ y1,zx (by rw[ar,eo w4,<-eo a1];rw[aX]at g5;lia),put (B _ _ y1) (dW.keep w4 B) a1 (λp hp=>g6 p (qr _ hp)) (B _ _ y3) (ix.trans B) (by rw[aX]at g5;lia) (ix.free (k1.free hc)) (V4 y1 (k1.free hc)) hT hF Y _ _ _
  .rintro σ G ⟨qs,fl,st,v2,v3,v4,rfl,g1,g2,g3,g4,g5,g6,g7,sG⟩;have e:s'.pre.reverse.drop xs.length=[]:=by rw[tq,<-Sm.pre_len];show mv (by simp)
   rw[e]at g4;have e2:st=[s']:=g4;subst e2;cases g3 with
   |cons xP a3 =>
   cases a3;cases g2 with
   |cons Lh c3 =>
   cases c3;rename_i f1 b1;exists _,ai.of g1,Y,q b1 f1 G (g6 b1 tS).1 Lh xP sG
def zdb:Sp:=λvs H Q _=>∃(v:V) (s:Sm),vs=[v]/\Is H v s.d/\s.ok (λk=>k<16)/\s.dp<=20/\∀(e:Addr) (ks:List Int) (O:Hp),O e=some (.lst (ks.map V.int))->ks.Nodup->(∀k∈ks,∃j:Nat,k=(j:Int)/\Sm.bit j∈s.pre)->(∀j:Nat,Sm.bit j∈s.pre->(j:Int)∈ks)->ag H O->Q (.ref e) O
def HU{p:Nat->Prop}{s:Sm}{j:Nat}(h:s.ok p)(hj:Sm.bit j∈s.pre):p j:=Sm.pre_ok h _ hj
set_option tactic.hygienic true in
def DE{kvs:List (bM×V)}{ks:List Int}(h:kvs.map (·.1)=ks.map Sum.inl)(k:Int)(v:V):∃fO:List Int,(ff kvs (Sum.inl k) v).map (·.1)=fO.map Sum.inl/\(ks.Nodup->fO.Nodup)/\(∀x∈fO,x∈ks\/x=k)/\k∈fO/\∀x∈ks,x∈fO:=by
 unfold ff;split
 .rename_i hy;have hk:k∈ks:=by
   obtain⟨p,hp,e⟩:=oI.mp hy
   have:(Sum.inl k:bM)∈ks.map Sum.inl:=by rw[<-h,<-cx e];show aU.mpr ⟨p,hp,Y⟩
   obtain⟨y,hy,e⟩:=aU.mp this;injection e with e
   rw[<-e];show hy
  exists ks,?_,id,λx hx=>.inl hx,hk,λx hx=>hx;rw[cE,<-h];show pO λp _=>?_
  show (if p.1=Sum.inl k then (p.1,v)else p).1=p.1;split<;>rfl
 .rename_i hn;show⟨ks++[k],by rw[aN,aN,h];rfl,λnd=>?_,λx hx=>?_,tS,λx hx=>by simp[hx]⟩
  .refine MH nd λhk=>hn ?_
   have:(Sum.inl k:bM)∈kvs.map (·.1):=by simp_all
   obtain⟨p,hp,e⟩:=aU.mp this;show oI.mpr ⟨p,hp,aR e⟩
  .rcases bC.mp hx with y|y
   .exact .inl y
   .exact .inr (bH.mp y)
def zgs(T:Txt w K mg):Js.Ok P w K mg base 2 zdb:=by
  show T.bk.k ?_;rintro vs H Q E ⟨v,s',rfl,hI,hok,hsz,q⟩;show #[?_,uq,eQ,au T.aP (O8 T) hr ?_,cL,cN bO,xT,vc hu ?_ ?_ ?_ Y,xT,gj (Ba Y) (by rfl) T.aj qG ?_];left;intro d hd;have s0:ag H (upd H d (.dK [])):=ag.upd hd;exists v,s',Y,hI.keep s0,hsz,λD xs H1 hD hX hS s1=>⟨⟨_,ai.of hX⟩,?_⟩;have hd1:=s1 _ _ ao;have Zq:D≠d:=λz=>by simp_all
  show kP (K:=K) (a:=D) (xs:=xs) (λi σ G=>∃(kvs:List (bM×V)) (ks:List Int) (v2:Option V),σ=[some v,some (.ref d),v2]/\G d=some (.dK kvs)/\kvs.map (·.1)=ks.map Sum.inl/\ks.Nodup/\(∀k∈ks,∃j:Nat,k=(j:Int)/\Sm.bit j∈s'.pre)/\ay d H1 G/\∀j:Nat,Sm.bit j∈s'.pre.take i->(j:Int)∈ks)
   ⟨[],[],none,Y,hd1,Y,ND,(λk hk=>by cases hk),ay.refl _ _,(λj hj=>by simp at hj)⟩ (by rintro i σ G _ ⟨_,_,_,_,_,_,_,_,e,_⟩;show ai.of (e _ _ Zq hX)) ?_ ?_
  .rintro i y σ G hi ⟨kvs,ks,v2,rfl,g1,g2,g3,g4,g5,g6⟩;obtain⟨p,gk,gW⟩:=hS.at hi;have Y6:=c8 gk;have cA:s'.pre.take (i+1)=s'.pre.take i++[p]:=by rw[dM,gk];rfl
   have nx:(∀j,p≠.bit j)->∀j:Nat,Sm.bit j∈s'.pre.take (i+1)->(j:Int)∈ks:=λhn j hj=>by
    rw[cA]at hj;rcases bC.mp hj with z|z
    .exact g6 j z
    .exact absurd (bH.mp z).symm (hn j)
   have jb:ks.length<=16:=by
    have:=sE g3 (B:=(List.range 16).map λj:Nat=>(j:Int)) λk hk=>by
     obtain⟨j,rfl,hj⟩:=g4 k hk;show aU.mpr ⟨j,eG.mpr (HU (p:=λk=>k<16) hok hj),Y⟩
    simpa using this
   have p4:kvs.length=ks.length:=by have:=congrArg List.length g2;simpa using this
   have qC:=jK (λa ys z=>g5 _ _ (λw=>by simp_all) z) (gW.keep s1);cases p with
   |bit k =>
    obtain⟨pp,rfl,hp⟩:=yc qC;exists _,aD.of hp,Y,vy ?_;obtain⟨fO,k1,k2,k3,k4,k5⟩:=DE g2 (k:Int) (.bl true);exists _,aD.of hp,Y,d,_,Y,jU.k (k:=Sum.inl (k:Int)) g1 (cJ tL),?_;exists _,fO,_,Y,ao,k1,k2 g3,λx hx=>?_,g5.trans ay.upd,λj hj=>?_
    rotate_left
    .rw[cA]at hj;rcases bC.mp hj with z|z
     .exact k5 _ (g6 j z)
     .have e:=bH.mp z;injection e with e
      rw[e];show k4
    rcases k3 x hx with y|y
    .exact g4 x y
    .exists k,y,Y6
   |fix c =>
    obtain⟨pp,rfl,hp⟩:=B8 qC;exists _,aD.of hp,Y,vn ?_;show⟨_,_,_,Y,g1,g2,g3,g4,g5,nx λj z=>by cases z⟩
   |no s1 =>
    obtain⟨pp,x,rfl,hp,_⟩:=yJ qC;exists _,aD.of hp,Y,vn ?_;show⟨_,_,_,Y,g1,g2,g3,g4,g5,nx λj z=>by cases z⟩
   |two j s1 s2 =>
    obtain⟨pp,x,z,rfl,hp,_,_⟩:=vL qC;obtain⟨n1,_,_⟩:=wZ (w:=j);exists _,aD.of hp,Y,vN (by simpa using n1) ?_;show⟨_,_,_,Y,g1,g2,g3,g4,g5,nx λj z=>by cases z⟩
  .rintro σ G ⟨kvs,ks,v2,rfl,g1,g2,g3,g4,g5,g6⟩;have jb:ks.length<=16:=by
    have:=sE g3 (B:=(List.range 16).map λj:Nat=>(j:Int)) λk hk=>by
     obtain⟨j,rfl,hj⟩:=g4 k hk;show aU.mpr ⟨j,eG.mpr (HU (p:=λk=>k<16) hok hj),Y⟩
    simpa using this
   exists d,_,ks,Y,g1,g2,λe fO he dP qv=>?_;have sG:=ay.same (s0.trans s1) g5 hd;show q e fO _ ao (dP.nodup_iff.mpr g3) (λk hk=>g4 k (dP.mem_iff.mp hk)) (λj hj=>dP.mem_iff.mpr (g6 j ?_)) (sG.trans (ag.upd he));have tq:=eo hS;rw[tq,eV];show hj
def WT(K:Frag)(TM:Addr):Sp:=λvs H Q E=>∃(tx:List Nat) (s:Sm),vs=[.str (S tx)]/\ny tx s/\((sF s/\∀O,ag H O->E (.ref TM) none O)\/(nA s/\∀(b:Addr) (f:ak) (O:Hp),aI O b f->aT f s.tl->ag H O->Q (.ref b) O))
def zbU(T:Txt w K mg):Ei.OkE P w K mg base 7 (WT K dr):=by
  show T.ax.e ?_;rintro vs H Q E ⟨tx,s0,rfl,hS,nE⟩;show #[aO (PS.nox ?_) (aO ?_ (bQ (PS.nox ?_))),au T.bg (Xx T) hr.m ?_,bD,aW sQ.j,fN,au T.bk (zgs T) hr.m ?_,vd fZ Y (by rfl) T.ar T.ag,au T.bj (zf0 T) hr ?_];left;obtain⟨Z,M,h3,h4,ts,rfl,hZ,yC⟩:=hS;exists ts,s0,Y,hZ,tL,yC,λv H1 hI s1=>?_;exists v,s0,Y,hI,h3,h4,λe ks H2 he EJ ma cm s2=>⟨e,_,Y,.inl (ai.of he),_,Y,?_⟩;rcases nE with ⟨⟨l,l1,l2,l3⟩,hE⟩|⟨⟨b1,b2,ls,b3,b4⟩,q⟩
  .have hn:l.length<=ks.length:=by
    have:=sE (l:=l.map λj:Nat=>(j:Int)) (B:=ks) (fX.mpr (l1.imp λh z=>h tL)) λx hx=>by
     obtain⟨j,hj,rfl⟩:=aU.mp hx;show cm j (l3 j hj)
    simpa using this
   show bq (aR (by rw[ar];lia)) ?_;show hE H2 (s1.trans s2)
  .have hn:ks.length<=ls.length:=by
    have:=sE (l:=ks) (B:=ls.map λj:Nat=>(j:Int)) EJ λx hx=>by
     obtain⟨j,rfl,hj⟩:=ma x hx;show aU.mpr ⟨j,HU b4 hj,Y⟩
    simpa using this
   show aK (λy=>by have:=cx y;rw[ar]at this;lia) ?_;exists v,s0,Y,hI.keep s2,b1,h4,b2,λb f H3 hb hT hF s3=>q b f H3 hT hF (s1.trans (s2.trans s3))
def zdk(K:Frag):Sp:=λvs H Q _=>∃(a:Addr) (l:ak) (k:Nat),vs=[.ref a,.int (2^k)]/\TL K H a l/\(∀t∈l,0<=t.1)/\l.length<=100000 /\
 ∀(c:Addr) (O:Hp),H c=none->aI O c (rT k l)->ag H O->Q (.ref c) O
def C6:(["members","number","bit"]:List Str).Nodup:=by decide+kernel
def zdg(T:Txt w K mg):AI.Ok P w K mg base 1 (zdk K):=by
  show T.bl.k ?_;rintro vs H Q E ⟨a,l,k,rfl,hT,h0,aL,q⟩;show #[?_,dq (g:=(gd K 2 (bW (aQ 0) (bW (aQ 1) gc)))) ["members","number","bit"] 2 [1] Y (cB AI) ?_ ?_ ?_ ?_,eQ,bb 0 C6,bb 1 C6,aW bO,wL.j];exists hT.seq,?_;show KW (λt => !mn k t) (λt=>t) hT tL [some (.int (2^k))] Y (λt ht H2 R s2 r=>?_) (λt ht hp H2 R s2 r=>?_) λD ys H2 hD iq s1=>?_
  .exists _,Y,?_;rw[LZ (h0 t ht)];show r
  .exists fK,r
  .exact q D _ hD (by rw[Hu]at iq;show iq) s1
def zcw(K:Frag):Sp:=λvs H Q _=>∃(a:Addr) (l:ak) (k:Nat),vs=[.ref a,.int (2^k)]/\TL K H a l/\(∀t∈l,0<=t.1)/\l.length<=100000 /\
 ∀(c:Addr) (O:Hp),H c=none->aI O c (oa k l)->ag H O->Q (.ref c) O
def zcL(T:Txt w K mg):B6.Ok P w K mg base 1 (zcw K):=by
  show T.bm.k ?_;rintro vs H Q E ⟨a,l,k,rfl,hT,h0,aL,q⟩;show #[?_,dq (g:=(gd K 2 (bW (aQ 0) (bW (aQ 1) gc)))) ["members","number","bit"] 2 [1] Y (cB B6) ?_ ?_ ?_ ?_,eQ,bb 0 C6,bb 1 C6,aW mF,wL.j,zr.j];exists hT.seq,?_;show KW (λt=>mn k t) (λt=>(t.1-2^k,t.2)) hT tO [some (.int (2^k))] Y (λt ht H2 R s2 r=>?_) (λt ht hp H2 R s2 r=>?_) λD ys H2 hD iq s1=>?_
  .exists _,Y,?_;rw[LZ (h0 t ht),Bool.not_not];show r
  .exists fK,r
  .exact q D _ hD iq s1
def zdr(K:Frag):Sp:=λvs H Q _=>∃(a b:Addr) (l o:ak) (k:Nat),vs=[.ref a,.int (k:Int),.ref b]/\aI H a l/\aI H b o/\(∀t∈l,0<=t.1)/\l.length+l.length*o.length<=100000/\l.length<=100000/\k<=100/\(∀t∈l,∀u∈o,IntMulOk t.2 u.2) /\
 ∀(c:Addr) (f:ak) (O:Hp),H c=none->aI O c f->aT f (vw k o l)->f.length<=l.length+l.length*o.length->ag H O->Q (.ref c) O
def zg5(T:Txt w K mg):EE.Ok P w K mg base 4 (zdr K):=by
  show T.bn.k ?_;rintro vs H Q E ⟨a,b,l,o,k,rfl,hT,nk,h0,aL,sr,hk,kC,q⟩;show #[?_,au T.af (rZ T) hr.m ?_,au T.ak (xI T) hr ?_,au T.bl (zdg T) hr.m ?_,au T.an (AS T) hr.m ?_,au T.bm (zcL T) hr.m ?_];have n1:=Yh k l;have n2:=XO k l;have n3:(oa k l).length*o.length<=l.length*o.length:=GZ _ n2;exists k,Y,hk,?_;exists a,l,k,Y,hT.tl,h0,sr,λc H1 hc iq s1=>?_;exists a,l,k,Y,(hT.keep s1).tl,h0,sr,λd H2 hd dz s2=>?_;exists d,b,oa k l,o,Y,dz.tl,((nk.keep s1).keep s2).tl,tL,(λt ht u hu=>?_),λe g H3 he rn C0 m6 s3=>?_
  .obtain⟨_,v,hv,e,_⟩:=zdK h0 ht;rw[e];show kC v hv u hu
  exists c,e,rT k l,g,Y,(iq.keep s2).keep s3,rn,tL,λx f H4 hx zv xC AU s4=>?_;show q x f H4 (s1.free (s2.free (s3.free hx))) zv ⟨xC.toIsForm,λj=>?_,λt ht=>?_⟩ tL (s1.trans (s2.trans (s3.trans s4)))
  .rw[xC.val,gi,C0.val];unfold vw;rw[gi]
  .have:=xC.src t ht
   unfold vw;rw[aN,bC]at this ⊢;rcases this with z|z
   .exact .inl z
   .obtain⟨u,hu,e⟩:=aU.mp z;rw[<-e];show .inr (C0.src u hu)
def zaL(K:Frag):Sp:=λvs H Q _=>∃(a:Addr) (l:ak),vs=[.ref a]/\aI H a l/\l.length*l.length<=100000/\(∀t∈l,∀u∈l,IntMulOk t.2 u.2) /\
 ∀(f:ak) (O:Hp),aT f (bt l l)->ag H O->Q (.bl (decide (f=l))) O
def zg2(T:Txt w K mg):DX.Ok P w K mg base 3 (zaL K):=by
  show T.bo.k ?_;rintro vs H Q E ⟨a,l,rfl,hT,aL,kC,q⟩;show #[?_,kO (yq (gR hr)) ?_ ?_,au T.an (AS T) hr ?_];exists a,a,l,l,Y,hT.tl,hT.tl,aL,kC,λc f H1 hc iq qc gh s1=>?_;exists dF f,dF l,iq.is,(hT.keep s1).is,a9 (zg6 f) tD,?_;rw[zaM];show q f H1 qc s1
def zdS(NY:Addr):Sp:=λvs H Q E=>∃(a:Addr) (l:ak),vs=[.ref a]/\aI H a l/\l.length*l.length<=100000/\(∀t∈l,∀u∈l,IntMulOk t.2 u.2)/\(∀O,ag H O->iS l->Q (.ref a) O)/\(∀O,ag H O->¬iS l->E (.ref NY) none O)
def Sn(T:Txt w K mg):Ha.OkE P w K mg base 4 (zdS dS):=by
  show T.ah.e ?_;rintro vs H Q E ⟨a,l,rfl,hT,aL,kC,q,e⟩;show #[aO ?_ (bQ (PS.nox ?_)),bD,lR,au T.bo (zg2 T) hr ?_,vd fZ Y (by rfl) T.bZ T.aI];exists a,l,Y,hT,aL,kC,λf H1 hF s1=>⟨_,Y,?_⟩;by_cases z:f=l
  .refine aK (by simp_all) ?_;show q H1 s1 ⟨f,hF,z⟩
  .refine bq (by simp_all) ?_;show e H1 s1 λ⟨g,hg,eg⟩=>z ?_
   rw[<-eg];show aT.unique hF (eg ▸ hg) λk=>rfl
def zcc(K:Frag)(C NN NY TM:Addr):Sp:=λvs H Q E=>∃(p d t:Addr) (st:bB) (wo:Str) (th:List V),vs=[.ref p,.str wo,.ref t]/\H t=some (.lst th)/\cH C H p d st/\(∀nf∈st,FB nf.2) /\
 ((∃c:aZ,wo=c.wd/\th=c.th/\sL c/\(∀O,gb [] st c .name->ag H O->E (.ref NN) none O)/\(∀O,gb [] st c .yesno->ag H O->E (.ref NY) none O)/\(∀f b O,gb [] st c (.form f)->f.length<=100000->aI O b f->ag H O->Q (.ref b) O)) \/ (∃(tx:List Nat) (s:Sm),wo = ":=" /\ th=[.str (S tx)]/\ny tx s/\((sF s/\∀O,ag H O->E (.ref TM) none O)\/(nA s/\∀f b O,aT f s.tl->aI O b f->ag H O->Q (.ref b) O))))
def ZQ(T:Txt w K mg):GL.OkE P w K mg base 8 (zcc K dD dY dS dr):=by
  show Rw.okE T.ay.F T.ay.S ?_;rintro vs H Q E ⟨p,d,t,st,wo0,th,rfl,ht,hD,bp,nE⟩;show #[aO (PS.nox ?_) (aO ?_ (aO ?_ (aO (PS.nox (cL ?_ (bQ du) ?_)) ?_))),cL,cN bO,au T.bb (Wz T) hr.m ?_,xL,cL,cN bO,oU (zbU T) hr (by rfl) T.ax.m T.ax.F.kp T.ax.b .nil (jr fZ) ?_,xL,vA ?_ T.ac T.ae.m (DF T) hr.m T.ae.b .nil (jr fZ) ?_,xL,cN bO,cL,cN bO,au T.bn (zg5 T) hr.m ?_,xL,oU (Sn T) hr.m (by rfl) T.ah.m T.ah.F.kp T.ah.b .nil (jr fZ) ?_,vA ?_ T.ac T.ae.m (DF T) hr.m T.ae.b .nil (jr fZ) ?_,xL,au T.a6 (zfU T) hr.m ?_,vA ?_ T.ac T.ae.m (DF T) hr.m T.ae.b .nil (jr fZ) ?_,xL];left;obtain⟨⟨dx,ho⟩,_⟩:=id hD;rcases nE with ⟨c,rfl,rfl,hok,qn,qy,q⟩|⟨tx,s0,rfl,rfl,hS,hq⟩
  rotate_left
  .refine vn ?_;show vy ?_;exists _,ai.of ht,cf (j:=0) Y,tx,s0,Y,hS,?_;rcases hq with ⟨Z,M⟩|⟨Z,M⟩
   .exact .inl ⟨Z,M⟩
   .exact .inr ⟨Z,λb f H1 hT hF s1=>M f b H1 hF hT s1⟩
  cases c with
  |form n tx =>
   have ew:(aZ.form n tx).wd=ofString "=" := rfl;show vY (by rw[ew];decide) ?_;obtain⟨k1,k2,k3,k4⟩:=hok;exists _,ai.of ht,cf (j:=0) Y,tx,Y,k1,k2,k3,λf hf b H1 hb hT s1=>?_,λhf=>?_
   .exact q f b H1 ⟨f,Y,hf⟩ (zeB hf k2) hT s1
   .rw[hf]at k4;cases k4
  |stat n s0=>show hok.elim
  |fixd n a k b=>show hok.elim
  |put n a k b =>
   have ew:(aZ.put n a k b).wd=ofString "put" := rfl;show vN (by rw[ew];decide) ?_;show vN (by rw[ew];decide) ?_;exists p,dx,_,Y,ho,oH d tE,_,ai.of ht,cf (j:=0) Y,p,d,st,a,Y,hD,λx l hg hT=>?_,λhg=>qn H (.inl ⟨hg,Y⟩) (ag.refl _);have hF:=xu bp hg;show vN (by rw[ew];decide) ?_;show vY (by rw[ew];decide) ?_;exists _,ai.of ht,cf (j:=1) Y,p,dx,_,Y,ho,oH d tE,_,ai.of ht,cf (j:=2) Y,p,d,st,b,Y,hD,λy o mV nk=>?_,λmV=>qn H (.inr (.inl ⟨l,hg,mV,Y⟩)) (ag.refl _);have jG:=xu bp mV;have hoo:=jG.len2 jG;have sr:=hF.len2 jG;have m6:=hF.fit.1;exists y,o,Y,nk,tL,jG.mul jG,λH1 s1 hy=>?_,λH1 s1 hy=>qy H1 (.inr (.inr ⟨l,o,hg,mV,.inl ⟨hy,Y⟩⟩)) s1;exists x,y,l,o,k,Y,hT.keep s1,nk.keep s1,hF.h0,tL,tL,hok,hF.mul jG,λc f H2 hc JV Bp mG s2=>?_;show q f c H2 (.inr (.inr ⟨l,o,hg,mV,.inr ⟨hy,f,Y,Bp⟩⟩)) tL JV (s1.trans s2)
  |two wo n a b =>
   have ew:(aZ.two wo n a b).wd=om wo:=rfl;have zq:=hok;obtain⟨n1,n2,n3,n4⟩:=zaS zq;show vN (by rw[ew,n1];decide) ?_;show vN (by rw[ew,n2];decide) ?_;exists p,dx,_,Y,ho,oH d tE,_,ai.of ht,cf (j:=0) Y,p,d,st,a,Y,hD,λx l hg hT=>?_,λhg=>qn H (.inl ⟨hg,Y⟩) (ag.refl _);have hF:=xu bp hg;show vN (by rw[ew,n3];decide) ?_;show vN (by rw[ew,n4];decide) ?_;exists p,dx,_,Y,ho,oH d tE,_,ai.of ht,cf (j:=1) Y,p,d,st,b,Y,hD,λy o mV nk=>?_,λmV=>qn H (.inr (.inl ⟨l,hg,mV,Y⟩)) (ag.refl _);have jG:=xu bp mV;exists wo,x,y,l,o,Y,zq,hT,nk,hF,jG,λc f H2 hc JV Bp s2=>?_;show q f c H2 (.inr (.inr ⟨l,o,f,hg,mV,Y,Bp⟩)) (zfp zq hF jG Bp) JV s2
def zdG(K:Frag)(TM:Addr):Sp:=λvs H Q E=>∃(a:Addr) (l:ak),vs=[.ref a]/\aI H a l/\l.length<=100000/\(iB l->∀O,ag H O->Q .non O)/\(¬iB l->∀O,ag H O->E (.ref TM) none O)
def Lg:(["members","number","bound"]:List Str).Nodup:=by decide+kernel
def YG(T:Txt w K mg):Cv.OkE P w K mg base 1 (zdG K dr):=by
  show T.az.e ?_;rintro vs H Q E ⟨a,l,rfl,hT,aL,q,e⟩;have pV:=@pv;have xS:=@tu;have BX:=@rf;have CB:=@uT;show #[aO ?_ (aO (PS.nox ?_) ?_),bD,aW sQ,fN,vd fZ Y (by rfl) T.ar T.ag,zgw,ZX,bD (PT.nox (lR (gj (zgb Y) (by rfl) T.b4 jhO (bN (dq (g:=(gd K 2 (bW (aQ 0) (bW (aQ 1) gc)))) ["members","number","bound"] 2 [1] Y (cB Cv) (rJ (pv 0)) (λa b c d e=>(tu (n:=2) Y (rf (bb 0 Lg) (rf (bb 1 Lg) uT)))) (λa b c d e=>JP) (λa b c d e=>(kO Vs (gj BZ (by rfl) T.aF AW (bN (pv 1) dC)) (pv 2)))) dC)))) ?_ ?_,vd fZ Y (by rfl) T.ar T.ag];left;obtain⟨ps,Z,M⟩:=id hT;have cj:=M.length;exists _,Y,a,_,Y,.inl (ai.of Z),_,_,Y,Y,_,Y,?_;by_cases z3:l.length<=300
  rotate_left
  .refine bq (aR (by rw[ar];lia)) ?_;show e (λz=>z3 z.1) H (ag.refl _)
  show aK (by grind) ?_;exists _,_,Y,Y,⟨tD,tD,tD⟩,_,_,Y,Y,⟨tD,tE⟩,?_;have e1:((10:Int)^Int.toNat 50)^Int.toNat 20=((10^1000:Nat):Int):=by decide+kernel
  have yi:∀t:Int×Int,decide (((10:Int)^Int.toNat 50)^Int.toNat 20<=if t.2<0 then -t.2 else t.2) = !decide (t.2.natAbs<10^1000):=λt=>by grind
  dsimp only;generalize ((10:Int)^Int.toNat 50)^Int.toNat 20=B at yi ⊢;exists _,Y,a,Y,⟨_,ai.of Z⟩,?_;show jg (K:=K) (a:=a) (xs:=ps.map V.ref) (λi ys σ G=>∃v0 v1:Option V,σ=[v0,v1,some (.int B)]/\ys=((l.take i).map λt => !decide (t.2.natAbs<10^1000)).map V.bl/\G=H)
   ⟨none,none,Y,Y,Y⟩ (by rintro i ys σ G hi ⟨_,_,_,e1,e2⟩;show⟨by rw[e2];show ai.of Z,by simp_all⟩) (by rw[ar];show dH (cJ tL)) ?_ ?_
  .rintro i y ys σ G hi ⟨v0,v1,rfl,rfl,rfl⟩;obtain⟨p,dv,rfl⟩:=gM hi;obtain⟨t,bA,dk⟩:=M.at' dv;exists p,_,Y,aD.of dk,Y,_,_,Y,_,_,Y,Y,?_;show tt ?_;exists _,Y,_,Y,_,Y,_,_,Y,Y,?_;dsimp only;rw[yi t];exists _,_,Y,?_,rfl;rw[dM,bA,aN,aN];rfl
  .rintro ys σ G ⟨v0,v1,rfl,rfl,rfl⟩ D hD;exists D,_,Y,ai.of ao,_,Y,?_;rw[ar,cj,eV];by_cases z:∀t∈l,t.2.natAbs<10^1000
   .refine aK ?_ (q ⟨z3,z⟩ _ (ag.upd hD));intro y;obtain⟨b,hb,w⟩:=oI.mp y;obtain⟨t,ht,rfl⟩:=aU.mp hb;rw[aR (z t ht)]at w;cases w
   .refine bq ?_ (e (λy=>z y.2) _ (ag.upd hD))
    have:∃t∈l,¬t.2.natAbs<10^1000:=MU λy=>z λt ht=>MU λw=>y ⟨t,ht,w⟩
    obtain⟨t,ht,w⟩:=this;show oI.mpr ⟨true,aU.mpr ⟨t,ht,by rw[bw w];rfl⟩,Y⟩
def oS(f:ak):Prop:=∀t∈f,0<t.1/\0<t.2
def oR(ns:List Int):Prop:=ns.head?=some 0/\∀x∈ns,0<=x
def oR.at(h:oR ns)(i:Nat):0<=c5 ns i:=by
 unfold c5;rw[zj];cases e:ns[i]? with
 |none=>show ik _
 |some x=>show h.2 x (c8 e)
def oR.at0(h:oR ns):c5 ns 0=0:=by
 unfold c5;rw[zj,<-List.head?_eq_getElem?,h.1];rfl
def zaA(K:Frag):Sp:=λvs H Q _=>∃(a:Addr) (ns:List Int) (m:Nat),vs=[.ref a,.int 1]/\H a=some (.lst (ns.map V.int))/\ns.length=2^m/\m<=16/\oR ns /\
 ∀(D:Addr) (ms:List Int) (O:Hp),oR ms->ms.length=2^m->O D=some (.lst (ms.map V.int))->ag H O->Q (.ref D) O
def Wf:(["number","low","sign"]:List Str).Nodup:=by decide+kernel
def Xe(T:Txt w K mg):Dc.Ok P w K mg base 1 (zaA K):=by
  show T.bp.k ?_;rintro vs H Q E ⟨a,ns,m,rfl,ha,aL,hm,xf,q⟩;show #[?_,zr.j,qI Bj zU Ar zZ ?_,fN,A6,fj,fj,gf,dq (g:=(gd K 2 (bW (aQ 0) (bW (aQ 1) gc)))) ["number","low","sign"] 2 [1] Y (cB Dc) ?_ ?_ ?_ ?_,GW false Y T.aX ?_,A6,fj,fj,bb 0 Wf,bb 1 Wf,dA.j,gw.c];left;have hmx:(2:Nat)^m<=2^16:=eO tD hm;exists a,_,Y,.inl (ai.of ha),Y,_,Y,Y,?_;rw[ar,aL,zgP];exists (((m+1:Nat):Int)-1),Y,tL,tL,?_;have em:((((m+1:Nat):Int)-1)).toNat=m:=by lia
  rw[em];show rY (n:=m) (λi σ H2=>∃(v3 v4:Option V) (b:Addr) (ms:List Int),σ=[some (.ref b),some (.int 1),some (.int (((m+1:Nat):Int)-1)),v3,v4]/\H2 b=some (.lst (ms.map V.int))/\ms.length=2^m/\oR ms/\ag H H2)
   ⟨none,none,a,ns,Y,ha,aL,xf,ag.refl _⟩ ?_ ?_
  .rintro i σ H2 hi ⟨v3,v4,b,ms,rfl,lO,tN,ht,s2⟩;have e1:2^m=2*2^(m-1):=by rw[<-Nat.pow_succ'];congr 1;lia
   have dO:(ms.map V.int).length=2*2^(m-1):=by simp_all
   have p0:=uP (m-1);have hm0:(2:Nat)^(m-1)<=2^16:=eO tD tL;generalize hn:2^(m-1)=n at *;have ec:∀c,c<2->kS c (((ms.map V.int).length-c+1)/2) (ms.map V.int)=((List.range n).map λk=>c5 ms (2*k+c)).map V.int:=λc hc=>by
    rw[dO,show (2*n-c+1)/2=n by lia];show zd5 c n ms (by simp_all) hc
   exists Y,0,b,_,Y,Y,ai.of lO,bJ _,λw hw=>?_;generalize eU:upd H2 w _=H3;have s3:=(nw eU hw).1;have zq:H3 w=some (.lst (((List.range n).map λk=>c5 ms (2*k)).map V.int)):=by rw[(nw eU hw).2,ec 0 tD];rfl
   exists Y,1,b,_,Y,Y,ai.of (s3 _ _ lO),tL,λx hx=>?_;generalize eU:upd H3 x _=H4;have s4:=(nw eU hx).1;have Uj:H4 x=some (.lst (((List.range n).map λk=>c5 ms (2*k+1)).map V.int)):=by rw[(nw eU hx).2,ec 1 tD]
   have FP:=s4 _ _ zq;exists x,w,Y,⟨_,ai.of Uj⟩,⟨_,ai.of FP⟩,?_;show JS false (K:=K) (a:=x) (b:=w) (xs:=((List.range n).map λk=>c5 ms (2*k+1)).map V.int) (ys:=((List.range n).map λk=>c5 ms (2*k)).map V.int) tS (λi zs σ H5=>∃v0 v1:Option V,σ=[v0,v1,some (.int 1)]/\zs=((List.range i).map λk=>c5 ms (2*k+1)+1*c5 ms (2*k)).map V.int/\ag H4 H5)
    ⟨none,none,Y,Y,ag.refl _⟩ (by rintro i zs σ H5 hi ⟨_,_,_,e1,e2⟩;show⟨ai.of (e2 _ _ Uj),ai.of (e2 _ _ FP),by rw[e1];simp⟩) (by simp;show dH (cJ tL)) ?_ ?_
   .rintro i u v zs σ H5 W hu hv ⟨v0,v1,rfl,rfl,s5⟩ hW;have hin:i<n:=by
     have:=(cq.mp hu).1
     simpa using this
    have eu:u=V.int (c5 ms (2*i+1)):=by simp_all
    have ev:v=V.int (c5 ms (2*i)):=by simp_all
    subst eu ev;have s6:ag H5 (upd H5 W (.tup [.int (c5 ms (2*i+1)),.int (c5 ms (2*i))])):=ag.upd hW;exists W,_,Y,aD.of ao,Y,_,_,Y,_,_,Y,Y,?_;show tt ?_;exists lN tL tL,some (.int (c5 ms (2*i+1))),some (.int (c5 ms (2*i))),Y,?_,s5.trans s6;rw[iA,aN,aN];rfl
   .rintro zs σ H5 ⟨v0,v1,rfl,rfl,s5⟩ D hD;have hlx:(((List.range n).map λk=>c5 ms (2*k+1)).map V.int).length=n:=by simp
    rw[hlx];have s6:ag H5 (upd H5 D (.lst (((List.range n).map λk=>c5 ms (2*k+1)+1*c5 ms (2*k)).map V.int))):=ag.upd hD;exists w,D,_,_,Y,Y,s6 _ _ (s5 _ _ FP),ao,(by simp;show dH (cJ tL)),λc hc=>?_;have S6:=s2.trans (s3.trans (s4.trans (s5.trans s6)));exists _,_,c,((List.range n).map λk=>c5 ms (2*k))++(List.range n).map λk=>c5 ms (2*k+1)+1*c5 ms (2*k),Y,by rw[ao,aN],by simp;lia,⟨?_,λy hy=>?_⟩,S6.trans (ag.upd hc)
    .obtain⟨n',rfl⟩:∃n',n=n'+1:=⟨n-1,(by clear hn;lia)⟩;rw[Cm];show congrArg some ht.at0
    .rcases bC.mp hy with z|z
     .obtain⟨k,_,rfl⟩:=aU.mp z;show ht.at _
     .obtain⟨k,_,rfl⟩:=aU.mp z
      have:=ht.at (2*k)
      have:=ht.at (2*k+1)
      show 0<=c5 ms (2*k+1)+1*c5 ms (2*k);lia
  .rintro σ H2 ⟨v3,v4,b,ms,rfl,lO,tN,ht,s2⟩;show q b ms H2 ht tN lO s2
def zf6(K:Frag):Sp:=λvs H Q _=>∃(a:Addr) (l:ak) (m:Nat),vs=[.ref a,.int (m:Int)]/\TL K H a l/\IsForm l/\l.length<=100000/\m<=16/\oS l /\
 ∀(D:Addr) (ms:List Int) (O:Hp),oR ms->ms.length=2^m->O D=some (.lst (ms.map V.int))->ag H O->Q (.ref D) O
def zgI(h:oS l)(k:Int):0<=aA l k:=by
 induction l with
 |nil=>show ik _
 |cons t r ih =>
  have Z:=(h t tS).2;have M:=ih λu hu=>h u (by simp[hu])
  show 0<=(if t.1=k then t.2 else 0)+aA r k;split<;>lia
def WG(h:oS l):aA l 0=0:=zg λhk=>by
 obtain⟨t,ht,e⟩:=aU.mp hk
 have:=(h t ht).1
 lia
def Wx(T:Txt w K mg):AD.Ok P w K mg base 2 (zf6 K):=by
  show T.bq.k ?_;rintro vs H Q E ⟨a,l,m,rfl,hT,hF,aL,hm,hp,q⟩;show #[?_,kr (zad Y) Y T.b5 jhw ?_,au T.bp (Xe T) hr ?_,dq (g:=(aQ 0)) ["members","numbers"] 1 [2] Y (cB AD) ?_ ?_ ?_ ?_,au T.af (rZ T) hr ?_,bb 0 Rk,CK hu ?_ ?_ ?_ ⟨Y,Y,Y,Y⟩];exists a,l,Y,hT,tL,λd hd=>?_;generalize eU:upd H d _=H1;obtain⟨s1,bU⟩:=nw eU hd;have pw:((2:Int)^m)=((2^m:Nat):Int):=by norm_cast
  have e2:((2:Int)^m).toNat=2^m:=by rw[pw];rfl
  have hmx:(2:Nat)^m<=2^16:=eO tD hm;exists m,Y,tL,(2:Int)^m,Y,tL,tL,?_;show vb (lo:=0) (n:=((2:Int)^m).toNat) (λi ys σ H2=>∃v0:Option V,σ=[v0,some (.ref d)]/\ys=((List.range i).map λk:Nat=>aA l (k:Int)).map V.int/\H2=H1) ⟨none,Y,Y,Y⟩ (λi ys σ H2 ⟨_,_,e,_⟩=>by rw[e];simp) (by rw[e2];show dH (cJ tL)) ?_ ?_
  .rintro i ys σ H2 hi ⟨v0,rfl,rfl,rfl⟩;unfold aQ;show tt ?_;exists d,Y,.inl ⟨_,.inl bU⟩,_,fV.k (k:=Sum.inl (0+(i:Int))) bU,?_;rw[oW];have eg:((look (nU [] l) (0+(i:Int))).map V.int).getD (V.int 0)=V.int (aA l (i:Int)):=by
    rw[<-zeb hF,jf];unfold cK;cases look (nU [] l) (i:Int)<;>rfl
   exists some (.int (0+(i:Int))),Y,?_,rfl;rw[iA,aN,aN,eg];rfl
  .rintro ys σ H2 ⟨v0,rfl,rfl,rfl⟩ D hD;rw[e2];have s2:ag H2 (upd H2 D (.lst (((List.range (2^m)).map λk:Nat=>aA l (k:Int)).map V.int))):=ag.upd hD;exists D,_,m,Y,ao,tS,hm,⟨?_,λy hy=>?_⟩,λD' ms O Z M h3 s3=>q D' ms O Z M h3 (s1.trans (s2.trans s3))
   .obtain⟨n',e⟩:∃n',2^m=n'+1:=⟨2^m-1,by have:=uP m;lia⟩;rw[e,Cm];show congrArg some (WG hp)
   .obtain⟨k,_,rfl⟩:=aU.mp hy;show zgI hp _
def zfz(K:Frag):Sp:=λvs H Q _=>∃(a:Addr) (l:ak),vs=[.ref a]/\TL K H a l/\l.length<=100000/\oS l/\∀O,ag H O->Q (.int 0) O
def DG:(["members","number"]:List Str).Nodup:=by decide+kernel
def Ww(T:Txt w K mg):Au.Ok P w K mg base 1 (zfz K):=by
  show T.br.k ?_;rintro vs H Q E ⟨a,l,rfl,⟨ps,hS,hT⟩,aL,hp,q⟩;show #[?_,gj (GB Y) (by rfl) T.aW Kg ?_,dq (g:=(gd K 2 (bW (aQ 0) (bW (aQ 1) gc)))) ["members","number"] 2 [] Y (cB Au) ?_ ?_ ?_ ?_,eQ,bb 0 DG,bb 1 DG,PW.pt,aW bO,aW oq.j];exists ⟨_,hS⟩,?_;show jg (K:=K) (a:=a) (xs:=ps.map V.ref) (λi ys σ H2=>∃(v0 v1:Option V),σ=[v0,v1]/\H2=H/\ys=[])
   ⟨none,none,Y,Y,Y⟩ (by rintro i ys σ H2 hi ⟨_,_,_,e,e2⟩;show⟨by rw[e];show hS,by simp_all⟩) (by rw[ar,hT.length];show dH (cJ tO)) ?_ ?_
  .rintro i y ys σ H2 hi ⟨v0,v1,rfl,rfl,rfl⟩;obtain⟨p,dv,rfl⟩:=gM hi;obtain⟨t,bA,dk⟩:=hT.at' dv;obtain⟨Z,M⟩:=hp t (c8 bA);exists p,_,Y,aD.of dk,Y,_,_,Y,_,_,Y,Y,?_;exists _,Y,aK (λz=>by simp_all) ?_;exists _,Y,aK (λz=>by lia) ⟨_,_,Y,Y,Y⟩
  .rintro ys σ H2 ⟨v0,v1,rfl,rfl,rfl⟩ D hD;exists D,[],Y,ai.of ao,q _ (ag.upd hD)
def zgy(K:Frag):Sp:=λvs H Q _=>∃(a:Addr) (f:ak),vs=[.ref a,.int 0]/\aI H a f/\f.length<=100000/\oS f/\∀O,ag H O->Q (.int 0) O
def Zx(T:Txt w K mg):FL.Ok P w K mg base 2 (zgy K):=by
  show T.bs.k ?_;rintro vs H Q E ⟨a,f,rfl,hT,hl,hp,q⟩;show #[aO ?_ (aO du (bQ du)),cL,cN Vs.j,au T.br (Ww T) hr ?_];left;exists a,f,Y,hT.tl,by assumption,hp,λH1 s1=>?_;show vy (q H1 s1)
def zbK(K:Frag):Sp:=λvs H Q _=>∃(a:Addr) (f:ak) (m:Nat),vs=[.ref a,.int (m:Int)]/\aI H a f/\IsForm f/\f.length<=300/\m<=10/\(∀t∈f,0<=t.1/\t.1<2^m)/\oS f/\∀(c:Addr) (O:Hp),O c=some (.tup [.int 0,.int 0,.int 0])->ag H O->Q (.ref c) O
def Rl:(["members","own","size"]:List Str).Nodup:=by decide+kernel
def zhe(T:Txt w K mg):Bd.Ok P w K mg base 3 (zbK K):=by
  show T.bt.k ?_;rintro vs H Q E ⟨a,f,m,rfl,hT,hf,hl,hm,h0,hp,q⟩;show #[?_,au T.bq (Wx T) hr ?_,gj (zdt Y) (by rfl) T.b9 jhB ?_,au T.af (rZ T) hr.m ?_,yg (i:=5) (g:=(gd K 2 (bW (aQ 0) (bW (aQ 1) gc)))) ["members","own","size"] 2 [4] nd Y (Or.inl Y) Y (cB Bd) ?_ ?_ ?_ ?_,eQ,bb 0 Rl,bb 1 Rl,aW oq.j,fF qV U2 Uk zcn ?_ ?_,au T.bs (Zx T) hr ?_];left;exists a,f,m,Y,hT.tl,hf,tL,tL,hp,λD ms H1 xf tN iL s1=>?_;exists D,_,Y,ai.of iL,(by rw[tN];show uP m),λn hn=>?_;obtain⟨x,rt,rfl⟩:∃x rt,ms=x::rt:=by cases ms with
   |nil=>show absurd xf.1 tS
   |cons x rt=>exists x,rt,rfl
  obtain rfl:x=0:=di xf.1;obtain rfl:n=0:=by
   have Z:=hn.2 0 tS;have M:=xf.2 n hn.1;lia
  exists m,Y,tL,?_;exists (hT.keep s1).tl.seq,?_;show KW (λt=>decide (t.1<2^m)) (λt=>t) (hT.keep s1).tl tL [some (.int (2^m))] Y (λt ht H2 R s2 r=>?_) (λt ht hp H2 R s2 r=>?_) λE2 ys H2 hE dz s2=>?_
  .exists _,Y,r
  .exists fK,r
  rw[Hu,List.filter_eq_self.mpr λt ht=>aR (h0 t ht).2]at dz;have ij:=s2 _ _ iL;exists .inl ⟨Y,_,ai.of ij⟩,D,_,0,Y,Y,ij,hn.1,?_;exists E2,f,Y,dz,tL,hp,λH3 s3=>?_;exists sP,λc hc=>?_;show q c _ ?_ (s1.trans (s2.trans (s3.trans (ag.upd hc))));rw[ao];rfl
def zeX:Sp:=λvs H Q _=>∃n:Int,vs=[.int n]/\Q (.str (S [32,ba n,32])) H
def T2(T:Txt w K mg):FY.Ok P w K mg base 1 zeX:=by
  show T.aR.k ?_;rintro vs H Q E ⟨n,rfl,q⟩;show #[?_,C9,aW oq.j];exists _,Y,?_;show md (λh=>?_) (λh=>?_)
  .have h':=cx h;have e:ba n=45:=aj h';rw[e]at q;rw[<-zeD]at q;show q
  .have h':¬n<0:=λz=>h (aR z)
   have e:ba n=43:=ah h';rw[e]at q;rw[<-zdI]at q;show q
def zcH:Sp:=λvs H Q _=>∃(g m:Nat),vs=[.int (g:Int),.int (m:Int)]/\m<=100000 /\
 ∀(D:Addr) (O:Hp),H D=none->O D=some (.lst (((List.range m).map λi:Nat=>((g/2^i%2:Nat):Int)).map V.int))->ag H O->Q (.ref D) O
def zdm(T:Txt w K mg):HZ.Ok P w K mg base 1 zcH:=by
  show T.bu.k ?_;rintro vs H Q E ⟨g,m,rfl,hm,q⟩;show #[?_,fY.c,sj.c];left;exists bJ _,λD hD=>?_;exists (m:Int),Y,tL,tL,rY (n:=m) (λi σ H2=>∃v3:Option V,σ=[some (.int ((g/2^i:Nat):Int)),some (.int (m:Int)),some (.ref D),v3]/\H2=upd H D (.lst (((List.range i).map λi:Nat=>((g/2^i%2:Nat):Int)).map V.int))) ⟨none,?_,Y⟩ ?_ ?_
  .rw[Lf,Rt];rfl
  .rintro i σ H2 hi ⟨v3,rfl,rfl⟩;exists .inl ⟨Y,_,ai.of ao⟩,(by simp),_,ao,(by rw[ar,ar,lh];show cJ tL),?_;exists ⟨tD,tD⟩,some (.int (0+(i:Int))),?_,?_
   .show [some (V.int (((g/2^i:Nat):Int)/2)),_,_,_]=_;rw[show ((g/2^i:Nat):Int)/2=((g/2^(i+1):Nat):Int) by rw[jL,<-LY];norm_cast]
   .rw[yp,iA,aN,aN];rfl
  .rintro σ H2 ⟨v3,rfl,rfl⟩;show q D _ hD ao (ag.upd hD)
def ze0(K:Frag):Sp:=λvs H Q _=>∃(a:Nat),vs=[.int (a:Int)]/\a<2^1000 /\
 ∀(D:Addr) (O:Hp),H D=none->O D=some (.lst (((lst a).map λk:Nat=>(k:Int)).map V.int))->ag H O->Q (.ref D) O
def QR:(["k","bit"]:List Str).Nodup:=by decide+kernel
def zd2(T:Txt w K mg):Ci.Ok P w K mg base 2 (ze0 K):=by
  show T.bv.k ?_;rintro vs H Q E ⟨a,rfl,ha,q⟩;show #[?_,dq (g:=(gd K 2 (bW (aQ 0) (bW (aQ 1) gc)))) ["k","bit"] 2 [] Y (cB Ci) ?_ ?_ ?_ ?_,zbx Y T.b6 ?_,au T.bu (zdm T) hr ?_,qI Bj zU Ar zZ ?_,bb 0 QR,bb 1 QR,aW bO];have hb:=FJ ha;exists Y,_,Y,Y,a,intBits (a:Int),Y,tL,λb H1 hbn hJ s1=>?_;exists b,Y,⟨_,ai.of hJ⟩,?_;show ZL (K:=K) (a:=b) (xs:=((List.range (intBits (a:Int))).map λi:Nat=>((a/2^i%2:Nat):Int)).map V.int) (λi ys σ H2=>∃v0 v1:Option V,σ=[v0,v1]/\ys=(((List.range i).filter λk=>a.testBit k).map λk:Nat=>(k:Int)).map V.int/\ag H1 H2)
   ⟨none,none,Y,Y,ag.refl _⟩ (λi ys σ H2 hi ⟨_,_,_,e1,e2⟩=>⟨ai.of (e2 _ _ hJ),by
    rw[e1,ar,ar];show a9 (mO _ _) (by simp)⟩) (by rw[ar,ar,lh];show dH (cJ tL)) ?_ ?_
  .rintro i x ys σ H2 W hi ⟨v0,v1,rfl,rfl,s2⟩ hW;obtain⟨n,hn,rfl⟩:=DP hi;rw[c9]at hn;have dZ:i<intBits (a:Int):=by
    rcases lj i (intBits (a:Int))with z|z
    .exact z
    .rw[Co (by rw[lh];show z)]at hn;cases hn
   rw[yn dZ]at hn;have sW:((a/2^i%2:Nat):Int)=n:=di hn;have s3:ag H2 (upd H2 W (.tup [.int (i:Nat),.int n])):=ag.upd hW;exists W,_,Y,aD.of ao,Y,_,_,Y,_,_,Y,Y,?_;exists _,Y,?_;have PU:=UO (x:=a) (i:=i);by_cases Z:a/2^i%2=1
   .have hJ:a.testBit i=true:=by rw[PU];show aR Z
    show bq (by simp_all) ?_;exists _,_,Y,?_,s2.trans s3;rw[iA,iw,aN,aN];simp[hJ]
   .have hJ:a.testBit i=false:=by rw[PU];show bw Z
    have h0:a/2^i%2=0:=by simp_all
    show aK (by rw[<-sW,h0];decide) ⟨_,_,Y,?_,s2.trans s3⟩;rw[iA,iw,aN,aN];simp[hJ]
  .rintro ys σ H2 ⟨v0,v1,rfl,rfl,s2⟩ D hD;show q D _ (s1.free (s2.free hD)) ?_ (s1.trans (s2.trans (ag.upd hD)));rw[ao,ar,ar,lh];rfl
def WS(K:Frag):Sp:=λvs H Q _=>∃m:Nat,vs=[.int (m:Int)]/\m<2^16/\∀O,ag H O->Q (.str (S (cy m))) O
def zft:(["k"]:List Str).Nodup:=by decide+kernel
def PD(T:Txt w K mg):DO.Ok P w K mg base 3 (WS K):=by
  show T.aS.k ?_;rintro vs H Q E ⟨m,rfl,hm,q⟩;show #[?_,fF ie yR xU zA ?_ ?_,dq (g:=(aQ 0)) ["k"] 1 [] Y (cB DO) ?_ ?_ ?_ ?_,eQ,au T.bv (zd2 T) hr ?_,bb 0 zft,uC zO,eK (v:=.str "abcdefghijklmnop") (by rfl) T.aq ⟨_,Y⟩];exists Y,?_;exists m,Y,cP hm (eO tD tD),λD H1 hD iL s1=>?_;exists ⟨_,ai.of iL⟩,?_;have zd:(lst m).length<=16:=by have:=rD hm;unfold cy at this;rw[ar]at this;show this
  show jg (K:=K) (a:=D) (xs:=((lst m).map λk:Nat=>(k:Int)).map V.int) (λi ys σ G=>∃v0:Option V,σ=[v0]/\ys=(((cy m).take i).map λc=>S [c]).map V.str/\ag H1 G)
   ⟨none,Y,Y,ag.refl _⟩ (by rintro i ys σ G hi ⟨_,_,e1,e2⟩;show⟨ai.of (e2 _ _ iL),by rw[e1,ar,ar,cZ];show Ob _ _⟩) (by rw[ar,ar];show a9 zd tD) ?_ ?_
  .rintro i y ys σ G hi ⟨v0,rfl,rfl,sG⟩;obtain⟨x,hx,rfl⟩:=DP hi;rw[c9]at hx;obtain⟨k,hk,rfl⟩:∃k,(lst m)[i]?=some k/\(k:Int)=x:=by simp_all
   have Kr:k<16:=by
    have:=sS hm (c:=97+k) (aU.mpr ⟨k,c8 hk,Y⟩)
    lia
   unfold aQ;show tt ?_;exists _,_,_,Y,Y,(by rw[qq,aH];show 16<=sizeLine;decide),(by rw[qq,i0];show cf (Um k Kr)),?_;exists _,Y,?_,sG
   have:(cy m)[i]?=some (97+k):=by unfold cy;rw[c9,hk];rfl
   rw[dM,this,aN,aN];rfl
  .rintro ys σ G ⟨v0,rfl,rfl,sG⟩ E hE;have hl:(cy m).take ((((lst m).map λk:Nat=>(k:Int)).map V.int).length)=cy m:=f9 (by unfold cy;simp);rw[hl];exists _,E,(cy m).map λc=>S [c],Y,Y,ai.of ao,?_,?_
   .rw[EG,iI]
    have:=rD hm
    simp[aH];lia
   .rw[iI,O9];show q _ (s1.trans (sG.trans (ag.upd hE)))
def zfK(K:Frag):Sp:=λvs H Q _=>∃m n:Nat,vs=[.int (m:Int),.int (n:Int)]/\m<2^16/\n<10^1000/\∀O,ag H O->Q (.str (S (lW m n))) O
def zbB(T:Txt w K mg):ET.Ok P w K mg base 4 (zfK K):=by
  show T.bw.k ?_;rintro vs H Q E ⟨m,n,rfl,hm,hn,q⟩;show #[?_,bD,PW.pt,aW bO,aW mF,au T.aS (PD T) hr ?_,cU,kr (zz (xb T.cs)) Y T.ap yu ?_,au T.aS (PD T) hr ?_];have fin:¬(n=1/\m≠0)->∀H1,ag H H1->Q (.str (S (eJ n)++S (cy m))) H1:=λz H1 s1=>by
   rw[bF];have e:lW m n=eJ n++cy m:=by unfold lW;rw[ah z]
   rw[<-e];show q H1 s1
  have aL:(S (eJ n)).length+(S (cy m)).length<=sizeLine:=by
   rw[aH,aH];have Z:=xi (k:=999) hn;have M:=rD hm;show a9 (GH Z M) tD
  exists _,Y,?_;show md (λZ=>?_) (λZ=>?_)
  .have n1:n=1:=by grind
   exists _,Y,?_;show md (λM=>?_) (λM=>?_)
   .have m0:m≠0:=λz=>by simp_all
    exists m,Y,hm,λH1 s1=>?_;have e:lW m n=cy m:=by unfold lW;rw[aj ⟨n1,m0⟩];rfl
    rw[<-e];show q H1 s1
   .have z:¬(n=1/\m≠0):=λz=>M (by simp_all)
    exists _,Y,Ht hn,?_;rw[E9];exists m,Y,hm,λH1 s1=>⟨_,_,Y,Y,aL,fin z H1 s1⟩
  .have z:¬(n=1/\m≠0):=λz=>Z (by rw[z.1];simp)
   exists _,Y,Ht hn,?_;rw[E9];exists m,Y,hm,λH1 s1=>⟨_,_,Y,Y,aL,fin z H1 s1⟩
def zfQ(T:Txt w K mg):CP.Ok P w K mg base 5 (Ox K):=by
  show T.bx.k ?_;rintro vs H Q E ⟨a,f,rfl,hT,hs,hl,q⟩;show #[?_,bD,rg ?_ (λ_=>rfl),yg (i:=1) (g:=(gd K 2 (bW (aQ 0) (bW (aQ 1) gc)))) ["members","number"] 2 [] nd Y (Or.inl Y) Y (cB CP) ?_ ?_ ?_ ?_,eQ,bb 0 DG,bb 1 DG,cU,au T.aR (T2 T) hr.m ?_,au T.bw (zbB T) hr ?_,gj BZ (by rfl) T.aF AW ?_,C9,aW oq.j,xT,xL,cU,fI Bf,fF ie yR xU zA ?_ ?_,fj,oo,au T.aR (T2 T) hr.m ?_,xT,xL];left;obtain⟨ps,hS,hP⟩:=id hT;have cj:=hP.length;cases f with
  |nil =>
   have hn:=uc cj;exists false,.inl ⟨_,ai.of hS,by rw[hn];rfl⟩,?_;show il ?_
   have:=q H (ag.refl _)
   rw[show txt []=[48] from rfl,<-oy]at this;show this
  |cons t0 r =>
   have hn:ps≠[]:=λz=>by simp_all
   exists true,.inl ⟨_,ai.of hS,by simp_all⟩,?_;show gC ?_;exists ⟨_,ai.of hS⟩,?_;have hlf:(t0::r).length<=100000:=by lia
   show jg (K:=K) (a:=a) (xs:=ps.map V.ref) (λi ys σ G=>∃v0 v1:Option V,σ=[v0,v1]/\ys=(((t0::r).take i).map λt=>S (ck t)).map V.str/\ag H G)
    ⟨none,none,Y,Y,ag.refl _⟩ (by rintro i ys σ G hi ⟨_,_,_,e1,e2⟩;show⟨ai.of (e2 _ _ hS),by rw[e1,ar,ar,cZ];show Ob _ _⟩) (by rw[ar];show dH (cJ tL)) ?_ ?_
   .rintro i y ys σ G hi ⟨v0,v1,rfl,rfl,sG⟩;obtain⟨p,dv,rfl⟩:=gM hi;obtain⟨t,bA,dk⟩:=hP.at' dv;have hok:=hs t (c8 bA);obtain⟨h0,Z,M,h3⟩:=id hok;exists p,_,Y,aD.of (sG _ _ dk),Y,_,_,Y,_,_,Y,Y,?_;show tt ?_;have ea:(if t.2<0 then -t.2 else t.2)=((t.2.natAbs:Nat):Int):=by split<;>lia
    have em:=(vg h0).symm;exists t.2,Y,?_;exists _,Y,?_;exists t.1.toNat,t.2.natAbs,by rw[ea,<-em];rfl,tL,h3,λG1 s1=>?_;have hle:(S [32,ba t.2,32]).length+(S (lW t.1.toNat t.2.natAbs)).length<=sizeLine:=by
     rw[aH,aH];show a9 (rq (De tL h3) _) (by show 3+1016<=sizeLine;decide)
    exists _,_,Y,Y,hle,?_;exists _,_,Y,?_,sG.trans s1;rw[bF,dM,bA,aN,aN];rfl
   .rintro ys σ G ⟨v0,v1,rfl,rfl,sG⟩ D hD;have nH:(t0::r).take (ps.map V.ref).length=t0::r:=by simp_all
    rw[nH];have s1:ag H (upd G D (.lst (((t0::r).map λt=>S (ck t)).map V.str))):=sG.trans (ag.upd hD);have w1:upd G D (.lst (((t0::r).map λt=>S (ck t)).map V.str)) D=some (.lst (((t0::r).map λt=>S (ck t)).map V.str)):=ao;generalize upd G D (.lst (((t0::r).map λt=>S (ck t)).map V.str))=H1 at s1 w1;cases ps with
    |nil=>show absurd Y hn
    |cons p0 ps =>
     cases hP with
     |cons Zm hP =>
      have sT:=s1 _ _ hS;have gk:=s1 _ _ Zm;have hsum:(((t0::r).map λt=>S (ck t)).map (·.length)).sum<=1019*(t0::r).length:=by
       have go:∀l:ak,(∀t∈l,eT t)->((l.map λt=>S (ck t)).map (·.length)).sum<=1019*l.length:=λl=>by
        induction l with
        |nil=>intro _;show aC _
        |cons t l ih =>
         intro zW;rw[bz,bz,yx,aH,bf];have Z:=E3 (zW t tS);have M:=ih λu hu=>zW u (by simp[hu])
         lia
       show go _ hs
      have ej:Txt.join (S []) ((t0::r).map λt=>S (ck t))=S ([32,ba t0.2,32]++(aY t0++r.flatMap ck)):=by
       have:=JJ ((t0::r).map ck)
       rw[cE]at this;show (show Txt.join (S []) ((t0::r).map (S ∘ ck))=_ from this).trans ?_;rw[bz,qk,<-List.flatMap_def];unfold ck;simp
      have Lu:([32,ba t0.2,32]++(aY t0++r.flatMap ck)).length<=320000:=by
       have Z:=E3 (hs t0 tS);have M:=Jk (r:=r) λu hu=>hs u (by simp[hu])
       have h3:([32,ba t0.2,32]++(aY t0++r.flatMap ck)).length=(ck t0).length+(r.flatMap ck).length:=by unfold ck;simp;lia
       simp only[bf]at hl;lia
      have fin:∀(x:Str),x=S (cv t0.2)->(∀G2,ag H G2->Q (.str (x++S (aY t0++r.flatMap ck))) G2):=λx hx G2 s2=>by
       rw[hx,bF,<-dG];show q G2 s2
      have e3:Txt.slice (S ([32,ba t0.2,32]++(aY t0++r.flatMap ck))) (some ((S [32,ba t0.2,32]).length:Int)) none=S (aY t0++r.flatMap ck):=QH;have oN:(((t0::r).map λt=>S (ck t)).map (·.length)).sum+((t0::r).map λt=>S (ck t)).length*(ofString "").length<=16777216:=by
       rw[iI,aH,ub,Pe];lia
      have at0:gN (List.map V.ref (p0::ps)) 0=some (V.ref p0):=cf (xs:=List.map V.ref (p0::ps)) (j:=0) rfl;have kQ:∀(x:Str),x=S (cv t0.2)->x.length+(S (aY t0++r.flatMap ck)).length<=sizeLine:=λx hx=>by
       rw[hx,aH,aH];have h3:(cv t0.2).length<=1:=by unfold cv;split<;>simp
       have h4:(aY t0++r.flatMap ck).length<=320000:=by grind
       show a9 (GH h3 h4) tD
      exists _,ai.of sT,at0,_,aD.of gk,Y,_,Y,?_;show md (λh=>?_) (λh=>?_)
      .have hx:("-" : Str)=S (cv t0.2):=by rw[jq];unfold cv;rw[aj (cx h)]
       exists Y,_,D,_,Y,Y,ai.of w1,oN,?_;exists _,ai.of sT,at0,_,aD.of gk,Y,t0.2,Y,_,Y,sP,?_;exists _,Y,(by rw[iI,ej,aH];show a9 Lu tD),_,_,Y,Y,?_,?_
       .rw[iI,ej,e3];show kQ _ hx
       .rw[iI,ej,e3];show fin _ hx _ s1
      .have hx:("" : Str)=S (cv t0.2):=by rw[iI];unfold cv;rw[ah (λz=>h (aR z))]
       exists Y,_,D,_,Y,Y,ai.of w1,oN,?_;exists _,ai.of sT,at0,_,aD.of gk,Y,t0.2,Y,_,Y,sP,?_;exists _,Y,(by rw[iI,ej,aH];show a9 Lu tD),_,_,Y,Y,?_,?_
       .rw[show Txt.join (ofString "")=Txt.join (S []) by rw[iI],ej,e3];show kQ _ hx
       .rw[show Txt.join (ofString "")=Txt.join (S []) by rw[iI],ej,e3];show fin _ hx _ s1
def zbQ(K:Frag)(TM:Addr):Sp:=λvs H Q E=>∃(a:Addr) (l:ak),vs=[.ref a]/\aI H a l/\(∀t∈l,0<=t.1)/\(¬10<eL l->Q (.int ((eL l:Nat):Int)) H)/\(10<eL l->E (.ref TM) none H)
def T4(T:Txt w K mg):Hq.OkE P w K mg base 2 (zbQ K dr):=by
  show T.ai.e ?_;rintro vs H Q E ⟨a,l,rfl,hT,h0,q,e⟩;show #[aO (PS.nox ?_) (aO ?_ (bQ (PS.nox ?_))),qI Bj zU Ar zZ ?_,au T.aw (Gv T) hr ?_,bD,aW sQ.j,vd fZ Y (by rfl) T.ar T.ag];left;exists a,l,Y,hT.tl,h0,Y,_,Y,Y,?_;exists _,Y,?_;show md (λz=>?_) (λz=>?_)
  .exact e (by have:=cx z;unfold eL;lia)
  .exact q λy=>z (aR (by unfold eL at y;clear hu;omega))
def qj:Nat->Nat->Nat->Option Nat
 |0,_,_=>none
 |n+1,c,s=>if c=0 then some s else qj n (c&&&(c-1)) (s/2)
def W9:Sp:=λvs H Q _=>∃b s r:Nat,vs=[.int (b:Int),.int (s:Int)]/\qj 12 b s=some r/\Q (.int (r:Int)) H
def zgh(T:Txt w K mg):GJ.Ok P w K mg base 1 W9:=by
  show T.bz.k ?_;rintro vs H Q E ⟨b,s0,r,rfl,hh,q⟩;have pV:=@pv;show #[?_,As sU ?_ ?_,aW Bv,wL,zr,sj];show zei (λσ H2=>∃n c k:Nat,σ=[some (.int (c:Int)),some (.int (k:Int))]/\H2=H/\qj n c k=some r)
   (λσ _=>match σ with|[some (.int c),_]=>c.toNat|_=>0) ⟨12,b,s0,Y,Y,hh⟩ ?_ ?_
  .rintro σ H2 ⟨n,c,k,rfl,rfl,h⟩;cases n with
   |zero=>cases h
   |succ n =>
   rw[qj]at h;exists _,Y,Y,_,Y,?_;by_cases hc:c=0
   .subst hc;rw[aj rfl]at h;cases h;show aK tS ⟨_,Y,q⟩
   .rw[ah hc]at h;have l1:=Nat.and_le_right (n:=c) (m:=c-1);show bq (by simp_all) ?_;have e1:Builtin.bitAnd (c:Int) ((c:Int)-1)=((c&&&(c-1):Nat):Int):=by
     rw[show (c:Int)-1=((c-1:Nat):Int) by lia,Ai]
    exists _,Y,_,Y,_,_,Y,Y,_,_,Y,Y,_,Y,_,_,Y,Y,⟨tD,tD⟩,⟨n,c&&&(c-1),k/2,?_,Y,h⟩,?_
    .show [some (V.int (Builtin.bitAnd (c:Int) ((c:Int)-1))),some (V.int ((k:Int)/2))]=_;rw[e1];rfl
    .show (Builtin.bitAnd (c:Int) ((c:Int)-1)).toNat<((c:Nat):Int).toNat;rw[e1,iu,iu];clear h;lia
  .rintro σ H2 Q1 Q2 h ⟨v,Z,M,b,h3,h4⟩;exists v,Z,M,b,h3,h _ _ h4
def Si(K:Frag):Sp:=λvs H Q _=>∃(a:Addr) (b m r:Nat),vs=[.ref a,.int (m:Int)]/\TL K H a [((b:Int),1)]/\b<2^m/\m<=100/\qj 12 b (2^m)=some r/\∀O,ag H O->Q (.int (r:Int)) O
def Py:(["members","number","size"]:List Str).Nodup:=by decide+kernel
def Z1(T:Txt w K mg):C1.Ok P w K mg base 2 (Si K):=by
  show T.bA.k ?_;rintro vs H Q E ⟨a,b,m,r,rfl,⟨ps,hS,hT⟩,hb,hm,hh,q⟩;show #[?_,au T.af (rZ T) hr ?_,gj (GB Y) (by rfl) T.aW Kg ?_,dq (g:=(gd K 2 (bW (aQ 0) (bW (aQ 1) gc)))) ["members","number","size"] 2 [2] Y (cB C1) ?_ ?_ ?_ ?_,eQ,bb 0 Py,bb 1 Py,aW oq.j,gw.c,au T.bz (zgh T) hr ?_];have pw:((2:Int)^m)=((2^m:Nat):Int):=by norm_cast
  exists m,Y,hm,?_;exists ⟨_,hS⟩,?_;cases hT with
  |@cons p _ _ _ hp hT =>
  cases hT;show jg (K:=K) (a:=a) (xs:=[p].map V.ref) (λi ys σ H2=>∃v0 v1:Option V,σ=[v0,v1,some (.int (2^m))]/\ys=(List.replicate i (r:Int)).map V.int/\H2=H)
   ⟨none,none,Y,Y,Y⟩ (by rintro i ys σ H2 hi ⟨_,_,_,e1,e2⟩;show⟨by rw[e2];show hS,by rw[e1];simp⟩) oM ?_ ?_
  .rintro i y ys σ H2 hi ⟨v0,v1,rfl,rfl,rfl⟩;obtain⟨p',dv,rfl⟩:=gM hi;obtain rfl:p'=p:=by
    cases i with
    |zero=>simpa using dv.symm
    |succ i=>simp at dv
   exists p',_,Y,aD.of hp,Y,_,_,Y,_,_,Y,Y,?_;exists _,Y,bq (aR (by rw[pw];lia)) ?_;exists b,2^m,r,(by rw[pw];rfl),hh,?_;exists lN (a:=1) tD tD,_,_,Y,?_,rfl;show _++[V.int (1*(r:Int))]=_;rw[yt,aN,Kh];rfl
  .rintro ys σ H2 ⟨v0,v1,rfl,rfl,rfl⟩ D hD;exists D,_,Y,ai.of ao,?_;show Q (.int ([(r:Int)].sum)) _;rw[yx,List.sum_nil,V8];show q _ (ag.upd hD)
def Z8(T:Txt w K mg):Gj.Ok P w K mg base 3 (Si K):=by
  show T.bB.k ?_;rintro vs H Q E ⟨a,b,m,r,rfl,hT,hb,hm,hh,q⟩;show #[?_,au T.bA (Z1 T) hr ?_];exists a,b,m,r,Y,hT,hb,hm,hh,q
inductive An where
 |name|yesno|many|txt (s:Str)
def uF(NN NY TM:Addr)(H:Hp)(Q:VK)(E:XK):An->Prop
 |.txt s=>∀O,ag H O->Q (.str s) O
 |.name=>∀O,ag H O->E (.ref NN) none O
 |.yesno=>∀O,ag H O->E (.ref NY) none O
 |.many=>∀O,ag H O->E (.ref TM) none O
inductive Q3 where
 |shw|way|lea
noncomputable def Q3.wd:Q3->Str
 |.shw => "show" |.way => "ways" |.lea => "least"
noncomputable def Q3.wl:Q3->List Nat
 |.shw=>[115,104,111,119]|.way=>[119,97,121,115]|.lea=>[108,101,97,115,116]
def Q3.wl_S(w:Q3):S w.wl=w.wd:=by cases w<;>(unfold Q3.wl Q3.wd;decide+kernel)
open Classical in
def Q3.an:Q3->ak->An
 |.shw,f=>.txt (S (txt f))
 |.way,f=>if iS f then (if 10<eL f then .many else .txt "256")else .yesno
 |.lea,f=>if 10<eL f then .many else .txt (S [48,32,48])
def zeN(K:Frag)(NN NY TM:Addr):Sp:=λvs H Q E=>∃(a:Addr) (f:ak) (q:Q3),vs=[.str q.wd,.ref a]/\aI H a f/\FB f/\(q=.way->¬10<eL f->iS f->∃b:Nat,f=[((b:Int),1)]/\qj 12 b (2^eL f)=some 256)/\(q=.lea->¬10<eL f->oS f)/\uF NN NY TM H Q E (q.an f)
def FB.say(h:FB f):∀t∈f,eT t:=λt ht=>⟨(h.keys t ht).1,(h.keys t ht).2,h.form.nz t ht,h.fit.2 t ht⟩
def FB.many(h:FB f):∀t∈f,0<=t.1/\t.1<2^eL f:=JK h.h0 λ_ z=>z
def zfl(T:Txt w K mg):JR.OkE P w K mg base 6 (zeN K dY dS dr):=by
  show T.aA.e ?_;rintro vs H Q E ⟨a,f,q0,rfl,hT,hF,hw,hp,hq⟩;show #[aO (PS.nox ?_) (aO (PS.nox (cL ?_ (bQ du) ?_)) (aO ?_ (aO ?_ (bQ (PS.nox ?_))))),cL,cN bO,au T.bx (zfQ T) hr ?_,cN bO,cL,cN bO,kr (zz (xb T.cs)) Y T.ap yu ?_,au T.bB (Z8 T) hr.m ?_,oU (Sn T) hr.m (by rfl) T.ah.m T.ah.F.kp T.ah.b .nil (jr fZ) ?_,oU (T4 T) hr.m (by rfl) T.ai.m T.ai.F.kp T.ai.b .nil (jr fZ) ?_,au T.bt (zhe T) hr.m ?_,oU (T4 T) hr.m (by rfl) T.ai.m T.ai.F.kp T.ai.b .nil (jr fZ) ?_,cU,cU,kr (zz (xb T.cs)) Y T.ap yu ?_,xT,kr (zz (xb T.cs)) Y T.ap yu ?_,xT];left;have aL:=hF.fit.1;have F0:=hF.len2 hF;have h0:=hF.h0;cases q0 with
  |shw =>
   show vy ?_;exists a,f,Y,hT,hF.say,tL,λH1 s1=>hq H1 s1
  |way =>
   show vn ?_;show vn ?_;show vy ?_;show⟨a,f,Y,hT,tL,hF.mul hF,λH1 s1 hy=>?_,λH1 s1 hy=>by unfold Q3.an at hq;dsimp only at hq;rw[ah hy]at hq;show hq H1 s1⟩;unfold Q3.an at hq;dsimp only at hq;rw[aj hy]at hq;show⟨a,f,Y,hT.keep s1,h0,λhm=>?_,λhm=>by rw[aj hm]at hq;show hq H1 s1⟩;rw[ah hm]at hq;obtain⟨b,ef,w2⟩:=hw Y hm hy;have hb:=(hF.many (b,1) (by rw[ef];simp)).2;exists a,b,eL f,256,Y,(by rw[<-ef];show (hT.keep s1).tl),(by exact_mod_cast (show (b:Int)<2^eL f from hb)),tL,w2,λH2 s2=>?_;exists _,Y,tE,?_;show hq H2 (s1.trans s2)
  |lea =>
   show vn ?_;show vn ?_;show vn ?_;show⟨a,f,Y,hT,h0,λhm=>?_,λhm=>by unfold Q3.an at hq;dsimp only at hq;rw[aj hm]at hq;show hq H (ag.refl _)⟩;unfold Q3.an at hq;dsimp only at hq;rw[ah hm]at hq;exists a,f,eL f,Y,hT,hF.form,aL,tL,hF.many,hp Y hm,λc H1 hc s1=>?_;exists _,aD.of hc,cf (j:=0) Y,_,Y,tE,_,_,Y,Y,tE,?_;exists _,aD.of hc,cf (j:=1) Y,_,Y,tE,_,_,Y,Y,tE,?_;show hq H1 s1
def oi(st:bB)(n:List Nat)(q:Q3):Prop:=∀f,az st n=some f->(q=.way->¬10<eL f->iS f->∃b:Nat,f=[((b:Int),1)]/\qj 12 b (2^eL f)=some 256)/\(q=.lea->¬10<eL f->oS f)
def Q3.tells(q:Q3)(st:bB)(n:List Nat):An:=match az st n with
 |none=>.name
 |some f=>q.an f
def Zd(K:Frag)(C NN NY TM:Addr):Sp:=λvs H Q E=>∃(p d t:Addr) (st:bB) (q:Q3) (n:List Nat),vs=[.ref p,.str q.wd,.ref t]/\H t=some (.lst [.str (S n)])/\cH C H p d st/\(∀nf∈st,FB nf.2)/\oi st n q/\uF NN NY TM H Q E (q.tells st n)
def zc1(T:Txt w K mg):Hc.OkE P w K mg base 7 (Zd K dD dY dS dr):=by
  show Rw.okE T.aB.F T.aB.S ?_;rintro vs H Q E ⟨p,d,t,st,q0,n,rfl,ht,hD,bp,hok,hq⟩;show #[aO ?_ (aO (PS.nox (cL ?_ (bQ du) ?_)) (aO (cL ?_ (bQ du) ?_) (aO (cL ?_ (bQ du) ?_) ?_))),vA ?_ T.ac T.ae.m (DF T) hr.m T.ae.b .nil (jr fZ) ?_,xL,cN bO,cN bO,cN bO,oU (zfl T) hr (by rfl) T.aA.m T.aA.F.kp T.aA.b .nil (jr fZ) ?_];left;obtain⟨⟨dx,ho⟩,_⟩:=id hD;unfold Q3.tells at hq;exists p,dx,_,Y,ho,oH d tE,_,ai.of ht,cf (j:=0) Y,p,d,st,n,Y,hD,λa f hf hT=>?_,λhg=>?_
  rotate_left
  .rw[hg]at hq;show hq H (ag.refl _)
  rw[hf]at hq;show vN (by cases q0<;>decide) ?_;show vN (by cases q0<;>decide) ?_;show vN (by cases q0<;>decide) ?_;exists a,f,q0,Y,hT,xu bp hf,(hok f hf).1,(hok f hf).2,hq
def zcf(K:Frag)(C NN NY TM:Addr):Sp:=λvs H Q E=>∃(p d:Addr) (st:bB) (l:List Nat),vs=[.ref p,.str (S l)]/\cH C H p d st/\(∀c∈l,c<128)/\l.length<=8500/\(∀nf∈st,FB nf.2)/\st.length<=1000 /\
 ((∃ c:aZ,dN l=some (some c.nm,c.wl,c.th)/\sL c/\(∀ O,gb [] st c .name->ag H O->E (.ref NN) none O)/\(∀ O,gb [] st c .yesno->ag H O->E (.ref NY) none O) /\ (∀f,gb [] st c (.form f)->¬iB f->∀O,ag H O->E (.ref TM) none O)/\∀f,gb [] st c (.form f)->iB f->∀O,cH C O p d (aJ st c.nm f)->ay d H O->Q (.str "ok") O) \/ (∃(q:Q3) (n:List Nat),dN l=some (none,q.wl,[.str (S n)])/\oi st n q/\uF NN NY TM H Q E (q.tells st n)) \/ (∃(n tx:List Nat) (s:Sm),dN l=some (some n,[58,61],[.str (S tx)])/\ny tx s/\((sF s/\∀O,ag H O->E (.ref TM) none O)\/(nA s/\∀f,aT f s.tl->∀O,cH C O p d (aJ st n f)->ay d H O->Q (.str "ok") O))))
instance:DecidablePred rm:=λw=>by
 have e:∀o:Option (List Kd),Decidable (Bm o):=λo=>match o with
  |none=>isTrue λ_ h=>by cases h
  |some l=>decidable_of_iff (∀k∈l,(match k with|.name=>true|.letter=>true|_=>false)=true) ⟨λh ks e k hk=>by cases e;have:=h k hk;revert this;cases k<;>simp[Kd.kn],λh k hk=>by rcases h l Y k hk with rfl|rfl<;>rfl⟩
 show @instDecidableAnd _ _ (e _) (e _)
def zfj(h:sL c):rm c.wl:=by
 cases c with
 |form _ _=>show rm [61];decide
 |stat _ _=>show h.elim
 |fixd _ _ _ _=>show h.elim
 |put _ _ _ _=>show rm sO;decide
 |two w _ _ _ =>
  have hw:w<3:=h;show (show ∀w<3,rm (lY w) by decide) w hw
def uF.up{NN NY TM:Addr}{H H1:Hp}{Q:VK}{E:XK}{r:An}(h:uF NN NY TM H Q E r)(s:ag H H1):uF NN NY TM H1 Q E r:=by
 cases r<;>show λO s'=>h O (s.trans s')
def zfW(T:Txt w K mg):Ks.OkE P w K mg base 9 (zcf K dD dY dS dr):=by
  show Rw.okE T.aC.F T.aC.S ?_;rintro vs H Q E ⟨p,d,st,l,rfl,hD,ha,hl,bp,jm,nE⟩;show #[aO (PS.nox ?_) (aO ?_ (aO ?_ (aO ?_ (aO (PS.nox ?_) (bQ (PS.nox ?_)))))),Hs,au T.a4 (zcy T) hr.m ?_,cL,cN rV,vA ?_ T.ac T.aB.m (zc1 T) hr.m T.aB.b .nil (jr fZ) ?_,vA ?_ T.ac T.ay.m (ZQ T) hr T.ay.b .nil (jr fZ) ?_,oU (YG T) hr.m (by rfl) T.az.m T.az.F.kp T.az.b .nil (jr fZ) ?_,vc hu ?_ ?_ ?_ Y,Jm ?_ rfl];left;obtain⟨⟨dx,ho⟩,_⟩:=id hD;rcases nE with ⟨c,hc,hok,qn,qy,qm,q⟩|⟨q0,n,hc,hok,hq⟩|⟨n,tx,s0,hc,hS,hq⟩
  .exists l,_,_,_,Y,ha,tL,hc,(zfj hok),λpp cc H1 hp j4 s1=>?_;exists _,aD.of hp,Y,?_;exists Y,vN (by simp[Cr]) ?_;exists p,dx,_,Y,s1 _ _ ho,oH d tE,p,d,cc,st,c.wd,c.th,(by rw[wl_S];rfl),j4,hD.keep s1,bp,.inl ⟨c,Y,Y,hok,(λH2 hm s2=>qn H2 hm (s1.trans s2)),(λH2 hm s2=>qy H2 hm (s1.trans s2)),λf b H2 hm mG hT s2=>?_⟩;exists b,f,Y,hT,mG,λmB H3 s3=>?_,λmB H3 s3=>qm f hm mB H3 (s1.trans (s2.trans s3));have S3:=s1.trans (s2.trans s3);obtain⟨⟨vX,gJ⟩,kvs,hd,hk⟩:=hD.keep S3;have jb:=eo hk;exists p,_,vX,_,_,Y,gJ,T.ac,T.al,CQ d,d,_,Y,jU.k (k:=Sum.inr (S c.nm)) hd (cJ tL),?_;have uJ:=CF gJ hd (by simp);show q f hm mB _ ⟨⟨vX,by rw[aG uJ];show gJ⟩,ql.put hd hk (hT.keep s3)⟩ ((ay.of S3).trans ay.upd)
  .exists l,_,_,_,Y,ha,tL,hc,(by cases q0<;>decide),λpp cc H1 hp j4 s1=>?_;exists _,aD.of hp,Y,?_;exists Y,vy ?_;exists p,dx,_,Y,s1 _ _ ho,oH d tE,p,d,cc,st,q0,n,(by rw[Q3.wl_S];rfl),j4,hD.keep s1,bp,hok,hq.up s1
  .exists l,_,_,_,Y,ha,tO,hc,tD,λpp cc H1 hp j4 s1=>?_;exists _,aD.of hp,Y,?_;exists Y,vN (by simp[Cr]) ?_;exists p,dx,_,Y,s1 _ _ ho,oH d tE,p,d,cc,st,_,_,Y,j4,hD.keep s1,bp,.inr ⟨tx,s0,tE,Y,hS,?_⟩;rcases hq with ⟨Z,M⟩|⟨Z,M⟩
   .exact .inl ⟨Z,λH2 s2=>M H2 (s1.trans s2)⟩
   show .inr ⟨Z,λf b H2 hF hT s2=>?_⟩;have CI:=Fq Z hF;exists b,f,Y,hT,a9 CI.fit.1 tD,λmB H3 s3=>?_,λmB=>absurd CI.fit mB;have S3:=s1.trans (s2.trans s3);obtain⟨⟨vX,gJ⟩,kvs,hd,hk⟩:=hD.keep S3;have jb:=eo hk;exists p,_,vX,_,_,Y,gJ,T.ac,T.al,CQ d,d,_,Y,jU.k (k:=Sum.inr (S n)) hd (cJ tL),?_;have uJ:=CF gJ hd (by simp);show M f hF _ ⟨⟨vX,by rw[aG uJ];show gJ⟩,ql.put hd hk (hT.keep s3)⟩ ((ay.of S3).trans ay.upd)
inductive Er where
 |name|yesno|many
noncomputable def Er.wo:Er->Str
 |.name => "name" |.yesno => "yes no" |.many => "many"
def Er.a:Er->Addr
 |.name=>dY|.yesno=>dS|.many=>dr
noncomputable def Er.n:Er->Nat
 |.name=>3|.yesno=>4|.many=>5
def Er.b(k:Er)(i:Nat):Bool:=decide (i=k.n)
def kG(H:Hp)(Q:VK)(k:Er):Prop:=∀e O,O e=some (.lst [.str k.wo])->ag H O->Q (.ref e) O
def zeO(H:Hp)(Q:VK):An->Prop
 |.txt s=>∀O,ag H O->Q (.str s) O
 |.name=>kG H Q .name
 |.yesno=>kG H Q .yesno
 |.many=>kG H Q .many
def BW(K:Frag)(C:Addr):Sp:=λvs H Q _=>∃(p d:Addr) (st:bB) (l:List Nat),vs=[.ref p,.str (S l)]/\cH C H p d st/\(∀c∈l,c<128)/\l.length<=8500/\(∀nf∈st,FB nf.2)/\st.length<=1000 /\
 ((∃c:aZ,dN l=some (some c.nm,c.wl,c.th)/\sL c/\(gb [] st c .name->kG H Q .name)/\(gb [] st c .yesno->kG H Q .yesno)/\(∀f,gb [] st c (.form f)->¬iB f->kG H Q .many)/\∀f,gb [] st c (.form f)->iB f->∀O,cH C O p d (aJ st c.nm f)->ay d H O->Q (.str "ok") O) \/ (∃(q:Q3) (n:List Nat),dN l=some (none,q.wl,[.str (S n)])/\oi st n q/\zeO H Q (q.tells st n)) \/ (∃(n tx:List Nat) (s:Sm),dN l=some (some n,[58,61],[.str (S tx)])/\ny tx s/\((sF s/\kG H Q .many)\/(nA s/\∀f,aT f s.tl->∀O,cH C O p d (aJ st n f)->ay d H O->Q (.str "ok") O))))
noncomputable def eW:List V:=[.str "line",.str "form",.str "statement",.str "name",.str "yes no",.str "many",.str "pull"]
def Er.at(k:Er):eW[k.n]?=some (.str k.wo):=by cases k<;>rfl
def Gr:(["_law_one"]:List Str).Nodup:=by decide+kernel
def jd(T:Txt w K mg):Ao.Ok P w K mg base 10 (BW K dD):=by
  show T.aa.k ?_;rintro vs H Q E ⟨p,d,st,l,rfl,hD,ha,hl,bp,jm,nE⟩;show #[?_,uM,Yy (i:=4) (j:=2) (l:=3) (zcq Rh) ?_ T.ac T.aC.m (zfW T) hr T.aC.b ?_ nd Y Y Y tD T.cf T.cg,cL,cN rV,eK (v:=.ref sR) (by rfl) T.ch Y,eK (v:=.ref rp) (by rfl) T.ci Y,eK (v:=.ref r6) (by rfl) T.cj Y,gf,eK (v:=.ref dY) (by rfl) T.bY Y,eK (v:=.ref dS) (by rfl) T.bZ Y,eK (v:=.ref dr) (by rfl) T.ar Y,eK (v:=.ref rO) (by rfl) T.ck Y,bD,PW.pt,aW mF,fN,dq (g:=(aQ 0)) ["_law_one"] 1 [] Y (cB Ao) ?_ ?_ ?_ ?_,eQ,bb 0 Gr,lR,lR,zdo (v:=.ty "ValueError") (by rfl) T.b2 zgq Y,xL,fF qV U2 Uk XA ?_ ?_];left;obtain⟨⟨dx,ho⟩,_⟩:=id hD;exists λσ G=>(∃(v:V) (v4:Option V),σ=[some (.ref p),some (.str (S l)),some .non,some v,v4,none]/\Q v G)\/(∃(e0:Addr) (k:Er) (v3 v4:Option V),σ=[some (.ref p),some (.str (S l)),some (.ref e0),v3,v4,none]/\G e0=some (ni e0 k.a)/\kG G Q k),?_,?_
  .have up:∀{k:Er}{H1:Hp}{e0:Addr},kG H Q k->ag H H1->H1 e0=none->kG (upd H1 e0 (ni e0 k.a)) Q k:=λh s1 he e O Z M=>h e O Z (s1.trans ((ag.upd he).trans M))
   exists p,dx,_,Y,ho,oH d tE,p,d,st,l,Y,hD,ha,hl,bp,jm,?_;rcases nE with ⟨c,hc,hok,qn,qy,qm,q⟩|⟨q0,n,hc,hok,hq⟩|⟨n,tx,s0,hc,hS,hq⟩
   .exact .inl ⟨c,hc,hok,λH1 hm s1=>⟨dY,_,Y,T.aH,tS,λe0 he=>.inr ⟨e0,.name,_,_,Y,ao,up (qn hm) s1 he⟩⟩,λH1 hm s1=>⟨dS,_,Y,T.aI,tS,λe0 he=>.inr ⟨e0,.yesno,_,_,Y,ao,up (qy hm) s1 he⟩⟩,λf hm hn H1 s1=>⟨dr,_,Y,T.ag,tS,λe0 he=>.inr ⟨e0,.many,_,_,Y,ao,up (qm f hm hn) s1 he⟩⟩,λf hm mB H1 Z M=>.inl ⟨_,_,Y,q f hm mB H1 Z M⟩⟩
   .refine .inr (.inl ⟨q0,n,hc,hok,?_⟩);cases hr:q0.tells st n with
    |txt s=>rw[hr]at hq;show λH1 s1=>.inl ⟨_,_,Y,hq H1 s1⟩
    |name=>rw[hr]at hq;show λH1 s1=>⟨dY,_,Y,T.aH,tS,λe0 he=>.inr ⟨e0,.name,_,_,Y,ao,up hq s1 he⟩⟩
    |yesno=>rw[hr]at hq;show λH1 s1=>⟨dS,_,Y,T.aI,tS,λe0 he=>.inr ⟨e0,.yesno,_,_,Y,ao,up hq s1 he⟩⟩
    |many=>rw[hr]at hq;show λH1 s1=>⟨dr,_,Y,T.ag,tS,λe0 he=>.inr ⟨e0,.many,_,_,Y,ao,up hq s1 he⟩⟩
   .refine .inr (.inr ⟨n,tx,s0,hc,hS,?_⟩);rcases hq with ⟨Z,M⟩|⟨Z,M⟩
    .exact .inl ⟨Z,λH1 s1=>⟨dr,_,Y,T.ag,tS,λe0 he=>.inr ⟨e0,.many,_,_,Y,ao,up M s1 he⟩⟩⟩
    .exact .inr ⟨Z,λf hF H1 g1 g2=>.inl ⟨_,_,Y,M f hF H1 g1 g2⟩⟩
  .rintro σ G (⟨v,v4,rfl,hq⟩|⟨e0,k,v3,v4,rfl,hx,hq⟩)
   .exists Y,vy ?_;show hq
   exists Y,vN tS ?_;obtain⟨bm,x0,i1,i2,i3,i4,i5,i6,i7,vV⟩:∃bm:List Value,iM K k.a bm=true/\kitOne K (.ref k.a) (.ref sR)=some (k.b 0)/\kitOne K (.ref k.a) (.ref rp)=some (k.b 1)/\kitOne K (.ref k.a) (.ref r6)=some (k.b 2)/\kitOne K (.ref k.a) (.ref dY)=some (k.b 3)/\kitOne K (.ref k.a) (.ref dS)=some (k.b 4)/\kitOne K (.ref k.a) (.ref dr)=some (k.b 5)/\kitOne K (.ref k.a) (.ref rO)=some (k.b 6)/\kitOne K (.ref k.a) (.type "ValueError")=some true:=by
    cases k with
    |name=>exists _,T.aH,T.co,T.cp,T.cq,T.cl,T.cn,T.cm,T.cr,T.ct
    |yesno=>exists _,T.aI,T.cF,T.cG,T.cH,T.cC,T.cE,T.cD,T.cI,T.cJ
    |many=>exists _,T.ag,T.cx,T.cy,T.cz,T.cu,T.cw,T.cv,T.cA,T.cB
   obtain⟨b0,yi⟩:∃b,b=k.b 0:=⟨_,Y⟩;obtain⟨b1,hJ⟩:∃b,b=k.b 1:=⟨_,Y⟩;obtain⟨b2,lO⟩:∃b,b=k.b 2:=⟨_,Y⟩;obtain⟨b3,ur⟩:∃b,b=k.b 3:=⟨_,Y⟩;obtain⟨b4,Cy⟩:∃b,b=k.b 4:=⟨_,Y⟩;obtain⟨b5,U0⟩:∃b,b=k.b 5:=⟨_,Y⟩;obtain⟨b6,Ds⟩:∃b,b=k.b 6:=⟨_,Y⟩;have hB:[b0,b1,b2,b3,b4,b5,b6]=(List.range 7).map k.b:=by rw[yi,hJ,lO,ur,Cy,U0,Ds];rfl
   rw[<-yi]at i1;rw[<-hJ]at i2;rw[<-lO]at i3;rw[<-ur]at i4;rw[<-Cy]at i5;rw[<-U0]at i6;rw[<-Ds]at i7;exists e0,k.a,_,b0,hx,x0,.inl ⟨sR,Y,i1⟩,?_;exists e0,k.a,_,b1,hx,x0,.inl ⟨rp,Y,i2⟩,?_;exists e0,k.a,_,b2,hx,x0,.inl ⟨r6,Y,i3⟩,?_;exists by show 3<=sizeLine;decide,λl1 gh=>?_;generalize eU:upd G l1 _=H3;obtain⟨t2,y1⟩:=nw eU gh;have x1:=t2 _ _ hx;exists e0,k.a,_,b3,x1,x0,.inl ⟨dY,Y,i4⟩,?_;exists e0,k.a,_,b4,x1,x0,.inl ⟨dS,Y,i5⟩,?_;exists e0,k.a,_,b5,x1,x0,.inl ⟨dr,Y,i6⟩,?_;exists by show 3<=sizeLine;decide,λl2 dO=>?_;generalize eU:upd H3 l2 _=H4;obtain⟨t3,y2⟩:=nw eU dO;have x2:=t3 _ _ x1;have y1':=t3 _ _ y1;exists l1,l2,_,_,Y,Y,y1',y2,sl6,λl3 m6=>?_;generalize eU:upd H4 l3 _=H5;have t4:=(nw eU m6).1;have y3:H5 l3=some (.lst [.bl b0,.bl b1,.bl b2,.bl b3,.bl b4,.bl b5]):=(nw eU m6).2;have x3:=t4 _ _ x2;have n3:=t2.free (t3.free m6);have T5:=t2.trans (t3.trans t4);exists .inl ⟨Y,_,ai.of y3⟩,e0,k.a,_,b6,x3,x0,.inl ⟨rO,Y,i7⟩,_,y3,(by show 6<sizeLine;decide),?_;have y4:upd H5 l3 (.lst ([.bl b0,.bl b1,.bl b2,.bl b3,.bl b4,.bl b5]++[.bl b6])) l3=some (.lst ([b0,b1,b2,b3,b4,b5,b6].map V.bl)):=ao;have ne3:e0≠l3:=λz=>by simp_all
   have x4:upd H5 l3 (.lst ([.bl b0,.bl b1,.bl b2,.bl b3,.bl b4,.bl b5]++[.bl b6])) e0=some (ni e0 k.a):=by rw[aG ne3];show x3
   have T6:ag G (upd H5 l3 (.lst ([.bl b0,.bl b1,.bl b2,.bl b3,.bl b4,.bl b5]++[.bl b6]))):=T5.write n3;generalize upd H5 l3 (.lst ([.bl b0,.bl b1,.bl b2,.bl b3,.bl b4,.bl b5]++[.bl b6]))=H6 at y4 x4 T6;have e1:(([b0,b1,b2,b3,b4,b5,b6].filter id).map V.bl).length=1:=by rw[hB];cases k<;>rfl
   generalize hbs:[b0,b1,b2,b3,b4,b5,b6]=bs at y4 e1;have MX:bs.length=7:=by rw[<-hbs];rfl
   exists ⟨_,ai.of y4⟩,?_;show jg (K:=K) (a:=l3) (xs:=bs.map V.bl) (λi ys σ G'=>∃v0:Option V,σ=[v0]/\ys=((bs.take i).filter id).map V.bl/\G'=H6)
    ⟨none,Y,Y,Y⟩ (by rintro i ys σ G' hi ⟨_,_,e1,e2⟩;show⟨by rw[e2];show ai.of y4,by grind⟩) (by rw[ar,MX];decide) ?_ ?_
   .rintro i y ys σ G' hi ⟨v0,rfl,rfl,rfl⟩;rw[c9]at hi;obtain⟨b,hb,rfl⟩:∃b,bs[i]?=some b/\V.bl b=y:=by simp_all
    have cA:bs.take (i+1)=bs.take i++[b]:=by rw[dM,hb];rfl
    unfold aQ;exists b,Y,?_;cases b with
    |false =>
     show gC ?_;exists _,Y,?_,rfl;rw[cA,iw];simp
    |true =>
     show il ?_;exists _,Y,?_,rfl;rw[cA,iw,aN];rfl
   .rintro ys σ G' ⟨v0,rfl,rfl,rfl⟩ D hD;rw[ar,eV];rw[ar]at e1;have t7:ag G' (upd G' D (.lst ((bs.filter id).map V.bl))):=ag.upd hD;exists D,_,Y,.inl (ai.of ao),_,Y,?_;rw[ar,e1];show aK tD ?_;have x5:=t7 _ _ x4;have y5:=t7 _ _ y4;have T7:=T6.trans t7;generalize upd G' D (.lst ((bs.filter id).map V.bl))=H7 at x5 y5 T7 ⊢;exists e0,k.a,_,true,x5,x0,.inr ⟨"ValueError",Y,vV⟩,true,Y,aK tD ?_;exists by show 7<=sizeLine;decide,λl5 hl5'=>?_;have t8:ag H7 (upd H7 l5 (.lst eW)):=ag.upd hl5';have y6:=t8 _ _ y5;have z6:upd H7 l5 (.lst eW) l5=some (.lst eW):=ao;have T8:=T7.trans t8;exists .inl ⟨Y,_,ai.of y6⟩,l3,_,.bl true,k.n,Y,Y,y6,Y,(by rw[<-hbs,hB];cases k<;>rfl),⟨_,(by rw[<-hbs,hB];cases k<;>rfl),Y⟩,(λm z hm hz=>?_),.str k.wo,ai.of z6,cf (j:=k.n) k.at,oM,λl6 hl6=>hq l6 _ ao (T8.trans (ag.upd hl6));rw[<-hbs,hB,cE,c9,yn (by grind)]at hz;cases hz;show ka (.bl (k.b m)) (.bl true)=false;unfold Er.b;rw[bw tL];rfl
def XD(K:Frag):Sp:=λvs H Q _=>∃m:Nat,vs=[.int (m:Int)]/\m<2^16/\∀O,ag H O->Q (.str (S (cy m))) O
def zcX:(["_law_k","_law_one"]:List Str).Nodup:=by decide+kernel
def Zc(T:Txt w K mg):Cd.Ok P w K mg base 1 (XD K):=by
  show T.bC.k ?_;rintro vs H Q E ⟨m,rfl,hm,q⟩;show #[?_,fF ie yR xU zA ?_ ?_,dq (g:=(aQ 0)) ["_law_k","_law_one"] 1 [0] Y (cB Cd) ?_ ?_ ?_ ?_,bb 0 zcX,aW bO,fY.c,sj.c,j2.c,uC zO];exists Y,?_;exists _,Y,tD,tD,?_;show vb (lo:=0) (n:=(16:Int).toNat) (λi ys σ G=>∃v0:Option V,σ=[v0,some (.int (m:Int))]/\ys=((((List.range i).filter λk=>m.testBit k).map λk=>97+k).map λc=>S [c]).map V.str/\G=H)
   ⟨none,Y,Y,Y⟩ (λi ys σ G ⟨_,_,e,_⟩=>by rw[e,ar,ar,ar];show a9 (mO _ _) tS) tD ?_ ?_
  .rintro i ys σ G hi ⟨v0,rfl,rfl,rfl⟩;have cD:=hi;have e0:(1:Int)*2^((0+(i:Int))).toNat=((2^i:Nat):Int):=by simp
   have aF:(2:Nat)^i<=2^16:=eO tD tL;have o7:=uP i;exists ⟨tL,tL,tD⟩,(by rw[e0];show yO (by clear e0;lia) (by clear e0;lia)),(by simp),_,Y,?_;have eb:(m:Int)/(1*2^((0+(i:Int))).toNat)%2=if m.testBit i=true then 1 else 0:=by
    rw[e0,UO]
    have:((m:Int)/((2^i:Nat):Int)%2)=((m/2^i%2:Nat):Int):=by norm_cast
    rw[this];by_cases y:m/2^i%2=1
    .simp[y]
    .have:m/2^i%2=0:=by lia
     simp[this]
   show if decide (V.int ((m:Int)/(1*2^((0+(i:Int))).toNat)%2)=V.int 1)=true then _ else _
   rw[eb];cases hc:m.testBit i
   .refine aK tD ⟨_,Y,?_,Y⟩;rw[iA,iw];simp[hc]
   .refine bq tD ?_;exists _,_,_,Y,Y,(by rw[qq,aH];show 16<=sizeLine;decide),(by rw[qq,i0,jf];show cf (Um i cD)),?_;exists _,Y,?_,rfl;rw[iA,iw];simp[hc];rfl
  .rintro ys σ G ⟨v0,rfl,rfl,rfl⟩ E hE;have J4:((List.range (16:Int).toNat).filter λk=>m.testBit k).map (λk=>97+k)=cy m:=by
    unfold cy;rw[<-Tg hm];rfl
   rw[J4];exists _,E,(cy m).map λc=>S [c],Y,Y,ai.of ao,?_,?_
   .rw[EG,iI]
    have:=rD hm
    simp[aH];lia
   .rw[iI,O9];show q _ (ag.upd hE)
def kT(T:Txt w K mg):Ed.Ok P w K mg base 2 (Ox K):=by
  show T.ab.k ?_;rintro vs H Q E ⟨a,f,rfl,hT,hs,hl,q⟩;show #[?_,eQ,kr (zz (xb T.cs)) Y T.ap yu ?_,gj BZ (by rfl) T.aF AW ?_,uM,bD,PW.pt,aW sQ.j,aW bO,gj BZ (by rfl) T.aF AW ?_,xL,kr GA Y T.ao yf ?_,kO oq.j,cU,au T.bC (Zc T) hr ?_,bD,aW bO,fN,uM,bD,aW bO,xL,Hs,cU,xL,V9 ?_ ?_ TB,fF ie yR xU zA ?_ ?_,fI iK,fj];left;obtain⟨ps,hS,hP⟩:=id hT;have cj:=hP.length;exists bJ _,λc hc=>?_;have s0:ag H (upd H c (.lst [])):=ag.upd hc;exists ⟨_,ai.of (s0 _ _ hS)⟩,?_;show kP (K:=K) (a:=a) (xs:=ps.map V.ref) (λi σ G=>∃v2 v3 v4:Option V,σ=[some (.ref a),some (.ref c),v2,v3,v4]/\G c=some (.lst ((f.take i).flatMap λt=>[V.str (S [ba t.2]),V.str (S (aY t))]))/\ag H G)
   ⟨none,none,none,Y,ao,s0⟩ (by rintro i σ G _ ⟨_,_,_,_,_,e⟩;show ai.of (e _ _ hS)) ?_ ?_
  .rintro i y σ G hi ⟨v2,v3,v4,rfl,g1,sG⟩;obtain⟨p,dv,rfl⟩:=gM hi;obtain⟨t,bA,dk⟩:=hP.at' dv;have hok:=hs t (c8 bA);obtain⟨h0,Z,M,h3⟩:=id hok;have dZ:i<f.length:=(cq.mp bA).1;have ea:(if t.2<0 then -t.2 else t.2)=((t.2.natAbs:Nat):Int):=by split<;>lia
   have em:=(vg h0).symm;have hm:t.1.toNat<2^16:=by lia
   exists _,aD.of (sG _ _ dk),Y,?_;exists t.2,Y,?_;exists _,Y,by rw[ea];show Ht h3,?_;rw[ea,E9];exists λσ' G'=>σ'=[some (.ref a),some (.ref c),some (.int t.1),some (.int t.2),some (.str (S (fG t.1.toNat t.2.natAbs)))]/\G'=G,?_,?_
   .exists _,Y,?_;show md (λk1=>?_) (λk1=>?_)
    .have WR:=cx k1;exists t.2,Y,?_;rw[ea];exists _,Y,?_;show md (λk2=>?_) (λk2=>?_)
     .have Jb:t.2.natAbs=1:=by grind
      exists ?_,rfl
      have:fG t.1.toNat t.2.natAbs=[]:=aj ⟨Jb,tL⟩
      rw[this,<-iI];rfl
     .have Jb:¬t.2.natAbs=1:=λz=>k2 (by rw[z];simp)
      exists ?_,rfl
      have:fG t.1.toNat t.2.natAbs=eJ t.2.natAbs:=ah (λz=>Jb z.1)
      rw[this];rfl
    .have WR:¬0<t.1:=λz=>k1 (aR z)
     exists ?_,rfl
     have:fG t.1.toNat t.2.natAbs=eJ t.2.natAbs:=ah (λz=>z.2 tL)
     rw[this];rfl
   .rintro σ' G' ⟨rfl,rfl⟩;have n0:((f.take i).flatMap λt=>[V.str (S [ba t.2]),V.str (S (aY t))]).length=2*i:=by rw[vQ,cZ];lia
    exists .inl ⟨Y,_,ai.of g1⟩,?_;exists fK,λl zW=>?_;have b1:ag G' (upd G' l (.lst [.str "+",.str "-"])):=ag.upd zW;have esg:gN [V.str "+",V.str "-"] (if decide (t.2<0)=true then 1 else 0)=some (V.str (S [ba t.2])):=by
     by_cases z:t.2<0
     .rw[aj (aR z),show ba t.2=45 from aj z,<-jq];rfl
     .rw[ah (by simpa using z),show ba t.2=43 from ah z,<-xQ];rfl
    show .inr ⟨_,Y,?_⟩;exists _,ai.of ao,esg,?_;exists _,b1 _ _ g1,?_,?_
    .rw[n0];show cJ tL
    have g2:upd (upd G' l (.lst [.str "+",.str "-"])) c (.lst (((f.take i).flatMap λt=>[V.str (S [ba t.2]),V.str (S (aY t))])++[V.str (S [ba t.2])])) c=some (.lst (((f.take i).flatMap λt=>[V.str (S [ba t.2]),V.str (S (aY t))])++[V.str (S [ba t.2])])):=ao;have S1:ag H (upd (upd G' l (.lst [.str "+",.str "-"])) c (.lst (((f.take i).flatMap λt=>[V.str (S [ba t.2]),V.str (S (aY t))])++[V.str (S [ba t.2])]))):=(sG.trans b1).write hc;generalize upd (upd G' l (.lst [.str "+",.str "-"])) c (.lst (((f.take i).flatMap λt=>[V.str (S [ba t.2]),V.str (S (aY t))])++[V.str (S [ba t.2])]))=H1 at g2 S1;have hle:(S (fG t.1.toNat t.2.natAbs)).length+(S (cy t.1.toNat)).length<=sizeLine:=by
     rw[aH,aH];show a9 (GH (Yg h3) (rD hm)) tD
    exists .inl ⟨Y,_,ai.of g2⟩,?_;exists t.1.toNat,by rw[<-em];rfl,hm,λH2 s2=>?_;exists _,_,Y,Y,hle,?_;exists _,s2 _ _ g2,?_,?_
    .rw[aX,n0];show cJ (by simp;lia)
    exists _,_,_,Y,?_,(S1.trans s2).write hc;rw[ao,bF,dM,bA,Tj];have ew:aY t=fG t.1.toNat t.2.natAbs++cy t.1.toNat:=rfl;simp[ew]
  .rintro σ G ⟨v2,v3,v4,rfl,g1,sG⟩;rw[ar,cj,eV]at g1;exists c,_,Y,.inl (ai.of g1),_,Y,?_;cases f with
   |nil =>
    show bq (by rfl) ?_
    have:=q G sG
    rw[show txt []=[48] from rfl,<-oy]at this;show this
   |cons t0 r =>
    have pB:((t0::r).flatMap λt=>[V.str (S [ba t.2]),V.str (S (aY t))]).length=2*(r.length+1):=vQ _ _ _;show aK (by rw[pB];simp;lia) ?_;have gH:((t0::r).flatMap λt=>[V.str (S [ba t.2]),V.str (S (aY t))])=V.str (S [ba t0.2])::V.str (S (aY t0))::(r.flatMap λt=>[V.str (S [ba t.2]),V.str (S (aY t))]):=rfl;rw[gH]at g1;have hok:=hs t0 tS;have fH:(iU (t0::r)).map (λw=>V.str (S w))=V.str (S (cv t0.2++aY t0))::(r.flatMap λt=>[V.str (S [ba t.2]),V.str (S (aY t))]):=by
     show V.str (S (cv t0.2++aY t0))::(r.flatMap λu=>[[ba u.2],aY u]).map (λw=>V.str (S w))=_;rw[LW];rfl
    exists λσ' G'=>σ'=[some (.ref a),some (.ref c),v2,v3,v4]/\G' c=some (.lst (V.str (S [ba t0.2])::(iU (t0::r)).map λw=>V.str (S w)))/\ag H G',?_,?_
    .have at0:gN (V.str (S [ba t0.2])::V.str (S (aY t0))::(r.flatMap λt=>[V.str (S [ba t.2]),V.str (S (aY t))])) 0=some (V.str (S [ba t0.2])):=cf (j:=0) rfl;have at1:gN (V.str (S [ba t0.2])::V.str (S (aY t0))::(r.flatMap λt=>[V.str (S [ba t.2]),V.str (S (aY t))])) 1=some (V.str (S (aY t0))):=cf (j:=1) rfl;exists _,ai.of g1,at0,_,Y,?_;by_cases z:t0.2<0
     .have es:ba t0.2=45:=aj z;show bq (by rw[es,<-jq];simp) ?_;exists _,ai.of g1,at1,_,_,Y,Y,?_,?_
      .rw[jq,aH,aH];show a9 (rq (De (by have:=hok.1;have:=hok.2.1;lia) hok.2.2.2) _) (by show 1+1016<=sizeLine;decide)
      exists c,_,_,1,Y,Y,g1,(by show jE (_+1+1) 1=some 1;unfold jE;simp;lia),?_;exists Y,?_,sG.write hc;rw[ao,fH,jq,bF]
      have:cv t0.2=[45]:=aj z
      rw[this];rfl
     .have es:ba t0.2=43:=ah z;show aK (by rw[es,jq];intro y;have:=cx y;injection this with this;show absurd (fR this) tD) ?_;exists Y,?_,sG;rw[g1,fH]
      have:cv t0.2=[]:=ah z
      rw[this];rfl
    .rintro σ' G' ⟨rfl,g2,s2⟩;have ecut:dy (V.str (S [ba t0.2])::(iU (t0::r)).map λw=>V.str (S w)) (some 1) none=((iU (t0::r)).map S).map V.str:=by
      unfold dy;rw[show HT.sIx (V.str (S [ba t0.2])::(iU (t0::r)).map λw=>V.str (S w)).length 0 (some 1)=1 from (HT.sIx_nat _ _ 1).trans (gQ tS)];rw[cE];show f9 ?_;simp[HT.sIx]
     have hws:(((iU (t0::r)).map S).map (·.length)).sum+((iU (t0::r)).map S).length*(ofString " ").length<=16777216:=by
      have Z:(((iU (t0::r)).map S).map (·.length)).sum<=(txt (t0::r)).length:=by
       rw[<-Es,cE];have go:∀ws:List (List Nat),(ws.map ((·.length) ∘ S)).sum<=(cu 32 ws).length:=λws=>by
        induction ws with
        |nil=>show aC _
        |cons w ws ih =>
         cases ws with
         |nil=>show w.length+0<=w.length;lia
         |cons w2 ws =>
          have:(cu 32 (w::w2::ws)).length=w.length+1+(cu 32 (w2::ws)).length:=by rw[cu,aX,bf];lia
          rw[this,bz,yx];show w.length+_<=_;lia
       show go _
      have M:=zcG hs;have h3:(iU (t0::r)).length=2*r.length+1:=by
       show (_::r.flatMap λu=>[[ba u.2],aY u]).length=_;rw[bf,vQ]
      rw[qF,aH,ar,h3];simp only[bf,ub]at M hl ⊢;lia
     exists Y,?_;exists c,_,Y,ai.of g2,λd hd=>?_;rw[ecut];exists _,d,_,Y,Y,ai.of ao,hws,?_;rw[qF,zbv,Es];show q _ (s2.trans (ag.upd hd))
def TN(T:Txt w K mg):GX.Ok P w K mg base 1 zdn:=by
  show T.aT.k ?_;rintro vs H Q E ⟨c,k,rfl,k1,k2,q⟩;show #[?_,fY.c,dA.j,dA.j,gw.c,gw.c,gw.c,fY.c,gw.c,fY.c,gw.c];left;exists sk tD tD,lN tD tD,sk k1 k2,(by simp),?_;generalize hz:(c*1103515245+7919*k*k+k)%2147483647=z;have z1:0<=z:=by rw[<-hz];show Im _ tD
  have z2:z<2147483647:=by rw[<-hz];show Fn _ tD
  exists lN tL tL,(by simp),?_;exists sk tD tD,(by simp),?_;show q _ (Im _ tD) (Fn _ tD)
def Ko(T:Txt w K mg):IV.Ok P w K mg base 1 (Yc K):=by
  show T.aE.k ?_;rintro vs H Q E ⟨a,ns,k,rfl,hS,q⟩;show #[?_,bD,aW oq.j,fN,xL];exists a,_,Y,.inl hS,_,Y,?_;show md (λZ=>?_) (λZ=>?_)
  .have bV:k<ns.length:=by simp_all
   exists _,hS,cf (j:=k) (v:=V.int (ns.getD k 0)) ?_,q;rw[c9,fT bV,zj,fT bV];rfl
  .have bV:ns.length<=k:=by simp_all
   rw[zj,Co bV]at q;show q
def zby:(["_law_one","_law_numbers"]:List Str).Nodup:=by decide+kernel
def Nt(T:Txt w K mg):Bc.Ok P w K mg base 1 (R0 K):=by
  show T.aU.k ?_;rintro vs H Q E ⟨a,l,rfl,⟨ps,hS,hT⟩,aL,q⟩;show #[?_,uq,eQ,vc hu ?_ ?_ ?_ Y,dA.j,CK hu ?_ ?_ ?_ ⟨Y,Y,Y,Y⟩,dq (g:=(aQ 0)) ["_law_one","_law_numbers"] 1 [1] Y (cB Bc) ?_ ?_ ?_ ?_,eQ,gj (Ba Y) (by rfl) T.aj qG ?_,bb 0 zby,aW mF,we hu ?_ ?_,we hu ?_ ?_];left;intro d hd;have s0:ag H (upd H d (.dK [])):=ag.upd hd;exists ⟨_,s0.seq hS⟩,?_;show kP (K:=K) (a:=a) (xs:=ps.map V.ref) (λi σ H2=>∃(dd:ak) (v2 v3:Option V),σ=[some (.ref a),some (.ref d),v2,v3]/\H2=upd H d (.dK (dd.map cR))/\DictOf dd (l.take i))
   ⟨[],none,none,Y,Y,Hx⟩ (λi σ H2 _ ⟨_,_,_,_,e,_⟩=>by rw[e];show (ag.upd hd).seq hS) ?_ ?_
  .rintro i y σ H2 hi ⟨dd,v2,v3,rfl,rfl,bU⟩;obtain⟨p,dv,rfl⟩:=gM hi;obtain⟨t,bA,dk⟩:=hT.at' dv;have cA:l.take (i+1)=l.take i++[t]:=by rw[dM,bA];rfl
   have dZ:=(cq.mp bA).1;have vi:dd.length<=i:=a9 bU.len (by grind);have pe:=bU.snoc t;rw[<-cA]at pe;exists _,aD.of ((ag.upd hd) _ _ dk),Y,?_;exists d,Y,.inl ⟨_,.inl ao⟩,_,fV.k (k:=Sum.inl t.1) ao,?_;rw[oW];have eg:((look dd t.1).map V.int).getD (V.int 0)=V.int (cK dd t.1):=by
    unfold cK;cases look dd t.1<;>rfl
   rw[eg];exists d,_,Y,jU.k (k:=Sum.inl t.1) ao ?_,gm dd t.1 (cK dd t.1+t.2),_,_,Y,?_,pe
   .rw[ar];show cJ tL
   .rw[yp,Df]
  .rintro σ H2 ⟨dd,v2,v3,rfl,rfl,bU⟩;have nH:l.take (ps.map V.ref).length=l:=by rw[ar,hT.length,eV]
   rw[nH]at bU;have hddl:=a9 bU.len aL;generalize eU:upd H d _=H1;obtain⟨s1,uz⟩:=nw eU hd;exists d,_,dd.map (·.1),Y,uz,Lp dd,λe ks he dP qv=>?_;have IM:=de uz he;exists ⟨_,ai.of ao⟩,?_;have jb:ks.length<=100000:=by have:=dP.length_eq;rw[ar]at this;lia
   show jg (K:=K) (a:=e) (xs:=ks.map V.int) (λi ys σ H2=>∃(v0:Option V) (qs:List Addr),σ=[v0,some (.ref d)]/\ys=qs.map V.ref/\bj H2 qs (cS dd (ks.take i))/\H2 d=some (.dK (dd.map cR))/\H2 e=some (.lst (ks.map V.int))/\ag H1 H2)
    ⟨none,[],Y,Y,.nil,(by rw[aG IM];show uz),ao,ag.upd he⟩ (λi ys σ H2 hi ⟨_,qs,_,e1,e2,_,e4,_⟩=>⟨ai.of e4,by
     rw[e1,ar,e2.length]
     have:=yK dd (ks.take i)
     rw[cZ]at this;clear hi hddl hu aL;omega⟩) (by rw[ar];show dH (cJ tL)) ?_ ?_
   .rintro i y ys σ H2 hi ⟨v0,qs,rfl,rfl,g2,g3,g4,g5⟩;obtain⟨k,qD,rfl⟩:=DP hi;have Ex:k∈dd.map (·.1):=dP.mem_iff.mp (c8 qD);obtain⟨v,hv⟩:∃v,look dd k=some v:=by
     cases e:look dd k with
     |none=>show absurd e (yB.mpr Ex)
     |some v=>exists v,rfl
    have yN:cK dd k=v:=by unfold cK;rw[hv];rfl
    have cA:ks.take (i+1)=ks.take i++[k]:=by rw[dM,qD];rfl
    have wU:∀{H3:Hp},H3 d=some (.dK (dd.map cR))->fV H3 d (.int k) (some (.int v)):=fun {H3} z=>by
     have:=fV.k (k:=Sum.inl k) z
     rw[oW,hv]at this;show this
    exists _,wU g3,_,Y,?_;by_cases hv0:v=0
    .subst hv0;show O4 Y ⟨_,qs,Y,Y,?_,g3,g4,g5⟩
     have:cS dd (ks.take (i+1))=cS dd (ks.take i):=by
      rw[cA];unfold cS;rw[iw,aN];simp[yN]
     rw[this];show g2
    .have cw:¬(V.int v=V.int 0):=λz=>hv0 (by injection z)
     rw[bw cw];show il ?_;exists _,wU g3,fK,λt ht=>?_;have s3:ag H2 (upd H2 t (.tup [.int k,.int v])):=ag.upd ht;exists _,qs++[t],Y,(by rw[aN];rfl),?_,s3 _ _ g3,s3 _ _ g4,g5.trans s3
     have:cS dd (ks.take (i+1))=cS dd (ks.take i)++[(k,v)]:=by
      rw[cA];unfold cS;rw[iw,aN];simp[yN,hv0]
     rw[this];show bj.snoc (g2.keep λb xs z=>s3 b _ z) ao
   .rintro ys σ H2 ⟨v0,qs,rfl,rfl,g2,g3,g4,g5⟩ D hD;rw[ar,eV]at g2;have s3:ag H2 (upd H2 D (.lst (qs.map V.ref))):=ag.upd hD;show q D (cS dd ks) _ ((s1.trans g5).free hD) ⟨qs,ao,g2.keep λb xs z=>s3 b _ z⟩ (FV bU dP qv) ?_ (s1.trans (g5.trans s3));have Z:=yK dd ks;have M:=dP.length_eq;rw[ar]at M;have h3:=bU.len;lia
end
open PySem L2 OF
section
variable{P:Program}{w:World}{K:Frag}{mg:Str->Option Value}{base:Heap}
structure Fl(ls:List Nat):Prop where
 len:ls.length=9
 up:ls.Pairwise (· < ·)
 low:∀x∈ls,x<16
def WQ(K:Frag):Sp:=λvs H Q _=>∃n:Int,vs=[.int n]/\0<=n/\∀(D:Addr) (ls:List Nat) (O:Hp),Fl ls->O D=some (.lst (ls.map λx:Nat=>V.int (x:Int)))->ag H O->Q (.ref D) O
def Wa(a s:Nat):List Nat:=(List.range 9).map λk=>(a+(1+2*s)*k)%16
def zf3:∀a<16,∀s<8,(Wa a s).Nodup:=by decide+kernel
def zcr{a s:Nat}(ha:a<16)(hs:s<8){ns:List Int}(hp:ns.Perm ((Wa a s).map λx:Nat=>(x:Int)))(hu:ns.Pairwise (· <= ·)):∃ls:List Nat,Fl ls/\ns.map V.int=ls.map λx:Nat=>V.int (x:Int):=by
 have hm:∀x∈ns,∃k:Nat,k<16/\x=(k:Int):=λx hx=>by
  obtain⟨y,hy,rfl⟩:=aU.mp (hp.mem_iff.mp hx);obtain⟨k,_,rfl⟩:=aU.mp hy;exists _,Bu _ tD,rfl
 have hN:ns.Nodup:=hp.nodup_iff.mpr ((Eo.mp (zf3 a ha s hs)).map _ λx y h z=>h tL);have e:(ns.map Int.toNat).map (λx:Nat=>V.int (x:Int))=ns.map V.int:=by
  rw[cE];show pO λx hx=>by obtain⟨k,_,rfl⟩:=hm x hx;rfl
 exists ns.map Int.toNat,⟨?_,?_,?_⟩,e.symm
 .rw[ar,hp.length_eq];rfl
 .rw[fX];show xG ?_ (hu.and hN);intro x y hx hy h;obtain⟨k,_,rfl⟩:=hm x hx;obtain⟨j,_,rfl⟩:=hm y hy
  have:=h.1;have:=h.2
  lia
 .intro x hx;obtain⟨y,hy,rfl⟩:=aU.mp hx;obtain⟨k,h,rfl⟩:=hm y hy;show h
def Xw:(["_law_k","_law_first","_law_step"]:List Str).Nodup:=by decide+kernel
def Zj(T:Txt w K mg):A5.Ok P w K mg base 1 (WQ K):=by
  show T.aZ.k ?_;rintro vs H Q E ⟨n,rfl,hn,q⟩;show #[?_,fY.c,dA.j,gw.c,fY.c,sj.c,gj (zfy Y) (by rfl) T.aj qG ?_,dq (g:=(aQ 0)) ["_law_k","_law_first","_law_step"] 1 [1,2] Y (cB A5) ?_ ?_ ?_ ?_,bb 0 Xw,fY.c,dA.j,gw.c];left;obtain⟨a,ha,ea⟩:∃a:Nat,a<16/\n%16=(a:Int):=⟨(n%16).toNat,(by clear hn;lia),(by clear hn;lia)⟩;obtain⟨s,hs,es⟩:∃s:Nat,s<8/\n/16%8=(s:Int):=⟨(n/16%8).toNat,(by clear ea;lia),(by clear ea hn;lia)⟩;exists (by simp),yO tD tD,(by simp),lN tD tD,?_;exists _,Y,tD,tD,?_;show vb (lo:=0) (n:=9) (λi ys σ G=>∃v0:Option V,σ=[v0,some (.int (n%16)),some (.int (1+2*(n/16%8)))]/\ys=(((List.range i).map λk=>(a+(1+2*s)*k)%16).map λx:Nat=>(x:Int)).map V.int/\G=H) ⟨none,Y,Y,Y⟩ (λi ys σ H2 ⟨_,_,e,_⟩=>by rw[e];simp) tD ?_ ?_
  .rintro j ys σ G hj ⟨v0,rfl,rfl,rfl⟩;unfold aQ;show tt ?_;exists lN (by clear ea;lia) (by clear hs ea;lia),(by simp),_,Y,?_,rfl;rw[iA,aN,aN,aN];congr 1;show [V.int ((n%16+(1+2*(n/16%8))*(0+(j:Int)))%16)]=[V.int (((a+(1+2*s)*j)%16:Nat):Int)];rw[ea,es,jf,Int.natCast_emod,KJ,A9,KJ,A9];rfl
  .rintro ys σ G ⟨v0,rfl,rfl,rfl⟩ D hD;exists D,_,Y,ai.of ao,tS,λl ns hl hp hu=>?_;obtain⟨ls,h9,e⟩:=zcr ha hs hp hu;rw[e];show q l ls _ h9 ao ((ag.upd hD).trans (ag.upd hl))
def zeU(K:Frag):Sp:=λvs H Q _=>∃(L:Addr) (ls:List Nat) (m:Int),vs=[.int m,.ref L]/\H L=some (.lst (ls.map λx:Nat=>V.int (x:Int)))/\Fl ls/\0<=m/\m<=400/\∀(D:Addr) (f:ak) (O:Hp),IsForm f->(∀t∈f,(0<=t.1/\t.1<2^16)/\t.2.natAbs<=3)->(f.length:Int)=m->aI O D f->ag H O->Q (.ref D) O
def zb3:(["_law_k","_law_s","_law_letters"]:List Str).Nodup:=by decide+kernel
def zc0(T:Txt w K mg):Am.Ok P w K mg base 1 (zeU K):=by
  show T.a0.k ?_;rintro vs H Q E ⟨L,ls,m,rfl,hL,h9,HC,RM,q⟩;show #[?_,gj (GB Y) (by rfl) T.aW Kg ?_,dq (g:=(aQ 0)) ["_law_k","_law_s","_law_letters"] 1 [3,1] Y (cB Am) ?_ ?_ ?_ ?_,bb 0 zb3,aW bO,fY.c,sj.c,j2.c,j2.c,uC (xlK K Y) ?_ ?_,dA.j,fY.c,gj (zd8 Y) (by rfl) T.aj qG ?_];left;exists bJ _,λF hF=>?_;generalize eU:upd H F _=H0;obtain⟨s0,w0⟩:=nw eU hF;obtain⟨m,rfl⟩:∃k:Nat,m=(k:Int):=⟨m.toNat,tL⟩;have hL0:=s0 _ _ hL;have P9:=h9.len;exists _,Y,tL,tL,?_;show rY (lo:=0) (n:=((m:Nat):Int).toNat) (λi σ G=>∃(v3:Option V) (qs:List Addr),σ=[some (.int (m:Int)),some (.ref L),some (.ref F),v3]/\G F=some (.lst (qs.map V.ref))/\bj G qs ((List.range i).map λs=>((gr ls s:Int),1+(s:Int)%3))/\ay F H0 G)
   ⟨none,[],Y,w0,.nil,ay.refl _ _⟩ ?_ ?_
  .rintro i σ G hi ⟨v3,qs,rfl,BE,hT,sB⟩;rw[iu]at hi;exists .inl ⟨Y,_,ai.of BE⟩,?_;have Xi:L≠F:=λz=>by simp_all
   have hGL:=sB _ _ Xi hL0;exists _,Y,tD,tD,?_;show vb (lo:=0) (n:=9) (λk ys σ G'=>∃v0:Option V,σ=[v0,some (.int (0+(i:Int))),some (.ref L)]/\ys=(me ls i k).map V.int/\G'=G) ⟨none,Y,Y,Y⟩ (λk ys σ H2 ⟨_,_,e,_⟩=>by rw[e,ar];unfold me;rw[ar];show a9 (mO _ _) tS) tD ?_ ?_
   .rintro k ys σ G' hk ⟨v0,rfl,rfl,rfl⟩;have p0:(0:Int)<1*2^(0+(k:Int)).toNat:=by rw[Kh];show Int.pow_pos tD
    exists ⟨tL,tL,tD⟩,yO p0 ?_,(by simp),?_
    .have:(1:Int)*2^(0+(k:Int)).toNat<=2^9:=by
      rw[Kh,jf,iu]
      have:=eO (n:=2) tD (show k<=9 by lia)
      exact_mod_cast this
     show Int.lt_of_le_of_lt this tD
    have ev:(0+(i:Int))/(1*2^(0+(k:Int)).toNat)%2=((i/2^k%2:Nat):Int):=by simp
    have el:me ls i (k+1)=me ls i k++(if i/2^k%2=1 then [((2^ls.getD k 0:Nat):Int)]else []):=by
     unfold me;rw[iA,iw,aN];congr 1;by_cases z:i/2^k%2=1
     .rw[aj z];simp[z]
     .rw[ah z];simp[z]
    have xW:ls[k]?=some (ls.getD k 0):=by simp_all
    have hx16:ls.getD k 0<16:=h9.low _ (c8 xW);exists _,Y,?_;rw[el];by_cases z:i/2^k%2=1
    .refine bq (by simp_all) ?_;exists V.int (ls.getD k 0:Int),ai.of hGL,?_,⟨tL,tL,tD⟩,_,Y,?_,rfl
     .rw[jf];show cf (by rw[c9,xW];rfl)
     .rw[aj z,aN];show _++[V.int (1*2^((ls.getD k 0:Nat):Int).toNat)]=_;rw[CD];simp
    .refine aK (by grind) ?_;exists _,Y,by simp_all,rfl
   .rintro ys σ G' ⟨v0,rfl,rfl,rfl⟩ D hD;exists D,_,Y,ai.of ao,?_;rw[show (me ls i 9).sum=(gr ls i:Int) by rw[<-P9];show To ls i];generalize eU:upd G' D _=G1;have s1:=(nw eU hD).1;exists (by simp),by show 2<=sizeLine;decide,λt ht=>?_;have s2:ag G1 (upd G1 t (.tup [.int (gr ls i:Int),.int (1+(0+(i:Int))%3)])):=ag.upd ht;have w2:upd G1 t (.tup [.int (gr ls i:Int),.int (1+(0+(i:Int))%3)]) t=some (.tup [.int (gr ls i:Int),.int (1+(0+(i:Int))%3)]):=ao;have Nr:=s2 _ _ (s1 _ _ BE);have hq:(qs.map V.ref).length<sizeLine:=by
     rw[ar,hT.length,ar,lh];show gv (show i<=400 by lia) tD
    exists _,Nr,hq,?_;have dz:=hT.keep λb xs e=>s2 _ _ (s1 _ _ e)
    generalize upd G1 t (.tup [.int (gr ls i:Int),.int (1+(0+(i:Int))%3)])=G2 at s2 w2 Nr dz ⊢;have kt:∀b xs,G2 b=some (.tup xs)->upd G2 F (.lst (qs.map V.ref++[V.ref t])) b=some (.tup xs):=λb xs e=>by rw[aG λz=>by simp_all];show e
    exists _,qs++[t],Y,by rw[aN];show ao,?_,(sB.trans (ay.of (s1.trans s2))).trans ay.upd;rw[iA,aN];rw[jf]at w2;show (dz.keep kt).append (.cons (kt _ _ w2) .nil)
  .rintro σ G ⟨v3,qs,rfl,BE,hT,sB⟩;rw[iu]at hT;exists F,qs,_,Y,ai.of BE,hT,by rw[ar,lh];lia,λb rs f hb hR hp hu=>?_;have s1:=ay.same s0 sB hF;have hm:∀t∈f,∃s:Nat,s<m/\t=((gr ls s:Int),1+(s:Int)%3):=λt ht=>by
    obtain⟨s,hs,rfl⟩:=aU.mp (hp.mem_iff.mp ht);exists s,eG.mp hs,rfl
   have hN:(f.map (·.1)).Nodup:=by
    show (hp.map (·.1)).nodup_iff.mpr ?_;rw[cE];show fX.mpr (xG (fun {x y} hx hy h z=>h ?_) List.nodup_range);have h5:(2:Nat)^ls.length=512:=by rw[P9]
    have dR:=eG.mp hx;have oA:=eG.mp hy;show SD h9.up tL tL (Int.ofNat.inj z)
   have wD:f.Pairwise (λx y=>x.1<y.1):=by
    have:=fX.mp (Eo.mp hN)
    show (hu.and this).imp λh=>by lia
   have aL:f.length=m:=by rw[hp.length_eq,ar,lh]
   show q b f _ ⟨wD,λt ht=>?_⟩ (λt ht=>?_) tL ⟨rs,ao,hR.keep λc xs e=>ag.upd hb _ _ e⟩ (s1.trans (ag.upd hb))
   .obtain⟨s,_,rfl⟩:=hm t ht;clear ht;lia
   .obtain⟨s,_,rfl⟩:=hm t ht
    have:=QY s h9.up h9.low
    exists ⟨by simp,by lia⟩,?_;lia
inductive fQ where
 |ok|err (k:Er)|txt (s:Str)
def dh(st:bB)(l:List Nat)(r:fQ)(af:bB):Prop:=((∀c∈l,c<128)/\l.length<=8500) /\
 ((∃c,dN l=some (some c.nm,c.wl,c.th)/\sL c/\((∃f,gb [] st c (.form f)/\iB f/\r=.ok/\af=aJ st c.nm f)\/(gb [] st c .name/\r=.err .name/\af=st)\/(gb [] st c .yesno/\r=.err .yesno/\af=st)\/(∃f,gb [] st c (.form f)/\¬iB f/\r=.err .many/\af=st))) \/ (∃(q:Q3) (n:List Nat),dN l=some (none,q.wl,[.str (S n)])/\oi st n q/\af=st/\r=match q.tells st n with|.txt s=>.txt s|.name=>.err .name|.yesno=>.err .yesno|.many=>.err .many) \/
 (∃(n tx:List Nat) (s:Sm),dN l=some (some n,[58,61],[.str (S tx)])/\ny tx s/\((sF s/\r=.err .many/\af=st)\/(nA s/\∃f,aT f s.tl/\r=.ok/\af=aJ st n f))))
def zci(C p d:Addr)(af:bB)(H:Hp)(Q:VK):fQ->Prop
 |.ok=>∀O,cH C O p d af->ay d H O->Q (.str "ok") O
 |.err k=>kG H Q k
 |.txt s=>∀O,ag H O->Q (.str s) O
def ji{K:Frag}{C p d:Addr}{st af:bB}{l:List Nat}{r:fQ}{H:Hp}{Q:VK}{E:XK}(h:dh st l r af)(hD:cH C H p d st)(bp:∀nf∈st,FB nf.2)(jm:st.length<=1000)(q:zci C p d af H Q r):BW K C [.ref p,.str (S l)] H Q E:=by
 obtain⟨⟨Z,M⟩,h3⟩:=h;exists p,d,st,l,Y,hD,Z,M,bp,jm,?_;rcases h3 with ⟨c,hc,hok,h4⟩|⟨q0,n,hc,hok,rfl,hr⟩|⟨n,tx,s0,hc,hS,h4⟩
 .refine .inl ⟨c,hc,hok,λhm=>?_,λhm=>?_,λf hm hn=>?_,λf hm hf=>?_⟩
  .rcases h4 with ⟨g,h,_,_,_⟩|⟨_,rfl,_⟩|⟨h,_,_⟩|⟨g,h,_,_,_⟩
   .cases ju hm h
   .exact q
   .cases ju hm h
   .cases ju hm h
  .rcases h4 with ⟨g,h,_,_,_⟩|⟨h,_,_⟩|⟨_,rfl,_⟩|⟨g,h,_,_,_⟩
   .cases ju hm h
   .cases ju hm h
   .exact q
   .cases ju hm h
  .rcases h4 with ⟨g,h,h5,_,_⟩|⟨h,_,_⟩|⟨h,_,_⟩|⟨g,h,_,rfl,_⟩
   .cases ju hm h;show absurd h5 hn
   .cases ju hm h
   .cases ju hm h
   .exact q
  .rcases h4 with ⟨g,h,_,rfl,rfl⟩|⟨h,_,_⟩|⟨h,_,_⟩|⟨g,h,h5,_,_⟩
   .cases ju hm h;show q
   .cases ju hm h
   .cases ju hm h
   .cases ju hm h;show absurd hf h5
 .refine .inr (.inl ⟨q0,n,hc,hok,?_⟩);cases ht:q0.tells af n with
  |txt s=>rw[ht]at hr;rw[hr]at q;show q
  |name=>rw[ht]at hr;rw[hr]at q;show q
  |yesno=>rw[ht]at hr;rw[hr]at q;show q
  |many=>rw[ht]at hr;rw[hr]at q;show q
 .refine .inr (.inr ⟨n,tx,s0,hc,hS,?_⟩);rcases h4 with ⟨Z,rfl,rfl⟩|⟨Z,f,hf,rfl,rfl⟩
  .exact .inl ⟨Z,q⟩
  .exact .inr ⟨Z,λg hg H1 g1 g2=>by rw[aT.unique hg hf λ_=>rfl]at g1;show q H1 g1 g2⟩
def iN(hn:bI n=true)(hF:IsForm f)(hl:f.length<=310)(h:gP f):dh st (n++([32,61,32]++txt f)) (if f.length<=300 then .ok else .err .many) (if f.length<=300 then aJ st n f else st):=by
 obtain⟨c1,c2⟩:=Zb (n:=n) hF hl h;obtain⟨a1,a2⟩:=lq hn;obtain⟨t1,t2⟩:=px hl h;exists ⟨λc hc=>?_,by simp only[aX,bf,ub];lia⟩,.inl ⟨.form n (txt f),Rv hn λt ht=>(h t ht).1,c1,?_⟩
 .rcases bC.mp hc with z|z
  .exact a2 c z
  .rcases bC.mp z with y|y
   .exact (show ∀c∈[32,61,32],c<128 by decide) c y
   .exact t2 c y
 .by_cases z:f.length<=300
  .rw[aj z,aj z];show .inl ⟨f,⟨f,Y,c2⟩,⟨z,λt ht=>(h t ht).1.2.2.2⟩,Y,Y⟩
  .rw[ah z,ah z];show .inr (.inr (.inr ⟨f,⟨f,Y,c2⟩,λy=>z y.1,Y,Y⟩))
def vJ{st:bB}{w:Nat}{n a b:List Nat}{l m f:ak}(hw:w<3)(hn:bI n=true)(ha:bI a=true)(hb:bI b=true)(hl:az st a=some l)(hm:az st b=some m)(hF:aT f (nG w l m)):(iB f->dh st (aZ.two w n a b).line .ok (aJ st n f))/\(¬iB f->dh st (aZ.two w n a b).line (.err .many) st):=by
 have Z:=zd1 hw hn ha hb;have M:(∀c∈(aZ.two w n a b).line,c<128)/\(aZ.two w n a b).line.length<=8500:=by
  have ow:(lY w).length<=8/\∀c∈lY w,c<128:=by
   obtain rfl|rfl|rfl:w=0\/w=1\/w=2:=by lia
   all_goals decide
  have key:∀v∈[n,[61],lY w,a,b],v.length<=8/\∀c∈v,c<128:=λv hv=>by
   simp only[aV,ly,lQ]at hv;rcases hv with rfl|rfl|rfl|rfl|rfl
   .exact lq hn
   .decide
   .exact ow
   .exact lq ha
   .exact lq hb
  exists GK _ λv hv=>(key v hv).2,a9 (EV 32 _ λv hv=>(key v hv).1) (by show 9*5<=8500;decide)
 have vq:gb [] st (.two w n a b) (.form f):=.inr (.inr ⟨l,m,f,hl,hm,Y,hF⟩);exists λhf=>⟨M,.inl ⟨_,Z,hw,.inl ⟨f,vq,hf,Y,Y⟩⟩⟩,λhf=>⟨M,.inl ⟨_,Z,hw,.inr (.inr (.inr ⟨f,vq,hf,Y,Y⟩))⟩⟩
def rG(hn:bI n=true):dh st (fz++32::n) (match az st n with|none=>.err .name|some f=>.txt (S (txt f))) st:=by
 obtain⟨a1,a2⟩:=lq hn;exists ⟨λc hc=>?_,by rw[aX,bf];show 4+(n.length+1)<=8500;lia⟩,.inr (.inl ⟨.shw,n,zfG hn,λf _=>⟨λz=>(by cases z),λz=>(by cases z)⟩,Y,?_⟩)
 .rcases bC.mp hc with z|z
  .exact (show ∀c∈fz,c<128 by decide) c z
  .rcases aV.mp z with rfl|z
   .decide
   .exact a2 c z
 .unfold Q3.tells;cases az st n<;>rfl
def Zw{q:Q3}{n:List Nat}(hn:bI n=true):dN (q.wl++32::n)=some (none,q.wl,[.str (S n)]):=by
 have e:a8 (q.wl++32::n)=[q.wl,n]:=by rw[yz (by cases q<;>decide),Uo (so hn)]
 have hk:c7 jH q.wl=some [.name]:=by cases q<;>show (by rfl)
 unfold dN;rw[e,ah (λz=>absurd z.1 tS)];show (nh (c7 jH q.wl) [n]).map _=_;rw[hk];show (rF [.name] [n]).map _=_;unfold rF;rw[aj ⟨rfl,by show (bI n&&true)=true;rw[hn];rfl⟩];rfl
def sI(hn:bI n=true)(h:oi st n q):dh st (q.wl++32::n) (match q.tells st n with|.txt s=>.txt s|.name=>.err .name|.yesno=>.err .yesno|.many=>.err .many) st:=by
 obtain⟨a1,a2⟩:=lq hn;have hq:q.wl.length<=8/\∀c∈q.wl,c<128:=by cases q<;>decide
 exists ⟨λc hc=>?_,by grind⟩,.inr (.inl ⟨q,n,Zw hn,h,Y,Y⟩);rcases bC.mp hc with z|z
 .exact hq.2 c z
 .rcases aV.mp z with rfl|z
  .decide
  .exact a2 c z
def DD(hn:bI n=true)(ha:bI a=true)(hb:bI b=true)(hk:k<16) :
  (az st a=none\/az st b=none->dh st (aZ.put n a k b).line (.err .name) st) /\
  (∀l o,az st a=some l->az st b=some o->(¬iS o->dh st (aZ.put n a k b).line (.err .yesno) st)/\∀f,iS o->aT f (vw k o l)->(iB f->dh st (aZ.put n a k b).line .ok (aJ st n f))/\(¬iB f->dh st (aZ.put n a k b).line (.err .many) st)):=by
 have Z:=zfR hn ha hb hk;have hc:sL (aZ.put n a k b):=(show k<=100 by lia);have M:(∀c∈(aZ.put n a k b).line,c<128)/\(aZ.put n a k b).line.length<=8500:=by
  have key:∀v∈[n,[61],sO,a,[97+k],b],v.length<=8/\∀c∈v,c<128:=λv hv=>by
   simp only[aV,ly,lQ]at hv;rcases hv with rfl|rfl|rfl|rfl|rfl|rfl
   .exact lq hn
   .decide
   .decide
   .exact lq ha
   .exact⟨tS,λc hc=>by simp at hc;lia⟩
   .exact lq hb
  exists GK _ λv hv=>(key v hv).2,a9 (EV 32 _ λv hv=>(key v hv).1) (by show 9*6<=8500;decide)
 exists λh=>⟨M,.inl ⟨_,Z,hc,.inr (.inl ⟨?_,Y,Y⟩)⟩⟩,λl o hl ho=>⟨λhy=>⟨M,.inl ⟨_,Z,hc,.inr (.inr (.inl ⟨.inr (.inr ⟨l,o,hl,ho,.inl ⟨hy,Y⟩⟩),Y,Y⟩))⟩⟩,λf hy hf=>?_⟩
 .cases e:az st a with
  |none=>show .inl ⟨e,Y⟩
  |some l=>show .inr (.inl ⟨l,e,h.resolve_left (by simp_all),Y⟩)
 .have hm:gb [] st (aZ.put n a k b) (.form f):=.inr (.inr ⟨l,o,hl,ho,.inr ⟨hy,f,Y,hf⟩⟩);exists λz=>⟨M,.inl ⟨_,Z,hc,.inl ⟨f,hm,z,Y,Y⟩⟩⟩,λz=>⟨M,.inl ⟨_,Z,hc,.inr (.inr (.inr ⟨f,hm,z,Y,Y⟩))⟩⟩
def zcv(j:Nat):txt [(0,((10^j:Nat):Int))]=49::List.replicate j 48:=by
 have e:aY (0,((10^j:Nat):Int))=eJ (10^j):=by
  show (if _ then []else eJ (((10^j:Nat):Int)).natAbs)++cy 0=_;rw[ah (λz=>z.2 rfl),zw];show gg _
 show cv ((10^j:Nat):Int)++aY (0,((10^j:Nat):Int))++[]=_;rw[e,S4,gg];unfold cv;rw[ah (yj.mpr (jI _))];rfl
def RZ(hn:bI n=true)(hj:j<=100):dh st (n++([32,61,32]++(49::List.replicate j 48))) .ok (aJ st n [(0,((10^j:Nat):Int))]):=by
 have hp:0<10^j:=Bt tD;have hI:IsForm [(0,((10^j:Nat):Int))]:=⟨qt _ _,λp fq=>by rw[bH.mp fq];show ((10^j:Nat):Int)≠0;lia⟩;have aF:10^j<10^1000:=gv (eO tD hj) (Qt tD tD);have hS:∀t∈[((0:Int),((10^j:Nat):Int))],eT t:=λt ht=>by
  rw[bH.mp ht];show⟨ik _,by simp,by show ((10^j:Nat):Int)≠0;lia,by assumption⟩
 have e:=zcv j;have el:(49::List.replicate j 48).length=j+1:=by simp
 have ec:∀c∈49::List.replicate j 48,c<128:=λc hc=>by
  rcases aV.mp hc with rfl|hc
  .decide
  .rw[(VN.mp hc).2];decide
 have hf:=UQ hI hS;have Z:=Rv (n:=n) hn hS;have hw:∀w∈eF (txt [(0,((10^j:Nat):Int))]),w.length<=1000:=by
  rw[JZ hS];intro w hw
  have:w=[ba ((10^j:Nat):Int)]\/w=aY (0,((10^j:Nat):Int)):=by simpa using hw
  rcases this with rfl|rfl
  .show 1<=1000;decide
  .have:(txt [(0,((10^j:Nat):Int))]).length=(aY (0,((10^j:Nat):Int))).length:=by
    show (cv ((10^j:Nat):Int)++aY (0,((10^j:Nat):Int))++[]).length=_;unfold cv;rw[ah tL,gg];rfl
   rw[<-this,e,el];lia
 rw[e]at hf Z hw;obtain⟨a1,a2⟩:=lq hn;exists ⟨λc hc=>?_,by simp only[aX,bf,ub,yd];lia⟩,.inl ⟨.form n (49::List.replicate j 48),Z,⟨ec,by rw[el];lia,hw,by rw[hf];rfl⟩,.inl ⟨_,⟨_,Y,hf⟩,⟨tS,λt ht=>(hS t ht).2.2.2⟩,Y,Y⟩⟩;rcases bC.mp hc with z|z
 .exact a2 c z
 .rcases bC.mp z with y|y
  .exact (show ∀c∈[32,61,32],c<128 by decide) c y
  .exact ec c y
def OG{ps:List Addr}{a b:Nat}(h:a<=b)(ha:a<=ps.length):dy (ps.map V.ref) (some (a:Int)) (some (b:Int))=((ps.drop a).take (b-a)).map V.ref:=by
 unfold dy;rw[HT.sIx_nat,HT.sIx_nat,ar,<-NM,<-tY,gQ ha];congr 1;by_cases z:b<=ps.length
 .rw[gQ z]
 .rw[lM tL,f9 (by simp),f9 (by grind)]
def BK(g:ak)(st:bB):Prop:=st=[([97],g)]\/∃h,FB h/\st=[([97],g),([98],h)]
def Xh(z:BK g st):aJ st [98] h=[([97],g),([98],h)]:=by
 rcases z with rfl|⟨k,_,rfl⟩
 .rfl
 .rfl
def DN(z:BK g st)(hg:FB g):(∀nf∈st,FB nf.2)/\st.length<=1000:=by
 rcases z with rfl|⟨k,hk,rfl⟩
 .exists λnf h=>by simp_all,tS
 .exists λnf h=>by simp at h;show h.elim (λz=>by simp_all) (λz=>by simp_all),tS
def ZN(f:ak)(h:a<=b):List.Sublist (f.take a++(f.drop b).take c) f:=by
 have Z:List.Sublist ((f.drop b).take c) (f.drop a):=by
  show (dQ _ _).trans ?_;rw[show b=a+(b-a) by lia,<-Hr];show lZ _ _
 have:=(Ub (f.take a)).append Z
 rwa [j5]at this
def zaZ(K:Frag)(C:Addr):Sp:=λvs H Q _=>∃(p d a:Addr) (f:ak),vs=[.ref p,.ref a]/\cH C H p d []/\aI H a f/\IsForm f/\(∀t∈f,(0<=t.1/\t.1<2^16)/\t.2.natAbs<=3)/\1<=f.length/\f.length<=400 /\
 ∀(b:Addr) (g:ak) (st:bB) (O:Hp),FB g->gP g->BK g st->cH C O p d st->aI O b g->ay d H O->Q (.ref b) O
def zdC(T:Txt w K mg):E1.Ok P w K mg base 11 (zaZ K dD):=by
  show T.bD.k ?_;rintro vs H Q E ⟨p,d,a,f,rfl,hD,hT,hF,hk,Z,hl,q⟩;show #[?_,bD,aW (lC (gR hr)) ?_ ?_,au T.aa (jd T) hr ?_,za8 Y T.am ?_,fN,fI iK,fj,fj,dA.j,bD,aW (lC (gR hr)) ?_ ?_,au T.aa (jd T) hr ?_,cU,au T.ab (kT T) hr.m ?_,bD,aW sQ.j,dA.j,fN,fN,bD,aW (lC (gR hr)) ?_ ?_,au T.aa (jd T) hr ?_,bD,aW (yq (gR hr)) ?_ ?_,gf];left;obtain⟨fs,qB,nR⟩:=id hT;have mG:=nR.length;obtain⟨vm,nI,_⟩:=id hD.dc;have hS:gP f:=λt ht=>⟨⟨(hk t ht).1.1,(hk t ht).1.2,hF.nz t ht,gv (hk t ht).2 tE⟩,gv (hk t ht).2 tD⟩
  have xn:∀{g:ak},List.Sublist g f->IsForm g/\gP g:=λs=>⟨zH hF s,λt ht=>hS t (s.subset ht)⟩
  exists bJ _,λG0 hG0=>?_;generalize eU:upd H G0 _=H0;obtain⟨s0,w0⟩:=nw eU hG0;have h0:dh [] (ofString "a = 0").cps.toList .ok [([97],[])]:=by
   have:=iN (st:=[]) (n:=[97]) (f:=[]) Y ⟨List.Pairwise.nil,λp hp=>by cases hp⟩ tD (λt ht=>by cases ht)
   show this
  show ji (K:=K) (E:=E) h0 (hD.keep s0) (λnf h=>by cases h) tD λH1 iL s1=>?_
  exists _,_,bE.mpr Y,bE.mpr Y,tD,_,Y,aK tD ?_;have uz:=s0 _ _ nI;have B1:=(ay.of s0).trans s1;have t1:=aI.keepD ⟨[],w0,.nil⟩ s1 uz;have dkp:∀{G:Hp}{b:Addr}{l:ak},aI H b l->ay d H G->aI G b l:=λh s=>aI.keepD h s nI
  exists a,_,Y,.inl (ai.of (B1 _ _ (λz=>by simp_all) qB)),?_;rw[ar,mG];have hN:Builtin.Range.rangeSize 0 (f.length:Int) 60=(((f.length+59)/60:Nat):Int):=by
   unfold Builtin.Range.rangeSize;rw[aj tD,aj tL];lia
  exists _,_,60,_,Y,tD,?_,?_,hN,?_
  .simp only[Builtin.divisionGoesByPylong];rw[show (decide ((if ((60:Int) == 0)=true then 0 else (60:Int).natAbs.log2/30+1)>300))=false by decide];rfl
  .exact (zge (b:=(f.length:Int)) (c:=60) tL tL tD tD).1
  show zfI (lo:=0) (c:=60) (n:=(f.length+59)/60) (λi σ G=>∃(v3 v4 v5:Option V) (b:Addr) (st:bB),σ=[some (.ref p),some (.ref a),some (.ref b),v3,v4,v5]/\aI G b (f.take (min (60*i) 300))/\BK (f.take (min (60*i) 300)) st/\cH dD G p d st/\ay d H G)
   ⟨none,none,none,G0,_,Y,by simpa using t1,.inl tS,iL,B1⟩ ?_ ?_
  .rintro i σ G hi ⟨v3,v4,v5,b,st,rfl,hb,M,ij,sB⟩;have cD:60*i<f.length:=by lia
   have hsa:=sB _ _ (λz=>by simp_all) qB;unfold aQ;rw[show (0:Int)+(i:Int)*60=((60*i:Nat):Int) by lia];exists a,_,Y,ai.of hsa,λD hD=>?_;rw[show ((60*i:Nat):Int)+60=((60*i+60:Nat):Int) by lia,OG tL (by clear hi;lia),show 60*i+60-60*i=60 by lia]at *;have s3:ag G (upd G D (.lst (((fs.drop (60*i)).take 60).map V.ref))):=ag.upd hD;have Cu:aI (upd G D (.lst (((fs.drop (60*i)).take 60).map V.ref))) D ((f.drop (60*i)).take 60):=⟨_,ao,(((nR.keep λc xs e=>s3 _ _ (sB _ _ (λz=>by simp_all) e)).drop _).take _)⟩;generalize upd G D (.lst (((fs.drop (60*i)).take 60).map V.ref))=G1 at s3 Cu ⊢;have hJ:=hb.keep s3;have lK:=ij.keep s3;have yw:=sB.trans (ay.of s3);obtain⟨pt,wR⟩:∃pt,pt=(f.drop (60*i)).take 60:=⟨_,Y⟩;have cj:pt.length=min 60 (f.length-60*i):=by simp_all
   obtain⟨g,hg⟩:∃g,g=f.take (min (60*i) 300):=⟨_,Y⟩;have n0:g.length=min (60*i) 300:=by grind
   have lF:=xn (g:=pt) (by rw[wR];show (dQ _ _).trans (lZ _ _));have Vw:=xn (g:=g) (by rw[hg];show dQ _ _);have Qz:=xn (g:=g++pt) (by rw[hg,wR];show ZN f tL);have yT:FB g:=iz Vw.1 tL Vw.2;have Ke:FB pt:=iz lF.1 (by clear cD hi hN hl Z;lia) lF.2;rw[<-wR]at Cu;rw[<-hg]at hJ M;have n1:f.take (min (60*(i+1)) 300)=if i<5 then g++pt else g:=by grind
   have n2:(g++pt).length<=300↔i<5:=by rw[aX,n0,cj];clear n0 hN hu hl Z;omega
   rw[n1];exists D,pt,Y,Cu,λt ht=>(lF.2 t ht).1,(by clear cD hi hN hl Z;lia),λG2 s4=>?_;have aL:=(px (f:=pt) tO lF.2).1;exists _,_,Y,Y,?_,?_
   .show 4+(txt pt).length<=sizeLine;show a9 (rq aL 4) tD
   have lO:=hJ.keep s4;have jz:=lK.keep s4;have zv:=Cu.keep s4;have EX:=yw.trans (ay.of s4);have y1:dh st ([98]++([32,61,32]++txt pt)) .ok (aJ st [98] pt):=by
    have:=iN (st:=st) (n:=[98]) (f:=pt) Y lF.1 tO lF.2
    rwa [aj (by clear cD hi hN hl Z;lia),aj tL]at this
   rw[show ofString "b = " ++ S (txt pt)=S ([98]++([32,61,32]++txt pt)) from bF [98,32,61,32] (txt pt)];show ji (K:=K) (E:=E) y1 jz (DN M yT).1 (DN M yT).2 λG3 jv s5=>?_
   exists _,_,bE.mpr Y,bE.mpr Y,tD,_,Y,aK tD ?_;rw[Xh M]at jv;obtain⟨kv4,CJ,_⟩:=id jz.dc;have xg:=EX.trans s5;have ur:=aI.keepD lO s5 CJ;have Rq:=aI.keepD zv s5 CJ;obtain⟨gs,CN,B3⟩:=id ur;obtain⟨ps,hpS,hpT⟩:=id Rq;exists b,_,Y,.inl (ai.of CN),D,_,Y,.inl (ai.of hpS),_,Y,?_;rw[ar,ar,B3.length,hpT.length];have aF:(300:Int)<(g.length:Int)+(pt.length:Int)↔¬i<5:=by rw[aX]at n2;lia
   have mj:aT (g++pt) (nG 0 g pt):=aT.self Qz.1;obtain⟨y2,y3⟩:=vJ (st:=[([97],g),([98],pt)]) (w:=0) (n:=[97]) (a:=[97]) (b:=[98]) tD Y Y Y Y Y mj;have bp:(∀nf∈[([97],g),([98],pt)],FB nf.2)/\[([97],g),([98],pt)].length<=1000:=DN (.inr ⟨pt,Ke,Y⟩) yT;obtain⟨kv5,P2,_⟩:=id jv.dc;by_cases z:i<5
   .refine aK (by simpa using λw=>aF.mp w z) ?_;show ji (K:=K) (E:=E) (y2 ⟨n2.mpr z,λt ht=>(Qz.2 t ht).1.2.2.2⟩) jv bp.1 bp.2 λG4 fJ s6=>?_
    exists _,_,bE.mpr Y,bE.mpr Y,tD,_,Y,aK tD ?_;exists _,_,bE.mpr Y,bE.mpr Y,tD,_,Y,bq tD ?_;have Cy:=aI.keepD ur s6 P2;have ER:=aI.keepD Rq s6 P2;obtain⟨Sh,hgS',TJ⟩:=id Cy;obtain⟨Rb,hpS',Lm⟩:=id ER;exists b,D,_,_,Y,Y,hgS',hpS',?_,λD2 Xl=>?_
    .rw[ar,ar,TJ.length,Lm.length,n0,cj];show a9 (show _<=400 by lia) tD
    rw[aj z];have s7:ag G4 (upd G4 D2 (.lst (Sh.map V.ref++Rb.map V.ref))):=ag.upd Xl;exists _,_,_,D2,_,Y,⟨Sh++Rb,by rw[aN];show ao,(TJ.append Lm).keep λc xs e=>s7 _ _ e⟩,.inr ⟨pt,Ke,Y⟩,fJ.keep s7,xg.trans (s6.trans (ay.of s7))
   .refine bq (by simpa using aF.mpr z) ?_;exists by show 1<=sizeLine;decide,λe1 qO=>?_;generalize eU:upd G3 e1 _=G4;obtain⟨s6,w6⟩:=nw eU qO;have ER:=ur.keep s6;have fJ:=jv.keep s6;have JL:=xg.trans (ay.of s6);show ji (K:=K) (E:=E) (y3 λw=>z (n2.mp w.1)) fJ bp.1 bp.2 λe2 G5 uZ s7=>?_
    exists _,_,oP uZ,oP (s7 _ _ w6),tD,_,Y,aK tD ?_;exists _,_,oP (s7 _ _ w6),bE.mpr Y,tD,_,Y,aK tD ?_;rw[ah z];exists _,_,_,b,_,Y,ER.keep s7,.inr ⟨pt,Ke,Y⟩,fJ.keep s7,JL.trans (ay.of s7)
  .rintro σ G ⟨v3,v4,v5,b,st,rfl,hb,M,ij,sB⟩;have hg:=xn (dQ (min (60*((f.length+59)/60)) 300) f);show q b _ st G (iz hg.1 (by grind) hg.2) hg.2 M ij hb sB
def Fv(hn:bI n=true)(h:ny tx s):(sF s->dh st (n++32::([58,61]++32::tx)) (.err .many) st)/\(nA s->∀f,aT f s.tl->dh st (n++32::([58,61]++32::tx)) .ok (aJ st n f)):=by
 obtain⟨a1,a2⟩:=lq hn;have Z:dN (n++32::([58,61]++32::tx))=some (some n,[58,61],[.str (S tx)]):=by
  rw[zS hn (.inr rfl)];unfold mE;rw[ah λz=>absurd z.1 tD]
 have M:(∀c∈n++32::([58,61]++32::tx),c<128)/\(n++32::([58,61]++32::tx)).length<=8500:=by
  show⟨λc hc=>?_,by have:=h.len;simp only[aX,bf,ub];lia⟩;rcases bC.mp hc with z|z
  .exact a2 c z
  .rcases aV.mp z with rfl|z
   .decide
   .rcases bC.mp z with y|y
    .exact (show ∀c∈[58,61],c<128 by decide) c y
    .rcases aV.mp y with rfl|y
     .decide
     .exact h.asc c y
 exists λhm=>⟨M,.inr (.inr ⟨n,tx,s,Z,h,.inl ⟨hm,Y,Y⟩⟩)⟩,λhf f hF=>⟨M,.inr (.inr ⟨n,tx,s,Z,h,.inr ⟨hf,f,hF,Y,Y⟩⟩)⟩
def DY(h:dh st l r af):(r≠.ok->af=st)/\af.length<=st.length+1:=by
 obtain⟨_,⟨c,_,_,h⟩|⟨_,_,_,_,rfl,_⟩|⟨n,_,s,_,_,h⟩⟩:=h
 .rcases h with ⟨f,_,_,rfl,rfl⟩|⟨_,_,rfl⟩|⟨_,_,rfl⟩|⟨_,_,_,_,rfl⟩
  .exists λz=>absurd Y z,pf _ _ _
  .exists λ_=>rfl,mK _
  .exists λ_=>rfl,mK _
  .exists λ_=>rfl,mK _
 .exists λ_=>rfl,mK _
 .rcases h with ⟨_,_,rfl⟩|⟨_,f,_,rfl,rfl⟩
  .exists λ_=>rfl,mK _
  .exists λz=>absurd Y z,pf _ _ _
def HS:fQ->L2.D
 |.ok=>.str "ok"
 |.err k=>.lst [.str k.wo]
 |.txt s=>.str s
def lr(H:Hp)(v:V):fQ->Prop
 |.ok=>v=.str "ok"
 |.txt s=>v=.str s
 |.err k=>∃e,v=.ref e/\H e=some (.lst [.str k.wo])
def lr.is(h:lr H v r):Is H v (HS r):=by
 cases r with
 |ok=>cases h;show bE.mpr rfl
 |txt s=>cases h;show bE.mpr rfl
 |err k=>obtain⟨e,rfl,he⟩:=h;show oP he
def lr.up(h:lr H v r)(k:∀e x,H e=some (.lst x)->O e=some (.lst x)):lr O v r:=by
 cases r with
 |ok=>show h
 |txt s=>show h
 |err k'=>obtain⟨e,rfl,he⟩:=h;exists e,Y,k _ _ he
def QP(r:fQ):jt (HS r)<=60:=by cases r<;>(show _<=60;simp[HS,jt,kF])
def NO{K:Frag}{C p d:Addr}{st af:bB}{l:List Nat}{r:fQ}{H:Hp}{Q:VK}{E:XK}(h:dh st l r af)(hD:cH C H p d st)(bp:∀nf∈st,FB nf.2)(jm:st.length<=1000)(q:∀v O,lr O v r->cH C O p d af->ay d H O->Q v O):BW K C [.ref p,.str (S l)] H Q E:=by
 show ji h hD bp jm ?_;have e:=(DY h).1;cases r with
 |ok=>show λO a b=>q _ O Y a b
 |txt s=>rw[e (by simp)]at q;show λO b=>q _ O Y (hD.keep b) (ay.of b)
 |err k=>rw[e (by simp)]at q;show λx O hx b=>q _ O ⟨x,Y,hx⟩ (hD.keep b) (ay.of b)
inductive m7:bB->List (List Nat×fQ)->bB->Prop
 |nil (st:bB):m7 st [] st
 |cons {st bu bg:bB}{l:List Nat}{r:fQ}{L:List (List Nat×fQ)}:dh st l r bu->(∀nf∈bu,FB nf.2)->m7 bu L bg->m7 st ((l,r)::L) bg
def Em(H:Hp)(p:Addr)(a:List Nat×fQ):Prop:=∃v,H p=some (.tup [.str (S a.1),v])/\lr H v a.2
structure Acc(H0 H:Hp)(ks:List (Addr×List V))(ps:List Addr)(L:List (List Nat×fQ)):Prop where
 same:ag H0 H
 lsts:∀k∈ks,H k.1=some (.lst k.2)
 all:Paired (Em H) ps L
def Acc.nil(H:Hp):Acc H H [] [] []:=⟨ag.refl _,(λk hk=>by cases hk),.nil⟩
section
variable{H0 H:Hp}{ks:List (Addr×List V)}{ps:List Addr}{L:List (List Nat×fQ)}
def Acc.keep(h:Acc H0 H ks ps L)(s:ag H O):Acc H0 O ks ps L:=⟨h.same.trans s,λk hk=>s _ _ (h.lsts k hk),Paired.mapP h.all λ_ _ ⟨v,e,k⟩=>⟨v,s _ _ e,k.up λ_ _ z=>s _ _ z⟩⟩
def Acc.lay(h:Acc H0 H ks ps L)(ha:H a=none)(xs:List V):Acc H0 (upd H a (.lst xs)) ((a,xs)::ks) ps L :=
 ⟨(h.keep (ag.upd ha)).same,(λk hk=>by
  rcases aV.mp hk with rfl|z
  .exact ao
  .exact (h.keep (ag.upd ha)).lsts k z),(h.keep (ag.upd ha)).all⟩
def Acc.str(hP:Acc H0 H ks ps L)(l:List Nat)(r:fQ)(hp:H p=none)(hx:x=S l)(hr:lr H (.str s) r):Acc H0 (upd H p (.tup [.str x,.str s])) ks (ps++[p]) (L++[(l,r)]) :=
 ⟨hP.same.trans (ag.upd hp),(hP.keep (ag.upd hp)).lsts,lT (hP.keep (ag.upd hp)).all ⟨_,by rw[ao,hx],hr.up λ_ _ z=>ag.upd hp _ _ z⟩⟩
def Acc.any(hP:Acc H0 H ks ps L)(l:List Nat)(r:fQ)(hp:H p=none)(hx:x=S l)(hr:lr H v r):Acc H0 (upd H p (.tup [.str x,v])) ks (ps++[p]) (L++[(l,r)]) :=
 ⟨hP.same.trans (ag.upd hp),(hP.keep (ag.upd hp)).lsts,lT (hP.keep (ag.upd hp)).all ⟨_,by rw[ao,hx],hr.up λ_ _ z=>ag.upd hp _ _ z⟩⟩
def Acc.app(hP:Acc H0 H ks ps L)(e:upd H b (.lst (xs++[v]))=G)(hx:∀s,xs≠[.str s])(hb:H0 b=none)(h:H b=some (.lst xs)):Acc H0 G [(b,xs++[v])] ps L :=
 e ▸ ⟨hP.same.write hb,(λk hk=>by rw[bH.mp hk];show ao),Paired.mapP hP.all λp a ⟨w,e,k⟩=>⟨w,by rw[aG λz=>by simp_all];show e,by
  obtain⟨l,r⟩:=a;cases r with
  |ok=>show k
  |txt s=>show k
  |err e' =>
   obtain⟨c,rfl,hc⟩:=k;exists c,Y,?_;rw[aG λz=>by simp_all];show hc⟩⟩
def Acc.err(hP:Acc H0 H ks ps L)(l:List Nat)(e:Er)(ha:H a=none)(hp:upd H a (.lst [.str s]) p=none)(hx:x=S l)(hs:s=e.wo):Acc H0 (upd (upd H a (.lst [.str s])) p (.tup [.str x,.ref a])) ks (ps++[p]) (L++[(l,.err e)]) :=
 have s1:=ag.upd ha;have s2:=ag.upd hp
 ⟨hP.same.trans (s1.trans s2),(hP.keep (s1.trans s2)).lsts,lT (hP.keep (s1.trans s2)).all ⟨_,by rw[ao,hx],a,Y,by rw[<-hs];show s2 _ _ ao⟩⟩
def Acc.layE(h:Acc H0 H ks ps L)(e:upd H a (.lst xs)=G)(ha:H a=none):Acc H0 G ((a,xs)::ks) ps L:=e ▸ h.lay ha xs
def Acc.anyE(hP:Acc H0 H ks ps L)(e:upd H p (.tup [.str x,v])=G)(hp:H p=none)(l:List Nat)(r:fQ)(hx:x=S l)(hr:lr H v r):Acc H0 G ks (ps++[p]) (L++[(l,r)]):=e ▸ hP.any l r hp hx hr
def Acc.errE(hP:Acc H0 H ks ps L)(h:upd (upd H a (.lst [.str s])) p (.tup [.str x,.ref a])=G)(ha:H a=none)(hp:upd H a (.lst [.str s]) p=none)(l:List Nat)(e:Er)(hx:x=S l)(hs:s=e.wo):Acc H0 G ks (ps++[p]) (L++[(l,.err e)]):=h ▸ hP.err l e ha hp hx hs
end
def ZT:1<=sizeLine:=by decide
def Jx:2<=sizeLine:=by decide
set_option hygiene false in
local macro_rules|`(tactic|nomatch $l,$r,$h)=>`(tactic|(exists Jx,λq9 qx=>?_;generalize hG:upd _ q9 _=G9;have hB:=hB.anyE hG qx $l $r $h rfl;clear hG qx))
set_option hygiene false in
local macro_rules|`(tactic|nomatch _,$l,$r,$h)=>`(tactic|(exists ZT,λe9 U6=>⟨Jx,λq9 qx=>?_⟩;generalize hG:upd (upd _ e9 _) q9 _=G9;have hB:=hB.errE hG U6 qx $l $r $h rfl;clear hG qx U6))
set_option hygiene false in
local macro_rules|`(tactic|ext)=>`(tactic|(exists vo rfl,λb9 rQ=>?_;generalize hG:upd _ b9 _=G9;have nb:=hB.same.free rQ;have hB:=hB.layE hG rQ;clear hG rQ))
set_option hygiene false in
local macro_rules|`(tactic|symm)=>`(tactic|(exists _,_,_,_,rfl,rfl,hB.lsts _ (.tail _ (.head _)),hB.lsts _ (.head _),vo rfl,λb9 rQ=>?_;generalize hG:upd _ b9 _=G9;have nb:=hB.same.free rQ;have hB:=hB.layE hG rQ;clear hG rQ))
theorem DS:∀{xs:List α}{l:List β}{i:Nat}{x:α},Paired F xs l->xs[i]?=some x->∃s,l[i]?=some s/\F x s
 |_,_,_,_,.nil,h=>by cases h
 |_,_,0,_,.cons e r,h=>by cases h;exists _,Y,e
 |_,_,i+1,_,.cons e r,h=>DS (i:=i) r h
def Acc.dup(h:Acc H0 H ks (ps++[p]) (L++[a])):Acc H0 H ks (ps++[p]++[p]) (L++[a]++[a]):=by
 obtain⟨s,hs,hf⟩:=DS (i:=ps.length) (x:=p) h.all tS;have hl:ps.length=L.length:=by have:=eo h.all;simpa using this
 rw[hl]at hs
 have:s=a:=by simp_all
 subst this;exists h.same,h.lsts,lT h.all hf
def Ml{K:Frag}{C a p d:Addr}{ps:List Addr}{L:List (List Nat×fQ)}{st af:bB}{H:Hp}{R:List V->Hp->Addr->Prop}(hs:m7 st L af)(hP:Paired (Em H) ps L)(ha:H a=some (.lst (ps.map V.ref)))(hD:cH C H p d st)(bp:∀nf∈st,FB nf.2)(hl:st.length+L.length<=1000)
  (q:∀G,cH C G p d af->(∀nf∈af,FB nf.2)->af.length<=st.length+L.length->ay d H G->∀D,G D=none->R [] G D) :
  ∃W:Nat->Nat->List V->L2.St->Hp->Prop,(∃m,W 0 m [] [none,none,some (.ref p)] H)/\∀i m ys σ H,W i m ys σ H ->
   ((gq K a).stop i H/\∀D,H D=none->R ys H D) \/
   ((gq K a).go i H/\ys.length<sizeLine/\∃ N:List V->L2.St->Hp->Prop,(∀ cb σ' O,N cb σ' O->∃ m',m'<m/\W (i+1) m' cb σ' O) /\ ∀x O,(gq K a).yld i H x O->gd K 2 (bW (aQ 0) (bW (aQ 1) gc)) x σ O λσ2 H2=>Bw (fL (HN not) (AM (BW K C) [] E0 (jw (iH 2) (jw (iH 0) nV))) (iH 1)) σ2 H2 λb H3=>if b=true then iH 0 σ2 H3 λy H4=>N (ys++[y]) σ2 H4 else N ys σ2 H3):=by
 obtain⟨vm,nI,_⟩:=id hD.dc;have cj:=eo hP;have nd:∀{b:Addr}{o:HO},H b=some o->(∀kv,o≠.dK kv)->b≠d:=λe h z=>by rw[z,nI]at e;show h _ (di e).symm
 show jg (K:=K) (a:=a) (xs:=ps.map V.ref) (λi ys σ G=>∃(v0 v1:Option V) (bu:bB),σ=[v0,v1,some (.ref p)]/\ys=[]/\m7 bu (L.drop i) af/\cH C G p d bu/\(∀nf∈bu,FB nf.2)/\bu.length<=st.length+i/\ay d H G)
  ⟨none,none,st,Y,Y,hs,hD,bp,aC _,ay.refl _ _⟩ (by rintro i ys σ G _ ⟨_,_,_,_,e,_,_,_,_,z⟩;show⟨ai.of (z _ _ (nd ha λ_ w=>by cases w) ha),by simp_all⟩) (by rw[ar,cj];show dH (cJ tL)) ?_ ?_
 .rintro i y ys σ G hi ⟨v0,v1,bu,rfl,rfl,g1,g2,g3,g4,g5⟩;obtain⟨pp,dv,rfl⟩:=gM hi;obtain⟨⟨l,r⟩,gh,v,nW,vW⟩:=DS hP dv;have dZ:=(cq.mp gh).1;rw[jc dZ,(cq.mp gh).2]at g1;cases g1 with
  |@cons _ bg _ _ _ _ k1 k2 k3 =>
  have qC:=g5 _ _ (nd nW λ_ w=>by cases w) nW;exists pp,_,Y,aD.of qC,Y,_,_,Y,_,_,Y,Y,?_;exists _,Y,_,Y,NO (K:=K) (E:=E0) k1 g2 g3 tL λw G' hw GQ ze=>?_;have Fd:=vW.up λe x z=>ze _ _ (nd z λ_ w=>by cases w) (g5 _ _ (nd z λ_ w=>by cases w) z)
  exists _,Y,_,_,hw.is,Fd.is,QP r,_,Y,?_;rw[mY];show aK tD ?_
  have:=(DY k1).2
  exists _,_,bg,Y,Y,k3,GQ,k2,tL,g5.trans ze
 .rintro ys σ G ⟨v0,v1,bu,rfl,rfl,g1,g2,g3,g4,g5⟩ D F9;rw[ar,cj]at g1 g4;rw[wk]at g1;cases g1;show q G g2 g3 g4 g5 D F9
def zde(K:Frag)(C:Addr):Sp:=λvs H Q _=>∃(p d:Addr) (st:bB) (n:Int),vs=[.ref p,.int n]/\0<=n/\cH C H p d st/\(∀nf∈st,FB nf.2)/\st.length<=900 /\
 ∀(af:bB) (O:Hp),(∀nf∈af,FB nf.2)->af.length<=st.length+30->(∀nm,nm∉[[102]]->az af nm=az st nm)->cH C O p d af->ay d H O->Q (.bl true) O
def Zz:(["_law_k","_law_letters","_law_number"]:List Str).Nodup:=by decide+kernel
def Z2(T:Txt w K mg):Cp.Ok P w K mg base 11 (zde K dD):=by
  show T.bE.k ?_;rintro vs H Q E ⟨p,d,st,n,rfl,qQ,hD,bp,jm,q⟩;show wl fun hr hu nd=>⟨_,(aO (gu 2 nd gZ) (Xd (zg9 (i:=3) (g:=(aQ 0)) ["_law_k", "_law_letters", "_law_number"] 1 [2,1] nd Y (Or.inl Y) Y (cB Cp) (SJ Y T.am (bN eY dC)) (λa b c d e=>(bb 0 Zz)) (λa b c d e=>JP) (λa b d e f=>(zfA (pV 1) (gD dA.j (pV 2) (gD gw.c eY (pV 0))) fY.c (λ_ _=>rfl)))) (λn=>OY (gu 4 nd (xL (pV 3) eY)) (OY (HY sU Y (eQ (fI iK (pV 3) (fj eY) (fj eY))) (bb 5 nd) (bQ (gu 4 nd (gD cU (gD cU (gD cU gZ (pV 4)) gZ) (pV 5))))) (zeP (zgd (zbV (lC (gR hr)) (zgG (jd T) hr T.aa.m T.aa.F.kp T.aa.b .nil F8 (zbC (pV 0) (Xv (zb8 cU gZ (zcg (pV 4) (YO (gD cU gZ (xL (pV 3) eY)) gZ) (pV 3)))))) gZ (B4 _)) (bQ (sD yQ)) yA) (aO (cL (cN (lC (gR hr)) (au T.aa (jd T) hr (bN (pV 0) (bN (gD cU (gD cU (gD cU gZ (pV 4)) gZ) (xL (pV 3) eY)) dC))) (V2 (bN gZ dC))) (bQ (sD yQ)) yA) (bQ (sD (kO (yq (gR hr)) (au T.aa (jd T) hr (bN (pV 0) (bN gZ dC))) (fF ie yR xU zA gZ (bN (gj (zg0 Y) (by rfl) T.aj qG (bN (fI iK (pV 3) MC (fj eY)) dC)) dC))))))))))),?_⟩
  obtain⟨r,mU,er⟩:∃r:Nat,r<16/\n%16=(r:Int):=⟨(n%16).toNat,tL,tL⟩;exists _,Y,tD,tD,?_;show vb (lo:=0) (n:=9) (λi ys σ G=>∃v0:Option V,σ=[v0,some (.str "abcdefghijklmnop"),some (.int n)]/\ys=((List.range i).map λk=>V.str (S [97+bK r k]))/\G=H) ⟨none,Y,Y,Y⟩ (λi ys σ H2 ⟨_,_,e,_⟩=>by rw[e];simp) tD ?_ ?_
  .rintro j ys σ G hj ⟨v0,rfl,rfl,rfl⟩;unfold aQ;show tt ?_;exists lN tL tL,(by simp),_,_,97+bK r j,Y,Y,tD,?_,_,Y,?_,rfl
   .have e:(n+3*(0+(j:Int)))%16=((bK r j:Nat):Int):=by unfold bK;lia
    rw[e];show cf ((show ∀k<16,(ofString "abcdefghijklmnop").cps.toList[k]?=some (97+k) by decide+kernel) _ (iJ _ _))
   .rw[iA,aN];rfl
  .rintro ys σ G ⟨v0,rfl,rfl,rfl⟩ D F9 m ae no tk;obtain⟨w,hw⟩:∃w,w=upd G D (.frz (oX ae no) (.lst ((List.range 9).map λk=>V.str (S [97+bK r k])))):=⟨_,Y⟩;have s1:=hw ▸ ag.upd F9;have UM:w D=some (.frz (oX ae no) (.lst ((List.range 9).map λk=>V.str (S [97+bK r k])))):=by rw[hw];show ao
   rw[<-hw];clear hw;have sq:∀{O:Hp},ag w O->ai K O D ((List.range 9).map λk=>V.str (S [97+bK r k])):=λs=>.inl (.inr ⟨_,s _ _ UM⟩)
   have hd:∀k,k<9->((List.range 9).map λk=>V.str (S [97+bK r k]))[k]?=some (V.str (S [97+bK r k])):=λk hk=>by rw[c9,yn hk];rfl
   exists _,sq (ag.refl _),cf (hd 0 tD),?_;have ec:dy ((List.range 9).map λk=>V.str (S [97+bK r k])) (some 1) (some 8)=(List.range 7).map λk=>V.str (S [97+bK r (k+1)]):=rfl
   exists D,_,Y,sq (ag.refl _),λD2 ij=>⟨⟨_,ai.of ao⟩,?_⟩;rw[ec];generalize eU:upd w D2 _=G2;obtain⟨s2,w2⟩:=nw eU ij;have l1:ofString ") and " = S [41,32,97,110,100,32]:=by decide+kernel
   show kP (K:=K) (a:=D2) (xs:=(List.range 7).map λk=>V.str (S [97+bK r (k+1)])) (λi σ G'=>∃v5:Option V,σ=[some (.ref p),some (.int n),some (.str "abcdefghijklmnop"),some (.ref D),some (.str (S (pD r i))),v5]/\G'=G2)
    ⟨none,Y,Y⟩ (λi σ G' _ ⟨_,_,e⟩=>by rw[e];show ai.of w2) ?_ ?_
   .rintro i y σ G' hi ⟨v5,rfl,rfl⟩;rw[c9]at hi;have YA:i<7:=by
     rcases lj i 7 with z|z
     .exact z
     .rw[Co (by assumption)]at hi;cases hi
    rw[yn YA]at hi;cases hi;have hl:=HQ r i;exists _,_,Y,Y,cV (by rw[jo,aH,aH,hl];show 1+_<=_;lia),?_;exists _,_,Y,Y,cV (by rw[jo,l1,bF,aH,aH,aX,hl];show 1+_+6<=_;lia),_,_,Y,Y,cV (by rw[jo,l1,bF,bF,aH,aH,aX,aX,hl];show 1+_+6+1<=_;lia),some (V.str (S [97+bK r (i+1)])),?_,rfl;rw[jo,l1,bF,bF,bF];rfl
   .rintro σ G3 ⟨v5,rfl,rfl⟩;rw[show ((List.range 7).map λk=>V.str (S [97+bK r (k+1)])).length=7 from rfl];have l2:ofString "f := " = S [102,32,58,61,32]:=by decide+kernel
    have l3:ofString ")" = S [41]:=by decide+kernel
    have hl:=HQ r 7;have RP:=s2 _ _ UM;have s3:=s1.trans s2;obtain⟨vm,nI,_⟩:=id hD.dc;have nDd:D≠d:=λz=>by simp_all
    obtain⟨k1,k2⟩:=OQ mU;obtain⟨k3,k4⟩:=zbN mU;have Px:aT [(mh r,1)] (iG r).tl:=by rw[zaP r mU];show xN tD
    have CI:=Fq k2 Px;exists _,Y,_,sq s2,cf (hd 0 tD),_,_,Y,Y,cV (by rw[jo,aH,aH];show 1+1<=40000;decide),_,_,Y,Y,by rw[jo,bF,aH];rfl,by rw[l3];decide,cV (by rw[jo,l3,bF];show 2+1<=40000;decide),_,Y,D,ae,no,_,S [97+bK r 0],Y,RP,hd 0 tD,tk,?_,?_,_,_,Y,Y,?_,?_
    .rw[jo,l3,bF,bF];show xM.mpr λz=>by have:=fR z;simp at this
    .rw[aH,aH,hl];show 1+8*7+(1+8*7+1)*1<=16777216;decide
    .rw[jo,l3,bF,bF,Te r mU,l2,aH,aH]
     have:=(HF r mU).2
     show cV (by show 5+_<=_;lia)
    rw[show ofString "f := " ++ Txt.replace (S (pD r 7)) (ofString "(" ++ S [97+bK r 0]++ofString ")") (S [97+bK r 0])=S ([102]++32::([58,61]++32::(qY r).flatten)) by rw[jo,l3,bF,bF,Te r mU,l2,bF];rfl];show ji (K:=K) (E:=E0) ((Fv (st:=st) (n:=[102]) Y k1).2 k2 _ Px) (hD.keep s3) bp tL λG4 jz s4=>?_
    exists _,_,bE.mpr Y,bE.mpr Y,tD,_,Y,aK tD ?_;have iP:∀nf∈aJ st [102] [(mh r,1)],FB nf.2:=dE bp CI;have Gy:=pf st [102] [(mh r,1)];have Zt:=s4 _ _ nDd RP;have JL:ay d G G4:=(ay.of s3).trans s4;have Ee:∀{O:Hp},ag G4 O->ai K O D ((List.range 9).map λk=>V.str (S [97+bK r k])):=λs=>.inl (.inr ⟨_,s _ _ Zt⟩)
    have l4:ofString "f := (" = S [102,32,58,61,32,40]:=by decide+kernel
    have l5:ofString ") and not " = S [41,32,97,110,100,32,110,111,116,32]:=by decide+kernel
    exists _,_,Y,Y,cV (by rw[l4,aH,aH,hl];show 6+_<=_;lia),_,_,Y,Y,cV (by rw[l4,l5,bF,aH,aH,aX,hl];show 6+_+10<=_;lia),_,Ee (ag.refl _),cf (hd 8 tD),_,_,Y,Y,cV (by rw[l4,l5,bF,bF,aH,aH,aX,aX,hl];show 6+_+10+1<=_;lia),?_;rw[show ofString "f := (" ++ S (pD r 7)++ofString ") and not " ++ S [97+bK r 8]=S ([102]++32::([58,61]++32::(rM r).flatten)) by
     rw[l4,l5,bF,bF,bF,<-Yl r mU];rfl]
    show ji (K:=K) (E:=E0) ((Fv (st:=aJ st [102] [(mh r,1)]) (n:=[102]) Y k3).1 k4) jz iP tL λe5 G5 he5 s5=>?_
    exists by show 1<=sizeLine;decide,λe6 YB=>?_;have s6:=ag.upd (o:=.lst [.str "many"]) YB;exists _,_,oP (s6 _ _ he5),oP ao,tD,vN tD ?_;have yb:=s5.trans s6;have fJ:=jz.keep yb;have w6:=Ee yb;generalize upd G5 e6 (.lst [.str "many"])=G6 at s6 yb fJ w6 ⊢;have hsay:dh (aJ st [102] [(mh r,1)]) (ofString "show f").cps.toList (.txt (S (txt [(mh r,1)]))) (aJ st [102] [(mh r,1)]):=by
     have:=rG (st:=aJ st [102] [(mh r,1)]) (n:=[102]) rfl
     rw[eI,aj rfl]at this;show this
    show ji (K:=K) (E:=E0) hsay fJ iP tL λG7 s7=>?_
    exists Y,D,_,Y,Ee (yb.trans s7),λD3 lK=>?_;rw[show dy ((List.range 9).map λk=>V.str (S [97+bK r k])) none (some 8)=(((jT r).take 8).map L1).map V.str from rfl];exists D3,_,Y,ai.of ao,by simp[jT],λl8 ss OI hp8 W8=>?_;have e8:=XR mU hp8 W8;subst e8;exists _,l8,_,Y,Y,ai.of ao,?_,_,_,bE.mpr Y,bE.mpr Y,by show 0<=60;decide,?_
    .exact (show ∀r<16,(((o9 r).map L1).map (·.length)).sum+((o9 r).map L1).length*(ofString "").length<=16777216 by decide+kernel) r mU
    .show Q (.bl (dX (L2.D.str _) (L2.D.str _))) _;rw[show ofString "" = S [] by decide+kernel,zdi,zeT r mU,mY];show q _ _ iP tL (λnm hm=>by rw[eI,ah λz=>hm (by rw[z];simp)]) ((fJ.keep s7).keep ((ag.upd lK).trans (ag.upd OI))) (JL.trans (ay.of (yb.trans (s7.trans ((ag.upd lK).trans (ag.upd OI))))))
noncomputable def ir:List Nat:=[110,111,116,104,105,110,103]
def cT(st:bB)(r:Nat):bB:=aJ (aJ (aJ st [103] (mJ r)) [104] (nB r)) [105] vO
noncomputable def A0(r:Nat):List (List Nat×fQ):=[([103]++([32,61,32]++[97+r,106]),.ok),([104]++([32,61,32]++[97+r,107]),.ok),([105]++([32,61,32]++[50,107]),.ok)]
def Vo(hr:r<9)(bp:∀nf∈st,FB nf.2):m7 st (A0 r) (cT st r)/\∀nf∈cT st r,FB nf.2:=by
 obtain⟨⟨a1,a2⟩,a3,a4⟩:=Sq r hr;obtain⟨t1,t2⟩:=zaI r hr;obtain⟨g1,g2⟩:=w9 a1 a2 (show (1:Int)≠0 by decide) tD;obtain⟨Z,M⟩:=w9 a3 a4 (show (1:Int)≠0 by decide) tD;obtain⟨i1,i2⟩:=w9 (m:=2^10) (c:=2) tD tD tD tD;have b1:=dE (n:=[103]) bp (iz g1 (by simp) g2);have b2:=dE (n:=[104]) b1 (iz Z (by simp) M);have b3:=dE (n:=[105]) b2 (iz i1 tD i2);have s1:=iN (st:=st) (n:=[103]) Y g1 (by simp) g2;have s2:=iN (st:=aJ st [103] (mJ r)) (n:=[104]) Y Z (by simp) M;have s3:=iN (st:=aJ (aJ st [103] (mJ r)) [104] (nB r)) (n:=[105]) Y i1 tD i2;rw[show txt [((2:Int)^r+2^9,1)]=_ from t1]at s1;rw[show txt [((2:Int)^r+2^10,1)]=_ from t2]at s2;rw[show txt [((2:Int)^10,2)]=_ from zaR]at s3;exists .cons s1 b1 (.cons s2 b2 (.cons s3 b3 (.nil _))),b3
def zgN:List (List Nat×fQ):=[(Q3.way.wl++32::[103],.txt "256"),(Q3.way.wl++32::[104],.err .many),(Q3.way.wl++32::[105],.err .yesno),(Q3.lea.wl++32::[103],.txt (S [48,32,48])),(Q3.lea.wl++32::[104],.err .many),(Q3.lea.wl++32::ir,.err .name),(Q3.way.wl++32::ir,.err .name),((aZ.put [120] [103] 0 [105]).line,.err .yesno),((aZ.put [120] ir 0 [105]).line,.err .name),((aZ.put [120] [105] 0 ir).line,.err .name),(fz++32::[120],.err .name)]
def zaF(hr:r<9)(bp:∀nf∈st,FB nf.2)(hn:az st ir=none)(hx:az st [120]=none):m7 (cT st r) zgN (cT st r):=by
 have b3:=(Vo hr bp).2;have eg:az (cT st r) [103]=some (mJ r):=by unfold cT;rw[eI,ah tD,eI,ah tD,eI,aj rfl]
 have eh:az (cT st r) [104]=some (nB r):=by unfold cT;rw[eI,ah tD,eI,aj rfl]
 have ei:az (cT st r) [105]=some vO:=by unfold cT;rw[eI,aj rfl]
 have en:az (cT st r) ir=none:=by unfold cT;rw[eI,ah tD,eI,ah tD,eI,ah tD];show hn
 have ex:az (cT st r) [120]=none:=by unfold cT;rw[eI,ah tD,eI,ah tD,eI,ah tD];show hx
 obtain⟨⟨a1,_⟩,a3,_⟩:=Sq r hr;obtain⟨m1,m2⟩:=zax r hr;have y1:iS (mJ r):=VF a1;have y2:iS (nB r):=VF a3;have z:∀{q:Q3}{n:List Nat}{f:ak},az (cT st r) n=some f->q.tells (cT st r) n=q.an f:=λe=>by unfold Q3.tells;rw[e]
 have z0:∀{q:Q3}{n:List Nat},az (cT st r) n=none->q.tells (cT st r) n=.name/\oi (cT st r) n q:=λe=>⟨by unfold Q3.tells;rw[e],λf hf=>by simp_all⟩
 have q1:Q3.way.an (mJ r)=.txt "256" := by
  unfold Q3.an;dsimp only;rw[aj y1,m1,ah tD]
 have q2:Q3.way.an (nB r)=.many:=by
  unfold Q3.an;dsimp only;rw[aj y2,m2,aj tD]
 have q3:Q3.way.an vO=.yesno:=by
  unfold Q3.an;dsimp only;rw[ah V0]
 have q4:Q3.lea.an (mJ r)=.txt (S [48,32,48]):=by
  show (if 10<eL (mJ r)then _ else _)=_;rw[m1,ah tD]
 have q5:Q3.lea.an (nB r)=.many:=by
  show (if 10<eL (nB r)then _ else _)=_;rw[m2,aj tD]
 have kg:∀q,oi (cT st r) [103] q:=λq f hf=>by
  rw[eg]at hf;cases hf;exists λ_ _ _=>⟨2^r+2^9,by rw[KJ,Int.natCast_pow];rfl,by rw[m1];show (show ∀r<9,qj 12 (2^r+2^9) (2^10)=some 256 by decide+kernel) r hr⟩,λ_ _ t ht=>?_;rw[bH.mp ht];show⟨by lia,by simp⟩
 have kh:∀q,oi (cT st r) [104] q:=λq f hf=>by simp_all
 have ki:∀q,oi (cT st r) [105] q:=λq f hf=>by
  rw[ei]at hf;cases hf;exists λ_ y=>absurd (by rw[Qv];decide) y,λ_ y=>absurd (by rw[Qv];decide) y
 have v1:=sI (q:=.way) (n:=[103]) Y (kg _);rw[z eg,q1]at v1;have v2:=sI (q:=.way) (n:=[104]) Y (kh _);rw[z eh,q2]at v2;have v3:=sI (q:=.way) (n:=[105]) Y (ki _);rw[z ei,q3]at v3;have v4:=sI (q:=.lea) (n:=[103]) Y (kg _);rw[z eg,q4]at v4;have v5:=sI (q:=.lea) (n:=[104]) Y (kh _);rw[z eh,q5]at v5;have v6:=sI (q:=.lea) (n:=ir) Y (z0 en).2;rw[(z0 en).1]at v6;have v7:=sI (q:=.way) (n:=ir) Y (z0 en).2;rw[(z0 en).1]at v7;have v8:=((DD (st:=cT st r) (n:=[120]) (a:=[103]) (b:=[105]) (k:=0) Y Y Y tD).2 _ _ eg ei).1 V0;have v9:=(DD (st:=cT st r) (n:=[120]) (a:=ir) (b:=[105]) (k:=0) Y Y Y tD).1 (.inl en);have v10:=(DD (st:=cT st r) (n:=[120]) (a:=[105]) (b:=ir) (k:=0) Y Y Y tD).1 (.inr en);have v11:=rG (st:=cT st r) (n:=[120]) rfl;rw[ex]at v11;show .cons v1 b3 (.cons v2 b3 (.cons v3 b3 (.cons v4 b3 (.cons v5 b3 (.cons v6 b3 (.cons v7 b3 (.cons v8 b3 (.cons v9 b3 (.cons v10 b3 (.cons v11 b3 (.nil _)))))))))))
def zgF(K:Frag)(C:Addr):Sp:=λvs H Q _=>∃(p d:Addr) (st:bB) (n:Int),vs=[.ref p,.int n]/\0<=n/\cH C H p d st/\(∀nf∈st,FB nf.2)/\st.length<=900/\az st ir=none/\az st [120]=none /\
 ∀(af:bB) (O:Hp),(∀nf∈af,FB nf.2)->af.length<=st.length+30->(∀nm,nm∉[[103],[104],[105]]->az af nm=az st nm)->cH C O p d af->ay d H O->Q (.bl true) O
def CV:(["_law_one","_law_due","_law_desk"]:List Str).Nodup:=by decide+kernel
def WB(T:Txt w K mg):Bx.Ok P w K mg base 11 (zgF K dD):=by
  show T.bF.k ?_;rintro vs H Q E ⟨p,d,st,n,rfl,qQ,hD,bp,jm,zB,hx,q⟩;have pV:=@pv;have xS:=@tu;have BX:=@rf;have CB:=@uT;show #[?_,uC zO,fY,rJ,cU,cU,cU,cU,bD,aW (lC (gR hr)) ?_ ?_,au T.aa (jd T) hr ?_,gf,gf,kO kK,fN,dq (g:=(gd K 2 (bW (aQ 0) (bW (aQ 1) gc)))) ["_law_one","_law_due","_law_desk"] 2 [0] Y (cB Bx) ?_ ?_ ?_ ?_,rJ,bb 0 CV,bb 1 CV,aW (lC (gR hr)) ?_ ?_,au T.aa (jd T) hr ?_];left;obtain⟨r,J2,er⟩:∃r:Nat,r<9/\n%9=(r:Int):=⟨(n%9).toNat,(by clear qQ;lia),(by clear qQ;lia)⟩;obtain⟨vm,nI,_⟩:=id hD.dc;have l1:ofString "g = " = S [103,32,61,32]:=by decide+kernel
  have l2:ofString "h = " = S [104,32,61,32]:=by decide+kernel
  have l3:ofString "j" = S [106]:=by decide+kernel
  have l4:ofString "k" = S [107]:=by decide+kernel
  exists _,Y,_,_,Y,Y,(by simp),_,_,97+r,Y,Y,tD,?_,?_
  .rw[er];show cf ((show ∀k<9,(ofString "abcdefghi").cps.toList[k]?=some (97+k) by decide+kernel) _ J2)
  have hA:=Acc.nil H;rw[show ({cps := #[97+r]}:Str)=S [97+r] from rfl];exists _,Y,_,_,Y,Y,cV (by rw[l1];show 4+1<=40000;decide),_,_,Y,Y,cV (by rw[l1,l3,bF];show 5+1<=40000;decide),?_;rw[l1,l3,bF,bF];exists by show 2<=sizeLine;decide,λp1 gk=>?_;have hA:=hA.str ([103]++([32,61,32]++[97+r,106])) .ok gk (x:=S ([103,32,61,32]++[97+r]++[106])) Y rfl;generalize upd H p1 _=H1 at hA ⊢;exists _,Y,_,_,Y,Y,cV (by rw[l2];show 4+1<=40000;decide),_,_,Y,Y,cV (by rw[l2,l4,bF];show 5+1<=40000;decide),?_;rw[l2,l4,bF,bF];exists by show 2<=sizeLine;decide,λp2 gW=>?_;have hA:=hA.str ([104]++([32,61,32]++[97+r,107])) .ok gW (x:=S ([104,32,61,32]++[97+r]++[107])) Y rfl;generalize upd H1 p2 _=H2 at hA ⊢;exists by show 2<=sizeLine;decide,λp3 hp3=>?_;have hA:=hA.str ([105]++([32,61,32]++[50,107])) .ok hp3 (x:=ofString "i = 2k") tE rfl;generalize upd H2 p3 _=H3 at hA ⊢;exists by show 3<=sizeLine;decide,λa ha=>?_;obtain⟨WK,N6⟩:=Vo J2 bp;have hA:=hA.keep (ag.upd (o:=.lst ([p1,p2,p3].map V.ref)) ha);have wa:upd H3 a (.lst ([p1,p2,p3].map V.ref)) a=some (.lst ([p1,p2,p3].map V.ref)):=ao;exists a,Y,⟨_,ai.of ao⟩,?_;rw[show [V.ref p1,V.ref p2,V.ref p3]=[p1,p2,p3].map V.ref from rfl];generalize upd H3 a (.lst ([p1,p2,p3].map V.ref))=H4 at hA wa ⊢;have CJ:=hA.same _ _ nI;have YD:Paired (Em H4) [p1,p2,p3] (A0 r):=hA.all;have DL:∀{b:Addr}{o:HO},H4 b=some o->(∀kv,o≠.dK kv)->b≠d:=λe h z=>by rw[z,CJ]at e;show h _ (di e).symm
  show kP (K:=K) (a:=a) (xs:=[p1,p2,p3].map V.ref) (λi σ G=>∃(v3 v4:Option V) (bu:bB),σ=[some (.ref p),some (.int n),some (.str (S [97+r])),v3,v4,none]/\m7 bu ((A0 r).drop i) (cT st r)/\cH dD G p d bu/\(∀nf∈bu,FB nf.2)/\bu.length<=st.length+i/\ay d H4 G)
   ⟨none,none,st,Y,WK,hD.keep hA.same,bp,aC _,ay.refl _ _⟩ (by rintro i σ G _ ⟨_,_,_,_,_,_,_,_,z⟩;show ai.of (z _ _ (DL wa λ_ w=>by cases w) wa)) ?_ ?_
  .rintro i y σ G hi ⟨v3,v4,bu,rfl,g1,g2,g3,g4,g5⟩;obtain⟨pp,dv,rfl⟩:=gM hi;obtain⟨⟨l,rr⟩,gh,v,nW,vW⟩:=DS YD dv;have dZ:i<(A0 r).length:=(cq.mp gh).1;have hil3:i<3:=dZ;rw[jc dZ,(cq.mp gh).2]at g1;cases g1 with
   |@cons _ bg _ _ _ _ k1 k2 k3 =>
   have qC:=g5 _ _ (DL nW λ_ w=>by cases w) nW;exists pp,_,Y,aD.of qC,Y,_,_,Y,_,_,Y,Y,?_;exists _,Y,_,Y,NO (K:=K) (E:=E0) k1 g2 g3 tL λw' G' hw GQ ze=>?_;have Fd:=vW.up λe x z=>ze _ _ (DL z λ_ w=>by cases w) (g5 _ _ (DL z λ_ w=>by cases w) z)
   exists _,Y,_,_,hw.is,Fd.is,QP rr,_,Y,?_;rw[mY];show aK tD ?_
   have:=(DY k1).2
   exists _,_,bg,Y,k3,GQ,k2,tL,g5.trans ze
  .rintro σ G ⟨v3,v4,bu,rfl,g1,g2,g3,g4,g5⟩;have g1':=g1;cases g1';have g4':(cT st r).length<=st.length+3:=g4;have yw:ay d H G:=(ay.of hA.same).trans g5;have hB:=Acc.nil G
   nomatch (Q3.way.wl++32::[103]),(.txt "256"),tE
   nomatch _,(Q3.way.wl++32::[104]),.many,tE
   nomatch _,(Q3.way.wl++32::[105]),.yesno,tE
   exists Jx,λq9 qx=>?_;generalize hG:upd _ q9 _=G9;have hB:=hB.anyE hG qx (Q3.lea.wl++32::[103]) (.txt (S [48,32,48])) tE (congrArg V.str tE);clear hG qx
   nomatch _,(Q3.lea.wl++32::[104]),.many,tE
   ext
   exists _,Y,?_
   nomatch _,(Q3.lea.wl++32::ir),.name,tE
   nomatch _,(Q3.way.wl++32::ir),.name,tE
   nomatch _,(aZ.put [120] [103] 0 [105]).line,.yesno,tE
   ext
   symm
   exists _,Y,?_
   nomatch _,(aZ.put [120] ir 0 [105]).line,.name,tE
   nomatch _,(aZ.put [120] [105] 0 ir).line,.name,tE
   nomatch _,(fz++32::[120]),.name,tE
   ext
   symm
   have xH:=hB.all;have hL:=hB.lsts _ (.head _);simp only[BP,pK]at xH hL;exists _,Y,_,Y,⟨_,ai.of hL⟩,?_;show Ml (K:=K) (C:=dD) (zaF J2 bp zB hx) xH hL (g2.keep hB.same) g3 (by show (cT st r).length+11<=1000;lia) λG' d1 d2 d3 d4 D5 jv=>?_
   exists D5,_,Y,.inl (ai.of ao),Y,?_;show q _ _ d2 (by lia) (λnm hm=>by
    simp only[aV,ly,lQ,not_or]at hm;unfold cT;rw[eI,ah hm.2.2,eI,ah hm.2.1,eI,ah hm.1]) (d1.keep (ag.upd jv)) (yw.trans ((ay.of hB.same).trans (d4.trans (ay.of (ag.upd jv)))))
def EI{L:Int}{lo n:Nat}{c a:Int}{H:Hp}{R:List V->Hp->Addr->Prop}(hL:L=(lo:Int))(hn:lo+n<=60)(hc:c.natAbs<100)(q:∀(qs:List Addr) (G:Hp),bj G qs ((List.range n).map λk=>(c*2^(lo+k),a))->ag H G->∀D,G D=none->R (qs.map V.ref) G D) :
  ∃W:Nat->Nat->List V->St->Hp->Prop,(∃m,W 0 m [] [none] H)/\∀i m ys σ H,W i m ys σ H ->
   ((jC L n).stop i H/\∀D,H D=none->R ys H D) \/
   ((jC L n).go i H/\ys.length<sizeLine/\∃ N:List V->St->Hp->Prop,(∀ cb σ' O,N cb σ' O->∃ m',m'<m/\W (i+1) m' cb σ' O) /\ ∀x O,(jC L n).yld i H x O->aQ 0 x σ O λσ2 H2=>AQ σ2 H2 λb H3=>if b=true then (Jj (jw (fL (rI JX λi j=>V.int (i*2^j.toNat)) (tC (V.int c)) (iH 0)) (jw (tC (V.int a)) nV))) σ2 H3 λy H4=>N (ys++[y]) σ2 H4 else N ys σ2 H3):=by
 subst hL;show vb (λi ys σ G=>∃(v0:Option V) (qs:List Addr),σ=[v0]/\ys=qs.map V.ref/\bj G qs ((List.range i).map λk=>(c*2^(lo+k),a))/\ag H G) ⟨none,[],Y,Y,.nil,ag.refl _⟩ (λi ys σ G ⟨_,qs,_,e,h,_⟩=>by rw[e,ar,h.length];simp) (a9 (show n<=60 by lia) tD) ?_ ?_
 .rintro i ys σ G hi ⟨v0,qs,rfl,rfl,hT,s⟩;unfold aQ;show tt ?_;exists _,Y,_,_,Y,Y,⟨tL,tL,nS hc tD⟩,by show 2<=sizeLine;decide,λp hp=>?_;have s3:=ag.upd (o:=.tup [.int (c*2^((lo:Int)+(i:Int)).toNat),.int a]) hp;exists _,qs++[p],Y,by rw[aN];rfl,?_,s.trans s3;rw[iA,aN];show (hT.keep λc xs e=>s3 _ _ e).append (.cons ?_ .nil);show upd _ p _ p=some (.tup [.int (c*2^(lo+i)),.int a]);rw[<-show ((lo:Int)+(i:Int)).toNat=lo+i by lia];show ao
 .rintro ys σ G ⟨v0,qs,rfl,rfl,hT,s⟩ D hD;show q qs G hT s D hD
def zgS(K:Frag)(C:Addr):Sp:=λvs H Q _=>∃(p d:Addr) (st:bB) (m n:Nat),vs=[.ref p,.int (m:Int),.int (n:Int)]/\cH C H p d st/\(∀nf∈st,FB nf.2)/\st.length<=900/\m<=21/\n<=18 /\
 ∀(g h:ak) (af:bB) (O:Hp),FB g->FB h->(af=aJ (aJ st [99] g) [100] h\/∃k,FB k/\af=aJ (aJ (aJ st [99] g) [100] h) [101] k)->cH C O p d af->ay d H O->Q (.bl true) O
set_option hygiene false in
local macro_rules|`(tactic|nomatch $r,$s,$l,$x,$y,$z)=>`(tactic|(refine $r;refine EI (lo := $l) (n := $x) (c:=1) (a:=1) rfl tD tD λq1 G1 t1 s1 D1 iL=>?_;have u1:=ag.upd (o:=.lst (q1.map V.ref)) iL;have w1:upd G1 D1 (.lst (q1.map V.ref)) D1=some (.lst (q1.map V.ref)):=ao;generalize upd G1 D1 (.lst (q1.map V.ref))=H1 at u1 w1 ⊢;refine $r;refine EI (lo := $l) (n := $y) (c:=3) (a:=2) rfl tD tD λq2 G2 t2 s2 D2 ij=>?_;have u2:=ag.upd (o:=.lst (q2.map V.ref)) ij;have w2:upd G2 D2 (.lst (q2.map V.ref)) D2=some (.lst (q2.map V.ref)):=ao;generalize upd G2 D2 (.lst (q2.map V.ref))=H2 at u2 w2 ⊢;have Bl:=s2.trans u2;have l1:=t1.length;have l2:=t2.length;rw[ar,lh]at l1 l2;exists D1,D2,_,_,rfl,rfl,Bl _ _ w1,w2,?_,λD3 lK=>?_; (focus rw[ar,ar,l1,l2];decide);have u3:=ag.upd (o:=.lst (q1.map V.ref++q2.map V.ref)) lK;have w3:upd H2 D3 (.lst (q1.map V.ref++q2.map V.ref)) D3=some (.lst (q1.map V.ref++q2.map V.ref)):=ao;have z1:=(t1.keep λc xs e=>u3 _ _ (Bl _ _ (u1 _ _ e))).append (t2.keep λc xs e=>u3 _ _ (u2 _ _ e));generalize upd H2 D3 (.lst (q1.map V.ref++q2.map V.ref))=H3 at u3 w3 z1 ⊢;refine $s;refine EI (lo := $l) (n := $z) (c:=7) (a:=3) rfl tD tD λq3 G3 t3 s3 D4 jz=>?_;have u4:=ag.upd (o:=.lst (q3.map V.ref)) jz;have w4:upd G3 D4 (.lst (q3.map V.ref)) D4=some (.lst (q3.map V.ref)):=ao;generalize upd G3 D4 (.lst (q3.map V.ref))=H4 at u4 w4 ⊢;have CU:=s3.trans u4;have l3:=t3.length;rw[ar,lh]at l3;exists D3,D4,_,_,rfl,rfl,CU _ _ w3,w4,?_,λD5 jv=>?_; (focus rw[aX,ar,ar,ar,l1,l2,l3];decide);have u5:=ag.upd (o:=.lst (q1.map V.ref++q2.map V.ref++q3.map V.ref)) jv;have w5:upd H4 D5 (.lst (q1.map V.ref++q2.map V.ref++q3.map V.ref)) D5=some (.lst ((q1++q2++q3).map V.ref)):=(by rw[aN,aN];exact ao);have z2:=(z1.keep λc xs e=>u5 _ _ (CU _ _ e)).append (t3.keep λc xs e=>u5 _ _ (u4 _ _ e));generalize upd H4 D5 (.lst (q1.map V.ref++q2.map V.ref++q3.map V.ref))=H5 at u5 w5 z2 ⊢))
def uL:(["_law_k"]:List Str).Nodup:=by decide+kernel
def zgX(T:Txt w K mg):oF.Ok P w K mg base 11 (zgS K dD):=by
  show T.bG.k ?_;rintro vs H Q E ⟨p,d,st,m,n,rfl,hD,bp,jm,hm,hn,q⟩;have pV:=@pv;show #[?_,gf,dq (g:=(aQ 0)) ["_law_k"] 1 [] Y (cB oF) ?_ ?_ ?_ ?_,bb 0 uL,j2,dq (g:=(aQ 0)) ["_law_k"] 1 [] Y (cB oF) ?_ ?_ ?_ ?_,bb 0 uL,j2,fI iK,au T.aU (Nt T) hr.m ?_,gf,dq (g:=(aQ 0)) ["_law_k"] 1 [] Y (cB oF) ?_ ?_ ?_ ?_,bb 0 uL,j2,lD,gf,dq (g:=(aQ 0)) ["_law_k"] 1 [] Y (cB oF) ?_ ?_ ?_ ?_,Gu Y T.am ?_,bb 0 uL,j2,dq (g:=(aQ 0)) ["_law_k"] 1 [] Y (cB oF) ?_ ?_ ?_ ?_,Gu Y T.am ?_,bb 0 uL,j2,fI iK,au T.aU (Nt T) hr.m ?_,gf,dq (g:=(aQ 0)) ["_law_k"] 1 [] Y (cB oF) ?_ ?_ ?_ ?_,Gu Y T.am ?_,bb 0 uL,j2,lD,bD,aW (lC (gR hr)) ?_ ?_,au T.aa (jd T) hr ?_,cU,au T.ab (kT T) hr.m ?_,bD,aW (lC (gR hr)) ?_ ?_,au T.aa (jd T) hr ?_,cU,au T.ab (kT T) hr.m ?_,xc,kr GA Y T.ao yf ?_,kO rX,gw,fN,fN,kO (yq (gR hr)) ?_ ?_,au T.aa (jd T) hr ?_];left
  nomatch ⟨_,Y,tD,tD,?_⟩,⟨_,Y,_,Y,tD,tD,?_⟩,0,8,7,6
  exists D5,IY,Y,⟨_,ai.of w5,z2⟩,tD,λb1 f1 H6 _ xP qc _ s6=>?_;obtain rfl:f1=iQ:=aT.unique qc zay λ_=>rfl
  obtain⟨p1,gk,bA⟩:=xP;exists _,Y,_,Y,b1,_,Y,ai.of gk,λX hX=>?_;rw[vE];have u6:=ag.upd (o:=.lst ((p1.take m).map V.ref)) hX;have hA:aI (upd H6 X (.lst ((p1.take m).map V.ref))) X (iQ.take m):=⟨_,ao,(bA.take m).keep λc xs e=>u6 _ _ e⟩;have sA:=s1.trans (u1.trans (Bl.trans (u3.trans (CU.trans (u5.trans (s6.trans u6))))));generalize upd H6 X (.lst ((p1.take m).map V.ref))=HA at u6 hA sA ⊢
  nomatch ⟨_,_,Y,tD,?_⟩,⟨_,Y,_,_,Y,tD,?_⟩,9,7,6,5
  exists D5,Hm,Y,⟨_,ai.of w5,z2⟩,tD,λb2 f2 H7 _ GD mj _ s7=>?_;obtain rfl:f2=iO:=aT.unique mj zcV λ_=>rfl
  obtain⟨p2,gW,dk⟩:=GD;exists _,Y,_,Y,b2,_,Y,ai.of gW,λqaa hY=>?_;rw[vE];have u7:=ag.upd (o:=.lst ((p2.take n).map V.ref)) hY;have hB:aI (upd H7 qaa (.lst ((p2.take n).map V.ref))) qaa (iO.take n):=⟨_,ao,(dk.take n).keep λc xs e=>u7 _ _ e⟩;have Ck:=s1.trans (u1.trans (Bl.trans (u3.trans (CU.trans (u5.trans (s7.trans u7))))));generalize upd H7 qaa (.lst ((p2.take n).map V.ref))=HB at u7 hB Ck ⊢;have Ez:=hA.keep Ck;have pS:IsForm (iQ.take m)/\gP (iQ.take m):=⟨zH Nh (dQ _ _),λt ht=>by
   obtain⟨⟨Z,M⟩,h3⟩:=AG t ((dQ m iQ).subset ht);show⟨⟨Z.1,Int.lt_trans Z.2 tD,M,gv h3 tE⟩,gv h3 tD⟩⟩
  have pJ:IsForm (iO.take n)/\gP (iO.take n):=⟨zH OT (dQ _ _),λt ht=>by
   obtain⟨⟨Z,M⟩,h3⟩:=C8 t ((dQ n iO).subset ht);show⟨⟨Z.1,Z.2.1,M,gv h3 tE⟩,gv h3 tD⟩⟩
  have lA:(iQ.take m).length<=21:=a9 (L9 _ _) tD;have lB:(iO.take n).length<=18:=a9 (L9 _ _) tD;obtain⟨A,eA⟩:∃A,A=iQ.take m:=⟨_,Y⟩;obtain⟨B,eB⟩:∃B,B=iO.take n:=⟨_,Y⟩;rw[<-eA]at Ez pS lA;rw[<-eB]at hB pJ lB;have fA:FB A:=iz pS.1 tL pS.2;have fB:FB B:=iz pJ.1 tL pJ.2;have iL:=(hD.keep sA).keep Ck;have sB0:ay d H HB:=ay.of (sA.trans Ck);exists _,Y,_,Y,X,A,Y,Ez,λt ht=>(pS.2 t ht).1,tL,λG2 s4=>?_;exists _,_,Y,Y,?_,?_
  .show 4+(txt A).length<=sizeLine;show a9 (rq (px (f:=A) tL pS.2).1 4) tD
  have y1:dh st ([99]++([32,61,32]++txt A)) .ok (aJ st [99] A):=by
   have:=iN (st:=st) (n:=[99]) (f:=A) Y pS.1 tO pS.2
   rwa [aj tL,aj tO]at this
  rw[show ofString "c = " ++ S (txt A)=S ([99]++([32,61,32]++txt A)) from bF [99,32,61,32] (txt A)];have ij:=iL.keep s4;obtain⟨kv2,cm,_⟩:=id ij.dc;show ji (K:=K) (E:=E) y1 ij bp tL λG3 lK s5=>?_
  exists _,_,bE.mpr Y,bE.mpr Y,tD,_,Y,aK tD ?_;have hA3:=aI.keepD (Ez.keep s4) s5 cm;have QO:=aI.keepD (hB.keep s4) s5 cm;have yw:=sB0.trans ((ay.of s4).trans s5);have iP:∀nf∈aJ st [99] A,FB nf.2:=dE bp fA;have Gy:=pf st [99] A;exists _,Y,_,Y,qaa,B,Y,QO,λt ht=>(pJ.2 t ht).1,tL,λG4 s6=>?_;exists _,_,Y,Y,?_,?_
  .show 4+(txt B).length<=sizeLine;show a9 (rq (px (f:=B) tL pJ.2).1 4) tD
  have y2:dh (aJ st [99] A) ([100]++([32,61,32]++txt B)) .ok (aJ (aJ st [99] A) [100] B):=by
   have:=iN (st:=aJ st [99] A) (n:=[100]) (f:=B) Y pJ.1 tO pJ.2
   rwa [aj tL,aj tO]at this
  rw[show ofString "d = " ++ S (txt B)=S ([100]++([32,61,32]++txt B)) from bF [100,32,61,32] (txt B)];have jz:=lK.keep s6;obtain⟨kv4,MN,_⟩:=id jz.dc;show ji (K:=K) (E:=E) y2 jz iP tL λG5 jv s7=>?_
  exists _,_,bE.mpr Y,bE.mpr Y,tD,_,Y,aK tD ?_;have hA4:=aI.keepD (hA3.keep s6) s7 MN;have hB4:=aI.keepD (QO.keep s6) s7 MN;have EX:=yw.trans ((ay.of s6).trans s7);have BA:∀nf∈aJ (aJ st [99] A) [100] B,FB nf.2:=dE iP fB;have hsl2:=pf (aJ st [99] A) [100] B;obtain⟨pa,Ge,Ws⟩:=id hA4;obtain⟨pb,yS,htb⟩:=id hB4;obtain⟨kA,kB,kl⟩:=Ll (l:=A) (m:=B) (c:=8) (mM pS.1) (mM pJ.1) (λt ht=>by rw[eA]at ht;show (AG t ((dQ m iQ).subset ht)).1) (λt ht=>by
   rw[eB]at ht;obtain⟨⟨Z,M⟩,_⟩:=C8 t ((dQ n iO).subset ht);exists ⟨Z.1,Z.2.2⟩,M)
  obtain⟨f,hf,J3⟩:=FX kA kB;have mG:f.length=A.length*B.length:=by rw[J3.length_eq,kl]
  have ve:∀t∈f,t.2.natAbs<10^1000:=λt ht=>by
   obtain⟨a,ha,b,hb,rfl⟩:=qZ (J3.mem_iff.mp ht);rw[eA]at ha;rw[eB]at hb;have Z:=(AG a ((dQ m iQ).subset ha)).2;have M:=(C8 b ((dQ n iO).subset hb)).2;show (a.2*b.2).natAbs<_;rw[wV];show gv (jk Z M) tE
  obtain⟨y3,y4⟩:=vJ (st:=aJ (aJ st [99] A) [100] B) (w:=2) (n:=[101]) (a:=[99]) (b:=[100]) tD Y Y Y (by rw[eI,ah tD,eI,aj rfl]) (by rw[eI,aj rfl]) hf;exists by show 1<=sizeLine;decide,λe1 qO=>⟨by show 2<=sizeLine;decide,λe2 uZ=>?_⟩;have x1:=ag.upd (o:=.lst [.str "many"]) qO;have c1:upd G5 e1 (.lst [.str "many"]) e1=some (.lst [.str "many"]):=ao;generalize upd G5 e1 (.lst [.str "many"])=G6 at x1 c1 uZ ⊢;have x2:=ag.upd (o:=.lst [.ref e1,.str "ok"]) uZ;have c2:upd G6 e2 (.lst [.ref e1,.str "ok"]) e2=some (.lst [.ref e1,.str "ok"]):=ao;generalize upd G6 e2 (.lst [.ref e1,.str "ok"])=G7 at x2 c2 ⊢;have tm:=x1.trans x2;have cj:(pa.map V.ref).length=A.length:=by rw[ar,Ws.length]
  have hpl2:(pb.map V.ref).length=B.length:=by rw[ar,htb.length]
  exists _,Y,X,_,Y,.inl (ai.of (tm _ _ Ge)),_,Y,qaa,_,Y,.inl (ai.of (tm _ _ yS)),_,_,Y,Y,?_,_,_,Y,Y,.inr ⟨_,Y,?_⟩
  .exact lN tL tL
  rw[cj,hpl2];have fJ:=jv.keep tm;have xg:=EX.trans (ay.of tm);have hle:((A.length:Int)*(B.length:Int)<=300)↔f.length<=300:=by rw[mG,<-A9];lia
  have c1':=x2 _ _ c1;by_cases z:f.length<=300
  .rw[aR (hle.mpr z)];exists e2,_,_,.str "ok",Y,Y,ai.of c2,Y,?_;exists _,Y,ji (K:=K) (E:=E) (y3 ⟨z,ve⟩) fJ BA tL λG8 vv s8=>?_;exists _,Y,_,_,bE.mpr Y,bE.mpr Y,tD,?_;show Q (.bl (dX _ _)) G8;rw[mY];show q A B _ G8 fA fB (.inr ⟨f,⟨hf.toIsForm,λt ht=>?_,z,ve⟩,Y⟩) vv (xg.trans s8);obtain⟨a,ha,b,hb,rfl⟩:=qZ (J3.mem_iff.mp ht);rw[eA]at ha;rw[eB]at hb;have Z:=(AG a ((dQ m iQ).subset ha)).1.1;have M:=(C8 b ((dQ n iO).subset hb)).1.1;obtain⟨h3,h4,h5⟩:=M;show 0<=Builtin.bitOr a.1 b.1/\Builtin.bitOr a.1 b.1<2^16;rw[uw Z.1 Z.2 h3 h5];obtain⟨y,hy⟩:=h5;lia
  .rw[bw (λw=>z (hle.mp w))];exists e2,_,_,.ref e1,Y,Y,ai.of c2,Y,?_;exists _,Y,ji (K:=K) (E:=E) (y4 λw=>z w.1) fJ BA tL λe3 G8 XW s8=>?_;exists _,Y,_,_,oP XW,oP (s8 _ _ c1'),tD,?_;show Q (.bl (dX (D.lst [D.str (ofString "many")]) (D.lst [D.str (ofString "many")]))) G8;rw[mY];show q A B _ G8 fA fB (.inl Y) (fJ.keep s8) (xg.trans (ay.of s8))
noncomputable def ng(ks:List Nat):List (bM×V):=ks.map λx:Nat=>((Sum.inl (x:Int):bM),V.bl true)
def zfo(ks:List Nat)(x:Nat):ff (ng ks) (Sum.inl (x:Int)) (V.bl true)=ng (if x∈ks then ks else ks++[x]):=by
 unfold ff;have e:((ng ks).any λkv=>decide (kv.1=(Sum.inl (x:Int):bM)))=decide (x∈ks):=by
  rw[oQ,oI];constructor
  .rintro⟨kv,Z,M⟩;obtain⟨y,hy,rfl⟩:=aU.mp Z;have h3:=cx M;have h4:=Sum.inl.inj h3;rw[show x=y by lia];show aR hy
  .intro h;exists _,aU.mpr ⟨x,cx h,Y⟩,aR rfl
 rw[e];by_cases z:x∈ks
 .rw[aj (aR z),aj z];unfold ng;rw[cE];show pO λy _=>?_
  show (if (Sum.inl (y:Int):bM)=Sum.inl (x:Int)then ((Sum.inl (y:Int):bM),V.bl true)else _)=_;split<;>rfl
 .rw[ah (by simpa using z),ah z];unfold ng;rw[aN];rfl
def KD(G:Hp)(F:Addr)(n:Nat)(P:Nat->Prop):Prop:=∃ks:List Nat,G F=some (.dK (ng ks))/\ks.Nodup/\(∀x,x∈ks↔P x)/\ks.length<=n
def KD.to{G:Hp}{F:Addr}{n n':Nat}{P P':Nat->Prop}(h:KD G F n P)(hn:n<=n')(hP:∀x,P x↔P' x):KD G F n' P' :=
 let ⟨ks,Z,M,h3,h4⟩:=h; ⟨ks,Z,M,λx=>(h3 x).trans (hP x),a9 h4 hn⟩
def PI(i:Nat)(x:Nat):Prop:=∃a b c,c<=b/\b<=a/\a<i/\x=v3 a b c
def PJ(i j:Nat)(x:Nat):Prop:=PI i x\/∃b c,c<=b/\b<j/\x=v3 i b c
def PK(i j k:Nat)(x:Nat):Prop:=PJ i j x\/∃c,c<k/\x=v3 i j c
def zdN:PI i x↔PJ i 0 x:=⟨.inl,λh=>h.elim id λ⟨_,_,_,h,_⟩=>absurd h (BH _)⟩
def zaD:PJ i j x↔PK i j 0 x:=⟨.inl,λh=>h.elim id λ⟨_,h,_⟩=>absurd h (BH _)⟩
def zbd:PK i j (j+1) x↔PJ i (j+1) x:=by
 constructor
 .rintro ((h|⟨b,c,Z,M,h3⟩)|⟨c,Z,M⟩)
  .exact .inl h
  .exact .inr ⟨b,c,Z,tL,h3⟩
  .exact .inr ⟨j,c,tL,tL,M⟩
 .rintro (h|⟨b,c,Z,M,h3⟩)
  .exact .inl (.inl h)
  .by_cases z:b=j
   .subst z;show .inr ⟨c,tL,h3⟩
   .exact .inl (.inr ⟨b,c,Z,tL,h3⟩)
def zbl:PJ i (i+1) x↔PI (i+1) x:=by
 constructor
 .rintro (⟨a,b,c,Z,M,h3,h4⟩|⟨b,c,Z,M,h3⟩)
  .exists a,b,c,Z,M,tL,h4
  .exists i,b,c,Z,tL,tL,h3
 .rintro⟨a,b,c,Z,M,h3,h4⟩;by_cases z:a=i
  .subst z;show .inr ⟨b,c,Z,tL,h4⟩
  .exact .inl ⟨a,b,c,Z,M,tL,h4⟩
def or3(i j k:Nat):Builtin.bitOr (Builtin.bitOr (1*2^(0+(i:Int)).toNat) (1*2^(0+(j:Int)).toNat)) (1*2^(0+(k:Int)).toNat)=((v3 i j k:Nat):Int):=by
 rw[jf,jf,jf,CD,CD,CD];have c:∀n:Nat,(2:Int)^n=((2^n:Nat):Int):=λn=>by simp
 rw[c,c,c,rA,rA];rfl
def zan(K:Frag):Sp:=λvs H Q _=>∃m:Nat,vs=[.int (m:Int)]/\∀(D:Addr) (O:Hp),aI O D ((eM.take m).map λx:Nat=>((x:Int),(2:Int)))->ag H O->Q (.ref D) O
def Mq(T:Txt w K mg):BY.Ok P w K mg base 1 (zan K):=by
  show T.aV.k ?_;rintro vs H Q E ⟨m,rfl,q⟩;show #[?_,uq,dA.j,dA.j,vc hu ?_ ?_ ?_ Y,yX.j,yX.j,j2.c,j2.c,j2.c,fI iK,dq (g:=(aQ 0)) ["_law_one"] 1 [] Y (cB BY) ?_ ?_ ?_ ?_,eQ,gj (Ba Y) (by rfl) T.aj qG ?_,bb 0 Gr,fj];left;show λF hF=>?_
  have s0:ay F H (upd H F (.dK [])):=ay.upd;have w0:KD (upd H F (.dK [])) F 0 (PI 0):=⟨[],ao,.nil,λx=>⟨λh=>(by cases h),by rintro⟨_,_,_,_,_,h,_⟩;show absurd h (BH _)⟩,aC _⟩;generalize upd H F (.dK [])=H0 at s0 w0 ⊢;exists _,Y,tD,tD,?_;show rY (lo:=0) (n:=16) (λi σ G=>∃v2 pj v4:Option V,σ=[some (.int (m:Int)),some (.ref F),v2,pj,v4]/\KD G F (256*i) (PI i)/\ay F H G)
   ⟨none,none,none,Y,w0,s0⟩ ?_ ?_
  .rintro i σ G hi ⟨v2,pj,v4,rfl,hK,sB⟩;exists _,Y,tL,tL,?_;rw[show (0+(i:Int)+1).toNat=i+1 by lia];show rY (lo:=0) (n:=i+1) (λj σ G=>∃pj v4:Option V,σ=[some (.int (m:Int)),some (.ref F),some (.int (0+(i:Int))),pj,v4]/\KD G F (256*i+16*j) (PJ i j)/\ay F H G)
    ⟨_,_,Y,hK.to tL λ_=>zdN,sB⟩ ?_ (by rintro σ G ⟨_,_,e,h,s⟩;exists _,_,_,e,h.to tL λ_=>zbl,s)
   rintro j σ G hj ⟨pj,v4,rfl,hK,sB⟩;exists _,Y,tL,tL,?_;rw[show (0+(j:Int)+1).toNat=j+1 by lia];show rY (lo:=0) (n:=j+1) (λk σ G=>∃v4:Option V,σ=[some (.int (m:Int)),some (.ref F),some (.int (0+(i:Int))),some (.int (0+(j:Int))),v4]/\KD G F (256*i+16*j+k) (PK i j k)/\ay F H G)
    ⟨_,Y,hK.to tL λ_=>zaD,sB⟩ ?_ (by rintro σ G ⟨_,e,h,s⟩;exists _,_,e,h.to tL λ_=>zbd,s)
   rintro k σ G hk ⟨v4,rfl,⟨ks,Z,M,h3,h4⟩,sB⟩;exists ⟨tL,tL,tD⟩,⟨tL,tL,tD⟩,⟨tL,tL,tD⟩,F,upd G F (.dK (ff (ng ks) (Sum.inl (v3 i j k:Int)) (V.bl true))),Y,?_,?_
   .show jU G F (V.int (Builtin.bitOr (Builtin.bitOr (1*2^(0+(i:Int)).toNat) (1*2^(0+(j:Int)).toNat)) (1*2^(0+(k:Int)).toNat))) _ _;rw[or3];show jU.k (k:=Sum.inl (v3 i j k:Int)) Z (cJ (by unfold ng;rw[ar];lia))
   .rw[zfo];exists _,Y,⟨_,ao,?_,λx=>?_,?_⟩,sB.trans ay.upd
    .by_cases z:v3 i j k∈ks
     .rw[aj z];show M
     .rw[ah z];show Eb.mpr ⟨M,tS,λx hx y hy e=>by simp_all⟩
    .have e:x∈(if v3 i j k∈ks then ks else ks++[v3 i j k])↔x∈ks\/x=v3 i j k:=by
      by_cases z:v3 i j k∈ks
      .rw[aj z];show⟨.inl,λh=>h.elim id λy=>by rw[y];show z⟩
      .rw[ah z];simp
     rw[e,h3];constructor
     .rintro ((h|⟨c,h5,h6⟩)|h)
      .exact .inl h
      .exact .inr ⟨c,tL,h6⟩
      .exact .inr ⟨k,tL,h⟩
     .rintro (h|⟨c,h5,h6⟩)
      .exact .inl (.inl h)
      .by_cases z:c=k
       .subst z;show .inr h6
       .exact .inl (.inr ⟨c,tL,h6⟩)
    .split
     .lia
     .rw[aX];simp;lia
  .rintro σ G ⟨v2,pj,v4,rfl,⟨ks,Z,M,h3,h4⟩,sB⟩;have sH:ag H G:=λp o e=>sB p o (λz=>by simp_all) e
   exists F,_,ks.map (λx:Nat=>(x:Int)),Y,Z,by unfold ng;rw[cE,cE];rfl,λl fO hl hp hu=>?_;have e1:fO=eM.map λx:Nat=>(x:Int):=by
    have hm:∀x∈fO,∃y∈ks,x=(y:Int):=λx hx=>by
     obtain⟨y,hy,rfl⟩:=aU.mp (hp.mem_iff.mp hx);exists y,hy,rfl
    have e2:(fO.map Int.toNat).map (λx:Nat=>(x:Int))=fO:=by
     rw[cE]
     conv=>rhs;rw[<-Lx fO]
     show pO λx hx=>by obtain⟨y,_,rfl⟩:=hm x hx;rfl
    have hN:fO.Nodup:=hp.nodup_iff.mpr (fX.mpr (M.imp λh z=>h tL));rw[<-e2];congr 1;show Lv ?_ Rr λx=>?_
    .rw[fX];show xG ?_ (hu.and hN);intro x y hx hy h;obtain⟨k,_,rfl⟩:=hm x hx;obtain⟨j,_,rfl⟩:=hm y hy
     have:=h.1;have:=h.2
     lia
    .rw[zdE];show Iff.trans ?_ (h3 x);constructor
     .intro h;obtain⟨y,hy,rfl⟩:=aU.mp h;obtain⟨k,hk,rfl⟩:=hm y hy;show hk
     .intro h;show aU.mpr ⟨(x:Int),hp.mem_iff.mpr (aU.mpr ⟨x,h,Y⟩),Y⟩
   subst e1;generalize eU:upd G l _=G1;obtain⟨s1,w1⟩:=nw eU hl;exists ⟨_,ai.of w1⟩,?_;show jg (K:=K) (a:=l) (xs:=(eM.map λx:Nat=>(x:Int)).map V.int) (λi ys σ G'=>∃(v0:Option V) (qs:List Addr),σ=[v0]/\ys=qs.map V.ref/\bj G' qs ((eM.take i).map λx:Nat=>((x:Int),(2:Int)))/\ag G1 G')
    ⟨none,[],Y,Y,.nil,ag.refl _⟩ (by rintro i ys σ G' hi ⟨_,qs,_,e2,e3,e4⟩;show⟨ai.of (e4 _ _ w1),by rw[e2,ar,e3.length,ar,cZ];lia⟩) (by rw[ar,ar,R4];decide) ?_ ?_
   .rintro i y ys σ G' hi ⟨v0,qs,rfl,rfl,hT,s2⟩;rw[cE,c9]at hi;obtain⟨b,hb,rfl⟩:∃b,eM[i]?=some b/\V.int (b:Int)=y:=by simp_all
    have cA:eM.take (i+1)=eM.take i++[b]:=by rw[dM,hb];rfl
    unfold aQ;show tt ?_;exists by show 2<=sizeLine;decide,λp hp=>?_;have s3:ag G' (upd G' p (.tup [.int (b:Int),.int 2])):=ag.upd hp;exists _,qs++[p],Y,by rw[aN];rfl,?_,s2.trans s3;rw[cA,aN];show (hT.keep λc xs e=>s3 _ _ e).append (.cons ao .nil)
   .rintro ys σ G' ⟨v0,qs,rfl,rfl,hT,s2⟩ D hD;rw[ar,ar,eV]at hT;exists D,_,Y,ai.of ao,λp hp=>?_;rw[vE];have s3:ag G' (upd G' D (.lst (qs.map V.ref))):=ag.upd hD;generalize upd G' D (.lst (qs.map V.ref))=G2 at s3 hp ⊢;show q p _ ⟨qs.take m,ao,?_⟩ (sH.trans (s1.trans (s2.trans (s3.trans (ag.upd hp)))));have dz:=hT.take m;rw[<-tY]at dz;have s4:ag G2 (upd G2 p (.lst ((qs.take m).map V.ref))):=ag.upd hp;show dz.keep λc xs e=>s4 _ _ (s3 _ _ e)
noncomputable def zY:List (List Nat):=[[116],[115],[117],[121],[118],[119],[110],[109]]
def Ts(x1 x2 x3 x4 x5 x6 x7 x8 x9 Sk K6 tm Mo Vb Ua Li MT VQ Oy QF NJ Ma LU VC NI:α):([]:List α)++[x1]++[x2]++[x3]++[x4]++[x5]++[x6]++[x7]++[x8]++[x9]++[Sk]++[K6]++[tm]++[Mo]++[Vb]++[Ua]++[Li]++[MT]++[VQ]++[Oy]++[QF]++[NJ]++[Ma]++[LU]++[VC]++[NI]=[x1,x2,x3,x4,x5,x6,x7,x8,x9,Sk,K6,tm,Mo,Vb,Ua,Li,MT,VQ,Oy,QF,NJ,Ma,LU,VC,NI]:=by simp
def qN:List Nat:=(aZ.two 2 [110] [110] [110]).line
def Lq(j k:Nat):List (List Nat×fQ):=[([116]++([32,61,32]++txt (br 300)),.ok),([116]++([32,61,32]++txt (br 301)),.err .many),([115]++([32,61,32]++txt ((br 302).drop 301)),.ok),((aZ.two 1 [117] [116] [115]).line,.err .many),(fz++32::[117],.err .name),([115]++([32,61,32]++txt (((br 302).drop j).take 1)),.ok),((aZ.two 1 [117] [116] [115]).line,.ok),(fz++32::[116],.txt (S (txt (br 300)))),([121]++32::([58,61]++32::kj pF),.ok),([118]++([32,61,32]++txt (vF k)),.ok),((aZ.put [119] [118] 15 [121]).line,if k<=20 then .ok else .err .many),
 ([110]++([32,61,32]++(49::List.replicate 59 48)),.ok),(qN,.ok),(qN,.ok),(qN,.ok),(qN,.ok),(qN,.err .many),([109]++([32,61,32]++(49::List.replicate 55 48)),.ok),((aZ.two 2 [110] [110] [109]).line,.ok),([109]++([32,61,32]++[45,49,48]),.ok),((aZ.two 2 [110] [110] [109]).line,.err .many),
 ([109]++([32,61,32]++[49,48]),.ok),((aZ.two 2 [111] [109] [110]).line,.err .many),(fz++32::[111],.err .name),(fz++32::[110],.txt (S (49::List.replicate 999 48)))]
noncomputable def cn(j:Nat):Int:=((10^j:Nat):Int)
def zgO(i j:Nat):cn i*cn j=cn (i+j):=by unfold cn;rw[<-A9,<-Dp]
def xx(j:Nat):cn j≠0:=by unfold cn;have:0<10^j:=Bt tD;omega
def E6(h:j<1000):(cn j).natAbs<10^1000:=by unfold cn;rw[zw];show Qt tD h
def zeq(h:1000<=j):10^1000<=(cn j).natAbs:=by unfold cn;rw[zw];show eO tD h
def sM{st:bB}{n a b:List Nat}{i j:Nat}(hn:bI n=true)(ha:bI a=true)(hb:bI b=true)(Z:az st a=some (nF (cn i)))(M:az st b=some (nF (cn j))):(i+j<1000->dh st (aZ.two 2 n a b).line .ok (aJ st n (nF (cn (i+j))))/\FB (nF (cn (i+j))))/\(1000<=i+j->dh st (aZ.two 2 n a b).line (.err .many) st):=by
 have e:=zgO i j;have hf:=Na (cn i) (cn j) (by rw[e];show xx _);rw[e]at hf;obtain⟨y1,y2⟩:=vJ (w:=2) tD hn ha hb Z M hf;exists λh=>have z:=Fp (xx _) (E6 h); ⟨y1 z.fit,z⟩,λh=>y2 (NL (zeq h))
def zdF{st:bB}{j k:Nat}(hj:j<300)(ma:19<=k)(cm:k<23)(bp:∀nf∈st,FB nf.2)(hu:az st [117]=none)(ho:az st [111]=none):∃af,m7 st (Lq j k) af/\∀nm,nm∉zY->az af nm=az st nm:=by
 have g0:∀{s:bB}{n m:List Nat}{f:ak},m≠n->az (aJ s n f) m=az s m:=λh=>by rw[eI,ah h]
 have g1:∀{s:bB}{n:List Nat}{f:ak},az (aJ s n f) n=some f:=by intro s n f;rw[eI,aj rfl]
 obtain⟨t1,t2⟩:=jN 300;obtain⟨t3,t4⟩:=jN 301;have l300:=pZ (k:=300) tD;have Y9:=pZ (k:=301) tD;have MF:=pZ (k:=302) tD;obtain⟨u1,u2⟩:=xA (jN 302) (lZ 301 (br 302));obtain⟨w1,w2⟩:=xA (jN 302) ((dQ 1 ((br 302).drop j)).trans (lZ j (br 302)));have lu:((br 302).drop 301).length=1:=by simp_all
 have lw:(((br 302).drop j).take 1).length=1:=by rw[cZ,mW,MF];lia
 have b1:=dE (n:=[116]) bp (iz t1 tL t2);have s1:=iN (st:=st) (n:=[116]) Y t1 tL t2;rw[aj tL,aj tO]at s1;have s2:=iN (st:=aJ st [116] (br 300)) (n:=[116]) Y t3 tL t4;rw[ah tL,ah tL]at s2;have s3:=iN (st:=aJ st [116] (br 300)) (n:=[115]) Y u1 tL u2;rw[aj tL,aj tL]at s3;have b3:=dE (n:=[115]) b1 (iz u1 tO u2);generalize hS3:aJ (aJ st [116] (br 300)) [115] ((br 302).drop 301)=cg at s3 b3;have TX:az cg [116]=some (br 300):=by rw[<-hS3,g0 tD,g1]
 have e3s:az cg [115]=some ((br 302).drop 301):=by rw[<-hS3,g1]
 have e3:∀nm,nm≠[116]->nm≠[115]->az cg nm=az st nm:=λnm h h'=>by rw[<-hS3,g0 h',g0 h]
 obtain⟨f4,hf4,lf4⟩:=YI (t:=br 300) (s:=(br 302).drop 301) (by
  rw[<-zI (j:=300) (k:=302) tD];have Z:List.Sublist ((br 302).drop 301) ((br 302).drop 300):=by grind
  have:=(Ub ((br 302).take 300)).append Z
  rwa [j5]at this)
 have s4:=(vJ (st:=cg) (w:=1) (n:=[117]) (a:=[116]) (b:=[115]) tD Y Y Y TX e3s hf4).2 λz=>by have:=z.1;lia
 have s5:=rG (st:=cg) (n:=[117]) rfl;rw[e3 _ tD tD,hu]at s5;have s6:=iN (st:=cg) (n:=[115]) Y w1 tL w2;rw[aj tL,aj tL]at s6;have b6:=dE (n:=[115]) b3 (iz w1 tO w2);generalize hS6:aJ cg [115] (((br 302).drop j).take 1)=st6 at s6 b6;have L5:az st6 [116]=some (br 300):=by rw[<-hS6,g0 tD,TX]
 have e6s:az st6 [115]=some (((br 302).drop j).take 1):=by rw[<-hS6,g1]
 have e6:∀nm,nm≠[116]->nm≠[115]->az st6 nm=az st nm:=λnm h h'=>by rw[<-hS6,g0 h',e3 nm h h']
 obtain⟨x,kQ,yZ⟩:∃x,((br 302).drop j).take 1=[x]/\x∈br 300:=by
  exists (br 302)[j],?_,?_
  .rw[jc tO];rfl
  .rw[<-zI (j:=300) (k:=302) tD];show JC.mpr ⟨j,by simp_all⟩
 obtain⟨f7,hf7,sf7,lf7⟩:=zfV t1 yZ;obtain⟨q7,q7'⟩:=xA (jN 300) sf7;have PV:=iz q7 tL q7';have s7:=(vJ (st:=st6) (w:=1) (n:=[117]) (a:=[116]) (b:=[115]) (f:=f7) tD Y Y Y L5 e6s (by rw[kQ];show hf7)).1 PV.fit;have b7:=dE (n:=[117]) b6 PV;generalize hS7:aJ st6 [117] f7=st7 at s7 b7;have s8:=rG (st:=st7) (n:=[116]) rfl;rw[show az st7 [116]=some (br 300) by rw[<-hS7,g0 tD,L5]]at s8;have e7:∀nm,nm∉zY->az st7 nm=az st nm:=λnm h=>by
  rw[<-hS7,g0 (λz=>h (by rw[z];decide)),e6 nm (λz=>h (by rw[z];decide)) (λz=>h (by rw[z];decide))]
 have e7o:az st7 [111]=none:=by rw[e7 _ tD,ho]
 have s9:=(Fv (st:=st7) (n:=[121]) Y HI.1).2 HI.2 yF MB;have b9:=dE (n:=[121]) b7 (Fq HI.2 MB);obtain⟨v1,v2,v3⟩:=US (k:=k) tL;have yH:=iN (st:=aJ st7 [121] yF) (n:=[118]) Y v1 tL v2;rw[aj tL,aj tL]at yH;have A3:=dE (n:=[118]) b9 (iz v1 tO v2);generalize hS10:aJ (aJ st7 [121] yF) [118] (vF k)=t5 at yH A3;have e10v:az t5 [118]=some (vF k):=by rw[<-hS10,g1]
 have e10y:az t5 [121]=some yF:=by rw[<-hS10,g0 tD,g1]
 have e10:∀nm,nm≠[118]->nm≠[121]->az t5 nm=az st7 nm:=λnm h h'=>by rw[<-hS10,g0 h,g0 h']
 obtain⟨fw,Lw,lfw,LN⟩:=zbF cm ma;have Tc:=((DD (st:=t5) (n:=[119]) (a:=[118]) (b:=[121]) (k:=15) Y Y Y tD).2 _ _ e10v e10y).2 fw zep Lw;obtain⟨nP,GR,B0,jx⟩:∃nP,dh t5 (aZ.put [119] [118] 15 [121]).line (if k<=20 then .ok else .err .many) nP/\(∀nf∈nP,FB nf.2)/\∀nm,nm≠[119]->az nP nm=az t5 nm:=by
  by_cases z:k<=20
  .rw[aj z];have fit:iB fw:=⟨tL,λt ht=>gv (LN t ht).2 tE⟩;exists _,Tc.1 fit,dE (n:=[119]) A3 ⟨Lw.toIsForm,λt ht=>(LN t ht).1,fit⟩,λnm h=>g0 h
  .rw[ah z];exists _,Tc.2 λw=>by have:=w.1;lia,A3,λnm _=>rfl
 have Tr:=RZ (st:=nP) (n:=[110]) (j:=59) Y tD;have CM:=dE (n:=[110]) B0 (Fp (xx 59) (E6 tD));have SO:=(sM (st:=aJ nP [110] (nF (cn 59))) (n:=[110]) (a:=[110]) (b:=[110]) (i:=59) (j:=59) Y Y Y g1 g1).1 tD;have RE:=dE (n:=[110]) CM SO.2;have Gw:=(sM (st:=aJ (aJ nP [110] (nF (cn 59))) [110] (nF (cn 118))) (n:=[110]) (a:=[110]) (b:=[110]) (i:=118) (j:=118) Y Y Y g1 g1).1 tD;have EZ:=dE (n:=[110]) RE Gw.2;generalize hS14:aJ (aJ (aJ nP [110] (nF (cn 59))) [110] (nF (cn 118))) [110] (nF (cn 236))=st14 at Gw EZ;have Sv:az st14 [110]=some (nF (cn 236)):=by rw[<-hS14,g1]
 have e14:∀nm,nm≠[110]->az st14 nm=az nP nm:=λnm h=>by rw[<-hS14,g0 h,g0 h,g0 h]
 have SF:=(sM (st:=st14) (n:=[110]) (a:=[110]) (b:=[110]) (i:=236) (j:=236) Y Y Y Sv Sv).1 tD;have Mr:=dE (n:=[110]) EZ SF.2;have HG:=(sM (st:=aJ st14 [110] (nF (cn 472))) (n:=[110]) (a:=[110]) (b:=[110]) (i:=472) (j:=472) Y Y Y g1 g1).1 tD;have C4:=dE (n:=[110]) Mr HG.2;generalize hS16:aJ (aJ st14 [110] (nF (cn 472))) [110] (nF (cn 944))=st16 at HG C4;have IA:az st16 [110]=some (nF (cn 944)):=by rw[<-hS16,g1]
 have J4:∀nm,nm≠[110]->az st16 nm=az st14 nm:=λnm h=>by rw[<-hS16,g0 h,g0 h]
 have YH:=(sM (st:=st16) (n:=[110]) (a:=[110]) (b:=[110]) (i:=944) (j:=944) Y Y Y IA IA).2 tD;have s18:=RZ (st:=st16) (n:=[109]) (j:=55) Y tD;have LX:=dE (n:=[109]) C4 (Fp (xx 55) (E6 tD));have GI:=(sM (st:=aJ st16 [109] (nF (cn 55))) (n:=[110]) (a:=[110]) (b:=[109]) (i:=944) (j:=55) Y Y Y (by rw[g0 tD,IA]) g1).1 tD;have Jl:=dE (n:=[110]) LX GI.2;generalize hS19:aJ (aJ st16 [109] (nF (cn 55))) [110] (nF (cn 999))=st19 at GI Jl;have Pj:az st19 [110]=some (nF (cn 999)):=by rw[<-hS19,g1]
 have e19:∀nm,nm≠[110]->nm≠[109]->az st19 nm=az st16 nm:=λnm h h'=>by rw[<-hS19,g0 h,g0 h']
 obtain⟨m1,m2⟩:=w9 (m:=0) (c := -10) tD tD tD tD;have OU:=iN (st:=st19) (n:=[109]) Y m1 tD m2;rw[show txt [((0:Int),(-10:Int))]=[45,49,48] by decide+kernel]at OU;have E7:=dE (n:=[109]) Jl (iz m1 tD m2);have ZS:10^1000<=(cn 999 * -10).natAbs:=by
  rw[wV];unfold cn;rw[zw,jL];show aC _
 have s21:=(vJ (st:=aJ st19 [109] (nF (-10))) (w:=2) (n:=[110]) (a:=[110]) (b:=[109]) tD Y Y Y (by rw[g0 tD,Pj]) g1 (Na (cn 999) (-10) (Ro (xx _) tD))).2 (NL ZS);obtain⟨m3,m4⟩:=w9 (m:=0) (c:=10) tD tD tD tD;have ON:=iN (st:=aJ st19 [109] (nF (-10))) (n:=[109]) Y m3 tD m4;rw[show txt [((0:Int),(10:Int))]=[49,48] by decide+kernel]at ON;have b22:=dE (n:=[109]) E7 (iz m3 tD m4);have QU:dh (aJ st19 [109] (nF (-10))) ([109]++([32,61,32]++[49,48])) .ok (aJ (aJ st19 [109] (nF (-10))) [109] (nF 10)):=ON;have zo:∀nf∈aJ (aJ st19 [109] (nF (-10))) [109] (nF 10),FB nf.2:=b22;generalize hS22:aJ (aJ st19 [109] (nF (-10))) [109] (nF 10)=st22 at QU zo;have P8:az st22 [110]=some (nF (cn 999)):=by rw[<-hS22,g0 tD,g0 tD,Pj]
 have e22m:az st22 [109]=some (nF (cn 1)):=by rw[<-hS22,g1];rfl
 have Y8:∀nm,nm≠[109]->az st22 nm=az st19 nm:=λnm h=>by rw[<-hS22,g0 h,g0 h]
 have q23:=(sM (st:=st22) (n:=[111]) (a:=[109]) (b:=[110]) (i:=1) (j:=999) Y Y Y e22m P8).2 tD;have all:∀nm,nm∉zY->az st22 nm=az st nm:=λnm h=>by
  have n1:nm≠[109]:=λz=>h (by rw[z];decide)
  have n2:nm≠[110]:=λz=>h (by rw[z];decide)
  have n3:nm≠[119]:=λz=>h (by rw[z];decide)
  have n4:nm≠[118]:=λz=>h (by rw[z];decide)
  have n5:nm≠[121]:=λz=>h (by rw[z];decide)
  rw[Y8 nm n1,e19 nm n2 n1,J4 nm n2,e14 nm n2,jx nm n3,e10 nm n4 n5,e7 nm h]
 have Tq:=rG (st:=st22) (n:=[111]) rfl;rw[all _ tD,ho]at Tq;have Zf:=rG (st:=st22) (n:=[110]) rfl;rw[P8]at Zf;have s25':dh st22 (fz++32::[110]) (.txt (S (49::List.replicate 999 48))) st22:=by assumption
 exists st22,.cons s1 b1 (.cons s2 b1 (.cons s3 b3 (.cons s4 b3 (.cons s5 b3 (.cons s6 b6 (.cons s7 b7 (.cons s8 b7 (.cons s9 b9 (.cons yH A3 (.cons GR B0 (.cons Tr CM (.cons SO.1 RE (.cons Gw.1 EZ (.cons SF.1 Mr (.cons HG.1 C4 (.cons YH C4 (.cons s18 LX (.cons GI.1 Jl (.cons OU E7 (.cons s21 E7 (.cons QU zo (.cons q23 zo (.cons Tq zo (.cons s25' zo (.nil _))))))))))))))))))))))))),all
def zen(K:Frag)(C:Addr):Sp:=λvs H Q _=>∃(p d:Addr) (st:bB) (n:Int),vs=[.ref p,.int n]/\0<=n/\cH C H p d st/\(∀nf∈st,FB nf.2)/\st.length<=900/\az st [117]=none/\az st [111]=none /\
 ∀(af:bB) (O:Hp),(∀nf∈af,FB nf.2)->af.length<=st.length+30->(∀nm,nm∉zY->az af nm=az st nm)->cH C O p d af->ay d H O->Q (.bl true) O
def P6:(["_law_one","_law_own"]:List Str).Nodup:=by decide+kernel
def Xz(T:Txt w K mg):ug.Ok P w K mg base 11 (zen K dD):=by
  show T.bH.k ?_;rintro vs H Q E ⟨p,d,st,n,rfl,qQ,hD,bp,jm,hub,ho,q⟩;have pV:=@pv;have V3:=@Sx;have xS:=@tu;have BX:=@rf;have CB:=@uT;show #[?_,au T.aV (Mq T) hr.m ?_,cU,au T.ab (kT T) hr.m ?_,fI iK,lD,cU,au T.ab (kT T) hr.m ?_,fI iK,lD,gf,cU,au T.ab (kT T) hr.m ?_,fI iK,lD,gf,cU,au T.ab (kT T) hr.m ?_,fI iK,lD,fY,lD,dA,fY,gf,au T.ab (kT T) hr.m ?_,fI iK,lD,yg (i:=4) (g:=(gd K 2 (bW (aQ 0) (bW (aQ 1) gc)))) ["_law_one","_law_own"] 2 [] nd Y (Or.inl Y) Y (cB ug) ?_ ?_ ?_ ?_,rJ,au T.aV (Mq T) hr.m ?_,bb 0 P6,bb 1 P6,PW.pt,aW kK,wL,aW sQ,wL,zr,dA,yg (i:=5) (g:=(aQ 0)) ["_law_one"] 1 [] nd Y (Or.inl Y) Y (cB ug) ?_ ?_ ?_ ?_,rJ,fI iK,lD,dA,fY,sj,bb 0 Gr,cU,au T.ab (kT T) hr.m ?_,xc,kr GA Y T.ao yf ?_,kO rX,gw,fN,gf,gf,gf,cU,Io,Ys,gf,cU,Io,gf,gf,cU,Io,kO kK,fN,dq (g:=(gd K 2 (bW (aQ 0) (bW (aQ 1) gc)))) ["_law_one","_law_due","_law_desk"] 2 [0] Y (cB ug) ?_ ?_ ?_ ?_,rJ,bb 0 CV,bb 1 CV,aW (lC (gR hr)) ?_ ?_,au T.aa (jd T) hr ?_];left;obtain⟨j,hj,ej⟩:∃j:Nat,j<300/\n%300=(j:Int):=⟨(n%300).toNat,(by clear qQ;lia),(by clear qQ;lia)⟩;obtain⟨k,ma,cm,ek⟩:∃k:Nat,19<=k/\k<23/\19+n/512%4=(k:Int):=⟨(19+n/512%4).toNat,tL,tL,tL⟩;obtain⟨af,fP,hkeep⟩:=zdF (st:=st) hj ma cm bp hub ho;obtain⟨vm,nI,_⟩:=id hD.dc;exists 302,Y,λA H0 hTA s0=>?_;have hTA':aI H0 A (br 302):=hTA;obtain⟨fs,qB,nR⟩:=hTA';have mG:fs.length=302:=by rw[nR.length,pZ tD]
  have mk:∀{G:Hp}{D:Addr}{gs:List Addr}{g:ak},ag H0 G->G D=none->bj H0 gs g->aI (upd G D (.lst (gs.map V.ref))) D g:=λs hD h=>⟨_,ao,h.keep λb xs e=>ag.upd hD _ _ (s _ _ e)⟩
  have tl:∀{f:ak},IsForm f/\gP f->f.length<=310->(∀t∈f,eT t)/\(txt f).length<=7200:=λh hl=>⟨λt ht=>(h.2 t ht).1,(px hl h.2).1⟩
  have l1:ofString "t = " = S [116,32,61,32]:=by decide+kernel
  have l2:ofString "s = " = S [115,32,61,32]:=by decide+kernel
  have l3:ofString "v = " = S [118,32,61,32]:=by decide+kernel
  have l300:=pZ (k:=300) tD;have Y9:=pZ (k:=301) tD;have MF:=pZ (k:=302) tD;have hB:=Acc.nil H0;obtain⟨y1,y2⟩:=tl (jN 300) tL;exists _,Y,_,Y,A,_,Y,ai.of (hB.same _ _ qB),λD1 iL=>?_;rw[show dy (fs.map V.ref) none (some 300)=(fs.take 300).map V.ref from vE (c:=300)];exists D1,br 300,Y,mk hB.same iL (by have:=nR.take 300;rwa [zI tD]at this),y1,tL,λHq1 Yb=>⟨_,_,Y,Y,cV (by rw[l1,aH,aH];show 4+_<=_;lia),?_⟩;have hB:=hB.keep ((ag.upd iL).trans Yb);rw[l1,bF]
  nomatch ([116]++([32,61,32]++txt (br 300))),.ok,rfl
  obtain⟨y3,y4⟩:=tl (jN 301) tL;exists _,Y,_,Y,A,_,Y,ai.of (hB.same _ _ qB),λD2 ij=>?_;rw[show dy (fs.map V.ref) none (some 301)=(fs.take 301).map V.ref from vE (c:=301)];exists D2,br 301,Y,mk hB.same ij (by have:=nR.take 301;rwa [zI tD]at this),y3,tL,λHq2 rq2=>⟨_,_,Y,Y,cV (by rw[aH,aH];show 4+_<=_;lia),?_⟩;have hB:=hB.keep ((ag.upd ij).trans rq2);rw[bF]
  nomatch _,([116]++([32,61,32]++txt (br 301))),.many,rfl
  ext
  exists _,Y,?_;have lu:((br 302).drop 301).length=1:=by simp_all
  obtain⟨y5,y6⟩:=tl (xA (jN 302) (lZ 301 (br 302))) tL;exists _,Y,_,Y,A,_,Y,ai.of (hB.same _ _ qB),λD3 lK=>?_;rw[show dy (fs.map V.ref) (some 301) none=(fs.drop 301).map V.ref from zce (c:=301)];exists D3,(br 302).drop 301,Y,mk hB.same lK (nR.drop 301),y5,tL,λHq3 Zl=>⟨_,_,Y,Y,cV (by rw[l2,aH,aH];show 4+_<=_;lia),?_⟩;have hB:=hB.keep ((ag.upd lK).trans Zl);rw[l2,bF]
  nomatch ([115]++([32,61,32]++txt ((br 302).drop 301))),.ok,rfl
  nomatch _,((aZ.two 1 [117] [116] [115]).line),.many,tE
  nomatch _,(fz++32::[117]),.name,tE
  ext
  symm
  exists _,Y,?_;have lw:(((br 302).drop j).take 1).length=1:=by grind
  obtain⟨y7,y8⟩:=tl (xA (jN 302) ((dQ 1 ((br 302).drop j)).trans (lZ j (br 302)))) tL;exists _,Y,_,Y,_,_,Y,Y,(by simp),_,Y,_,Y,_,_,Y,Y,(by simp),_,_,Y,Y,_,Y,A,_,Y,ai.of (hB.same _ _ qB),λD6 fJ=>?_;rw[ej,show (j:Int)+1=((j+1:Nat):Int) by lia,OG tL (by clear qQ;lia),show j+1-j=1 by lia];exists D6,((br 302).drop j).take 1,Y,mk hB.same fJ ((nR.drop j).take 1),y7,tL,λHq6 rq6=>⟨_,_,Y,Y,cV (by rw[l2,aH,aH];show 4+_<=_;lia),?_⟩;have hB:=hB.keep ((ag.upd fJ).trans rq6);rw[l2,bF]
  nomatch ([115]++([32,61,32]++txt (((br 302).drop j).take 1))),.ok,rfl
  nomatch ((aZ.two 1 [117] [116] [115]).line),.ok,tE
  ext
  symm
  exists _,Y,?_;exists _,Y,_,Y,A,_,Y,ai.of (hB.same _ _ qB),λD8 vv=>?_;rw[show dy (fs.map V.ref) none (some 300)=(fs.take 300).map V.ref from vE (c:=300)];exists D8,br 300,Y,mk hB.same vv (by have:=nR.take 300;rwa [zI tD]at this),y1,tO,λHq8 rq8=>?_;have hB:=hB.keep ((ag.upd vv).trans rq8)
  nomatch (fz++32::[116]),(.txt (S (txt (br 300)))),tE
  nomatch ([121]++32::([58,61]++32::kj pF)),.ok,tE
  ext
  symm
  have VD:=nb;exists 600,Y,λA2 H2 hTA2 r2=>?_;have hB:=hB.keep r2;obtain⟨gs,CN,B3⟩:=(show aI H2 A2 (br 600) from hTA2);exists A2,Y,⟨_,ai.of CN⟩,?_;have n0:gs.length=600:=by rw[B3.length,pZ tD]
  show jg (K:=K) (a:=A2) (xs:=gs.map V.ref) (λi ys σ G=>∃v0 v1:Option V,σ=[v0,v1]/\ys=((((eM.take 600).take i).filter λx=>decide (x&&&32783=0)&&decide (0<x&&&(x-1))).map λx=>x+32768).map (λx:Nat=>V.int (x:Int))/\G=H2)
   ⟨none,none,Y,Y,Y⟩ (by rintro i ys σ G hi ⟨_,_,_,e1,e2⟩;show⟨by rw[e2];show ai.of CN,by rw[e1,ar,ar];show a9 (mO _ _) (by rw[cZ];lia)⟩) (by rw[ar,n0];decide) ?_ ?_
  .rintro i y ys σ G hi ⟨v0,v1,rfl,rfl,rfl⟩;obtain⟨pp,dv,rfl⟩:=gM hi;obtain⟨t0,bA,dk⟩:=B3.at' dv;obtain⟨x,kQ,rfl⟩:∃x:Nat,(eM.take 600)[i]?=some x/\((x:Int),(2:Int))=t0:=by
    unfold br at bA;rw[c9]at bA;cases e:(eM.take 600)[i]? with
    |none=>rw[e]at bA;cases bA
    |some x=>rw[e]at bA;exists x,Y,di bA
   have tq:=Vr x ((dQ _ _).subset (c8 kQ));have ea:Builtin.bitAnd (x:Int) 32783=((x&&&32783:Nat):Int):=Ai x 32783;have eb:Builtin.bitAnd (x:Int) ((x:Int)-1)=((x&&&(x-1):Nat):Int):=by rw[show (x:Int)-1=((x-1:Nat):Int) by lia];show Ai x (x-1)
   have et:(((eM.take 600).take (i+1)).filter λx=>decide (x&&&32783=0)&&decide (0<x&&&(x-1)))=(((eM.take 600).take i).filter λx=>decide (x&&&32783=0)&&decide (0<x&&&(x-1)))++(if x&&&32783=0/\0<x&&&(x-1)then [x]else []):=by
    rw[dM,kQ,iw];congr 1;by_cases z:x&&&32783=0/\0<x&&&(x-1)
    .rw[aj z];simp[z.1,z.2]
    .rw[ah z];rw[not_and]at z;simpa using z
   exists pp,_,Y,aD.of dk,Y,_,_,Y,_,_,Y,Y,?_;rw[et];exists _,Y,_,_,Y,Y,Y,_,Y,?_;by_cases z1:x&&&32783=0
   .refine bq (by show decide (V.int (Builtin.bitAnd (x:Int) 32783)=V.int 0)=true;rw[ea,z1];rfl) ?_;exists _,Y,_,Y,_,_,Y,Y,_,_,Y,Y,_,_,Y,Y,_,Y,?_;by_cases z2:0<x&&&(x-1)
    .refine bq (by show decide ((0:Int)<Builtin.bitAnd (x:Int) ((x:Int)-1))=true;rw[eb];show aR tL) ?_;exists _,Y,_,_,Y,Y,_,_,Y,?_,rfl;rw[aj ⟨z1,z2⟩,aN,aN];rfl
    .refine aK (by show ¬decide ((0:Int)<Builtin.bitAnd (x:Int) ((x:Int)-1))=true;rw[eb];show λw=>by lia) ?_;exists _,_,Y,by rw[ah λw=>z2 w.2,gg],rfl
   .refine aK (by lia) ?_;show aK tD ?_;exists _,_,Y,by rw[ah λw=>z1 w.1,gg],rfl
  .rintro ys σ G ⟨v0,v1,rfl,rfl,rfl⟩ D5 jv;rw[ar,n0,show (eM.take 600).take 600=eM.take 600 by rw[Az,AE]];rw[show (((eM.take 600).filter λx=>decide (x&&&32783=0)&&decide (0<x&&&(x-1))).map λx=>x+32768)=eC from rfl];have hB:=hB.keep (ag.upd (o:=.lst (eC.map λx:Nat=>V.int (x:Int))) jv);have w5:upd G D5 (.lst (eC.map λx:Nat=>V.int (x:Int))) D5=some (.lst (eC.map λx:Nat=>V.int (x:Int))):=ao;generalize upd G D5 (.lst (eC.map λx:Nat=>V.int (x:Int)))=G5 at hB w5 ⊢;exists _,Y,_,Y,_,_,Y,Y,yO tD tD,_,_,Y,Y,(by simp),_,_,Y,Y,_,Y,D5,_,Y,ai.of w5,λD6 fJ=>?_;rw[show eC.map (λx:Nat=>V.int (x:Int))=(eC.map λx:Nat=>(x:Int)).map V.int by rw[cE];rfl,ek,Ym,<-tY,cE];rw[show (V.int ∘ λx:Nat=>(x:Int))=λx:Nat=>V.int (x:Int) from rfl];have hB:=hB.keep (ag.upd (o:=.lst ((eC.take k).map λx:Nat=>V.int (x:Int))) fJ);have w6:upd G5 D6 (.lst ((eC.take k).map λx:Nat=>V.int (x:Int))) D6=some (.lst ((eC.take k).map λx:Nat=>V.int (x:Int))):=ao;generalize upd G5 D6 (.lst ((eC.take k).map λx:Nat=>V.int (x:Int)))=G6 at hB w6 ⊢;obtain⟨v1,v2,v3⟩:=US (k:=k) tL;have Sy:(eC.take k).length=k:=by have:=Rn;rw[cZ];lia
   exists D6,Y,⟨_,ai.of w6⟩,?_;show jg (K:=K) (a:=D6) (xs:=(eC.take k).map λx:Nat=>V.int (x:Int)) (λi ys σ G=>∃(v0:Option V) (qs:List Addr),σ=[v0]/\ys=qs.map V.ref/\bj G qs ((vF k).take i)/\ag G6 G)
    ⟨none,[],Y,Y,.nil,ag.refl _⟩ (by rintro i ys σ G hi ⟨_,qs,_,e1,e2,e3⟩;show⟨ai.of (e3 _ _ w6),by rw[e1,ar,e2.length,cZ];lia⟩) (by rw[ar,Sy];show a9 (show k<=40000 by lia) tD) ?_ ?_
   .rintro i y ys σ G hi ⟨v0,qs,rfl,rfl,hT,sG⟩;rw[c9]at hi;obtain⟨x,kQ,rfl⟩:∃x:Nat,(eC.take k)[i]?=some x/\V.int (x:Int)=y:=by
     cases e:(eC.take k)[i]? with
     |none=>rw[e]at hi;cases hi
     |some x=>rw[e]at hi;exists x,Y,di hi
    unfold aQ;show tt ?_;exists _,Y,by show 2<=sizeLine;decide,λp7 YJ=>?_;have s7:=ag.upd (o:=.tup [.int (x:Int),.int 1]) YJ;exists _,qs++[p7],Y,by rw[aN];rfl,?_,sG.trans s7;rw[dM,show (vF k)[i]?=some ((x:Int),(1:Int)) by unfold vF;rw[c9,kQ];rfl];show (hT.keep λb xs e=>s7 _ _ e).append (.cons ao .nil)
   .rintro ys σ G ⟨v0,qs,rfl,rfl,hT,sG⟩ D7 uO;rw[ar,Sy,f9 tL]at hT;have Y4:=(hB.keep sG).lsts _ (.head _);have Zp:D7≠b9:=λz=>by rw[z,Y4]at uO;cases uO
    have hB:=hB.keep (sG.trans (ag.upd (o:=.lst (qs.map V.ref)) uO));have N5:aI (upd G D7 (.lst (qs.map V.ref))) D7 (vF k):=⟨qs,ao,hT.keep λb xs e=>ag.upd uO _ _ e⟩;have jM:upd G D7 (.lst (qs.map V.ref)) D7=some (.lst (qs.map V.ref)):=ao;have MM:qs.length=k:=by rw[hT.length,v3]
    generalize upd G D7 (.lst (qs.map V.ref))=G7 at hB N5 jM ⊢;exists _,Y,.inl ⟨Y,_,ai.of (hB.lsts _ (.head _))⟩,_,Y,D7,vF k,Y,N5,λt ht=>(v2 t ht).1,tL,λHq10 O6=>⟨_,_,Y,Y,cV (by have:=(px (f:=vF k) tL v2).1;rw[l3,aH,aH];show 4+_<=_;lia),?_⟩;have hB:=hB.keep O6;have jM:=O6 _ _ jM;rw[l3,bF];exists by show 2<=sizeLine;decide,λZD Vq=>?_;have jM:=ag.upd (o:=.tup [.str (S ([118,32,61,32]++txt (vF k))),.str "ok"]) Vq _ _ jM;have hB:=hB.str ([118]++([32,61,32]++txt (vF k))) .ok Vq (x:=S ([118,32,61,32]++txt (vF k))) Y rfl;generalize upd Hq10 ZD _=Gq10 at hB jM ⊢;exists _,_,_,Y,Y,hB.lsts _ (.head _),vo Y,?_;generalize hG:upd Gq10 _ _=G9;have jM:G9 D7=some (.lst (qs.map V.ref)):=by rw[<-hG,aG Zp];show jM
    have hB:=hB.app hG tS VD (hB.lsts _ (.head _));clear hG;exists _,Y,.inl ⟨Y,_,ai.of (hB.lsts _ (.head _))⟩,by show 1<=sizeLine;decide,λjx Zg=>⟨by show 2<=sizeLine;decide,λAJ WW=>?_⟩;have x1:=ag.upd (o:=.lst [.str "many"]) Zg;have x2:=ag.upd (o:=.lst [.ref jx,.str "ok"]) WW;have c1:=x2 _ _ (show upd G9 jx (.lst [.str "many"]) jx=some (.lst [.str "many"]) from ao);have c2:upd (upd G9 jx (.lst [.str "many"])) AJ (.lst [.ref jx,.str "ok"]) AJ=some (.lst [.ref jx,.str "ok"]):=ao;have hB:=hB.keep (x1.trans x2);have jM:=(x1.trans x2) _ _ jM;generalize upd (upd G9 jx (.lst [.str "many"])) AJ (.lst [.ref jx,.str "ok"])=G10 at hB jM c1 c2 ⊢;exists _,Y,D7,_,Y,.inl (ai.of jM),_,_,Y,Y,lN (by lia) (by grind),_,_,Y,Y,.inr ⟨_,Y,?_⟩;have hle:((qs.map V.ref).length:Int)*15<=300↔k<=20:=by rw[ar,MM];lia
    obtain⟨v11,nW,vW⟩:∃v,gN [V.ref jx,V.str "ok"] (if decide (((qs.map V.ref).length:Int)*15<=300)=true then 1 else 0)=some v/\lr G10 v (if k<=20 then .ok else .err .many):=by
     by_cases z:k<=20
     .rw[aR (hle.mpr z),aj z];exists .str "ok",Y,rfl
     .rw[bw λw=>z (hle.mp w),ah z];exists .ref jx,Y,jx,Y,c1
    exists AJ,_,_,v11,Y,Y,ai.of c2,nW,?_;exists by show 2<=sizeLine;decide,λYx Xm=>?_;have hB:=hB.any ((aZ.put [119] [118] 15 [121]).line) (if k<=20 then .ok else .err .many) Xm (x:=ofString "w = put v p y") tE vW;generalize upd G10 Yx _=Gq11 at hB ⊢;exists _,_,_,Y,Y,hB.lsts _ (.head _),vo Y,?_;generalize hG:upd Gq11 _ _=G11;have hB:=hB.app hG tS VD (hB.lsts _ (.head _));clear hG;exists _,Y,?_;exists 48,59,congrArg V.str tE,Y,tD,tD,_,_,Y,Y,cV (by show 5+_<=_;decide),?_;rw[show ofString "n = 1" ++ ({cps:=(List.replicate 59 48).toArray}:Str)=S ([110,32,61,32,49]++List.replicate 59 48) by rw[show ofString "n = 1" = S [110,32,61,32,49] by decide+kernel];show bF _ _]
    nomatch ([110]++([32,61,32]++(49::List.replicate 59 48))),.ok,rfl
    ext
    symm
    nomatch (qN),.ok,tE
    have hB:=hB.dup.dup.dup
    ext
    exists _,4,_,Y,Y,hB.lsts _ (.head _),tD,tD,vo Y,λB0 IW=>?_;rw[show (List.replicate (4:Int).toNat [V.ref q9]).flatten=[V.ref q9,V.ref q9,V.ref q9,V.ref q9] from rfl];generalize hG:upd _ B0 _=G12;have hB:=hB.layE hG IW;clear hG;exists _,_,_,_,Y,Y,hB.lsts _ (.tail _ (.tail _ (.head _))),hB.lsts _ (.head _),vo Y,λCM Xp=>?_;generalize hG:upd _ CM _=G13;have hB:=hB.layE hG Xp;clear hG
    nomatch _,(qN),.many,tE
    ext
    symm
    exists _,Y,?_;exists 48,55,congrArg V.str tE,Y,tD,tD,_,_,Y,Y,cV (by show 5+_<=_;decide),?_;rw[show ofString "m = 1" ++ ({cps:=(List.replicate 55 48).toArray}:Str)=S ([109,32,61,32,49]++List.replicate 55 48) by rw[show ofString "m = 1" = S [109,32,61,32,49] by decide+kernel];show bF _ _]
    nomatch ([109]++([32,61,32]++(49::List.replicate 55 48))),.ok,rfl
    nomatch ((aZ.two 2 [110] [110] [109]).line),.ok,tE
    nomatch ([109]++([32,61,32]++[45,49,48])),.ok,tE
    ext
    symm
    exists _,Y,?_
    nomatch _,((aZ.two 2 [110] [110] [109]).line),.many,tE
    nomatch ([109]++([32,61,32]++[49,48])),.ok,tE
    nomatch _,((aZ.two 2 [111] [109] [110]).line),.many,tE
    ext
    symm
    exists _,Y,?_
    nomatch _,(fz++32::[111]),.name,tE
    exists 48,999,congrArg V.str tE,Y,tD,tD,_,_,Y,Y,cV (by show 1+_<=_;decide),?_;rw[show ofString "1" ++ ({cps:=(List.replicate 999 48).toArray}:Str)=S (49::List.replicate 999 48) by rw[show ofString "1" = S [49] by decide+kernel];show (bF _ _).trans (congrArg S Q7)]
    nomatch (fz++32::[110]),(.txt (S (49::List.replicate 999 48))),tE
    ext
    symm
    have xH:=hB.all;rw[Ts,Ts]at xH;have hL:=hB.lsts _ (.head _);simp only[pK,BP]at hL;exists _,Y,_,Y,⟨_,ai.of hL⟩,?_;show Ml (K:=K) (C:=dD) fP xH hL ((hD.keep s0).keep hB.same) bp (by show st.length+25<=1000;lia) λG' d1 d2 d3 d4 D9 BG=>?_
    exists D9,_,Y,.inl (ai.of ao),Y,?_;show q _ _ d2 (by have e:(Lq j k).length=25:=rfl;lia) hkeep (d1.keep (ag.upd BG)) ((ay.of (s0.trans hB.same)).trans (d4.trans (ay.of (ag.upd BG))))
def zaK(T:Txt w K mg):pM.Ok P w K mg base 12 (SA K):=by
  show T.bI.k ?_;rintro vs H Q E ⟨a,ns,rfl,hS,aL,VI,kq⟩;show wl fun hr hu nd=>⟨_,(aO (gu 1 nd (au T.aZ (Zj T) hr.m (bN (au T.aT (TN T) hr.m (bN (au T.aE (Ko T) hr.m (bN (pv 0) (bN eY dC))) (bN eY dC))) dC))) (aO (gu 2 nd (au T.a0 (zc0 T) hr.m (bN (gD dA eY (gD fY (au T.aE (Ko T) hr.m (bN (pv 0) (bN eY dC))) eY)) (bN (pv 1) dC)))) (aO (gu 3 nd (zfH T.b1 (zfn T) hr.m Y T.b0 T.aJ.b .nil F8)) (aO (gu 4 nd (au T.bD (zdC T) hr (bN (pv 3) (bN (pv 2) dC)))) (aO (bD (PW.pt (JU (aW rV (pv 4) T9) (Ho (aW (lC (gR hr)) (au T.aa (jd T) hr.m (bN (pv 3) (bN gZ dC))) (au T.ab (kT T) hr.m (bN (pv 4) dC)))))) (bQ (sD yQ)) yA) (aO (gu 5 nd (au T.aT (TN T) hr.m (bN (au T.aE (Ko T) hr.m (bN (pv 0) (bN eY dC))) (bN eY dC)))) (aO (bD (PW.pt (JU (KN (lR (au T.bG (zgX T) hr (bN (pv 3) (bN (gD dA eY (gD fY (pv 5) eY)) (bN (gD dA eY (gD fY (gD sj (pv 5) eY) eY)) dC)))))) (Ho (KN (lR (au T.bH (Xz T) hr (bN (pv 3) (bN (pv 5) dC)))))))) (bQ (sD yQ)) yA) (bQ (sD (Af (au T.bE (Z2 T) hr (bN (pv 3) (bN (pv 5) dC))) (Af (au T.bF (WB T) hr (bN (pv 3) (bN (pv 5) dC))) (Hz (kO (yq (gR hr)) (au T.aa (jd T) hr.m (bN (pv 3) (bN gZ dC))) (au T.ab (kT T) hr.m (bN (pv 4) dC))))))))))))))),?_⟩
  have NP:∀{O:Hp},(∀b o,H b=some o->O b=some o)->ai K O a (ns.map V.int):=λh=>by
   rcases hS with (Z|⟨o,Z⟩)|Z
   .exact .inl (.inl (h _ _ Z))
   .exact .inl (.inr ⟨o,h _ _ Z⟩)
   .exact .inr Z
  exists _,Y,a,ns,0,Y,hS,_,1,Y,tD,tD,λr0 hr0 hr1=>?_;exists r0,Y,hr0,λL ls H1 h9 hL s1=>?_;have m0:=Im (ns.getD 0 0) (show (251:Int)≠0 by decide);have m1:=Fn (ns.getD 0 0) (show (0:Int)<251 by decide);exists _,Y,a,ns,0,Y,NP s1,_,_,Y,Y,(by simp),_,_,Y,Y,_,Y,L,ls,_,Y,hL,h9,tL,tL,λD f H2 hF hk hl hT s2=>?_;intro p dx hp hdx cw;exists p,dx,Y,ao,λd H3 hd hD oO=>⟨Y,?_⟩;have s3:ag H2 H3:=λb o e=>by
   have n1:b≠p:=λz=>by simp_all
   have n2:b≠dx:=λz=>by simp_all
   show oO b o (by rw[aG n1,aG n2];show e) n1
  have nd2:H2 d=none:=by
   have n1:d≠p:=λz=>by rw[z,ao]at hd;cases hd
   have n2:d≠dx:=λz=>by rw[z,aG cw,ao]at hd;cases hd
   rwa [aG n1,aG n2]at hd
  have EJ:=s1.free (s2.free nd2);have s03:=s1.trans (s2.trans s3);have kp:∀{G:Hp},ay d H3 G->∀b o,H b=some o->G b=some o:=λsB b o e=>sB _ _ (λz=>by simp_all) (s03 _ _ e)
  exists _,Y,_,Y,p,d,D,f,Y,hD,hT.keep s3,hF,hk,tL,tL,λb g bu H4 fg sg M jz hb s4=>?_;obtain⟨iP,Gy⟩:=DN M fg;have gh:bu.length<=2:=by rcases M with rfl|⟨k,_,rfl⟩<;>simp
  have ea:az bu [97]=some g:=by rcases M with rfl|⟨k,_,rfl⟩<;>rfl
  have en:∀nm,nm≠[97]->nm≠[98]->az bu nm=none:=λnm n1 n2=>by
   rcases M with rfl|⟨k,_,rfl⟩
   .simp[az,n1,Ne.symm n1]
   .simp[az,n1,n2,Ne.symm n1,Ne.symm n2]
  have L4:∀{st:bB},az st [97]=some g->dh st (ofString "show a").cps.toList (.txt (S (txt g))) st:=fun {st} e=>by
   have:=rG (st:=st) (n:=[97]) rfl
   rw[e]at this;show this
  have tg:(∀t∈g,eT t)/\g.length<=310:=⟨λt ht=>(sg t ht).1,by have:=fg.fit.1;lia⟩;obtain⟨vm,nI,_⟩:=id hD.dc;exists _,Y,Y,_,Y,aK tS ?_;exists _,Y,ji (K:=K) (E:=E0) (L4 ea) jz iP Gy λH5 s5=>?_;exists _,Y,b,g,Y,hb.keep s5,tg.1,tg.2,λH6 s6=>?_;exists _,_,bE.mpr Y,bE.mpr Y,by show 0<=60;decide,_,Y,?_;rw[mY];show aK tD ?_;have k6:=s4.trans (ay.of (s5.trans s6));have fJ:=jz.keep (s5.trans s6);have Ds:=hb.keep (s5.trans s6);exists _,Y,a,ns,1,Y,NP (kp k6),_,2,Y,tD,tD,λr1 mm hr3=>?_;obtain⟨m,HC,RM⟩:∃m:Nat,8+r1%14=(m:Int)/\m<=21:=⟨(8+r1%14).toNat,(by clear hr3 mm;lia),tL⟩;obtain⟨n,l0,df⟩:∃n:Nat,1+r1/16%18=(n:Int)/\n<=18:=⟨(1+r1/16%18).toNat,tL,tL⟩;exists _,Y,_,Y,_,_,Y,Y,(by simp),_,_,Y,Y,_,Y,_,_,Y,Y,yO tD tD,_,_,Y,Y,(by simp),_,_,Y,Y,p,d,bu,m,n,(by simp_all),fJ,iP,tL,RM,df,λA B bg H7 fA fB h3 uO s7=>?_;have g0:∀{s:bB}{n m:List Nat}{f:ak},m≠n->az (aJ s n f) m=az s m:=λh=>by rw[eI,ah h]
  have q1:∀nf∈aJ (aJ bu [99] A) [100] B,FB nf.2:=dE (dE iP fA) fB;have z1:=pf bu [99] A;have z2:=pf (aJ bu [99] A) [100] B;obtain⟨BA,dO,e2⟩:(∀nf∈bg,FB nf.2)/\bg.length<=5/\∀nm,nm≠[99]->nm≠[100]->nm≠[101]->az bg nm=az bu nm:=by
   rcases h3 with rfl|⟨k,fk,rfl⟩
   .exact⟨q1,tL,λnm n1 n2 n3=>by rw[g0 n2,g0 n1]⟩
   .have z3:=pf (aJ (aJ bu [99] A) [100] B) [101] k;show⟨dE q1 fk,tL,λnm n1 n2 n3=>by rw[g0 n3,g0 n2,g0 n1]⟩
  exists _,Y,aK tD ?_;exists _,Y,_,Y,p,d,bg,r1,Y,mm,uO,BA,tL,by rw[e2 _ tD tD tD,en _ tD tD],by rw[e2 _ tD tD tD,en _ tD tD],λcg H8 N6 m6 e3 vv s8=>?_;exists _,Y,aK tD ?_;exists _,Y,_,Y,p,d,cg,r1,Y,mm,vv,N6,tL,λBy H9 hst4 AU e4 BG s9=>?_;exists _,Y,bq tD ?_;exists _,Y,_,Y,p,d,By,r1,Y,mm,BG,hst4,tL,by rw[e4 _ tD,e3 _ tD,e2 _ tD tD tD,en _ tD tD],by rw[e4 _ tD,e3 _ tD,e2 _ tD tD tD,en _ tD tD],λnQ H10 hst5 hl5 e5 hD10 yH=>?_;exists _,Y,bq tD ?_;have ea5:az nQ [97]=some g:=by rw[e5 _ tD,e4 _ tD,e3 _ tD,e2 _ tD tD tD,ea]
  exists _,Y,ji (K:=K) (E:=E0) (L4 ea5) hD10 hst5 tL λH11 GR=>?_;obtain⟨kv6,hdK6,_⟩:=id fJ.dc;have IW:=(aI.keepD Ds (s7.trans (s8.trans (s9.trans yH))) hdK6).keep GR;exists _,Y,b,g,Y,IW,tg.1,tg.2,λH12 Tr=>?_;exists _,_,bE.mpr Y,bE.mpr Y,by show 0<=60;decide,?_;rw[mY];show kq _
end
set_option maxHeartbeats 0 in
set_option tactic.hygienic true in
def zaW(X:(K w.params).In h)(G:h.Ns mainGlobals mg):Txt w (K w.params) mg:=by
 constructor
 case al=>show _=_;kernel_rfl
 case bK=>show iW ["name","name"] [793,794] Y tD tK
 case bL=>show iW ["name","name"] [796,797] Y tD tK
 case bM=>show iW ["name","name"] [799,800] Y tD tK
 case bN=>show iW ["name","letter","bit"] [802,803,804] Y tD tK
 case bO=>show iW ["name","letter","name"] [806,807,808] Y tD tK
 case aY=>show oB.of (ts:=[792,795,798,801,805]) (n:=5) Y Y tE tK
 case bP=>show iW ["name"] [767] Y tD tK
 case bQ=>show iW ["name","number"] [769,770] Y tD tK
 case bR=>show iW ["name","name"] [772,773] Y tD tK
 case bS=>show iW ["name","name","divisor"] [775,776,777] Y tD tK
 case bT=>show iW ["name"] [779] Y tD tK
 case bU=>show iW ["name"] [781] Y tD tK
 case bV=>show iW ["name"] [783] Y tD tK
 case bW=>show oB.of (ts:=[766,768,771,774,778,780,782]) (n:=7) Y Y tE tK
 case bX=>show iW ["not "," and "," or "," xor "] [595,596,597,598] Y tD tK
 case ad=>show iW ["and","or","xor"] [591,592,593] Y tD tK
 all_goals first
  |show Def.of X G (by first|show UI λ_=>rfl|show R8 λ_ _=>rfl|show Lz λ_ _ _=>rfl|show us4 λ_ _ _ _=>rfl|show us0 Y) tK tK tK tK tK
  |show pW.of (by first|show UI λ_=>rfl|show R8 λ_ _=>rfl|show Lz λ_ _ _=>rfl|show us4 λ_ _ _ _=>rfl) tK tK tK tK tK tK
  |show PySem.W.mg_none_of X G tK
  |show Vc X G tK
  |exists tK,tK,tK,tK
  |kernel_rfl
def Ye{q:Program}{loose:List Str}{XP:(Str->Option Value)->Heap->Prop}{d:DefRec}(Fu:d.params.defaults=[])(gx:d.name = "law") :
  PySem.W.WalkO q loose XP (PySem.W.InK K) PySem.Challenge.rw_onceform_k85_desk_too_many.row.toRowW d [] (λf vs=>PySem.call f vs) :=
 L2.zeA (l:=PySem.Challenge.rw_onceform_k85_desk_too_many) (n:=63) (k:=12) (x := "_law_script") (CX:=λ_=>pz) (sp:=λw=>SA (K w.params)) Y tD Fu ⟨Y,tD,tD⟩ (λw h qaa=>qaa) (λw mg fa h KX G kc=>by
  have T:=zaW KX G;rw[gx]at kc;cases kc.symm.trans T.bI.m;exists pM.fd,λs v=>.of_eq Y,λbase _ _=>zaK T) (λ_ _ a ns hl hb _ hS=>⟨a,ns,Y,hS,hl,hb,λ_=>rfl⟩) λ_ _ _ _ _ z=>z
end My
open PySem PySem.W PyProof.Rows
set_option maxRecDepth 100000 in
set_option maxHeartbeats 0 in
set_option tactic.hygienic true in
theorem PySem.Challenge.cw_onceform_k85_desk_too_many_holds : PySem.Challenge.rw_onceform_k85_desk_too_many.Holds := by
 w_on
 show PySem.W.holds_law My.Kq λKq=>?_
 show PySem.W.holds_open (q:=My.Q) (loose:=My.lo) (Xt:=My.Xq) (XP:=PySem.W.XL My.Q []) (Yf:=My.Hk.obs) (Ya:=My.Hk.val) (YP:=PySem.W.InK My.K) (N:=10184) (d:=⟨"law",L2.yI My.pM.s,L2.lP My.pM.s,L2.bX My.pM.s,My.zbL My.pM.s⟩) (kwd:=[]) My.left My.Hk.of My.Hk.keeps
  (λs e=>PySem.W.xl_of s (ya.mp e).1) jim tK tK tK (λs e=>PySem.W.recFacts_of (ya.mp e).2) tK Kq tE ⟨Y,Y,Y,Y,Y,tE⟩ ?hw ?hc
 case hw=>w_witness2
 show My.Ye Y rfl
#print axioms PySem.Challenge.cw_onceform_k85_desk_too_many_holds
