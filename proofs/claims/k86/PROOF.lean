import PyProof.Rows.All
import Wide.All
import OpenK.AllK
import Wide.FinOn
import Lean
import PyProof.EqAt
import PyProof.EqKinds
import PyProof.TupleCall
import PyProof.NeKinds
import PyProof.WalksEnum
import PyProof.EnumMake
import PyProof.AttrMissHeap
import KE.KDictOf
import PyProof.ListNew
import PyProof.ZipIter
import PyProof.Rows.ZipGen
import KE.KIntText
import PyProof.StrLawsTight
import KE.KRevIter
import KE.KDictList
import KE.KEqDict
import PyProof.DictCopy
import KE.KSortTup
import PySem.Challenge.RW_onceform_k86_whole_desk
set_option genSizeOf false
set_option Elab.async false
set_option linter.all false
open PySem.W(Frag kitOne)
open PySem.Builtin.Int(intBits)
open PySem.NumText(digitsVal)
open PySem.Str(ofString)
local macro_rules|`(tactic|exists $e,*)=>`(tactic|refine⟨$e,*⟩)
local macro_rules|`(tactic|nomatch $e,*)=>`(tactic|exact⟨$e,*⟩)
set_option maxRecDepth 100000
set_option maxHeartbeats 4000000
set_option tactic.hygienic false
abbrev av:=@List.length_map
abbrev aS:=@List.length_append
abbrev aR:=@decide_eq_true
abbrev aT:=@List.map_append
abbrev bu:=@List.mem_singleton
abbrev br:=@List.length_cons
abbrev aF:=@PySem.wpAny_bind
abbrev bj:=@decide_eq_false
abbrev aO:=@Nat.le_refl
abbrev aZ:=@List.mem_cons
abbrev cB:=@PySem.F.plainAttrs_list
abbrev bG:=@of_decide_eq_true
abbrev aW:=@Nat.le_trans
abbrev dS:=@List.getElem?_eq_some_iff
abbrev bF:=@List.mem_append
abbrev cf:=@List.size_toArray
abbrev ax:=@if_neg
abbrev dG:=@PySem.Heap.get?_push_of_some
abbrev eC:=@List.getElem?_eq_getElem
abbrev dr:=@List.mem_of_getElem?
abbrev bB:=@PySem.Heap.lt_size
abbrev bU:=@List.map_cons
abbrev dX:=@Nat.pow_le_pow_right
abbrev aB:=@if_pos
abbrev fI:=@PySem.F.slot_list_append
abbrev fJ:=@PySem.F.type_list_append
abbrev dJ:=@Bool.false_ne_true
abbrev dH:=@Nat.lt_of_lt_of_le
abbrev eJ:=@List.mem_cons_of_mem
abbrev fq:=@PySem.F.plainAttrs_str
abbrev bW:=@List.mem_map
abbrev dE:=@List.getElem?_map
abbrev eI:=@PySem.Heap.get?_push_size
abbrev dU:=@List.take_add_one
abbrev bS:=@Nat.zero_le
abbrev dm:=@List.find?_cons
abbrev df:=@PySem.PassesOwn.never
abbrev cj:=@Nat.le_of_lt
abbrev fX:=@List.mem_append_right
abbrev dO:=@List.take_length
abbrev dY:=@List.length_take
abbrev bL:=@PySem.wpAny_pure
abbrev dN:=@Option.some.inj
abbrev dI:=@PySem.boot_len
abbrev fV:=@List.filter_append
abbrev fZ:=@List.append_assoc
abbrev gF:=@Int.toNat_of_nonneg
abbrev gD:=@Int.natCast_nonneg
abbrev er:=@PySem.Paired.length
abbrev iz:=@Int.emod_lt_of_pos
abbrev jR:=@List.length_filter_le
abbrev gz:=@Bool.and_eq_true
abbrev d5:=@Nat.ne_of_lt
abbrev lb:=@PySem.F.type_list_pop
abbrev kD:=@PySem.F.slot_list_pop
abbrev kU:=@PyProof.Rows.boot_str
abbrev gC:=@Nat.mul_le_mul
abbrev qB:=@List.eq_nil_of_length_eq_zero
abbrev fE:=@List.map_map
abbrev iC:=@Int.emod_nonneg
abbrev rS:=@Nat.testBit_eq_decide_div_mod_eq
abbrev p8:=@PyProof.Rows.boot_isinstance
abbrev lT:=@PySem.F.slot_str_join
abbrev lD:=@PySem.F.type_str_join
abbrev jG:=@List.flatMap_cons
abbrev jf:=@List.all_eq_true
abbrev iM:=@List.append_nil
abbrev lS:=@Nat.mul_le_mul_right
abbrev jT:=@List.not_mem_nil
abbrev jH:=@List.getElem_mem
abbrev eA:=@PySem.wpAny_mono
abbrev jd:=@List.mem_filter
abbrev oO:=@Int.eq_ofNat_of_zero_le
abbrev nN:=@List.take_of_length_le
abbrev mS:=@List.mem_append_left
abbrev jB:=@List.nodup_cons
abbrev lB:=@Nat.lt_of_le_of_lt
abbrev lq:=@PySem.wpAny_truthy_bool
abbrev o9:=@Nat.eq_of_testBit_eq
abbrev ng:=@List.mem_cons_self
abbrev uu:=@PyProof.Rows.callWith_type1
abbrev kW:=@Nat.testBit_and
abbrev ml:=@List.length_drop
abbrev jV:=@List.sum_cons
abbrev nS:=@List.pairwise_cons
abbrev tO:=@List.drop_eq_getElem_cons
abbrev mj:=@List.length_nil
abbrev mW:=@List.filter_cons
abbrev qk:=@List.reverse_append
abbrev oh:=@List.length_range
abbrev ph:=@Int.toNat_natCast
abbrev jU:=@Nat.pow_succ
abbrev nW:=@List.flatten_cons
abbrev jr:=@PySem.wpAny_field
abbrev qJ:=@List.dropLast_concat
abbrev AH:=@PyProof.Rows.slot_int_bit_length
abbrev yV:=@PyProof.Rows.type_int_bit_length
abbrev rY:=@PySem.mem_of_lookup
abbrev rD:=@beq_eq_false_iff_ne
abbrev mz:=@Nat.testBit_or
abbrev md:=@List.any_cons
abbrev we:=@Nat.ge_two_pow_of_testBit
abbrev sv:=@PyProof.Rows.boot_int
abbrev pf:=@Nat.two_pow_pos
abbrev oK:=@Nat.min_eq_left
abbrev oV:=@List.sum_append
abbrev tw:=@List.length_dropLast
abbrev xw:=@PySem.wpAny_callSpecial?_slot
abbrev rQ:=@PySem.wpAny_newObj_type
abbrev qY:=@PySem.wpAny_loadPart_at
abbrev qC:=@List.range_succ
abbrev sU:=@Nat.testBit_two_pow
abbrev uX:=@Nat.testBit_lt_two_pow
abbrev xy:=@List.getElem?_set_self
abbrev A2:=@PySem.F.slot_tuple_iterator_next
abbrev rV:=@PySem.wpAny_call_entry
abbrev uY:=@PyProof.Rows.boot_sum
abbrev vD:=@PyProof.Rows.boot_abs
abbrev tM:=@Int.natAbs_natCast
abbrev vH:=@PySem.F.slot_dict_get
abbrev oH:=@Nat.lt_irrefl
abbrev pL:=@List.mem_range
abbrev AO:=@Nat.lt_pow_two_of_testBit
abbrev xC:=@Bool.and_eq_true_iff
abbrev qD:=@Bool.eq_iff_iff
abbrev rH:=@PySem.wpAny_passesOwn
abbrev Am:=@PyProof.Rows.boot_sorted
abbrev px:=@Nat.lt_trans
abbrev nR:=@List.map_nil
abbrev xU:=@List.map_congr_left
abbrev Ag:=@List.filter_cons_of_neg
abbrev vG:=@List.flatten_append
abbrev vF:=@Array.length_toList
abbrev uF:=@List.lookup_cons
abbrev rK:=@PySem.Heap.size_push
abbrev qO:=@PySem.wpAny_seqItems
abbrev Bh:=@PySem.F.plainAttrs_int
abbrev Ab:=@PySem.Calls.callWith_builtin
abbrev Bz:=@Option.map_eq_some_iff
abbrev vq:=@PySem.wpAny_setField_rec
abbrev Fb:=@PySem.F.slot_str_startswith
abbrev DO:=@Nat.two_pow_add_eq_or_of_lt
abbrev Fi:=@PySem.F.type_str_startswith
abbrev sE:=@List.length_set
abbrev BA:=@List.length_replicate
abbrev tS:=@PySem.wpAny_execs_nil
abbrev mX:=@beq_iff_eq
abbrev wQ:=@Nat.lt_succ_of_lt
abbrev jS:=@or_false
abbrev xJ:=@Bool.eq_false_iff
abbrev AJ:=@PySem.Calls.evalArgs_plain
abbrev ze:=@PySem.Heap.get?_none_of_le
abbrev zx:=@List.mem_of_mem_drop
abbrev tQ:=@Bool.and_false
abbrev tD:=@List.drop_zero
abbrev wN:=@Nat.min_eq_right
abbrev xN:=@List.any_eq_true
abbrev BJ:=@List.filterMap_cons
abbrev yU:=@Nat.add_le_add_left
abbrev rB:=@Int.zero_add
abbrev xZ:=@PySem.tupleKind_room_in1
abbrev uC:=@Bool.true_and
abbrev xW:=@of_decide_eq_false
abbrev yS:=@PySem.Calls.spliced_cons
abbrev zX:=@PySem.wpAny_Call_Name_kw
abbrev Fe:=@Nat.add_sub_cancel_left
abbrev EH:=@List.filter_cons_of_pos
abbrev Bx:=@Bool.false_eq_true
abbrev Bn:=@List.mem_filterMap
abbrev K2:=@List.pairwise_iff_forall_sublist
abbrev Dw:=@List.drop_of_length_le
abbrev Dn:=@PySem.F.type_str_split
abbrev CO:=@PySem.F.entry_dict_get
abbrev HX:=@PySem.F.slot_str_split
abbrev Qu:=@PyProof.Rows.slot_tuple_getitem
abbrev A0:=@List.reverse_cons
abbrev pN:=@PySem.typeIs_str
abbrev qz:=@PySem.call_meets
abbrev yc:=@decide_eq_true_eq
abbrev AI:=@Option.isSome_map
abbrev zN:=@List.pairwise_map
abbrev Bt:=@PySem.wpAny_pyIter_list
abbrev Dk:=@PySem.F.typeOf_object_class
abbrev Dq:=@List.getElem?_eq_none
abbrev uN:=@Nat.ne_of_gt
abbrev DS:=@PySem.wpAny_isTrue_Compare1
abbrev uo:=@Nat.lt_or_ge
abbrev Ce:=@PySem.F.slot_str_find
abbrev Dp:=@Array.getElem?_toList
abbrev Gx:=@List.take_append_drop
abbrev Cy:=@PySem.F.type_str_find
abbrev zT:=@Nat.testBit_zero
abbrev j9:=@if_true
abbrev Bw:=@List.cons_append
abbrev Au:=@PySem.wpAny_pyIter_zip
abbrev AD:=@Option.getD_some
abbrev zO:=@List.drop_length
abbrev BS:=@Nat.testBit_succ
abbrev Fx:=@List.getElem?_set_ne
abbrev Ht:=@Nat.pow_lt_pow_right
abbrev Ft:=@PySem.W.hideAll_none
abbrev Ll:=@PySem.F.args_tuple_iterator_next_1
abbrev xg:=@PySem.wpAny_holding
abbrev QC:=@List.countP_eq_length_filter
abbrev xm:=@Int.mul_assoc
abbrev yr:=@PySem.SeqAt.EqAt.same
abbrev DK:=@PySem.W.hideAll_get
abbrev tU:=@Nat.log2_lt
abbrev Bk:=@PySem.F.slot_zip_next
abbrev Ip:=@PySem.F.entry_tuple_iterator_next
abbrev Dr:=@List.length_reverse
abbrev CF:=@List.replicate_zero
abbrev Cg:=@ne_true_of_eq_false
abbrev ui:=@Int.one_mul
abbrev Gr:=@List.takeWhile_cons
abbrev B2:=@Nat.mul_le_mul_left
abbrev BM:=@List.forIn_cons
abbrev yy:=@Nat.not_lt_zero
abbrev Ef:=@PySem.W.plainGet_of
abbrev Kr:=@List.getElem?_append_right
abbrev Ih:=@List.getD_eq_getElem?_getD
abbrev MM:=@PySem.Calls.Name_function_global
abbrev HM:=@PySem.W.callWith_K
abbrev Hl:=@PySem.F.args_str_split_2
abbrev xM:=@PySem.codeAny_mono
abbrev FF:=@PySem.W.of_hideAll
abbrev zi:=@Int.natAbs_mul
abbrev zJ:=@Bool.false_and
abbrev Nd:=@PySem.wpAny_letOwnedTupleGo_zip
abbrev Bu:=@List.nodup_nil
abbrev yb:=@Nat.add_le_add
abbrev Kx:=@List.getElem?_append_left
abbrev MZ:=@Array.getElem?_eq_getElem
abbrev JK:=@List.filterMap_cons_none
abbrev ub:=@Nat.mod_lt
abbrev KW:=@Option.isSome_iff_exists
abbrev D7:=@List.Pairwise.map
abbrev Eo:=@PySem.F.entry_str_split
abbrev OR:=@List.filterMap_cons_some
abbrev PQ:=@PySem.F.slot_list_insert
abbrev Cf:=@PySem.Calls.spliced_nil
abbrev Na:=@PySem.F.args_tuple_add_2
abbrev QR:=@PySem.F.type_list_insert
abbrev Qo:=@PySem.wpAny_getItem_list_slice
abbrev Nn:=@PySem.wpAny_comprehension_free
abbrev Lc:=@List.getElem?_replicate
abbrev QM:=@Nat.toDigits_of_lt_base
abbrev p9:=@if_false
abbrev Ah:=@PySem.wpAny_onRaise
abbrev OM:=@PySem.F.args_dict_get_3
abbrev LH:=@PySem.F.entry_tuple_add
abbrev LU:=@PySem.F.plainAttrs_dict
abbrev Ez:=@Int.max_eq_right
abbrev DE:=@PySem.F.slot_str_split
abbrev B1:=@PySem.StrLaws.subAt_eq
abbrev B9:=@Nat.lt_succ_self
abbrev DA:=@List.mem_flatMap
abbrev Gw:=@PySem.wpAny_execs_cons
abbrev HL:=@List.of_mem_zip
abbrev Fn:=@Nat.testBit_xor
abbrev BI:=@Nat.mul_zero
abbrev FP:=@Bool.or_eq_true
abbrev Ao:=@List.map_id'
abbrev zv:=@Nat.add_zero
abbrev yu:=@Nat.add_comm
abbrev Ak:=@PySem.sizeLine_eq
abbrev BY:=@Nat.le_succ
abbrev BD:=@Sum.inr.inj
abbrev za:=@Int.mul_add
abbrev HG:=@PySem.wpAny_standAt
abbrev FN:=@Bool.or_false
abbrev EM:=@List.map_drop
abbrev Gi:=@List.all_cons
abbrev E9:=@List.cons.inj
abbrev FX:=@PySem.evalPart_none
abbrev EC:=@List.map_take
abbrev yI:=@PyProof.Rows.Subscript_
namespace L2
open PySem
noncomputable def vA(s:Stmt)(j:Nat):Stmt:=match s with
 |.ClassDef _ _ _ body _ _ _ _ _ _ _=>body.getD j (.Pass ⟨0,0,0,0⟩)
 |_=>.Pass ⟨0,0,0,0⟩
noncomputable def wq(s:Stmt):Arguments:=match s with
 |.FunctionDef _ a _ _ _ _ _ _ _ _=>a
 |_=>{posonlyargs:=[],args:=[],vararg:=none,kwonlyargs:=[],kw_defaults:=[],kwarg:=none,defaults:=[]}
noncomputable def ou(s:Stmt):List Stmt:=match s with
 |.FunctionDef _ _ b _ _ _ _ _ _ _=>b
 |_=>[]
noncomputable def dy(s:Stmt):Scope:=match s with
 |.FunctionDef _ _ _ _ _ _ sc _ _ _=>sc
 |_=>{kind:=.function,names:=[],isGenerator:=false,isCoroutine:=false}
end L2
namespace My
open PySem L2
noncomputable def aP:List Stmt->Stmt
 |x::_=>x
 |[]=>.Pass ⟨0,0,0,0⟩
noncomputable def aE:List Stmt->List Stmt
 |_::r=>r
 |[]=>[]
noncomputable def zan(s:Stmt):Pos:=match s with
 |.FunctionDef _ _ _ _ _ _ _ _ _ p=>p
 |_=>⟨0,0,0,0⟩
structure Rw where
 n:Str
 q:Str
 N:List Str
 k:Nat
 s:Stmt
 a:Addr
 m:Value
 t:Nat
 l:Nat
 x:Nat
namespace Rw
noncomputable abbrev ps(r:Rw):List Str:=r.N.take r.k
noncomputable abbrev fd(r:Rw):FuncData:=PySem.W.fnOf r.n r.q (wq r.s) (ou r.s) (dy r.s) .none .none .none r.m none (.ref (r.a-1)) .none
noncomputable def NS:Str := "/claim/cut.py"
noncomputable def z(n:Nat):Value:=.int (Int.ofNat n) 0
noncomputable def few(r:Rw):Bool:=Nat.beq r.x 3
noncomputable def rows(r:Rw):List (Addr×Obj) :=
 [(r.a-1,⟨.type "code",none,.fields #[.str r.n r.t,.str r.q (r.t+1),.str NS (r.t+2),z r.l,z r.k,z 0,z 0,z 3,.ref (bif r.few then r.a-4 else r.a-6),.bool true,z 181,.ref (bif r.few then r.a-3 else r.a-5),.none,
   bif r.few then .none else .ref (r.a-4),bif r.few then .none else .ref (r.a-3),.ref (r.a-2),z (r.t+r.x),z r.l,.str NS (r.t+r.x+1)],#[]⟩),
  (r.a,⟨.type "function",none,.func r.fd,#[]⟩)]
end Rw
noncomputable abbrev en(P:Params)(x:Str)(t:Nat)(v:Value):DictEntry:=⟨PyData.keyHash P x,.str x t,v⟩
end My
namespace OH
open PySem PySem.W PyProof.Rows
noncomputable def wI(tb:String->Option Builtin)(p:Program)(w:World)(n₀:Nat)(ann:Option Value):Nat->SharedT->Thread->Option SharedT
 |0,_,_=>none
 |n+1,s,t=>match through t with
  |true=>some s
  |false=>match stepOk n₀ ann t with
   |false=>none
   |true=>match stepT (denote tb) p w s t with
    |some x=>wI tb p w n₀ ann n x.1 x.2
    |none=>none
def zb9:∀{s r:SharedT}{t:Thread},wI tb p w n₀ ann n s t=some r->topRun tb p w n₀ ann n s.abs t=some r.abs:=by
 induction n with
 |zero=>intro s r t h;cases h
 |succ n ih =>
  intro s r t h;unfold wI at h;unfold topRun;cases a:through t with
  |true=>rw[a]at h;cases h;rfl
  |false =>
   rw[a]at h;cases b:stepOk n₀ ann t with
   |false=>rw[b]at h;cases h
   |true =>
    rw[b]at h;cases c:stepT (denote tb) p w s t with
    |none=>rw[c]at h;cases h
    |some x=>rw[c]at h;rw[stepT_spec c];exact ih h
noncomputable def vf(p:Program)(w:World)(n₀:Nat)(ann:Option Value):Nat->SharedT->Thread->Option SharedT
 |0,_,_=>none
 |n+1,s,t=>match through t with
  |true=>some s
  |false=>match PySem.W.Fast.tw6613529449190102663 n₀ ann t with
   |false=>none
   |true=>match PySem.W.Fast.tw10156331382660048174 (PySem.W.Fast.tw11892475500146522536 PySem.W.Fast.tw14364793385576792824) p w s t with
    |some x=>vf p w n₀ ann n x.1 x.2
    |none=>none
def zaQ:∀{s:SharedT}{t:Thread},vf p w n₀ ann n s t=wI treeTable p w n₀ ann n s t:=by
 induction n with
 |zero=>intro s t;rfl
 |succ n ih =>
  intro s t;unfold vf wI;rw[<-PySem.W.Fast.te6613529449190102663,<-PySem.W.Fast.te10156331382660048174,<-PySem.W.Fast.te11892475500146522536,<-PySem.W.Fast.te14364793385576792824];cases through t<;>cases stepOk n₀ ann t<;>try rfl
  cases stepT (denote treeTable) p w s t with
  |none=>rfl
  |some x=>exact ih
noncomputable def Hv(P:Params):BT :=
 .node (boot_o_0 P)
  (.node (boot_o_1 P) (.node (boot_o_3 P) (.node (boot_o_7 P) .nil .nil) .nil) (.node (boot_o_5 P) (.node (boot_o_9 P) .nil .nil) .nil))
  (.node (boot_o_2 P) (.node (boot_o_4 P) (.node (boot_o_8 P) .nil .nil) .nil) (.node (boot_o_6 P) (.node (boot_o_10 P) .nil .nil) .nil))
def RU(P:Params):boot_heap P=absHeap (Hv P) 11 (boot_heap P).life:=by kernel_rfl
def WD(w:World):((boot_heap w.params).isNs mainGlobals,(boot_heap w.params).objs.size,(boot_heap w.params).nsMap mainGlobals "__annotations__")=(true,11,some (.ref 6)):=by kernel_rfl
noncomputable abbrev Gb(P:Params)(os:OsState):SharedT:=⟨Hv P,11,(boot_heap P).life,#[],boot_drawn,boot_toks,os⟩
def left
  (e:opening p=plainProg p.main.scope.names) (hN:Nat.ble 600 N=true) (f:∀s,fenceModules? p s=some s)
  (run:∀w:World,(λos=>(vf p w 11 (some (.ref 6)) N (Gb w.params os) (topStub p)).map λs =>
    (staticsOk (importedModules p.main.body) (boot_heap w.params) s.abs.heap&&namesBound p s.abs.heap&&gensDone s.abs&&laidKept (boot_heap w.params) s.abs.heap,PySem.W.Fast.tw4187177175401517315 q loose (importedModules p.main.body) Xt true s.abs,Yf s.abs))=λ_=>some (true,openGood q loose,Ya w)):LeftO p q loose Xt Yf Ya N:=λw=>by
 obtain⟨⟨h,gs,d,k,os⟩,x,x'⟩:=Bz.mp (boot_open e hN f w);obtain⟨rfl,rfl,rfl,rfl⟩:h=boot_heap w.params/\gs=Array.mk []/\d=boot_drawn/\k=boot_toks:=by simpa using x'
 obtain⟨z1,z2,z3⟩:_/\_/\_:=by simpa only [Prod.mk.injEq] using WD w
 obtain⟨s,r,l⟩:=Bz.mp (congrFun (run w) os);rw[<-PySem.W.Fast.te4187177175401517315]at l;obtain⟨l1,l2,l3⟩:_/\_/\_:=by simpa only [Prod.mk.injEq] using l
 have t:=zb9 (zaQ.symm.trans r);have b:(Gb w.params os).abs=⟨boot_heap w.params,Array.mk [],boot_drawn,boot_toks,os⟩:=by
  show (⟨absHeap (Hv w.params) 11 (boot_heap w.params).life,_,_,_,_⟩:Shared)=_;rw[<-RU]
 rw[b]at t;have y:topFrom treeTable p w N ⟨boot_heap w.params,Array.mk [],boot_drawn,boot_toks,os⟩=some s.abs:=by
  unfold topFrom;dsimp only;rw[z1,z2,z3,t];show (match staticsOk (importedModules p.main.body) (boot_heap w.params) s.abs.heap&&namesBound p s.abs.heap&&gensDone s.abs&&laidKept (boot_heap w.params) s.abs.heap with|true=>_|false=>_)=_;rw[l1]
 unfold openEnds;rw[x];show (topFrom treeTable p w N _).map _=_;rw[y];exact congrArg some (Prod.ext l2 l3)
end OH
namespace My
open PySem L2
noncomputable def bd0:List Stmt:=PySem.Challenge.pw_onceform_k86_whole_desk.main.body
noncomputable def J3:List Stmt:=aE bd0
noncomputable def Jw:List Stmt:=aE J3
noncomputable def OC:List Stmt:=aE Jw
noncomputable def bd4:List Stmt:=aE OC
noncomputable def KD:List Stmt:=aE bd4
noncomputable def Ls:List Stmt:=aE KD
noncomputable def Ou:List Stmt:=aE Ls
noncomputable def OJ:List Stmt:=aE Ou
noncomputable def Mq:List Stmt:=aE OJ
noncomputable def Me:List Stmt:=aE Mq
noncomputable def JP:List Stmt:=aE Me
noncomputable def Jh:List Stmt:=aE JP
noncomputable def IX:List Stmt:=aE Jh
noncomputable def zbt:List Stmt:=aE IX
noncomputable def Js:List Stmt:=aE zbt
noncomputable def MD:List Stmt:=aE Js
noncomputable def NR:List Stmt:=aE MD
noncomputable def O1:List Stmt:=aE NR
noncomputable def L6:List Stmt:=aE O1
noncomputable def Ln:List Stmt:=aE L6
noncomputable def JB:List Stmt:=aE Ln
noncomputable def PK:List Stmt:=aE JB
noncomputable def Uc:List Stmt:=aE PK
noncomputable def zay:List Stmt:=aE Uc
noncomputable def zbE:List Stmt:=aE zay
noncomputable def zcq:List Stmt:=aE zbE
noncomputable def Te:List Stmt:=aE zcq
noncomputable def zbV:List Stmt:=aE Te
noncomputable def TQ:List Stmt:=aE zbV
noncomputable def Yx:List Stmt:=aE TQ
noncomputable def XI:List Stmt:=aE Yx
noncomputable def UD:List Stmt:=aE XI
noncomputable def Rk:List Stmt:=aE UD
noncomputable def zcj:List Stmt:=aE Rk
noncomputable def Ow:List Stmt:=aE zcj
noncomputable def zbq:List Stmt:=aE Ow
noncomputable def Ql:List Stmt:=aE zbq
noncomputable def P0:List Stmt:=aE Ql
noncomputable def zad:List Stmt:=aE P0
noncomputable def Zy:List Stmt:=aE zad
noncomputable def zb3:List Stmt:=aE Zy
noncomputable def Rm:List Stmt:=aE zb3
noncomputable def zb0:List Stmt:=aE Rm
noncomputable def Wq:List Stmt:=aE zb0
noncomputable def ZF:List Stmt:=aE Wq
noncomputable def PZ:List Stmt:=aE ZF
noncomputable def Ob:List Stmt:=aE PZ
noncomputable def Ti:List Stmt:=aE Ob
noncomputable def zaZ:List Stmt:=aE Ti
noncomputable def zah:List Stmt:=aE zaZ
noncomputable def TH:List Stmt:=aE zah
noncomputable def IB:List Stmt:=aE TH
noncomputable def QE:List Stmt:=aE IB
noncomputable def Jn:List Stmt:=aE QE
noncomputable def Kv:List Stmt:=aE Jn
noncomputable def Iq:List Stmt:=aE Kv
noncomputable def O7:List Stmt:=aE Iq
noncomputable def Lm:List Stmt:=aE O7
noncomputable def O0:List Stmt:=aE Lm
noncomputable def Og:List Stmt:=aE O0
noncomputable def NT:List Stmt:=aE Og
noncomputable def Zi:List Stmt:=aE NT
noncomputable def V8:List Stmt:=aE Zi
noncomputable def KY:List Stmt:=aE V8
noncomputable def Jd:List Stmt:=aE KY
noncomputable def NI:List Stmt:=aE Jd
noncomputable def QT:List Stmt:=aE NI
noncomputable def IJ:List Stmt:=aE QT
noncomputable def PY:List Stmt:=aE IJ
noncomputable def MG:List Stmt:=aE PY
noncomputable def Lj:List Stmt:=aE MG
noncomputable def Rh:List Stmt:=aE Lj
noncomputable def VU:List Stmt:=aE Rh
noncomputable def zbG:List Stmt:=aE VU
noncomputable def Ww:List Stmt:=aE zbG
noncomputable def MQ:List Stmt:=aE Ww
noncomputable def IH:List Stmt:=aE MQ
noncomputable def Od:List Stmt:=aE IH
noncomputable def Oq:List Stmt:=aE Od
noncomputable def Oz:List Stmt:=aE Oq
noncomputable def Nl:List Stmt:=aE Oz
noncomputable def Np:List Stmt:=aE Nl
noncomputable def Xg:List Stmt:=aE Np
noncomputable def QF:List Stmt:=aE Xg
noncomputable def zaT:List Stmt:=aE QF
noncomputable def sP:List Stmt:=aE zaT
noncomputable def MA:List Stmt:=aE sP
noncomputable def Pq:List Stmt:=aE MA
noncomputable def Iw:List Stmt:=aE Pq
noncomputable def IC:List Stmt:=aE Iw
noncomputable def LW:List Stmt:=aE IC
noncomputable def LV:List Stmt:=aE LW
noncomputable def Iu:List Stmt:=aE LV
noncomputable def zcg:List Stmt:=aE Iu
noncomputable def Ji:List Stmt:=aE zcg
noncomputable def Oc:List Stmt:=aE Ji
noncomputable def Qp:List Stmt:=aE Oc
noncomputable def KU:List Stmt:=aE Qp
noncomputable def Mz:List Stmt:=aE KU
noncomputable def Ox:List Stmt:=aE Mz
noncomputable def NH:List Stmt:=aE Ox
noncomputable def zbS:List Stmt:=aE NH
noncomputable def Zc:List Stmt:=aE zbS
noncomputable def IT:List Stmt:=aE Zc
noncomputable def MU:List Stmt:=aE IT
noncomputable def P7:List Stmt:=aE MU
noncomputable def JQ:List Stmt:=aE P7
noncomputable def JI:List Stmt:=aE JQ
noncomputable def JD:List Stmt:=aE JI
noncomputable def QD:List Stmt:=aE JD
noncomputable def L9:List Stmt:=aE QD
noncomputable def LJ:List Stmt:=aE L9
noncomputable def Pz:List Stmt:=aE LJ
noncomputable def Lv:List Stmt:=aE Pz
noncomputable def PV:List Stmt:=aE Lv
noncomputable def Pu:List Stmt:=aE PV
noncomputable def PJ:List Stmt:=aE Pu
noncomputable def Iy:List Stmt:=aE PJ
noncomputable def Kk:List Stmt:=aE Iy
noncomputable def Mf:List Stmt:=aE Kk
noncomputable def OT:List Stmt:=aE Mf
noncomputable def Iz:List Stmt:=aE OT
noncomputable def Pa:List Stmt:=aE Iz
noncomputable def MR:List Stmt:=aE Pa
noncomputable def MK:List Stmt:=aE MR
noncomputable def KR:List Stmt:=aE MK
noncomputable def Kp:List Stmt:=aE KR
noncomputable def Ol:List Stmt:=aE Kp
noncomputable def Lo:List Stmt:=aE Ol
noncomputable def VR:List Stmt:=aE Lo
noncomputable abbrev M0:Value:=.str "onceform.bits" 187
noncomputable abbrev M1:Value:=.str "onceform.forms" 214
noncomputable abbrev M2:Value:=.str "onceform.changes" 294
noncomputable abbrev M3:Value:=.str "onceform.tables" 488
noncomputable abbrev M4:Value:=.str "onceform.words" 560
noncomputable abbrev M5:Value:=.str "onceform.statements" 587
noncomputable abbrev M6:Value:=.str "onceform.text" 694
noncomputable abbrev M7:Value:=.str "onceform.lines" 762
noncomputable abbrev M8:Value:=.str "onceform.trees" 867
noncomputable abbrev M9:Value:=.str "onceform.desk" 877
noncomputable abbrev cU:Value:=.str "law_onceform_k86_whole_desk" 1001
noncomputable abbrev Hx:Rw:=⟨"_law_mixed","_law_mixed",["_law_cell","_law_k","_law_number"],2,aP Oc,608,cU,1011,430,6⟩
noncomputable abbrev wc:Rw:=⟨"_law_names","_law_names",["_law_number","_law_letters_here","_law_tail","_law_names_here"],1,aP JI,682,cU,1115,526,3⟩
noncomputable abbrev Dl:Rw:=⟨"_law_at","_law_at",["_law_script","_law_k"],2,aP Ji,601,cU,1003,426,5⟩
noncomputable abbrev He:Rw:=⟨"_law_letters","_law_letters",["_law_number","_law_many","_law_found","_law_k","_law_at_here"],2,aP NH,639,cU,1056,474,8⟩
noncomputable abbrev zw:Rw:=⟨"__init__","Desk.__init__",["self"],1,vA (aP sP) 0,512,M9,891,350,4⟩
noncomputable abbrev Hm:Rw:=⟨"_law_stream","_law_stream",["_law_cell","_law_k","_law_found","_law_left","_law_j","_law_number"],2,aP Qp,615,cU,1020,434,9⟩
noncomputable abbrev yE:Rw:=⟨"_law_small","_law_small",["_law_form"],1,aP PJ,735,cU,1184,582,3⟩
noncomputable abbrev yM:Rw:=⟨"_law_made","_law_made",["_law_some","_law_numbers","_law_one","_law_number"],1,aP KU,620,cU,1032,447,3⟩
noncomputable abbrev AS:Rw:=⟨"_law_told_form","_law_told_form",["_law_xs","_law_letters_here","_law_some","_law_j","_law_where"],2,aP Iy,740,cU,1190,584,3⟩
noncomputable abbrev FQ:Rw:=⟨"_law_statement","_law_statement",["_law_numbers","_law_letters_here","_law_stack","_law_number","_law_other","_law_one"],2,aP Ox,632,cU,1044,454,9⟩
noncomputable abbrev zq:Rw:=⟨"_law_letters_of","_law_letters_of",["_law_one"],1,aP P7,670,cU,1098,511,3⟩
noncomputable abbrev Gf:Rw:=⟨"_law_shown","_law_shown",["_law_form","_law_words","_law_one","_law_number","_law_figures"],1,aP JQ,677,cU,1104,513,8⟩
noncomputable abbrev BU:Rw:=⟨"_law_text","_law_text",["_law_statement_here","_law_one"],1,aP MU,665,cU,1090,502,5⟩
noncomputable abbrev FZ:Rw:=⟨"_law_bracketed","_law_bracketed",["_law_statement_here"],1,aP IT,658,cU,1083,498,4⟩
noncomputable abbrev Gh:Rw:=⟨"_law_maker","_law_maker",["_law_there","_law_names_here","_law_letters_here","_law_xs","_law_first","_law_second","_law_letter","_law_sign","_law_name","_law_way","_law_fine","_law_form","_law_statement_here","_law_line","_law_word"],4,aP OT,761,cU,1216,611,18⟩
noncomputable abbrev Ho:Rw:=⟨"_law_question","_law_question",["_law_names_here","_law_xs","_law_first","_law_second","_law_word","_law_given","_law_m"],2,aP Kp,799,cU,1283,668,10⟩
noncomputable abbrev Cb:Rw:=⟨"_law_is_maker","_law_is_maker",["_law_deed"],1,aP Ol,806,cU,1296,681,4⟩
noncomputable abbrev Bs:Rw:=⟨"is_name","is_name",["word"],1,aP Nl,486,M7,855,338,3⟩
noncomputable abbrev Bq:Rw:=⟨"is_number","is_number",["word"],1,aP Np,491,M7,861,340,3⟩
noncomputable abbrev DQ:Rw:=⟨"is_of","is_of",["kind","word"],2,aP Oz,481,M7,847,330,5⟩
noncomputable abbrev Fh:Rw:=⟨"thing_read","thing_read",["kind","word"],2,aP Oq,474,M7,839,322,5⟩
noncomputable abbrev BN:Rw:=⟨"things_read","things_read",["kinds","words"],2,aP Od,467,M7,833,318,3⟩
noncomputable abbrev GZ:Rw:=⟨"kept_read","kept_read",["name","sign","text","words"],3,aP IH,462,M7,823,313,7⟩
noncomputable abbrev FI:Rw:=⟨"line_read","line_read",["line","words"],1,aP MQ,455,M7,815,308,5⟩
noncomputable abbrev Dc:Rw:=⟨"kept","Desk.kept",["self","name"],2,vA (aP sP) 2,526,M9,910,362,5⟩
noncomputable abbrev yt:Rw:=⟨"form_from","form_from",["numbers"],1,aP KD,38,M1,216,16,3⟩
noncomputable abbrev Fo:Rw:=⟨"times","times",["one","other","numbers","members","number","others","factor","both"],2,aP Mq,66,M1,248,27,11⟩
noncomputable abbrev C5:Rw:=⟨"made","made",["some","numbers","members","number"],1,aP Ls,45,M1,222,18,7⟩
noncomputable abbrev F9:Rw:=⟨"plus","plus",["one","other"],2,aP Ou,52,M1,232,23,5⟩
noncomputable abbrev Bf:Rw:=⟨"scaled","scaled",["form","number"],2,aP Me,71,M1,262,34,3⟩
noncomputable abbrev Hu:Rw:=⟨"less","less",["one","other"],2,aP OJ,59,M1,240,25,5⟩
noncomputable abbrev Fl:Rw:=⟨"combined","combined",["word","one","other"],3,aP Iw,568,M9,962,397,6⟩
noncomputable abbrev GQ:Rw:=⟨"read_number","read_number",["figures","letters","number","figure"],2,aP MG,427,M6,741,285,7⟩
noncomputable abbrev Gs:Rw:=⟨"doubled","doubled",["many","size","turn"],1,aP J3,21,M0,189,2,6⟩
noncomputable abbrev DH:Rw:=⟨"read_set","read_set",["letters","members","last","letter","k"],1,aP Lj,434,M6,751,294,8⟩
noncomputable abbrev HZ:Rw:=⟨"read_tuple","read_tuple",["sign","word","letters","number"],2,aP PY,420,M6,731,279,7⟩
noncomputable abbrev HH:Rw:=⟨"is_form","is_form",["some","last","members","number"],1,aP IX,90,M1,284,43,7⟩
noncomputable abbrev zu:Rw:=⟨"form_read","form_read",["text","words","form"],1,aP IJ,413,M6,725,264,3⟩
noncomputable abbrev DV:Rw:=⟨"token_at","token_at",["text","place","token"],2,aP O7,356,M5,650,211,6⟩
noncomputable abbrev Cv:Rw:=⟨"tokens_of","tokens_of",["text","tokens","place","token"],1,aP Iq,349,M5,640,203,7⟩
noncomputable abbrev HD:Rw:=⟨"with_joining","with_joining",["part","begun"],2,aP NT,384,M5,686,244,5⟩
noncomputable abbrev F2:Rw:=⟨"with_nots","with_nots",["part","begun"],2,aP Og,377,M5,678,240,5⟩
noncomputable abbrev DP:Rw:=⟨"part_from","part_from",["token","begun","k"],2,aP Lm,363,M5,659,216,6⟩
noncomputable abbrev GD:Rw:=⟨"part_after","part_after",["token","part","begun","word"],3,aP O0,370,M5,668,226,7⟩
noncomputable abbrev GK:Rw:=⟨"read","read",["text","begun","part","token"],1,aP Kv,342,M5,630,189,7⟩
noncomputable abbrev EY:Rw:=⟨"parts_of","parts_of",["statement","parts","waiting","part"],1,aP QE,328,M5,611,174,7⟩
noncomputable abbrev Ds:Rw:=⟨"unknowns","unknowns",["form","together","members","number"],1,aP Jh,83,M1,274,38,7⟩
noncomputable abbrev C9:Rw:=⟨"paired_tables","paired_tables",["one","other","many"],2,aP Ow,254,M3,502,98,6⟩
noncomputable abbrev FC:Rw:=⟨"joined","joined",["word","one","other","both","taken"],3,aP Ob,312,M4,576,150,8⟩
noncomputable abbrev Ci:Rw:=⟨"form_of_word","form_of_word",["word","parts","tables"],2,aP PZ,305,M4,570,143,3⟩
noncomputable abbrev Gz:Rw:=⟨"form_of_statement","form_of_statement",["statement","forms","part","word","last"],1,aP IB,321,M5,600,160,8⟩
noncomputable abbrev GC:Rw:=⟨"bits_in","bits_in",["statement","bits","part"],1,aP Jn,335,M5,621,183,6⟩
noncomputable abbrev Fu:Rw:=⟨"form_of_text","form_of_text",["text","statement"],1,aP MA,554,M9,947,388,5⟩
noncomputable abbrev yK:Rw:=⟨"without","without",["form","bit"],2,aP Js,95,M2,296,51,3⟩
noncomputable abbrev yW:Rw:=⟨"freed","freed",["form","bit"],2,aP MD,100,M2,302,53,3⟩
noncomputable abbrev Fy:Rw:=⟨"fixed","fixed",["form","k","bit","own"],3,aP NR,107,M2,308,55,7⟩
noncomputable abbrev HQ:Rw:=⟨"put_in","put_in",["form","k","other","own"],3,aP L6,121,M2,325,62,7⟩
noncomputable abbrev DU:Rw:=⟨"is_yes_no","is_yes_no",["form"],1,aP O1,114,M2,318,60,4⟩
noncomputable abbrev Fd:Rw:=⟨"yes_no","yes_no",["form"],1,aP Pq,561,M9,955,393,4⟩
noncomputable abbrev Ei:Rw:=⟨"form_for","Desk.form_for",["self","word","things","form"],3,vA (aP sP) 3,533,M9,918,367,7⟩
noncomputable abbrev Bg:Rw:=⟨"refuse_great","refuse_great",["form","bound"],1,aP IC,573,M9,971,403,3⟩
noncomputable abbrev ET:Rw:=⟨"shown_sign","shown_sign",["number"],1,aP Jd,396,M6,704,256,4⟩
noncomputable abbrev CY:Rw:=⟨"bits_of","bits_of",["given","many","bits","k"],2,aP Jw,28,M0,198,7,7⟩
noncomputable abbrev BV:Rw:=⟨"listed","listed",["members"],1,aP OC,33,M0,208,13,3⟩
noncomputable abbrev Aa:Rw:=⟨"shown_set","shown_set",["members"],1,aP QT,408,M6,719,262,3⟩
noncomputable abbrev E3:Rw:=⟨"shown_tuple","shown_tuple",["members","number"],2,aP NI,403,M6,711,258,5⟩
noncomputable abbrev Ac:Rw:=⟨"form_shown","form_shown",["form","parts","ahead"],1,aP KY,389,M6,698,250,3⟩
noncomputable abbrev Ek:Rw:=⟨"holders","holders",["members","size"],2,aP P0,271,M3,523,108,5⟩
noncomputable abbrev AQ:Rw:=⟨"whole_sum","whole_sum",["form","many","size"],2,aP Ql,264,M3,517,105,3⟩
noncomputable abbrev Gm:Rw:=⟨"ways","ways",["form","many"],2,aP QF,498,M8,869,345,5⟩
noncomputable abbrev Ex:Rw:=⟨"few_unknowns","few_unknowns",["form","many"],1,aP LV,587,M9,986,418,5⟩
noncomputable abbrev De:Rw:=⟨"told_of","told_of",["word","form","found"],2,aP LW,580,M9,977,409,6⟩
noncomputable abbrev HF:Rw:=⟨"told_place","told_place",["given"],1,aP Iu,594,M9,994,423,4⟩
noncomputable abbrev yl:Rw:=⟨"worth","worth",["form","given"],2,aP JP,76,M1,268,36,3⟩
noncomputable abbrev HP:Rw:=⟨"first_set","first_set",["form"],1,aP PK,140,M2,349,69,4⟩
noncomputable abbrev F1:Rw:=⟨"unlike","unlike",["one","other"],2,aP Ln,128,M2,335,65,5⟩
noncomputable abbrev zD:Rw:=⟨"unlike_by","unlike_by",["one","other","m"],3,aP JB,133,M2,343,67,3⟩
noncomputable abbrev Hn:Rw:=⟨"answer","Desk.answer",["self","word","things","form"],3,vA (aP sP) 4,540,M9,928,379,7⟩
noncomputable abbrev E7:Rw:=⟨"say","Desk.say",["self","line","name","word","things","form"],2,vA (aP sP) 1,519,M9,898,353,9⟩
noncomputable abbrev Aq:Rw:=⟨"_law_says","_law_says",["_law_desk","_law_line","_law_caught","_law_found","e","_law_sorts"],2,aP Pu,730,cU,1178,567,3⟩
noncomputable abbrev uW:Rw:=⟨"_law_parted","_law_parted",["_law_form","_law_k","_law_bit","_law_ones"],2,aP L9,697,cU,1133,540,3⟩
noncomputable abbrev xV:Rw:=⟨"_law_plus","_law_plus",["_law_one","_law_other","_law_sign"],3,aP JD,687,cU,1121,533,3⟩
noncomputable abbrev yG:Rw:=⟨"_law_times","_law_times",["_law_one","_law_other","_law_some","_law_mine","_law_number"],2,aP QD,692,cU,1127,535,3⟩
noncomputable abbrev Et:Rw:=⟨"_law_put","_law_put",["_law_form","_law_k","_law_other","_law_ones","_law_others"],3,aP Pz,711,cU,1150,547,8⟩
noncomputable abbrev Ay:Rw:=⟨"_law_stated","_law_stated",["_law_statement_here","_law_one","_law_other","_law_both"],1,aP PV,725,cU,1168,552,7⟩
noncomputable abbrev CM:Rw:=⟨"_law_fixed","_law_fixed",["_law_form","_law_k","_law_bit","_law_ones","_law_others"],3,aP LJ,704,cU,1139,544,8⟩
noncomputable abbrev E1:Rw:=⟨"_law_of_two","_law_of_two",["_law_word","_law_one","_law_other"],3,aP Kk,747,cU,1196,590,6⟩
noncomputable abbrev GH:Rw:=⟨"_law_yes_no","_law_yes_no",["_law_form"],1,aP Lv,718,cU,1161,550,4⟩
noncomputable abbrev GI:Rw:=⟨"_law_due_form","_law_due_form",["_law_there","_law_deed","_law_word","_law_part","_law_line"],2,aP Mf,754,cU,1205,594,8⟩
noncomputable abbrev Gv:Rw:=⟨"_law_every","_law_every",["_law_form","_law_every_here","_law_where","_law_number"],1,aP Pa,775,cU,1247,637,7⟩
noncomputable abbrev Bo:Rw:=⟨"_law_size","_law_size",["_law_one"],1,aP MK,785,cU,1263,648,3⟩
noncomputable abbrev yP:Rw:=⟨"_law_ways_due","_law_ways_due",["_law_form","_law_many"],2,aP MR,780,cU,1257,642,3⟩
noncomputable abbrev Em:Rw:=⟨"_law_place","_law_place",["_law_form","_law_m","_law_where","_law_number"],2,aP Iz,768,cU,1237,632,7⟩
noncomputable abbrev Bb:Rw:=⟨"_law_worth","_law_worth",["_law_form","_law_given"],2,aP Mz,625,cU,1038,452,3⟩
noncomputable abbrev Hi:Rw:=⟨"_law_due_answer","_law_due_answer",["_law_there","_law_deed","_law_word","_law_part","_law_line","_law_form","_law_every_here","_law_many"],2,aP KR,792,cU,1269,650,11⟩
noncomputable abbrev HI:Rw:=⟨"_law_step","_law_step",["_law_desk","_law_kept","_law_name","_law_deed","_law_there","_law_due","_law_refused","_law_answer"],4,aP Lo,813,cU,1303,683,11⟩
noncomputable abbrev oB:Rw:=⟨"law","law",["_law_script","_law_number","_law_names_here","_law_letters_here","_law_desks","_law_kept","_law_cells","_law_k","_law_xs","_law_name","_law_deed","_law_late"],1,aP VR,818,cU,1317,702,3⟩
noncomputable def rws:List Rw:=[Hx,wc,Dl,He,zw,Hm,yE,yM,AS,FQ,zq,Gf,BU,FZ,Gh,Ho,Cb,Bs,Bq,DQ,Fh,BN,GZ,FI,Dc,yt,Fo,C5,F9,Bf,Hu,Fl,GQ,Gs,DH,HZ,HH,zu,DV,Cv,HD,F2,DP,GD,GK,EY,Ds,C9,FC,Ci,Gz,GC,Fu,yK,yW,Fy,HQ,DU,Fd,Ei,Bg,ET,CY,BV,Aa,E3,Ac,Ek,AQ,Gm,Ex,De,HF,yl,HP,F1,zD,Hn,E7,Aq,uW,xV,yG,Et,Ay,CM,E1,GH,GI,Gv,Bo,yP,Em,Bb,Hi,HI,oB]
noncomputable def K (P:Params):Frag:=(3,⟨.type "dict",none,.dict #[en P "__name__" 165 (.str "law_onceform_k86_whole_desk" 1001),en P "__doc__" 166 .none,en P "__package__" 167 .none,en P "__loader__" 168 (.builtin "__main__.__loader__#opaque"),en P "__spec__" 169 .none,en P "__annotations__" 170 (.ref 6),en P "__builtins__" 171 (.ref 4),en P "__file__" 173 (.str "/claim/cut.py" 172),en P "__cached__" 174 .none,en P "doubled" 197 (.ref 21),en P "bits_of" 207 (.ref 28),en P "listed" 213 (.ref 33),en P "form_from" 221 (.ref 38),en P "made" 231 (.ref 45),en P "plus" 239 (.ref 52),en P "less" 247 (.ref 59),en P "times" 261 (.ref 66),en P "scaled" 267 (.ref 71),en P "worth" 273 (.ref 76),en P "unknowns" 283 (.ref 83),en P "is_form" 293 (.ref 90),en P "without" 301 (.ref 95),en P "freed" 307 (.ref 100),en P "fixed" 317 (.ref 107),en P "is_yes_no" 324 (.ref 114),en P "put_in" 334 (.ref 121),en P "unlike" 342 (.ref 128),en P "unlike_by" 348 (.ref 133),en P "first_set" 355 (.ref 140),en P "FormError" 375 (.ref 150),en P "NoStatement" 391 (.ref 163),en P "NoPull" 407 (.ref 175),en P "NoForm" 423 (.ref 187),en P "NoLine" 439 (.ref 199),en P "NoName" 455 (.ref 211),en P "NoYesNo" 471 (.ref 223),en P "TooMany" 487 (.ref 235),en P "gathered" 495 (.ref 242),en P "table_of" 501 (.ref 247),en P "paired_tables" 510 (.ref 254),en P "form_of" 516 (.ref 259),en P "whole_sum" 522 (.ref 264),en P "holders" 530 (.ref 271),en P "floor" 538 (.ref 276),en P "least" 544 (.ref 281),en P "paper_for" 553 (.ref 288),en P "heaviest" 559 (.ref 293),en P "bit_of_word" 569 (.ref 300),en P "form_of_word" 575 (.ref 305),en P "joined" 586 (.ref 312),en P "LETTERS" 590 (.str "abcdefghijklmnop" 589),en P "JOINING" 594 (.ref 313),en P "SPACED" 599 (.ref 314),en P "form_of_statement" 610 (.ref 321),en P "parts_of" 620 (.ref 328),en P "bits_in" 629 (.ref 335),en P "read" 639 (.ref 342),en P "tokens_of" 649 (.ref 349),en P "token_at" 658 (.ref 356),en P "part_from" 667 (.ref 363),en P "part_after" 677 (.ref 370),en P "with_nots" 685 (.ref 377),en P "with_joining" 693 (.ref 384),en P "FIGURES" 697 (.str "0123456789" 696),en P "form_shown" 703 (.ref 389),en P "shown_sign" 710 (.ref 396),en P "shown_tuple" 718 (.ref 403),en P "shown_set" 724 (.ref 408),en P "form_read" 730 (.ref 413),en P "read_tuple" 740 (.ref 420),en P "read_number" 750 (.ref 427),en P "read_set" 761 (.ref 434),en P "SMALL_LETTERS" 765 (.str "abcdefghijklmnopqrstuvwxyz" 764),en P "ASKED" 791 (.ref 435),en P "MADE" 814 (.ref 443),en P "line_read" 822 (.ref 455),en P "kept_read" 832 (.ref 462),en P "things_read" 838 (.ref 467),en P "thing_read" 846 (.ref 474),en P "is_of" 854 (.ref 481),en P "is_name" 860 (.ref 486),en P "is_number" 866 (.ref 491),en P "ways" 876 (.ref 498),en P "Desk" 946 (.ref 543),en P "form_of_text" 954 (.ref 554),en P "yes_no" 961 (.ref 561),en P "combined" 970 (.ref 568),en P "refuse_great" 976 (.ref 573),en P "told_of" 985 (.ref 580),en P "few_unknowns" 993 (.ref 587),en P "told_place" 1000 (.ref 594),en P "_law_at" 1010 (.ref 601),en P "_law_mixed" 1019 (.ref 608),en P "_law_stream" 1031 (.ref 615),en P "_law_made" 1037 (.ref 620),en P "_law_worth" 1043 (.ref 625),en P "_law_statement" 1055 (.ref 632),en P "_law_letters" 1066 (.ref 639),en P "_law_holds_at" 1076 (.ref 646),en P "_law_spread" 1082 (.ref 651),en P "_law_bracketed" 1089 (.ref 658),en P "_law_text" 1097 (.ref 665),en P "_law_letters_of" 1103 (.ref 670),en P "_law_shown" 1114 (.ref 677),en P "_law_names" 1120 (.ref 682),en P "_law_plus" 1126 (.ref 687),en P "_law_times" 1132 (.ref 692),en P "_law_parted" 1138 (.ref 697),en P "_law_fixed" 1149 (.ref 704),en P "_law_put" 1160 (.ref 711),en P "_law_yes_no" 1167 (.ref 718),en P "_law_stated" 1177 (.ref 725),en P "_law_says" 1183 (.ref 730),en P "_law_small" 1189 (.ref 735),en P "_law_told_form" 1195 (.ref 740),en P "_law_of_two" 1204 (.ref 747),en P "_law_due_form" 1215 (.ref 754),en P "_law_maker" 1236 (.ref 761),en P "_law_place" 1246 (.ref 768),en P "_law_every" 1256 (.ref 775),en P "_law_ways_due" 1262 (.ref 780),en P "_law_size" 1268 (.ref 785),en P "_law_due_answer" 1282 (.ref 792),en P "_law_question" 1295 (.ref 799),en P "_law_is_maker" 1302 (.ref 806),en P "_law_step" 1316 (.ref 813),en P "law" 1322 (.ref 818)] 127,#[]⟩) :: (rws.flatMap Rw.rows ++ [(149,⟨.type "dict",none,.dict #[en P "__module__" 365 (.str "onceform.errors" 356),en P "__firstlineno__" 369 (.int 72 368),en P "__static_attributes__" 370 (.ref 148),en P "__weakref__" 372 (.ref 151),en P "__doc__" 373 .none] 3,#[]⟩),(150,⟨.type "type",none,.cls ⟨"FormError",[.type "ValueError"],[.ref 150,.type "ValueError",.type "Exception",.type "BaseException",.type "object"],149,"FormError",true,[],[.ref 163,.ref 175,.ref 187,.ref 199,.ref 211,.ref 223,.ref 235],false,none,false⟩,#[some (.ref 141),none,some (.str "FormError" 358),some (.str "FormError" 366),some (.builtin "ValueError.__new__"),some (.bool true)]⟩),(162,⟨.type "dict",none,.dict #[en P "__module__" 383 (.str "onceform.errors" 356),en P "__firstlineno__" 387 (.int 74 386),en P "__static_attributes__" 388 (.ref 161),en P "__doc__" 389 .none] 2,#[]⟩),(163,⟨.type "type",none,.cls ⟨"NoStatement",[.ref 150],[.ref 163,.ref 150,.type "ValueError",.type "Exception",.type "BaseException",.type "object"],162,"NoStatement",true,[],[],false,none,false⟩,#[some (.ref 154),none,some (.str "NoStatement" 376),some (.str "NoStatement" 384),some (.builtin "ValueError.__new__"),some (.bool true)]⟩),(174,⟨.type "dict",none,.dict #[en P "__module__" 399 (.str "onceform.errors" 356),en P "__firstlineno__" 403 (.int 76 402),en P "__static_attributes__" 404 (.ref 173),en P "__doc__" 405 .none] 2,#[]⟩),(175,⟨.type "type",none,.cls ⟨"NoPull",[.ref 150],[.ref 175,.ref 150,.type "ValueError",.type "Exception",.type "BaseException",.type "object"],174,"NoPull",true,[],[],false,none,false⟩,#[some (.ref 166),none,some (.str "NoPull" 392),some (.str "NoPull" 400),some (.builtin "ValueError.__new__"),some (.bool true)]⟩),(186,⟨.type "dict",none,.dict #[en P "__module__" 415 (.str "onceform.errors" 356),en P "__firstlineno__" 419 (.int 78 418),en P "__static_attributes__" 420 (.ref 185),en P "__doc__" 421 .none] 2,#[]⟩),(187,⟨.type "type",none,.cls ⟨"NoForm",[.ref 150],[.ref 187,.ref 150,.type "ValueError",.type "Exception",.type "BaseException",.type "object"],186,"NoForm",true,[],[],false,none,false⟩,#[some (.ref 178),none,some (.str "NoForm" 408),some (.str "NoForm" 416),some (.builtin "ValueError.__new__"),some (.bool true)]⟩),(198,⟨.type "dict",none,.dict #[en P "__module__" 431 (.str "onceform.errors" 356),en P "__firstlineno__" 435 (.int 80 434),en P "__static_attributes__" 436 (.ref 197),en P "__doc__" 437 .none] 2,#[]⟩),(199,⟨.type "type",none,.cls ⟨"NoLine",[.ref 150],[.ref 199,.ref 150,.type "ValueError",.type "Exception",.type "BaseException",.type "object"],198,"NoLine",true,[],[],false,none,false⟩,#[some (.ref 190),none,some (.str "NoLine" 424),some (.str "NoLine" 432),some (.builtin "ValueError.__new__"),some (.bool true)]⟩),(210,⟨.type "dict",none,.dict #[en P "__module__" 447 (.str "onceform.errors" 356),en P "__firstlineno__" 451 (.int 82 450),en P "__static_attributes__" 452 (.ref 209),en P "__doc__" 453 .none] 2,#[]⟩),(211,⟨.type "type",none,.cls ⟨"NoName",[.ref 150],[.ref 211,.ref 150,.type "ValueError",.type "Exception",.type "BaseException",.type "object"],210,"NoName",true,[],[],false,none,false⟩,#[some (.ref 202),none,some (.str "NoName" 440),some (.str "NoName" 448),some (.builtin "ValueError.__new__"),some (.bool true)]⟩),(222,⟨.type "dict",none,.dict #[en P "__module__" 463 (.str "onceform.errors" 356),en P "__firstlineno__" 467 (.int 84 466),en P "__static_attributes__" 468 (.ref 221),en P "__doc__" 469 .none] 2,#[]⟩),(223,⟨.type "type",none,.cls ⟨"NoYesNo",[.ref 150],[.ref 223,.ref 150,.type "ValueError",.type "Exception",.type "BaseException",.type "object"],222,"NoYesNo",true,[],[],false,none,false⟩,#[some (.ref 214),none,some (.str "NoYesNo" 456),some (.str "NoYesNo" 464),some (.builtin "ValueError.__new__"),some (.bool true)]⟩),(234,⟨.type "dict",none,.dict #[en P "__module__" 479 (.str "onceform.errors" 356),en P "__firstlineno__" 483 (.int 86 482),en P "__static_attributes__" 484 (.ref 233),en P "__doc__" 485 .none] 2,#[]⟩),(235,⟨.type "type",none,.cls ⟨"TooMany",[.ref 150],[.ref 235,.ref 150,.type "ValueError",.type "Exception",.type "BaseException",.type "object"],234,"TooMany",true,[],[],false,none,false⟩,#[some (.ref 226),none,some (.str "TooMany" 472),some (.str "TooMany" 480),some (.builtin "ValueError.__new__"),some (.bool true)]⟩),(313,⟨.type "tuple",none,.seq #[.str "and" 591,.str "or" 592,.str "xor" 593] 0,#[]⟩),(314,⟨.type "tuple",none,.seq #[.str "not " 595,.str " and " 596,.str " or " 597,.str " xor " 598] 0,#[]⟩),(435,⟨.type "dict",none,.dict #[en P "show" 766 (.ref 436),en P "worth" 768 (.ref 437),en P "alike" 771 (.ref 438),en P "rest" 774 (.ref 439),en P "least" 778 (.ref 440),en P "ways" 780 (.ref 441),en P "unknowns" 782 (.ref 442)] 7,#[]⟩),(436,⟨.type "tuple",none,.seq #[.str "name" 767] 0,#[]⟩),(437,⟨.type "tuple",none,.seq #[.str "name" 769,.str "number" 770] 0,#[]⟩),(438,⟨.type "tuple",none,.seq #[.str "name" 772,.str "name" 773] 0,#[]⟩),(439,⟨.type "tuple",none,.seq #[.str "name" 775,.str "name" 776,.str "divisor" 777] 0,#[]⟩),(440,⟨.type "tuple",none,.seq #[.str "name" 779] 0,#[]⟩),(441,⟨.type "tuple",none,.seq #[.str "name" 781] 0,#[]⟩),(442,⟨.type "tuple",none,.seq #[.str "name" 783] 0,#[]⟩),(443,⟨.type "dict",none,.dict #[en P "plus" 792 (.ref 444),en P "less" 795 (.ref 445),en P "times" 798 (.ref 446),en P "fixed" 801 (.ref 447),en P "put" 805 (.ref 448)] 5,#[]⟩),(444,⟨.type "tuple",none,.seq #[.str "name" 793,.str "name" 794] 0,#[]⟩),(445,⟨.type "tuple",none,.seq #[.str "name" 796,.str "name" 797] 0,#[]⟩),(446,⟨.type "tuple",none,.seq #[.str "name" 799,.str "name" 800] 0,#[]⟩),(447,⟨.type "tuple",none,.seq #[.str "name" 802,.str "letter" 803,.str "bit" 804] 0,#[]⟩),(448,⟨.type "tuple",none,.seq #[.str "name" 806,.str "letter" 807,.str "name" 808] 0,#[]⟩),(542,⟨.type "dict",none,.dict #[en P "__module__" 886 (.str "onceform.desk" 877),en P "__firstlineno__" 890 (.int 348 889),en P "__init__" 897 (.ref 512),en P "say" 909 (.ref 519),en P "kept" 917 (.ref 526),en P "form_for" 927 (.ref 533),en P "answer" 937 (.ref 540),en P "__static_attributes__" 939 (.ref 541),en P "__dict__" 941 (.ref 544),en P "__weakref__" 943 (.ref 545),en P "__doc__" 944 .none] 4,#[]⟩),(543,⟨.type "type",none,.cls ⟨"Desk",[.type "object"],[.ref 543,.type "object"],542,"Desk",true,[],[],false,none,false⟩,#[none,none,some (.str "Desk" 879),some (.str "Desk" 887),some (.builtin "object.__new__"),some (.bool true)]⟩)])
noncomputable def as:List Addr:=3::(rws.flatMap (λr=>[r.a-1,r.a])++[149,150,162,163,174,175,186,187,198,199,210,211,222,223,234,235,313,314,435,436,437,438,439,440,441,442,443,444,445,446,447,448,542,543])
noncomputable def lo:List Str := "doubled" :: "bits_of" :: "listed" :: "form_from" :: "made" :: "plus" :: "less" :: "times" :: "scaled" :: "worth" :: "unknowns" :: "is_form" :: "without" :: "freed" :: "fixed" :: "is_yes_no" :: "put_in" :: "unlike" :: "unlike_by" :: "first_set" :: "FormError" :: "NoStatement" :: "NoPull" :: "NoForm" :: "NoLine" :: "NoName" :: "NoYesNo" :: "TooMany" :: "gathered" :: "table_of" :: "paired_tables" :: "form_of" :: "whole_sum" :: "holders" :: "floor" :: "least" :: "paper_for" :: "heaviest" :: "bit_of_word" :: "form_of_word" :: "joined" :: "LETTERS" :: "JOINING" :: "SPACED" :: "form_of_statement" :: "parts_of" :: "bits_in" :: "read" :: "tokens_of" :: "token_at" :: "part_from" :: "part_after" :: "with_nots" :: "with_joining" :: "FIGURES" :: "form_shown" :: "shown_sign" :: "shown_tuple" :: "shown_set" :: "form_read" :: "read_tuple" :: "read_number" :: "read_set" :: "SMALL_LETTERS" :: "ASKED" :: "MADE" :: "line_read" :: "kept_read" :: "things_read" :: "thing_read" :: "is_of" :: "is_name" :: "is_number" :: "ways" :: "Desk" :: "form_of_text" :: "yes_no" :: "combined" :: "refuse_great" :: "told_of" :: "few_unknowns" :: "told_place" :: "_law_at" :: "_law_mixed" :: "_law_stream" :: "_law_made" :: "_law_worth" :: "_law_statement" :: "_law_letters" :: "_law_holds_at" :: "_law_spread" :: "_law_bracketed" :: "_law_text" :: "_law_letters_of" :: "_law_shown" :: "_law_names" :: "_law_plus" :: "_law_times" :: "_law_parted" :: "_law_fixed" :: "_law_put" :: "_law_yes_no" :: "_law_stated" :: "_law_says" :: "_law_small" :: "_law_told_form" :: "_law_of_two" :: "_law_due_form" :: "_law_maker" :: "_law_place" :: "_law_every" :: "_law_ways_due" :: "_law_size" :: "_law_due_answer" :: "_law_question" :: "_law_is_maker" :: "_law_step" :: []
noncomputable abbrev Pg:Program:=PySem.Challenge.rw_onceform_k86_whole_desk.row.toRowW.prog
noncomputable abbrev Q:Program:=PySem.W.view Pg [130]
def SE(P:Params):as=(K P).map (·.1):=by kernel_rfl
noncomputable abbrev Hk:PySem.W.Hook:=PySem.W.kHook K as SE
noncomputable abbrev Xq:Shared->Bool:=λs=>PySem.W.xlAt Q [] s&&PySem.W.recOk (PySem.W.RowW.records PySem.Challenge.rw_onceform_k86_whole_desk.row.toRowW) s
open PySem.W PyProof.Rows in
abbrev NZ(w:World):Prop:=(λos=>(OH.vf Pg w 11 (some (.ref 6)) 11046 (OH.Gb w.params os) (topStub Pg)).map λs =>
  (staticsOk (importedModules Pg.main.body) (boot_heap w.params) s.abs.heap&&namesBound Pg s.abs.heap&&gensDone s.abs&&laidKept (boot_heap w.params) s.abs.heap,PySem.W.Fast.tw4187177175401517315 Q lo (importedModules Pg.main.body) Xq true s.abs,Hk.obs s.abs))=λ_=>some (true,openGood Q lo,Hk.val w)
set_option maxHeartbeats 0 in
def zbK(w:World):NZ (w.withFollow "special-get-raises" false):=by kernel_rfl
set_option maxHeartbeats 0 in
def ZD(w:World):NZ (w.withFollow "special-get-raises" true):=by kernel_rfl
set_option maxHeartbeats 0 in
def left:PySem.W.LeftO Pg Q lo Xq Hk.obs Hk.val 11046:=OH.left (by kernel_rfl) (by decide) (λs=>by kernel_rfl) (PySem.W.byRow2 "special-get-raises" zbK ZD)
set_option maxHeartbeats 0 in
def F8:PySem.Challenge.rw_onceform_k86_whole_desk.wellSaid=true:=(congrFun PySem.W.Fast.te9446332074065402090 _).trans (by kernel_rfl)
end My
namespace L2
open PySem PySem.Spec PyProof.Rows
abbrev bJ:=Sum Int Str
noncomputable def uL:bJ->Value->Bool
 |.inl k,v=>Value.isInt k v
 |.inr x,v=>Value.isStrOf x v
noncomputable def WH(w:World):bJ->Int
 |.inl k=>hashInt k
 |.inr x=>hashStr w x
theorem oN:∀{k:bJ}{v:Value},uL k v=true->(∃i t,k=Sum.inl i/\v=Value.int i t)\/(∃x t,k=Sum.inr x/\v=Value.str x t)
 |.inl i,v,h=>by
  obtain⟨t,e⟩:=Value.isInt_shape (k:=i) (v:=v) h;exact .inl ⟨i,t,rfl,e⟩
 |.inr x,v,h=>by
  obtain⟨t,e⟩:=Value.isStrOf_shape (x:=x) (v:=v) h;exact .inr ⟨x,t,rfl,e⟩
def zcd(i:Int)(t:Tok):uL (.inl i) (.int i t)=true:=by simp[uL,Value.isInt]
def Y9(x:Str)(t:Tok):uL (.inr x) (.str x t)=true:=by simp[uL,Value.isStrOf]
def SV(a b:Int):decide ((Sum.inl a:bJ)=Sum.inl b)=(a == b):=by
 by_cases e:a=b
 ·subst e;simp
 ·have h:¬(Sum.inl a:bJ)=Sum.inl b:=λq=>e (Sum.inl.inj q)
  rw[bj h];exact (rD.mpr e).symm
def zaD(a b:Str):decide ((Sum.inr a:bJ)=Sum.inr b)=decide (a=b):=by
 by_cases e:a=b
 ·subst e;simp
 ·have h:¬(Sum.inr a:bJ)=Sum.inr b:=λq=>e (BD q)
  rw[bj h,bj e]
def Uo(a:Int)(b:Str):decide ((Sum.inl a:bJ)=Sum.inr b)=false:=bj (λq=>nomatch q)
def XM(a:Str)(b:Int):decide ((Sum.inr a:bJ)=Sum.inl b)=false:=bj (λq=>nomatch q)
noncomputable def fO(prog:Program)(w:World):PySem.KeyKind prog w bJ where
 is:=uL
 hash:=WH w
 inj:=λv a b ha hb=>by
  rcases oN ha with ⟨i,t,rfl,rfl⟩|⟨x,t,rfl,rfl⟩
  ·rcases oN hb with ⟨j,u,rfl,e⟩|⟨y,u,rfl,e⟩
   ·injection e with e1 _;rw[e1]
   ·exact nomatch e
  ·rcases oN hb with ⟨j,u,rfl,e⟩|⟨y,u,rfl,e⟩
   ·exact nomatch e
   ·injection e with e1 _;rw[e1]
 byValue:=λk v h=>by
  rcases oN h with ⟨i,t,rfl,rfl⟩|⟨x,t,rfl,rfl⟩<;>rfl
 pyHash:=λhv h=>by
  rcases oN hv with ⟨i,t,rfl,rfl⟩|⟨x,t,rfl,rfl⟩
  ·exact wpAny_pyHash_int h
  ·exact wpAny_pyHash_str h
 eqBool:=λhu hv h=>by
  rcases oN hu with ⟨i,t,rfl,rfl⟩|⟨x,t,rfl,rfl⟩
  ·rcases oN hv with ⟨j,u,rfl,rfl⟩|⟨y,u,rfl,rfl⟩
   ·rw[SV]at h;exact wpAny_eqBool_int h
   ·rw[Uo]at h;exact SeqAt.EqAt.int_str i t y u _ _ _ _ h
  ·rcases oN hv with ⟨j,u,rfl,rfl⟩|⟨y,u,rfl,rfl⟩
   ·rw[XM]at h;exact SeqAt.EqAt.str_int x t j u _ _ _ _ h
   ·rw[zaD]at h;exact wpAny_eqBool_str h
 «strs» := λk x t v h=>by
  rcases oN h with ⟨i,u,rfl,e⟩|⟨y,u,rfl,e⟩
  ·exact nomatch e
  ·injection e with e1 _
   subst e1;cases v<;>rfl
def Vn(prog:Program)(w:World)(i:Int)(t:Tok):(fO prog w).is (.inl i) (.int i t)=true:=zcd i t
def sr(prog:Program)(w:World)(x:Str)(t:Tok):(fO prog w).is (.inr x) (.str x t)=true:=Y9 x t
inductive V where
 |non|bl (b:Bool)|int (i:Int)|str (x:Str)|byt (b:Array UInt8)|flt (b:UInt64)|ref (a:Addr)|ty (n:String)
 deriving DecidableEq
def RelV:V->Value->Prop
 |.non,u=>u=Value.none
 |.bl b,u=>u=Value.bool b
 |.int i,u=>∃t,u=Value.int i t
 |.str x,u=>∃t,u=Value.str x t
 |.byt b,u=>∃t,u=Value.bytes b t
 |.flt b,u=>∃t,u=Value.float b t
 |.ref a,u=>u=Value.ref a
 |.ty n,u=>u=Value.type n
abbrev Vals:List V->List Value->Prop:=Paired RelV
def Vals.length(r:Vals xs us):xs.length=us.length:=er r
theorem Vals.get:∀{xs:List V}{us:List Value}{i:Nat}{x:V},Vals xs us->xs[i]?=some x->∃u,us[i]?=some u/\RelV x u
 |_,_,_,_,.nil,e=>by simp at e
 |_,_,0,_,.cons r _,e=>by simp at e;subst e;nomatch _,rfl,r
 |_,_,i+1,x,.cons _ t,e=>by
  obtain⟨u,h1,h2⟩:=Vals.get (i:=i) (x:=x) t (by simpa using e);nomatch u,by simpa using h1,h2
theorem Vals.set(r:RelV x u):∀{xs:List V}{us:List Value} (i:Nat),Vals xs us->Vals (xs.set i x) (us.set i u)
 |_,_,_,.nil=>.nil
 |_,_,0,.cons _ t=>.cons r t
 |_,_,i+1,.cons q t=>.cons q (Vals.set r i t)
theorem Vals.append:∀{xs ys:List V}{us ws:List Value},Vals xs us->Vals ys ws->Vals (xs++ys) (us++ws)
 |_,_,_,_,.nil,s=>s
 |_,_,_,_,.cons r t,s=>.cons r (Vals.append t s)
theorem Vals.take:∀{xs:List V}{us:List Value} (n:Nat),Vals xs us->Vals (xs.take n) (us.take n)
 |_,_,0,_=>.nil
 |_,_,_+1,.nil=>.nil
 |_,_,n+1,.cons r t=>.cons r (Vals.take n t)
theorem Vals.drop:∀{xs:List V}{us:List Value} (n:Nat),Vals xs us->Vals (xs.drop n) (us.drop n)
 |_,_,0,r=>r
 |_,_,_+1,.nil=>.nil
 |_,_,n+1,.cons _ t=>Vals.drop n t
def gY:Option V->Option Value->Prop
 |some v,some u=>RelV v u
 |none,none=>True
 |_,_=>False
def KV{κ:Type}:List (κ×V)->List (κ×Value)->Prop:=Paired λ(p:κ×V) (q:κ×Value)=>p.1=q.1/\RelV p.2 q.2
noncomputable def kV:bJ->V
 |.inl i=>.int i
 |.inr x=>.str x
inductive HO where
 |lst (xs:List V)
 |tup (xs:List V)
 |dK (kvs:List (bJ×V))|dT (kvs:List (List bJ×V))
 |set (S:Int->Bool) (n:Nat)
 |ins (C dx:Addr) (fs:List (Str×V))
 |own (x:Addr)
 |xd (fs:List (Str×V))
 |met (f x:Addr)
 |rng (lo hi:Int)
 |frz (o:Obj) (u:HO)
 |tbl (ps:Array Value)
 |ext (φ:Heap->Prop)
abbrev Hp:=Addr->Option HO
noncomputable def upd(H:Hp)(a:Addr)(o:HO):Hp:=λb=>if b=a then some o else H b
def aq:upd H a o a=some o:=by unfold upd;rw[aB rfl]
def aJ(h:b≠a):upd H a o b=H b:=by unfold upd;rw[ax h]
def Al:upd (upd H a o) a u=upd H a u:=by
 funext b;unfold upd;split<;>rfl
def QB{H:Hp}{a b:Addr}{o u:HO}(h:H a=some o)(h':H b=some u)(d:o≠u):a≠b:=by
 intro e;subst e;rw[h]at h';exact d (dN h')
def cP{H:Hp}{a b:Addr}{o:HO}(h:H a=some o)(h':H b=none):a≠b:=by
 intro e;subst e;rw[h]at h';cases h'
section
variable(P:Program)(w:World)
def dQ(H:Hp)(h:Heap)(a:Addr):HO->Prop
 |.lst xs=>xs.length<=sizeLine/\∃ah n,Vals xs ah/\h.get? a=some {cls:=.type "list",data:=.seq ah.toArray n}
 |.tup xs=>xs.length<=sizeLine/\∃ah,Vals xs ah/\IsTup h a ah.toArray
 |.dK kvs=>kvs.length<=sizeLine/\(a == sysModules)=false/\∃vs,KV kvs vs/\h.DictOf (fO P w) a vs
 |.dT kvs=>kvs.length<=sizeLine/\(a == sysModules)=false/\∃xs:List (List bJ×Addr×Value),
   Paired (λ(p:List bJ×V) (q:List bJ×Addr×Value)=>p.1=q.1/\H q.2.1=some (.tup (p.1.map kV))/\RelV p.2 q.2.2) kvs xs /\
   ∃o es ep,h.get? a=some o/\o.ExactDict/\o.data=.dict es ep/\es.toList=xs.map (entryOfKey (tupleKind (fO P w)))/\(xs.map (·.1)).Nodup
 |.set S n=>h.SetOf (intKind P w) a S n
 |.ins C dx fs=>H dx=some (.own a)/\fs.length<=1000/\dx≠a/\h.get? a=some (PySem.W.instObj C dx) /\
   ∃mA,h.Ns1 dx mA/\(∀f,gY (fs.lookup f) (mA f))/\PySem.Within mA (fs.map (·.1))
 |.own _=>∃o,h.get? a=some o
 |.xd fs=>∃mA,h.Ns1 a mA/\∀f,gY (fs.lookup f) (mA f)
 |.rng lo hi=>∃t u v,h.get? a=some {cls:=.type "range",data:=.fields #[.int lo t,.int hi u,.int 1 v]}
 |.frz o u=>h.get? a=some o/\dQ H h a u
 |.tbl ps=>h.get? a=some {cls:=.none,data:=.fields ps}
 |.met f x=>h.get? a=some (PySem.W.methodObj (.ref f) (.ref x))
 |.ext φ=>φ h/\(∃o,h.get? a=some o)/\∀h1 h2:Heap,φ h1->(∀o,h1.get? a=some o->h2.get? a=some o)->φ h2
def cW(H:Hp)(h:Heap):Prop:=∀a o,H a=some o->dQ P w H h a o
end
section
variable{P:Program}{w:World}{H H':Hp}{h h':Heap}{a:Addr}{o:HO}
def dQ.lt(x:dQ P w H h a o):a<h.objs.size:=by
 cases o with
 |lst xs=>obtain⟨_,_,_,_,e⟩:=x;exact bB e
 |tup xs=>obtain⟨_,_,_,p⟩:=x;exact p.lt
 |dK kvs=>obtain⟨_,_,_,_,o,_,_,e,_⟩:=x;exact bB e
 |dT kvs=>obtain⟨_,_,_,_,o,_,_,e,_⟩:=x;exact bB e
 |set S n=>obtain⟨o,_,_,_,e,_⟩:=x;exact bB e
 |ins C dx fs=>obtain⟨_,_,_,e,_⟩:=x;exact bB e
 |own y=>obtain⟨_,e⟩:=x;exact bB e
 |xd fs=>obtain⟨_,⟨_,_,_,e,_⟩,_⟩:=x;exact bB e
 |rng lo hi=>obtain⟨_,_,_,e⟩:=x;exact bB e
 |frz ob u=>obtain⟨e,_⟩:=x;exact bB e
 |tbl ps=>exact bB (show h.get? a=some _ from x)
 |met f y=>exact bB (show h.get? a=some _ from x)
 |ext φ=>obtain⟨_,⟨_,e⟩,_⟩:=x;exact bB e
theorem Paired.mapP:∀{l₁:List α}{l₂:List β},Paired F l₁ l₂->(∀a b,F a b->G a b)->Paired G l₁ l₂
 |_,_,.nil,_=>.nil
 |_,_,.cons r t,f=>.cons (f _ _ r) (Paired.mapP t f)
def dQ.stay(x:dQ P w H h a o)(k:∀b u,(b=a\/H b=some (.own a))->h.get? b=some u->h'.get? b=some u)
  (ho:∀b,H b=some (.own a)->H' b=some (.own a)) (ht:∀b xs,H b=some (.tup xs)->H' b=some (.tup xs)):dQ P w H' h' a o:=by
 induction o with
 |lst xs=>obtain⟨z,ah,n,r,e⟩:=x;nomatch z,ah,n,r,k _ _ (.inl rfl) e
 |tup xs=>obtain⟨z,ah,r,ob,e,c⟩:=x;nomatch z,ah,r,ob,k _ _ (.inl rfl) e,c
 |dK kvs=>obtain⟨z,y,vs,r,ob,es,ep,e,c⟩:=x;nomatch z,y,vs,r,ob,es,ep,k _ _ (.inl rfl) e,c
 |dT kvs =>
  obtain⟨z,y,xs,r,ob,es,ep,e,c⟩:=x;nomatch z,y,xs,Paired.mapP r λp q z=>⟨z.1,ht _ _ z.2.1,z.2.2⟩,ob,es,ep,k _ _ (.inl rfl) e,c
 |set S n=>obtain⟨ob,es,ep,t,e,c⟩:=x;nomatch ob,es,ep,t,k _ _ (.inl rfl) e,c
 |ins C dx fs =>
  obtain⟨d,z,ne,e,mA,⟨od,es,ep,e2,c⟩,r⟩:=x;nomatch ho _ d,z,ne,k _ _ (.inl rfl) e,mA,⟨od,es,ep,k _ _ (.inr d) e2,c⟩,r
 |own y=>obtain⟨ob,e⟩:=x;nomatch ob,k _ _ (.inl rfl) e
 |xd fs=>obtain⟨mA,⟨od,es,ep,e,c⟩,r⟩:=x;nomatch mA,⟨od,es,ep,k _ _ (.inl rfl) e,c⟩,r
 |rng lo hi=>obtain⟨t,u,v,e⟩:=x;nomatch t,u,v,k _ _ (.inl rfl) e
 |frz ob u ih=>obtain⟨e,q⟩:=x;nomatch k _ _ (.inl rfl) e,ih q
 |tbl ps =>
  have e:h.get? a=some {cls:=.none,data:=.fields ps}:=x;show h'.get? a=some {cls:=.none,data:=.fields ps};exact k a _ (.inl rfl) e
 |met f y =>
  have e:h.get? a=some (PySem.W.methodObj (.ref f) (.ref y)):=x;show h'.get? a=some (PySem.W.methodObj (.ref f) (.ref y));exact k a _ (.inl rfl) e
 |ext φ=>obtain⟨p,⟨o,e⟩,st⟩:=x;nomatch st _ _ p λo q=>k _ _ (.inl rfl) q,⟨o,k _ _ (.inl rfl) e⟩,st
def cW.lt(x:cW P w H h)(e:H a=some o):a<h.objs.size:=(x a o e).lt
def cW.fresh(x:cW P w H h)(e:h.objs.size<=a):H a=none:=by
 cases q:H a with
 |none=>rfl
 |some u=>exact absurd (dH (x.lt q) e) (oH _)
def cW.kept(x:cW P w H h)(k:∀b u,h.get? b=some u->h'.get? b=some u):cW P w H h':=λa o e =>
 (x a o e).stay (λb u _ q=>k b u q) (λ_ q=>q) λ_ _ q=>q
def cW.laid(x:cW P w H h)(k:∀b u,h.get? b=some u->h'.get? b=some u)(hp:h.objs.size<=a)(new:dQ P w (upd H a o) h' a o):cW P w (upd H a o) h':=λb u e=>by
 have hn:=x.fresh hp;by_cases hb:b=a
 ·subst hb;rw[aq]at e;cases e;exact new
 ·rw[aJ hb]at e;exact (x b u e).stay (λc v _ q=>k c v q) (λc q=>by rw[aJ (cP q hn)];exact q) λc xs q=>by rw[aJ (cP q hn)];exact q
end
def Rd(H:Hp)(a:Addr)(u:HO):Prop:=H a=some u\/∃o,H a=some (.frz o u)
def Rd.ok(r:Rd H a u)(x:cW P w H h):dQ P w H h a u:=by
 rcases r with r|⟨o,r⟩
 ·exact x a u r
 ·obtain⟨_,q⟩:=x a _ r;exact q
def va:Option HO->Prop
 |some (.lst _)=>True
 |some (.dK _)=>True
 |some (.dT _)=>True
 |some (.set _ _)=>True
 |some (.ins _ _ _)=>True
 |some (.ext _)=>True
 |_=>False
section
variable{P:Program}{w:World}{H:Hp}{h h':Heap}{x e:Addr}{o':HO}
def cW.write(ok:cW P w H h)(mu:va (H x))(he:e=x\/H e=some (.own x))(k:∀b u,b≠e->h.get? b=some u->h'.get? b=some u)(uH:∃u,h'.get? e=some u)
  (new:dQ P w (upd H x o') h' x o'):cW P w (upd H x o') h':=λb u q=>by
 have Qx:∀c y,H c=some (.own y)->c≠x:=λc y r z=>by subst z;rw[r]at mu;exact mu
 have ntup:∀c xs,H c=some (.tup xs)->c≠x:=λc xs r z=>by subst z;rw[r]at mu;exact mu
 by_cases hb:b=x
 ·subst hb;rw[aq]at q;cases q;exact new
 ·rw[aJ hb]at q;by_cases hbe:b=e
  ·have q':H b=some (.own x):=by
    rcases he with z|z
    ·exact absurd (hbe.trans z) hb
    ·rw[hbe];exact z
   rw[q]at q';cases q';obtain⟨v,hv⟩:=uH;exact⟨v,by rw[hbe];exact hv⟩
  ·refine (ok b u q).stay (λc v hc r=>k c v ?_ r) (λc r=>by rw[aJ (Qx c b r)];exact r) λc xs r=>by rw[aJ (ntup c xs r)];exact r
   rcases hc with rfl|hc
   ·exact hbe
   ·rintro rfl;rcases he with z|z
    ·exact Qx c b hc z
    ·rw[hc]at z;cases z;exact hb rfl
end
structure Un(fs ex:List Addr)(H H':Hp)(h h':Heap):Prop where
 keep:∀b o,h.get? b=some o->H b=none->b∉fs->b∉ex->h'.get? b=some o
 slot:∀b o,h.get? b=some o->H b=none->b∈fs->b∉ex->∃sl,h'.get? b=some {o with slots:=sl}
 free:∀b o,h.get? b=some o->H b=none->b∉ex->H' b=none
 there:∀b o,h.get? b=some o->b∉ex->∃o',h'.get? b=some o'
 tups:∀b xs,H b=some (.tup xs)->H' b=some (.tup xs)
 frzs:∀b o u,H b=some (.frz o u)->H' b=some (.frz o u)
 tbls:∀b ps,H b=some (.tbl ps)->∃more,H' b=some (.tbl (ps++more))
section
variable{fs UP ex ex':List Addr}{H H1 H2:Hp}{h h1 h2 h':Heap}{a x e:Addr}{o:HO}
def Un.any(u:Un fs ex H H1 h h1)(q:h.get? b=some ob)(n:H b=none)(hx:b∉ex):∃sl,h1.get? b=some {ob with slots:=sl}:=by
 by_cases hb:b∈fs
 ·exact u.slot b ob q n hb hx
 ·nomatch ob.slots,u.keep b ob q n hb hx
def Un.kept(k:∀b u,h.get? b=some u->h'.get? b=some u):Un fs ex H H h h' :=
 ⟨λb ob q _ _ _=>k b ob q,λb ob q _ _ _=>⟨ob.slots,k b ob q⟩,λ_ _ _ n _=>n,λb ob q _=>⟨ob,k b ob q⟩,λ_ _ q=>q,λ_ _ _ q=>q,λ_ ps q=>⟨#[],by rw[q];simp⟩⟩
def Un.refl:Un fs ex H H h h:=Un.kept λ_ _ q=>q
def Un.laid(k:∀b u,h.get? b=some u->h'.get? b=some u)(hp:h.objs.size<=a)(hn:H a=none):Un fs ex H (upd H a o) h h' where
 keep:=λb u q _ _ _=>k b u q
 slot:=λb u q _ _ _=>⟨u.slots,k b u q⟩
 free:=λb u q n _=>by rw[aJ (d5 (dH (bB q) hp))];exact n
 there:=λb u q _=>⟨u,k b u q⟩
 tups:=λb xs q=>by rw[aJ (cP q hn)];exact q
 frzs:=λb u xs q=>by rw[aJ (cP q hn)];exact q
 tbls:=λb ps q=>⟨#[],by rw[aJ (cP q hn),q];simp⟩
def Un.write(mu:va (H x))(he:e=x\/H e=some (.own x))(k:∀b u,b≠e->h.get? b=some u->h'.get? b=some u)(uH:∃u,h'.get? e=some u):Un fs ex H (upd H x o) h h':=by
 have hx:∀b,H b=none->b≠x:=λb n z=>by subst z;rw[n]at mu;exact mu
 have hb:∀b,H b=none->b≠e:=λb n z=>by
  subst z;rcases he with r|r
  ·exact hx b n r
  ·rw[n]at r;cases r
 have hm:∀b u,H b=some u->¬va (some u)->b≠x:=λb u q nm z=>by subst z;rw[q]at mu;exact nm mu
 refine⟨λb u q n _ _=>k b u (hb b n) q,λb u q n _ _=>⟨u.slots,k b u (hb b n) q⟩,λb u q n _=>by rw[aJ (hx b n)];exact n,λb u q _=>?_,
  λb xs q=>by rw[aJ (hm b _ q λz=>z)];exact q,λb u xs q=>by rw[aJ (hm b _ q λz=>z)];exact q,λb ps q=>⟨#[],by rw[aJ (hm b _ q λz=>z),q];simp⟩⟩
 by_cases hbe:b=e
 ·subst hbe;exact uH
 ·nomatch u,k b u hbe q
end
noncomputable def tP(h:Heap)(H:Hp):List Addr:=(List.range h.objs.size).filter λa=>(H a).isSome
noncomputable def oo(h:Heap)(H:Hp):Heap:=PySem.W.hideAll h (tP h H)
def zbH(h:Heap)(H:Hp):(oo h H).objs.size=h.objs.size:=PySem.W.hideAll_size _ _
def X6(e:h.get? b=some o)(n:H b=none):(oo h H).get? b=some o :=
 DK _ e λhm=>by
  have q:(H b).isSome=true:=(jd.mp hm).2;rw[n]at q;simp at q
def SH(e:(oo h H).get? b=some o):h.get? b=some o/\H b=none:=by
 have e':h.get? b=some o:=FF (tP h H) e;exists e',?_;cases q:H b with
 |none=>rfl
 |some x =>
  have hm:b∈tP h H:=jd.mpr ⟨pL.mpr (bB e'),by simp[q]⟩;have z:(oo h H).get? b=none:=Ft (tP h H) hm;rw[z]at e;cases e
structure Mod(K:Frag)(mg:Str->Option Value)(base:Heap):Prop where
 kin:K.In base
 glob:base.Ns mainGlobals mg
 blt:∃mb,base.Ns builtinsNs mb/\∀x:Str,x ≠ "__name__" -> mb x=bootBuiltins x
 nolimit:base.NoLimit
structure Cx where
 prog:Program
 w:World
 K:Frag
 mg:Str->Option Value
 base:Heap
 A:Around
 N:List Str
 s₀:Shared
 H₀:Hp
 env:Env
 outer:List Env
 stack:List Env
 ex:List Addr
 fn:Str->Bool
 calm:Bool
 pn:List (Addr×Obj)
 xe:Value->Shared->Prop
noncomputable def cx(l:List Env):List Addr:=l.filterMap (·.frame)
noncomputable abbrev Cx.fs(X:Cx):List Addr:=cx X.outer
def wJ(sc:Scope)(x:Str):Prop:=sc.names.lookup x=some .local\/sc.names.lookup x=some .cell\/sc.names.lookup x=some .free
def rp(sc:Scope)(x:Str):Prop:=sc.names.lookup x=some .local\/sc.names.lookup x=some .cell
def IQ(env:Env)(h:Heap)(m:Str->Option Value)(x:Str)(u:Value):Prop :=
 (env.kindOf x=some .local/\m x=some u)\/((env.kindOf x=some .cell\/env.kindOf x=some .free)/\∃c,env.cells.lookup x=some c/\h.IsCell c (some u))
structure Cx.Ok(X:Cx):Prop where
 mod:Mod X.K X.mg X.base
 kind:X.env.scope.kind=.function
 glob:X.env.globals=mainGlobals
 blt:X.env.builtins=builtinsNs
 above:X.s₀.heap.objs.size<=X.env.locals
 inj:∀x y c,X.env.cells.lookup x=some c->X.env.cells.lookup y=some c->x=y
 has:∀x,(X.env.kindOf x=some .cell\/X.env.kindOf x=some .free)->∃c,X.env.cells.lookup x=some c
 cab:∀x c,X.fn x=true->X.env.cells.lookup x=some c->X.s₀.heap.objs.size<=c
 hd:X.calm=true->X.A.handled=none
 frames:X.A.frames=some X.stack
 stk:X.stack=X.outer\/(X.stack=X.env::X.outer/\X.env.frame=some X.env.locals)
 exf:∀b∈X.ex,b≠X.env.locals/\∀x c,X.env.cells.lookup x=some c->c≠b
 bs:∀b o,X.base.get? b=some o->X.s₀.heap.get? b=some o/\X.H₀ b=none
 bsz:X.base.objs.size<=X.s₀.heap.objs.size
 noex:∀b o,X.base.get? b=some o->b∉X.ex
 exfs:∀b∈X.ex,b∉X.fs
 funs:X.s₀.heap.FunFrames X.base X.outer
 frf:∀b∈X.fs,X.H₀ b=none
structure Inv(X:Cx)(ae:List (Addr×Obj))(σ:List (Option V))(H:Hp)(s:Shared):Prop where
 ok:X.Ok
 os:s.os=X.s₀.os
 bare:AllBare s.gens
 base:Un X.fs X.ex X.H₀ H X.s₀.heap s.heap
 loc:∃m,s.heap.Ns X.env.locals m/\∀(i:Nat) (x:Str) (v:V),X.N[i]?=some x->σ[i]?=some (some v)->wJ X.env.scope x->∃u,RelV v u/\IQ X.env s.heap m x u
 cell:∀x c,X.env.cells.lookup x=some c->∃v,s.heap.IsCell c v
 free:H X.env.locals=none
 freeC:∀x c,X.env.cells.lookup x=some c->H c=none
 pin:∀p∈X.pn++ae,s.heap.get? p.1=some p.2/\H p.1=none/\p.1≠X.env.locals/\p.1∉X.fs/\∀v,p.2.data≠.cell v
 hok:cW X.prog X.w H s.heap
 len:σ.length=X.N.length
section
variable{X:Cx}{ae:List (Addr×Obj)}{σ:List (Option V)}{H H':Hp}{s:Shared}{h':Heap}
def Cx.Ok.nofr(ok:X.Ok)(e:X.base.get? b=some o):b∉X.fs:=λhb=>by
 have:=(ok.funs.mem hb).1
 rw[e]at this;cases this
def Inv.bs(I:Inv X ae σ H s):∀b o,X.base.get? b=some o->s.heap.get? b=some o/\H b=none:=λb o e =>
 ⟨I.base.keep b o (I.ok.bs b o e).1 (I.ok.bs b o e).2 (I.ok.nofr e) (I.ok.noex b o e),I.base.free b o (I.ok.bs b o e).1 (I.ok.bs b o e).2 (I.ok.noex b o e)⟩
def Inv.bk(I:Inv X ae σ H s):∀b o,X.base.get? b=some o->s.heap.get? b=some o:=λb o e=>(I.bs b o e).1
def Inv.mod(I:Inv X ae σ H s):Mod X.K X.mg X.base:=I.ok.mod
def Inv.kIn(I:Inv X ae σ H s):X.K.In s.heap:=I.ok.mod.kin.keeps I.bk
def Inv.lt(I:Inv X ae σ H s):X.env.locals<s.heap.objs.size:=let ⟨_,hn,_⟩:=I.loc;hn.lt
def Inv.sz(I:Inv X ae σ H s):X.s₀.heap.objs.size<=s.heap.objs.size:=aW I.ok.above (cj I.lt)
def Inv.nofs(I:Inv X ae σ H s)(h:s.heap.objs.size<=a):a∉X.fs:=λhb=>by
 obtain⟨_,o,ho,_⟩:=I.ok.funs.mem hb;exact absurd (dH (bB ho) (aW I.sz h)) (oH _)
def Inv.cne(I:Inv X ae σ H s):∀x c,X.env.cells.lookup x=some c->c≠X.env.locals:=λx c e z=>by
 obtain⟨v,o,ho,hd⟩:=I.cell x c e;obtain⟨m,⟨o',es,ep,nQ,vX,_⟩,_⟩:=I.loc;rw[z,nQ]at ho;cases ho;rw[vX]at hd;cases hd
def Inv.funs(I:Inv X ae σ H s):s.heap.FunFrames X.base X.outer:=by
 have all:∀(l:List Env),(∀b∈cx l,b∈X.fs)->X.s₀.heap.FunFrames X.base l->s.heap.FunFrames X.base l:=by
  intro l;induction l with
  |nil=>intro _ _;trivial
  |cons env r ih =>
   intro hs hl;obtain⟨hk,⟨L,o,hf,hn,ho,hd⟩,hr⟩:=hl;have hL:L∈X.fs:=hs L (by unfold cx;rw[BJ,hf];exact ng);obtain⟨sl,e⟩:=I.base.slot L o ho (I.ok.frf L hL) hL λz=>I.ok.exfs L z hL
   nomatch hk,⟨L,_,hf,hn,e,hd⟩,ih (λb hb=>hs b (by unfold cx;rw[BJ,hf];exact eJ _ hb)) hr
 exact all X.outer (λ_ hb=>hb) I.ok.funs
def Inv.stack(I:Inv X ae σ H s):s.heap.FunFrames X.base X.stack:=by
 rcases I.ok.stk with e|⟨e,hf⟩
 ·rw[e];exact I.funs
 ·rw[e];obtain⟨m,hn,_⟩:=I.loc;refine .cons (by rw[I.ok.kind];decide) hf hn ?_ I.funs;exact ze (aW I.ok.bsz I.ok.above)
def Inv.stkSub(I:Inv X ae σ H s):∀b∈cx X.stack,b∈X.env.locals::X.fs:=λb hb=>by
 rcases I.ok.stk with e|⟨e,hf⟩
 ·rw[e]at hb;exact eJ _ hb
 ·rw[e]at hb;unfold cx at hb;rw[BJ,hf]at hb;exact hb
def Inv.stkFree(I:Inv X ae σ H s):∀b∈cx X.stack,H b=none:=λb hb=>by
 rcases aZ.mp (I.stkSub b hb)with e|hb
 ·rw[e];exact I.free
 ·obtain⟨_,o,ho,_⟩:=I.ok.funs.mem hb;exact I.base.free b o ho (I.ok.frf b hb) λz=>I.ok.exfs b z hb
def Inv.step{g':Array GenState}{t':Nat}{d':Drawn}{ch:List Addr}(I:Inv X ae σ H s)
  (kP:∀b∈ch,(b∈X.ex\/X.s₀.heap.objs.size<=b)/\b≠X.env.locals/\(∀x c,X.env.cells.lookup x=some c->c≠b)/\∀p∈X.pn++ae,p.1≠b)
  (keep:∀b o,b≠X.env.locals->b∉X.fs->b∉ch->s.heap.get? b=some o->H b=none->h'.get? b=some o)
  (slot:∀b o,b≠X.env.locals->b∈X.fs->b∉ch->s.heap.get? b=some o->H b=none->∃sl,h'.get? b=some {o with slots:=sl}) (free:∀b o,b∉ch->s.heap.get? b=some o->H b=none->H' b=none)
  (there:∀b o,b∉ch->s.heap.get? b=some o->∃o',h'.get? b=some o')
  (tups:∀b xs,H b=some (.tup xs)->H' b=some (.tup xs)) (frzs:∀b o u,H b=some (.frz o u)->H' b=some (.frz o u)) (tbls:∀b ps,H b=some (.tbl ps)->∃more,H' b=some (.tbl (ps++more)))
  (ns:∀m,s.heap.Ns X.env.locals m->h'.Ns X.env.locals m) (hok:cW X.prog X.w H' h') (hg:AllBare g') :
  Inv X ae σ H' {s with heap:=h',gens:=g',drawn:=d',toks:=t'}:=by
 have neL:∀b o,X.s₀.heap.get? b=some o->b≠X.env.locals:=λb o e=>d5 (dH (bB e) I.ok.above)
 have Aw:∀b o,X.s₀.heap.get? b=some o->b∉X.ex->b∉ch:=λb o e hx hb=>by
  rcases (kP b hb).1 with z|z
  ·exact hx z
  ·exact absurd (dH (bB e) z) (oH _)
 have cellK:∀x c,X.env.cells.lookup x=some c->∀v,s.heap.IsCell c v->h'.IsCell c v:=λx c e v ⟨o,ho,hd⟩=>by
  have vT:c∉ch:=λz=>(kP c z).2.2.1 x c e rfl
  by_cases hc:c∈X.fs
  ·obtain⟨sl,q⟩:=slot c o (I.cne x c e) hc vT ho (I.freeC x c e);nomatch _,q,hd
  ·nomatch o,keep c o (I.cne x c e) hc vT ho (I.freeC x c e),hd
 exists I.ok,I.os,hg,⟨λb o e n hb hx=>?_,λb o e n hb hx=>?_,λb o e n hx=>?_,λb o e hx=>?_,λb xs e=>tups b xs (I.base.tups b xs e),λb o xs e=>frzs b o xs (I.base.frzs b o xs e),λb ps e=>?_⟩,?_,λx c e=>?_,?_,λx c e=>?_,λp hp=>?_,hok,I.len
 ·exact keep b o (neL b o e) hb (Aw b o e hx) (I.base.keep b o e n hb hx) (I.base.free b o e n hx)
 ·obtain⟨sl,e1⟩:=I.base.slot b o e n hb hx;obtain⟨uV,e2⟩:=slot b _ (neL b o e) hb (Aw b o e hx) e1 (I.base.free b o e n hx);nomatch uV,e2
 ·obtain⟨o',e1⟩:=I.base.there b o e hx;exact free b o' (Aw b o e hx) e1 (I.base.free b o e n hx)
 ·obtain⟨o',e1⟩:=I.base.there b o e hx;exact there b o' (Aw b o e hx) e1
 ·obtain⟨m1,e1⟩:=I.base.tbls b ps e;obtain⟨m2,e2⟩:=tbls b _ e1;exact⟨m1++m2,by rw[e2,Array.append_assoc]⟩
 ·obtain⟨m,hn,hl⟩:=I.loc;exists m,ns m hn,λi x v e1 e2 e3=>?_;obtain⟨u,r,l⟩:=hl i x v e1 e2 e3;exists u,r,?_;rcases l with l|⟨k,c,e,z⟩
  ·exact .inl l
  ·exact .inr ⟨k,c,e,cellK x c e _ z⟩
 ·obtain⟨v,z⟩:=I.cell x c e;nomatch v,cellK x c e v z
 ·obtain⟨m,⟨o,_,_,ho,_⟩,_⟩:=I.loc;exact free _ o (λz=>(kP _ z).2.1 rfl) ho I.free
 ·obtain⟨v,o,ho,hd⟩:=I.cell x c e;exact free c o (λz=>(kP c z).2.2.1 x c e rfl) ho (I.freeC x c e)
 ·obtain⟨e,n,ne,nf,d⟩:=I.pin p hp;have vT:p.1∉ch:=λz=>(kP p.1 z).2.2.2 p hp rfl
  nomatch keep p.1 p.2 ne nf vT e n,free p.1 p.2 vT e n,ne,nf,d
def Inv.un{t':Nat}(I:Inv X ae σ H s)(u:Un X.fs [] H H' s.heap h')(hok:cW X.prog X.w H' h'):Inv X ae σ H' {s with heap:=h',toks:=t'}:=by
 obtain⟨m,⟨o,es,ep,ho,r⟩,_⟩:=id I.loc;obtain⟨sl,hL⟩:=u.any ho I.free (by simp);exact I.step (g':=s.gens) (d':=s.drawn) (ch:=[]) (λ_ z=>nomatch z) (λb o _ hb _ e n=>u.keep b o e n hb (by simp)) (λb o _ hb _ e n=>u.slot b o e n hb (by simp)) (λb o _ e n=>u.free b o e n (by simp)) (λb o _ e=>u.there b o e (by simp)) u.tups u.frzs u.tbls (λm' hm=>by
  obtain⟨o',CV,DB,nQ,r'⟩:=hm;rw[ho]at nQ;cases nQ;nomatch _,CV,DB,hL,r') hok I.bare
def Inv.call{g':Array GenState}{t':Nat}{d':Drawn}{ch:List Addr}(I:Inv X ae σ H s)(u:Un (cx X.stack) ch H H' s.heap h')(hok:cW X.prog X.w H' h')(hg:AllBare g')
  (kP:∀b∈ch,(b∈X.ex\/X.s₀.heap.objs.size<=b)/\b≠X.env.locals/\(∀x c,X.env.cells.lookup x=some c->c≠b)/\∀p∈X.pn++ae,p.1≠b) :
  Inv X ae σ H' {s with heap:=h',gens:=g',drawn:=d',toks:=t'}:=by
 obtain⟨m,⟨o,es,ep,ho,r⟩,_⟩:=id I.loc;obtain⟨sl,hL⟩:=u.any ho I.free λz=>(kP _ z).2.1 rfl
 exact I.step (ch:=ch) kP (λb o hL hb hc e n=>u.keep b o e n (λz=>(aZ.mp (I.stkSub b z)).elim hL hb) hc) (λb o _ _ hc e n=>u.any e n hc) (λb o hc e n=>u.free b o e n hc) (λb o hc e=>u.there b o e hc) u.tups u.frzs u.tbls (λm' hm=>by
  obtain⟨o',CV,DB,nQ,r'⟩:=hm;rw[ho]at nQ;cases nQ;nomatch _,CV,DB,hL,r') hok hg
def Inv.turned{t':Nat}{it:Addr}(I:Inv X ae σ H s)(k:∀b o,b≠it->s.heap.get? b=some o->h'.get? b=some o)(hn:H it=none)(hL:it≠X.env.locals)
  (h1:it∈X.ex\/X.s₀.heap.objs.size<=it) (h2:∀x c,X.env.cells.lookup x=some c->c≠it) (h3:∀p∈X.pn++ae,p.1≠it):Inv X ae σ H {s with heap:=h',toks:=t'}:=by
 have Pw:∀b u,H b=some u->b≠it:=λb u e z=>by rw[z,hn]at e;cases e
 refine I.step (g':=s.gens) (d':=s.drawn) (ch:=[it]) (λb hb=>?_) (λb o _ _ hc e _=>k b o (λz=>hc (by simp[z])) e) (λb o _ _ hc e _=>⟨o.slots,k b o (λz=>hc (by simp[z])) e⟩) (λ_ _ _ _ n=>n)
  (λb o hc e=>⟨o,k b o (λz=>hc (by simp[z])) e⟩) (λ_ _ e=>e) (λ_ _ _ e=>e) (λb ps e=>⟨#[],by rw[e];simp⟩) (λm hm=>?_) (λb u e=>?_) I.bare
 ·have e:b=it:=by simpa using hb
  subst e;nomatch h1,hL,h2,h3
 ·obtain⟨o,es,ep,ho,r⟩:=hm;nomatch o,es,ep,k _ o (Ne.symm hL) ho,r
 ·refine (I.hok b u e).stay (λc v hc q=>k c v ?_ q) (λ_ q=>q) λ_ _ q=>q
  rcases hc with z|z
  ·rw[z];exact Pw b u e
  ·exact Pw c _ z
def Inv.tok(I:Inv X ae σ H s)(t:Nat):Inv X ae σ H {s with toks:=t}:=I.un (h':=s.heap) (t':=t) Un.refl I.hok
def Inv.kept(I:Inv X ae σ H s)(k:∀b u,s.heap.get? b=some u->h'.get? b=some u):Inv X ae σ H {s with heap:=h',toks:=t'}:=I.un (Un.kept k) (I.hok.kept k)
def Inv.laid(I:Inv X ae σ H s)(k:∀b u,s.heap.get? b=some u->h'.get? b=some u)(hp:s.heap.objs.size<=a)(new:dQ X.prog X.w (upd H a o) h' a o) :
  Inv X ae σ (upd H a o) {s with heap:=h',toks:=t'}:=I.un (Un.laid k hp (I.hok.fresh hp)) (I.hok.laid k hp new)
def Inv.write(I:Inv X ae σ H s)(mu:va (H x))(he:e=x\/H e=some (.own x))(k:∀b u,b≠e->s.heap.get? b=some u->h'.get? b=some u)(uH:∃u,h'.get? e=some u)
  (new:dQ X.prog X.w (upd H x o) h' x o):Inv X ae σ (upd H x o) {s with heap:=h',toks:=t'}:=I.un (Un.write mu he k uH) (I.hok.write mu he k uH new)
def Inv.pins_of(I:Inv X ae σ H s)(h:∀p∈pins',s.heap.get? p.1=some p.2/\H p.1=none/\p.1≠X.env.locals/\p.1∉X.fs/\∀v,p.2.data≠.cell v):Inv X pins' σ H s :=
 ⟨I.ok,I.os,I.bare,I.base,I.loc,I.cell,I.free,I.freeC,λp hp=>(bF.mp hp).elim (λz=>I.pin p (mS _ z)) (h p),I.hok,I.len⟩
def FD{N:List Str}(hN:N.Nodup){i j:Nat}{x:Str}(a:N[i]?=some x)(b:N[j]?=some x):i=j:=by
 obtain⟨h1,e1⟩:=dS.mp a;obtain⟨h2,e2⟩:=dS.mp b;exact (List.getElem_inj hN).mp (e1.trans e2.symm)
def SM{M:Model}{A:Around}{E:Value->Shared->Prop}{i:Nat}{x:Str}{v:V}{u:Value}{Q:Unit->Shared->Prop}(I:Inv X ae σ H s)(hN:X.N.Nodup)(hi:X.N[i]?=some x)(hx:rp X.env.scope x)(r:RelV v u)
  (h:∀s',Inv X ae (σ.set i (some v)) H s'->(∃a,Heap.SameBut a s.heap s'.heap/\(a=X.env.locals\/X.env.cells.lookup x=some a))->Q () s') (hf:X.fn x=true\/X.env.scope.names.lookup x=some .local:=by first|exact .inl rfl|exact .inr rfl|assumption):wpAny M A (storeName X.env x u) Q E s:=by
 obtain⟨m,hn,hl⟩:=id I.loc;have X9:(X.env.scope.kind == .class || (X.env.scope.kind == .module&&X.env.locals != X.env.globals))=false:=by rw[I.ok.kind];rfl
 have hiσ:i<σ.length:=by rw[I.len];exact (dS.mp hi).1
 have cne:=I.cne;have tracked:∀{a:Addr}{h':Heap},(∃o,s.heap.get? a=some o/\H a=none)->Heap.SameBut a s.heap h'->cW X.prog X.w H h':=fun {a h'} ha hs b ob e=>by
  obtain⟨_,_,rM⟩:=ha;refine (I.hok b ob e).stay (λc w' hc q=>(hs.2 c ?_).trans q) (λ_ q=>q) λ_ _ q=>q
  rintro rfl;rcases hc with rfl|hc
  ·rw[rM]at e;cases e
  ·rw[rM]at hc;cases hc
 rcases hx with hk|hk
 ·refine wpAny_storeName_local hk hn (λh' qw hs=>?_) X9;obtain⟨oL,_,_,qZ,_⟩:=id hn;refine h _ ⟨I.ok,I.os,I.bare,⟨λb o e n hb hx=>?_,λb o e n hb hx=>?_,I.base.free,λb o e hx=>?_,I.base.tups,I.base.frzs,I.base.tbls⟩,⟨_,qw,λj y v' e1 e2 e3=>?_⟩,λy c e=>?_,I.free,I.freeC,λp hp=>?_,tracked ⟨oL,qZ,I.free⟩ hs,by simpa using I.len⟩ ⟨_,hs,.inl rfl⟩
  ·exact (hs.2 b (d5 (dH (bB e) I.ok.above))).trans (I.base.keep b o e n hb hx)
  ·obtain⟨sl,e1⟩:=I.base.slot b o e n hb hx;nomatch sl,(hs.2 b (d5 (dH (bB e) I.ok.above))).trans e1
  ·obtain⟨o',e1⟩:=I.base.there b o e hx;nomatch o',(hs.2 b (d5 (dH (bB e) I.ok.above))).trans e1
  ·by_cases hj:j=i
   ·subst hj;rw[hi]at e1;cases e1;rw[xy hiσ]at e2;cases e2;nomatch u,r,.inl ⟨hk,by simp⟩
   ·rw[Fx (Ne.symm hj)]at e2;obtain⟨u',r',q⟩:=hl j y v' e1 e2 e3;exists u',r',?_;rcases q with ⟨k,e⟩|⟨k,c,e,z⟩
    ·refine .inl ⟨k,?_⟩
     have:y≠x:=λe=>hj (FD hN e1 (e ▸ hi))
     simp[this,e]
    ·exact .inr ⟨k,c,e,z.sameBut hs (cne y c e)⟩
  ·obtain⟨w',z⟩:=I.cell y c e;nomatch w',z.sameBut hs (cne y c e)
  ·obtain⟨e,n,ne,nf,d⟩:=I.pin p hp;nomatch (hs.2 p.1 ne).trans e,n,ne,nf,d
 ·have fQ:X.fn x=true:=by
   rcases hf with z|z
   ·exact z
   ·rw[z]at hk;cases hk
  obtain⟨c,hc⟩:=I.ok.has x (.inl hk);obtain⟨w',z⟩:=I.cell x c hc;refine wpAny_storeName_cell I.ok.kind hk hc z (λh' lK hs=>?_);obtain⟨oc,uR,TB⟩:=id z;refine h {s with heap:=h'} ⟨I.ok,I.os,I.bare,⟨λb o e n hb hx=>?_,λb o e n hb hx=>?_,I.base.free,λb o e hx=>?_,I.base.tups,I.base.frzs,I.base.tbls⟩,⟨m,hn.sameBut hs (Ne.symm (cne x c hc)),λj y v' e1 e2 e3=>?_⟩,λy c' e=>?_,I.free,I.freeC,λp hp=>?_,tracked ⟨oc,uR,I.freeC x c hc⟩ hs,by simpa using I.len⟩ ⟨c,hs,.inr hc⟩
  ·exact (hs.2 b (d5 (dH (bB e) (I.ok.cab x c fQ hc)))).trans (I.base.keep b o e n hb hx)
  ·obtain⟨sl,e1⟩:=I.base.slot b o e n hb hx;nomatch sl,(hs.2 b (d5 (dH (bB e) (I.ok.cab x c fQ hc)))).trans e1
  ·obtain⟨o',e1⟩:=I.base.there b o e hx;nomatch o',(hs.2 b (d5 (dH (bB e) (I.ok.cab x c fQ hc)))).trans e1
  ·by_cases hj:j=i
   ·subst hj;rw[hi]at e1;cases e1;rw[xy hiσ]at e2;cases e2;nomatch u,r,.inr ⟨.inl hk,c,hc,lK⟩
   ·rw[Fx (Ne.symm hj)]at e2;obtain⟨u',r',q⟩:=hl j y v' e1 e2 e3;exists u',r',?_;rcases q with q|⟨k,c',e,z'⟩
    ·exact .inl q
    ·refine .inr ⟨k,c',e,z'.sameBut hs ?_⟩;rintro rfl;exact hj (FD hN e1 (I.ok.inj _ _ _ e hc ▸ hi))
  ·by_cases lP:c'=c
   ·subst lP;nomatch _,lK
   ·obtain⟨w2,z2⟩:=I.cell y c' e;nomatch w2,z2.sameBut hs lP
  ·obtain⟨e,n,ne,nf,d⟩:=I.pin p hp;exists (hs.2 p.1 ?_).trans e,n,ne,nf,d;intro q;rw[q,uR]at e;have q':oc=p.2:=dN e;exact d w' (by rw[<-q'];exact TB)
def xa(I:Inv X ae σ H s)(hN:X.N.Nodup)(hi:X.N[i]?=some x)(hx:rp X.env.scope x)(r:RelV v u)
  (h:∀s',Inv X ae (σ.set i (some v)) H s'->Q () s') (hf:X.fn x=true\/X.env.scope.names.lookup x=some .local:=by first|exact .inl rfl|exact .inr rfl|assumption):wpAny M A (storeName X.env x u) Q E s :=
 SM I hN hi hx r (λs' I' _=>h s' I') hf
def Inv.call'(I:Inv X ae σ H s)(ho:s'.os=s.os)(u:Un (cx X.stack) ch H H' s.heap s'.heap)(hok:cW X.prog X.w H' s'.heap)(hg:AllBare s'.gens)
  (kP:∀b∈ch,(b∈X.ex\/X.s₀.heap.objs.size<=b)/\b≠X.env.locals/\(∀x c,X.env.cells.lookup x=some c->c≠b)/\∀p∈X.pn++ae,p.1≠b):Inv X ae σ H' s':=by
 obtain⟨h',g',d',t',o'⟩:=s';have e:o'=s.os:=ho;subst e;exact I.call (g':=g') (t':=t') (d':=d') u hok hg kP
end
abbrev XK:=Value->Option Addr->Hp->Prop
abbrev St:=List (Option V)
abbrev VK:=V->Hp->Prop
abbrev TE:=St->Hp->VK->Prop
abbrev TT:=St->Hp->(Bool->Hp->Prop)->Prop
abbrev TA:=St->Hp->(List V->Hp->Prop)->Prop
structure ky where
 nx:St->Hp->Prop
 rt:VK
 bk:St->Hp->Prop:=λ_ _=>False
 ct:St->Hp->Prop:=λ_ _=>False
abbrev TS:=ky->St->Hp->Prop
def EP(X:Cx)(ae:List (Addr×Obj))(σ:St)(Q:VK)(u:Value)(s':Shared):Prop:=∃v H',Inv X ae σ H' s'/\RelV v u/\Q v H'
def TP(X:Cx)(ae:List (Addr×Obj))(σ:St)(Q:Bool->Hp->Prop)(b:Bool)(s':Shared):Prop:=∃H',Inv X ae σ H' s'/\Q b H'
def AP(X:Cx)(ae:List (Addr×Obj))(σ:St)(Q:List V->Hp->Prop)(us:List Value)(s':Shared):Prop:=∃vs H',Inv X ae σ H' s'/\Vals vs us/\Q vs H'
set_option tactic.hygienic true in
def SP(X:Cx)(ae:List (Addr×Obj))(D:ky)(f:Flow)(s':Shared):Prop :=
 match f with
 |.next=>∃σ' H',Inv X ae σ' H' s'/\D.nx σ' H'
 |.brk=>∃σ' H',Inv X ae σ' H' s'/\D.bk σ' H'
 |.cont=>∃σ' H',Inv X ae σ' H' s'/\D.ct σ' H'
 |.ret u=>∃v σ' H',Inv X ae σ' H' s'/\RelV v u/\D.rt v H'
def PE(X:Cx)(e:Expr)(t:TE):Prop :=
 ∀(ae:List (Addr×Obj)) (s:Shared) (σ:St) (H:Hp) (Q:VK),Inv X ae σ H s->t σ H Q->wpAny (model X.prog X.w) X.A (eval e X.env) (EP X ae σ Q) X.xe s
def PT(X:Cx)(e:Expr)(t:TT):Prop :=
 ∀(ae:List (Addr×Obj)) (s:Shared) (σ:St) (H:Hp) (Q:Bool->Hp->Prop),Inv X ae σ H s->t σ H Q->wpAny (model X.prog X.w) X.A (isTrue e X.env (eval e X.env)) (TP X ae σ Q) X.xe s
def PW(X:Cx)(e:Expr)(t:TT):Prop :=
 ∀(whole:Sem Value) (ae:List (Addr×Obj)) (s:Shared) (σ:St) (H:Hp) (Q:Bool->Hp->Prop),Inv X ae σ H s->t σ H Q->wpAny (model X.prog X.w) X.A (isTrue e X.env whole) (TP X ae σ Q) X.xe s
def PW.pt(h:PW X e t):PT X e t:=h _
def PA(X:Cx)(es:List Expr)(t:TA):Prop :=
 ∀(pos:Pos) (ae:List (Addr×Obj)) (s:Shared) (σ:St) (H:Hp) (Q:List V->Hp->Prop),Inv X ae σ H s->t σ H Q->wpAny (model X.prog X.w) X.A (spliced (backTo pos (starEach es X.env))) (AP X ae σ Q) X.xe s
def PS(X:Cx)(st:Stmt)(t:TS):Prop :=
 ∀(ae:List (Addr×Obj)) (s:Shared) (σ:St) (H:Hp) (D:ky),Inv X ae σ H s->t D σ H->wpAny (model X.prog X.w) X.A (exec st X.env) (SP X ae D) X.xe s
def f9(X:Cx)(st:List Stmt)(t:TS):Prop :=
 ∀(ae:List (Addr×Obj)) (s:Shared) (σ:St) (H:Hp) (D:ky),Inv X ae σ H s->t D σ H->wpAny (model X.prog X.w) X.A (execs st X.env) (SP X ae D) X.xe s
def aL(h:wpAny M A t Q E s)(hQ:∀a s,Q a s->Q' a s):wpAny M A t Q' E s:=eA h hQ λ_ _ x=>x
section
variable{X:Cx}
def kx(i:Nat):TE:=λσ H Q=>∃v,σ[i]?=some (some v)/\Q v H
def tC(v:V):TE:=λ_ H Q=>Q v H
def Oe(hN:X.N[i]?=some x)(hv:wJ X.env.scope x)(hd:(x == ("__debug__" : Str))=false:=by decide)(j5:(x == ("__classdict__" : Str))=false:=by decide):PE X (.Name x pos) (kx i):=by
 intro ae s σ H Q I h;obtain⟨v,e,h⟩:=h;obtain⟨m,hn,hl⟩:=I.loc;obtain⟨u,r,l⟩:=hl i x v hN e hv;have fin:EP X ae σ Q u s:=⟨v,H,I,r,h⟩;rcases l with ⟨hk,hm⟩|⟨hk,c,hc,nK⟩
 ·exact wpAny_Name (wpAny_loadName_local I.ok.kind hk hn hm fin) hd
 ·rcases hk with hk|hk
  ·exact wpAny_Name (wpAny_loadName_cell I.ok.kind hk hc nK fin) hd
  ·exact wpAny_Name (wpAny_loadName_free I.ok.kind hk hc nK fin j5) hd
def ai{i j pos}:PE X (.Constant (.int i) j pos) (tC (.int i)):=λ_ _ _ H _ I h=>wpAny_Constant_int ⟨.int i,H,I.tok _,⟨_,rfl⟩,h⟩
def oS{b j pos}:PE X (.Constant (.bool b) j pos) (tC (.bl b)):=λ_ _ _ H _ I h=>Constant_bool ⟨.bl b,H,I,rfl,h⟩
def iP{j pos}:PE X (.Constant .none j pos) (tC .non):=λ_ _ _ H _ I h=>Constant_none ⟨.non,H,I,rfl,h⟩
def au{x j pos}:PE X (.Constant (.str x) j pos) (tC (.str x)):=λ_ _ _ H _ I h=>Calls.Constant_str ⟨.str x,H,I.tok _,⟨_,rfl⟩,h⟩
def Gl(X:Cx)(x:Str):Prop:=X.env.kindOf x=some .globalImplicit
def wb(I:Inv X ae σ H s)(hg:Gl X x)(hm:X.mg x=some u)(h:Q u s)
  (hd:(x == ("__debug__" : Str))=false:=by decide):wpAny (model X.prog X.w) X.A (eval (.Name x pos) X.env) Q E s :=
 MM I.ok.kind hg (Calls.loadGlobal_global (by rw[I.ok.glob];exact I.mod.glob.keeps I.bk) hm h) hd
def pZ(I:Inv X ae σ H s)(hg:Gl X x)(hm:X.mg x=none)(hv:bootBuiltins x=some u)(h:Q u s)
  (hn:x ≠ "__name__" := by decide) (hd:(x == ("__debug__" : Str))=false:=by decide):wpAny (model X.prog X.w) X.A (eval (.Name x pos) X.env) Q E s:=by
 obtain⟨mb,h1,h2⟩:=I.mod.blt;exact MM I.ok.kind hg (Calls.loadGlobal_builtin (by rw[I.ok.glob];exact I.mod.glob.keeps I.bk) hm (by rw[I.ok.blt];exact h1.keeps I.bk) ((h2 x hn).trans hv) h) hd
def fA(hg:Gl X x)(hm:X.mg x=some u)(r:RelV v u)(hd:(x == ("__debug__" : Str))=false:=by decide):PE X (.Name x pos) (tC v) :=
 λ_ _ _ H _ I h=>wb I hg hm ⟨v,H,I,r,h⟩ hd
def TF(hg:Gl X x)(hm:X.mg x=none)(hv:bootBuiltins x=some u)(r:RelV v u)(hn:x ≠ "__name__" := by decide)(hd:(x == ("__debug__" : Str))=false:=by decide):PE X (.Name x pos) (tC v) :=
 λ_ _ _ H _ I h=>pZ I hg hm hv ⟨v,H,I,r,h⟩ hn hd
variable{a b:Expr}{ta tb:TE}{pos:Pos}
def PC(X:Cx)(op:CmpOp)(a b:Expr)(t:TE):Prop :=
 ∀(ae:List (Addr×Obj)) (s:Shared) (σ:St) (H:Hp) (Q:VK),Inv X ae σ H s->t σ H Q ->
  wpAny (model X.prog X.w) X.A (eval a X.env) (λv s₁=>wpAny (model X.prog X.w) X.A (eval b X.env) (λu s₂=>wpAny (model X.prog X.w) X.A (compareOp op v u) (EP X ae σ Q) X.xe s₂) X.xe s₁) X.xe s
def tB(t:TE):TT:=λσ H Q=>t σ H λx H1=>∃c,x=.bl c/\Q c H1
def sD(h:PC X op a b t)(h1:behindInMarks op b=false:=by first|exact nobehind _ (by decide) (by decide)|rfl):PT X (.Compare a [op] [b] pos) (tB t):=by
 intro ae s σ H Q I hw;refine DS (aL (h ae s σ H _ I hw) λv s1 h1=>aL h1 λu s2 h2=>aL h2 λc s3 ⟨x,H1,I1,r1,q1⟩=>?_) h1;obtain⟨d,rfl,q⟩:=q1;cases r1;exact lq ⟨H1,I1,q⟩
def gk(h:PE X e t)(he:∀whole,isTrue e X.env whole=(do let v <-whole;standAt e.pos;holding [v] (truthy v)):=by intro _;rfl):PT X e (tB t):=by
 intro ae s σ H Q I hw;refine isTrue_plain (aL (h ae s σ H _ I hw) λv s1 ⟨x,H1,I1,r1,q1⟩=>?_) (he _);obtain⟨d,rfl,q⟩:=q1;cases r1;exact lq ⟨H1,I1,q⟩
variable{tA AK:TT}{rest:List Expr}
def XX(t u:TT):TT:=λσ H Q=>t σ H λc H1=>if c=true then u σ H1 Q else Q false H1
def tOr(t u:TT):TT:=λσ H Q=>t σ H λc H1=>if c=true then Q true H1 else u σ H1 Q
def zbT(t:TT):TT:=λσ H Q=>t σ H λc H1=>Q (!c) H1
def jy(ha:PT X a tA):PW X (.BoolOp .And [a] pos) tA:=by
 intro wh ae s σ H Q I h;refine isTrue_and (aL (ha ae s σ H Q I h) λc s1 e=>?_);cases c with
 |true=>exact isTrue_and_nil e
 |false=>exact e
def mq(ha:PT X a tA):PW X (.BoolOp .Or [a] pos) tA:=by
 intro wh ae s σ H Q I h;refine isTrue_or (aL (ha ae s σ H Q I h) λc s1 e=>?_);cases c with
 |false=>exact isTrue_or_nil e
 |true=>exact e
def iO(ha:PT X a tA)(hb:PW X (.BoolOp .And (b::rest) pos) AK):PW X (.BoolOp .And (a::b::rest) pos) (XX tA AK):=by
 intro wh ae s σ H Q I h;refine isTrue_and (aL (ha ae s σ H _ I h) λc s1 ⟨H1,I1,q1⟩=>?_);cases c with
 |true=>exact hb wh ae s1 σ H1 Q I1 q1
 |false=>nomatch H1,I1,q1
def lE(ha:PT X a tA)(hb:PW X (.BoolOp .Or (b::rest) pos) AK):PW X (.BoolOp .Or (a::b::rest) pos) (tOr tA AK):=by
 intro wh ae s σ H Q I h;refine isTrue_or (aL (ha ae s σ H _ I h) λc s1 ⟨H1,I1,q1⟩=>?_);cases c with
 |true=>nomatch H1,I1,q1
 |false=>exact hb wh ae s1 σ H1 Q I1 q1
def kn(ha:PT X a tA):PT X (.UnaryOp .Not a pos) (zbT tA):=by
 intro ae s σ H Q I h;exact isTrue_not (ha ae s σ H (λc H1=>Q (!c) H1) I h)
def ZO(ta tb:TE):TE:=λσ H Q=>ta σ H λx H1=>∃c,x=.bl c/\if c=true then tb σ H1 Q else Q (.bl false) H1
def We(ta tb:TE):TE:=λσ H Q=>ta σ H λx H1=>∃c,x=.bl c/\if c=true then Q (.bl true) H1 else tb σ H1 Q
def YY(ta:TE):TE:=λσ H Q=>ta σ H λx H1=>∃c,x=.bl c/\Q (.bl (!c)) H1
def qu{op}(h:PE X a t):PE X (.BoolOp op [a] pos) t:=λae s σ H Q I hw=>BoolOp_one (h ae s σ H Q I hw)
def su(ha:PE X a ta)(hb:PE X (.BoolOp .And (b::rest) pos) tb):PE X (.BoolOp .And (a::b::rest) pos) (ZO ta tb):=by
 intro ae s σ H Q I h;refine BoolOp_and (aL (ha ae s σ H _ I h) λv s1 ⟨x,H1,I1,r1,q1⟩=>?_);obtain⟨c,rfl,q1⟩:=q1;cases r1;refine lq ?_;cases c with
 |true=>exact hb ae s1 σ H1 Q I1 q1
 |false=>nomatch .bl false,H1,I1,rfl,q1
def Ro(ha:PE X a ta)(hb:PE X (.BoolOp .Or (b::rest) pos) tb):PE X (.BoolOp .Or (a::b::rest) pos) (We ta tb):=by
 intro ae s σ H Q I h;refine BoolOp_or (aL (ha ae s σ H _ I h) λv s1 ⟨x,H1,I1,r1,q1⟩=>?_);obtain⟨c,rfl,q1⟩:=q1;cases r1;refine lq ?_;cases c with
 |false=>exact hb ae s1 σ H1 Q I1 q1
 |true=>nomatch .bl true,H1,I1,rfl,q1
def zbX(ha:PE X a ta):PE X (.UnaryOp .Not a pos) (YY ta):=by
 intro ae s σ H Q I h;refine UnaryOp_ (aL (ha ae s σ H _ I h) λv s1 ⟨x,H1,I1,r1,q1⟩=>?_);obtain⟨c,rfl,q1⟩:=q1;cases r1;exact not_of (lq ⟨.bl (!c),H1,I1,rfl,q1⟩)
def Ve(t:TT)(ta tb:TE):TE:=λσ H Q=>t σ H λc H1=>if c=true then ta σ H1 Q else tb σ H1 Q
def sW(hc:PT X c tA)(ha:PE X a ta)(hb:PE X b tb):PE X (.IfExp c a b pos) (Ve tA ta tb):=by
 intro ae s σ H Q I h;refine wpAny_IfExp (aL (hc ae s σ H _ I h) λd s1 ⟨H1,I1,q1⟩=>?_);cases d with
 |true=>exact ha ae s1 σ H1 Q I1 q1
 |false=>exact hb ae s1 σ H1 Q I1 q1
end
def aj(K:Frag)(H:Hp)(a:Addr)(xs:List V):Prop :=
 Rd H a (.lst xs) \/
  ∃o ah n,K.lookup a=some o/\o.cls=.type "list" /\ o.dict=none/\o.data=.seq ah n/\ah.size<=sizeLine/\Vals xs ah.toList
def ay(K:Frag)(H:Hp)(a:Addr)(xs:List V):Prop :=
 Rd H a (.tup xs) \/
  ∃o ah n,K.lookup a=some o/\o.cls=.type "tuple" /\ o.data=.seq ah n/\ah.size<=sizeLine/\Vals xs ah.toList
noncomputable def Yn:Value->Option V
 |.none=>some .non
 |.bool b=>some (.bl b)
 |.int i _=>some (.int i)
 |.str x _=>some (.str x)
 |.bytes b _=>some (.byt b)
 |.float b _=>some (.flt b)
 |.ref a=>some (.ref a)
 |.type n=>some (.ty n)
 |_=>none
def RelV.abs(r:RelV x u):Yn u=some x:=by
 cases x with
 |non=>cases r;rfl
 |bl _=>cases r;rfl
 |int _=>obtain⟨t,rfl⟩:=r;rfl
 |str _=>obtain⟨t,rfl⟩:=r;rfl
 |byt _=>obtain⟨t,rfl⟩:=r;rfl
 |flt _=>obtain⟨t,rfl⟩:=r;rfl
 |ref _=>cases r;rfl
 |ty _=>cases r;rfl
def RelV.inj(r:RelV x u)(q:RelV y u):x=y:=dN (r.abs.symm.trans q.abs)
def Vals.inj(h:Vals xs us)(h':Vals ys us):xs=ys:=by
 induction h generalizing ys with
 |nil=>cases h';rfl
 |cons r t ih=>cases h' with|cons r' t'=>rw[r.inj r',ih t']
section
variable{X:Cx}{ae:List (Addr×Obj)}{σ:St}{H:Hp}{s:Shared}{a:Addr}{xs ys:List V}
def aj.of{K:Frag}(h:H a=some (.lst xs)):aj K H a xs:=.inl (.inl h)
def ay.of{K:Frag}(h:H a=some (.tup xs)):ay K H a xs:=.inl (.inl h)
def Inv.list(I:Inv X ae σ H s)(h:aj X.K H a xs):∃ah,Vals xs ah/\PlainL s.heap a ah.toArray/\xs.length<=sizeLine:=by
 rcases h with h|⟨o,ah,n,hk,hc,hd,hs,hz,r⟩
 ·obtain⟨z,ah,n,r,e⟩:=h.ok I.hok;nomatch ah,r,⟨_,n,e,rfl,rfl,rfl⟩,z
 ·exists ah.toList,r,⟨o,n,I.kIn a o hk,hc,hd,by simpa using hs⟩,?_;have e:=r.length;simp only[vF]at e;lia
def Inv.tuple(I:Inv X ae σ H s)(h:ay X.K H a xs):∃ah,Vals xs ah/\IsTup s.heap a ah.toArray/\xs.length<=sizeLine:=by
 rcases h with h|⟨o,ah,n,hk,hc,hs,hz,r⟩
 ·obtain⟨z,ah,r,p⟩:=h.ok I.hok;nomatch ah,r,p,z
 ·exists ah.toList,r,⟨o,I.kIn a o hk,hc,n,by simpa using hs⟩,?_;have e:=r.length;simp only[vF]at e;omega
def Inv.list_inj(I:Inv X ae σ H s)(h:aj X.K H a xs)(h':aj X.K H a ys):xs=ys:=by
 obtain⟨ah,r,⟨o,n,e,_,_,d⟩,_⟩:=I.list h;obtain⟨its',r',⟨o',n',e',_,_,d'⟩,_⟩:=I.list h';rw[e]at e';cases e';rw[d]at d';injection d' with d1 _
 have:ah=its':=by simpa using congrArg Array.toList d1
 subst this;exact r.inj r'
def Inv.tuple_inj(I:Inv X ae σ H s)(h:ay X.K H a xs)(h':ay X.K H a ys):xs=ys:=by
 obtain⟨ah,r,⟨o,e,_,n,d⟩,_⟩:=I.tuple h;obtain⟨its',r',⟨o',e',_,n',d'⟩,_⟩:=I.tuple h';rw[e]at e';cases e';rw[d]at d';injection d' with d1 _
 have:ah=its':=by simpa using congrArg Array.toList d1
 subst this;exact r.inj r'
end
noncomputable abbrev Cx.wish(X:Cx)(E:Value->Shared->Prop):Cx:={X with xe:=E}
noncomputable abbrev Cx.nox(X:Cx):Cx:=X.wish λ_ _=>False
def Cx.Ok.wish{X:Cx}(ok:X.Ok)(E:Value->Shared->Prop):(X.wish E).Ok :=
 ⟨ok.mod,ok.kind,ok.glob,ok.blt,ok.above,ok.inj,ok.has,ok.cab,ok.hd,ok.frames,ok.stk,ok.exf,ok.bs,ok.bsz,ok.noex,ok.exfs,ok.funs,ok.frf⟩
def Cx.Ok.unwish{X:Cx}{E:Value->Shared->Prop}(ok:(X.wish E).Ok):X.Ok :=
 ⟨ok.mod,ok.kind,ok.glob,ok.blt,ok.above,ok.inj,ok.has,ok.cab,ok.hd,ok.frames,ok.stk,ok.exf,ok.bs,ok.bsz,ok.noex,ok.exfs,ok.funs,ok.frf⟩
section
variable{X:Cx}{ae:List (Addr×Obj)}{σ:St}{H:Hp}{s:Shared}{E:Value->Shared->Prop}
def Inv.wish(I:Inv X ae σ H s)(E:Value->Shared->Prop):Inv (X.wish E) ae σ H s:=⟨I.ok.wish E,I.os,I.bare,I.base,I.loc,I.cell,I.free,I.freeC,I.pin,I.hok,I.len⟩
def Inv.unwish(I:Inv (X.wish E) ae σ H s):Inv X ae σ H s:=⟨I.ok.unwish,I.os,I.bare,I.base,I.loc,I.cell,I.free,I.freeC,I.pin,I.hok,I.len⟩
set_option tactic.hygienic true in
def SP.unwish(h:SP (X.wish E) ae D f s'):SP X ae D f s':=by
 cases f with
 |next=>obtain⟨σ',H',I,q⟩:=h;nomatch σ',H',I.unwish,q
 |brk=>obtain⟨σ',H',I,q⟩:=h;nomatch σ',H',I.unwish,q
 |cont=>obtain⟨σ',H',I,q⟩:=h;nomatch σ',H',I.unwish,q
 |ret u=>obtain⟨v,σ',H',I,r,q⟩:=h;nomatch v,σ',H',I.unwish,r,q
def f9.nox{st:List Stmt}{t:TS}(h:f9 X.nox st t):f9 X st t:=λae s σ H D I hw =>
 eA (h ae s σ H D (I.wish _) hw) (λ_ _ q=>q.unwish) λ_ _ z=>False.elim z
end
section
variable{X:Cx}{st:Stmt}{rest:List Stmt}{t u:TS}{e:Expr}{te:TE}{pos:Pos}
def zcl:TS:=λD σ H=>D.nx σ H
def Ae(t u:TS):TS:=λD σ H=>t {D with nx:=u D} σ H
def aM:f9 X [] zcl:=λ_ _ σ H _ I h=>tS ⟨σ,H,I,h⟩
set_option tactic.hygienic true in
def ak(h1:PS X st t)(h2:f9 X rest u):f9 X (st::rest) (Ae t u):=by
 intro ae s σ H D I h;refine Gw (aL (h1 ae s σ H {D with nx:=u D} I h) λf s1 q=>?_);cases f with
 |next =>
  obtain⟨σ',H',I',q⟩:=q;exact h2 ae s1 σ' H' D I' q
 |ret v=>exact q
 |brk=>exact q
 |cont=>exact q
set_option tactic.hygienic true in
def ao(h1:PS X st t):f9 X [st] t:=by
 intro ae s σ H D I h;refine Gw (aL (h1 ae s σ H D I h) λf s1 q=>?_);cases f with
 |next=>exact tS q
 |ret v=>exact q
 |brk=>exact q
 |cont=>exact q
def Inv.quiet(I:Inv X ae σ H s):interactive X.env=false:=by simp[interactive,I.ok.kind]
def Xs(te:TE):TS:=λD σ H=>te σ H λ_ H1=>D.nx σ H1
def d6(he:PE X e te)(hs:swapsWith e none pos.line X.env=pure false:=by rfl):PS X (.Expr e pos) (Xs te):=by
 intro ae s σ H D I h;exact wpAny_Expr_any (aL (he ae s σ H _ I h) λv s1 ⟨x,H1,I1,r1,q1⟩=>⟨σ,H1,I1,q1⟩) I.quiet hs
def yA(te:TE):TS:=λD σ H=>te σ H D.rt
def aA(he:PE X e te):PS X (.Return (some e) pos) (yA te):=by
 intro ae s σ H D I h;exact wpAny_Return_some (aL (he ae s σ H _ I h) λv s1 ⟨x,H1,I1,r1,q1⟩=>⟨x,σ,H1,I1,r1,q1⟩)
def za8(c:TT)(t u:TS):TS:=λD σ H=>c σ H λb H1=>if b=true then t D σ H1 else u D σ H1
def bp(hc:PT X c tc)(ha:f9 X a t)(hb:f9 X b u):PS X (.If c a b pos) (za8 tc t u):=by
 intro ae s σ H D I h;refine wpAny_If (aL (hc ae s σ H _ I h) λd s1 ⟨H1,I1,q1⟩=>?_);cases d with
 |true=>exact ha ae s1 σ H1 D I1 q1
 |false=>exact hb ae s1 σ H1 D I1 q1
end
abbrev TG:=V->St->Hp->(St->Hp->Prop)->Prop
abbrev oI:=List V->St->Hp->(St->Hp->Prop)->Prop
def PG(X:Cx)(target:Expr)(t:TG):Prop :=
 ∀(ae:List (Addr×Obj)) (s:Shared) (σ:St) (H:Hp) (v:V) (u:Value) (Q:St->Hp->Prop),Inv X ae σ H s->RelV v u->t v σ H Q ->
  wpAny (model X.prog X.w) X.A (assign target X.env u) (λ_ s'=>∃σ' H',Inv X ae σ' H' s'/\Q σ' H') X.xe s
def l7(X:Cx)(ts:List Expr)(t:oI):Prop :=
 ∀(ae:List (Addr×Obj)) (s:Shared) (σ:St) (H:Hp) (vs:List V) (us:List Value) (Q:St->Hp->Prop),Inv X ae σ H s->Vals vs us->t vs σ H Q ->
  wpAny (model X.prog X.w) X.A (assignInOrder ((assignEach ts X.env).map (·.2)) us) (λ_ s'=>∃σ' H',Inv X ae σ' H' s'/\Q σ' H') X.xe s
abbrev IU:=V->V->V->Hp->(Hp->Prop)->Prop
def JC(X:Cx)(t:IU):Prop :=
 ∀(ae:List (Addr×Obj)) (s:Shared) (σ:St) (H:Hp) (o i v:V) (ov iv u:Value) (Q:Hp->Prop),Inv X ae σ H s->RelV o ov->RelV i iv->RelV v u->t o i v H Q ->
  wpAny (model X.prog X.w) X.A (setItem ov iv u) (λ_ s'=>∃H',Inv X ae σ H' s'/\Q H') X.xe s
section
variable{X:Cx}{pos:Pos}
def a8(i:Nat):TG:=λv σ H Q=>Q (σ.set i (some v)) H
def O9(hN:X.N.Nodup)(hi:X.N[i]?=some x)(hx:rp X.env.scope x)(hf:X.fn x=true\/X.env.scope.names.lookup x=some .local:=by first|exact .inl rfl|exact .inr rfl|assumption):PG X (.Name x pos) (a8 i):=by
 intro ae s σ H v u Q I r h;exact wpAny_assign_Name (xa I hN hi hx r (λs' I'=>⟨_,H,I',h⟩) hf)
def f7:oI:=λvs σ H Q=>vs=[]/\Q σ H
def cn(t:TG)(u:oI):oI:=λvs σ H Q=>∃v r,vs=v::r/\t v σ H λσ' H'=>u r σ' H' Q
def gy:l7 X [] f7:=by
 intro ae s σ H vs us Q I r h;obtain⟨e,h⟩:=h;subst e;cases r;exact assignInOrder_nil ⟨σ,H,I,h⟩
def cN(h1:PG X e t)(h2:l7 X es u)
  (hs:(assignEach (e::es) X.env).map (·.2)=assign e X.env::(assignEach es X.env).map (·.2):=by rfl):l7 X (e::es) (cn t u):=by
 intro ae s σ H vs us Q I r h;obtain⟨v,vr,e1,h⟩:=h;subst e1;cases r with
 |cons r rr =>
  rw[hs];refine assignInOrder_cons (aL (h1 ae s σ H _ _ _ I r h) λ_ s1 ⟨σ1,H1,I1,q1⟩=>?_);exact h2 ae s1 σ1 H1 _ _ Q I1 rr q1
def fT(K:Frag)(n:Nat)(t:oI):TG:=λv σ H Q=>∃a xs,v=.ref a/\ay K H a xs/\xs.length=n/\t xs σ H Q
def gv(hc:X.calm=true)(h:l7 X es t)
  (hn:(assignEach es X.env).length=n:=by rfl) (bc:(assignEach es X.env).findIdx? (·.1)=none:=by rfl):PG X (.Tuple es k pos) (fT X.K n t):=by
 intro ae s σ H v u Q I r hw;obtain⟨a,xs,e1,hq,hl,hw⟩:=hw;subst e1;cases r;obtain⟨ah,rv,ht,hz⟩:=I.tuple hq;refine assign_Tuple_tuple (I.ok.hd hc) ht (by simp[hn,<-hl,rv.length]) bc λh' hx=>?_
 have I1:Inv X ae σ H {s with heap:=h'}:=I.kept (t':=s.toks) λb o e=>hx b o (d5 (bB e)) e
 exact h ae _ σ H xs _ Q I1 (by simpa using rv) hw
def Q8(to ti:TE)(t:IU):TG:=λv σ H Q=>to σ H λo H1=>ti σ H1 λi H2=>t o i v H2 λH3=>Q σ H3
def Qk(ho:PE X o to)(hi:PE X i ti)(hs:JC X t)
  (ha:∀ v,assign (.Subscript o i pos) X.env v=(do
   let ov <-holding [v] (eval o X.env)
   let iv <-holding [v,ov] (eval i X.env)
   standAt pos
   holding [v,ov,iv] (setItem ov iv v)
   release [v,ov,iv] []):=by intro _;rfl):PG X (.Subscript o i pos) (Q8 to ti t):=by
 intro ae s σ H v u Q I r h;rw[ha];refine aF (xg (aL (ho ae s σ H _ I h) λov s1 ⟨x,H1,I1,r1,q1⟩=>?_));refine aF (xg (aL (hi ae s1 σ H1 _ I1 q1) λiv s2 ⟨y,H2,I2,r2,q2⟩=>?_));refine aF (HG (aF (xg (aL (hs ae s2 σ H2 x y v ov iv u _ I2 r1 r2 r q2) λ_ s3 ⟨H3,I3,q3⟩=>?_))));exact wpAny_release ⟨σ,H3,I3,q3⟩
def rZ(te:TE)(g:TG):TS:=λD σ H=>te σ H λx H1=>g x σ H1 D.nx
def qm(he:PE X e te)(hg:PG X tg g)(hs:swapsWithSole [tg] e pos.line X.env=pure false:=by rfl)(hw:swappedStores [tg] e X.env=pure none:=by rfl)
  (h1:(assignEach [tg] X.env).map (·.2)=[assign tg X.env]:=by rfl):PS X (.Assign [tg] e pos) (rZ te g):=by
 intro ae s σ H D I h;refine wpAny_Assign_stores (aL (he ae s σ H _ I h) λv s1 ⟨x,H1,I1,r1,q1⟩=>?_) hs hw;rw[h1];exact aL (hg ae s1 σ H1 x v _ I1 r1 q1) λ_ s2 q=>q
def Jm(hN:X.N.Nodup)(hi:X.N[i]?=some x)(hx:rp X.env.scope x)(he:PE X e te)(hs:swapsWith e (some (.Name x pos')) pos.line X.env=pure false:=by rfl)(hf:X.fn x=true\/X.env.scope.names.lookup x=some .local:=by first|exact .inl rfl|exact .inr rfl|assumption) :
  PS X (.Assign [.Name x pos'] e pos) (rZ te (a8 i)):=by
 intro ae s σ H D I h;refine wpAny_Assign_Name (aL (he ae s σ H _ I h) λv s1 ⟨y,H1,I1,r1,q1⟩=>?_) hs;exact xa I1 hN hi hx r1 (λs2 I2=>⟨_,H1,I2,q1⟩) hf
end
section
variable{X:Cx}{pos:Pos}
def Jp(c:TT)(tb:TS):TS:=λD σ H=>∃W:Nat->St->Hp->Prop,(∃m,W m σ H)/\∀m σ H,W m σ H ->
 c σ H λb H1=>if b=true then ∃N:St->Hp->Prop,(∀σ' H',N σ' H'->∃m',m'<m/\W m' σ' H')/\tb {D with nx:=N,ct:=N,bk:=D.nx} σ H1 else D.nx σ H1
set_option tactic.hygienic true in
def uM(hp:PassesOwn (model X.prog X.w) X.A X.env X.xe)(hc:PT X c tc)(hb:f9 X body tb):PS X (.While c body [] pos) (Jp tc tb):=by
 intro ae s σ H D I h;obtain⟨W,⟨m0,w0⟩,turn⟩:=h;refine wpAny_While (codeAny_whileLoop (λn s'=>∃σ' H',Inv X ae σ' H' s'/\W n σ' H') ?_ m0 ⟨σ,H,I,w0⟩);rintro n s1 ⟨σ1,H1,I1,w1⟩;refine rH hp (aL (hc ae s1 σ1 H1 _ I1 (turn n σ1 H1 w1)) λb s2 ⟨H2,I2,q2⟩=>?_);cases b with
 |true =>
  obtain⟨N,hN,q2⟩:=q2;rw[aB rfl];refine rH hp (aL (hb ae s2 σ1 H2 _ I2 q2) λf s3 q3=>?_);cases f with
  |next =>
   obtain⟨σ3,H3,I3,n3⟩:=q3;obtain⟨m',hm,w3⟩:=hN σ3 H3 n3;nomatch m',hm,σ3,H3,I3,w3
  |cont =>
   obtain⟨σ3,H3,I3,n3⟩:=q3;obtain⟨m',hm,w3⟩:=hN σ3 H3 n3;nomatch m',hm,σ3,H3,I3,w3
  |brk=>exact q3
  |ret v=>exact q3
 |false =>
  rw[ax dJ];exact tS ⟨σ1,H2,I2,q2⟩
end
structure It where
 go:Nat->Hp->Prop
 yld:Nat->Hp->V->Hp->Prop
 stop:Nat->Hp->Prop
def iK(X:Cx)(ae:List (Addr×Obj))(H:Hp)(b:Addr):Prop :=
 H b=none/\b≠X.env.locals/\b∉X.fs/\(b∈X.ex\/X.s₀.heap.objs.size<=b)/\(∀x c,X.env.cells.lookup x=some c->c≠b)/\∀p∈X.pn++ae,p.1≠b
def Inv.fpOk(I:Inv X ae σ H s)(hb:s.heap.objs.size<=b)(hn:H' b=none):iK X ae H' b:=by
 exists hn,uN (dH I.lt hb),I.nofs hb,.inr (aW I.sz hb),λx c e z=>?_,λp hp z=>?_
 ·obtain⟨v,q⟩:=I.cell x c e;exact absurd (dH q.lt (by rw[z];exact hb)) (oH _)
 ·exact absurd (dH (bB (I.pin p hp).1) (by rw[z];exact hb)) (oH _)
structure nG(P:Program)(w:World)(K:Frag)(tg:Expr)(J:It)(fp:List Addr)(it:Addr)(tn:Nat->Heap->Prop):Prop where
 mem:it∈fp
 obj:∀i h,tn i h->∀b∈fp,∃o,h.get? b=some o/\∀v,o.data≠.cell v
 keep:∀i h h',tn i h->(∀b∈fp,∀o,h.get? b=some o->h'.get? b=some o)->tn i h'
 item:∀(X:Cx),X.prog=P->X.w=w->X.K=K->X.calm=true->∀(i:Nat) (ae:List (Addr×Obj)) (s:Shared) (σ:St) (H:Hp) (E:Value->Shared->Prop),Inv X ae σ H s->(∀b∈fp,iK X ae H b)->tn i s.heap->J.go i H ->
  wpAny (model P w) X.A (pyNext (.ref it)) (fun r s1=>∃ u,r=some u /\ wpAny (model P w) X.A (letOwnedTupleGo tg (.ref it) u) (λ_ s2=>∃x H',Inv X ae σ H' s2/\RelV x u/\J.yld i H x H'/\tn (i+1) s2.heap/\∀b∈fp,H' b=none) E s1) E s
 done:∀(X:Cx),X.prog=P->X.w=w->X.K=K->X.calm=true->∀(i:Nat) (ae:List (Addr×Obj)) (s:Shared) (σ:St) (H:Hp) (E:Value->Shared->Prop),Inv X ae σ H s->(∀b∈fp,iK X ae H b)->tn i s.heap->J.stop i H ->
  wpAny (model P w) X.A (pyNext (.ref it)) (λr s1=>r=none/\Inv X ae σ H s1) E s
 self:∀(A:Around) (i:Nat) (s:Shared) (Q:Value->Shared->Prop) (E:Value->Shared->Prop),tn i s.heap->Q (.ref it) s->wpAny (model P w) A (pyIter (.ref it)) Q E s
abbrev TI:=St->Hp->(It->Hp->Prop)->Prop
def NX(X:Cx)(ae:List (Addr×Obj))(σ:St)(tg:Expr)(R:It->Hp->Prop)(zb:Value)(s2:Shared):Prop :=
 ∃it fp tn J H',zb=.ref it/\Inv X ae σ H' s2/\nG X.prog X.w X.K tg J fp it tn/\tn 0 s2.heap/\(∀b∈fp,iK X ae H' b)/\R J H'
def PI(X:Cx)(tg iter:Expr)(wi:TI):Prop :=
 ∀(ae:List (Addr×Obj)) (s:Shared) (σ:St) (H:Hp) (R:It->Hp->Prop),Inv X ae σ H s->wi σ H R ->
  wpAny (model X.prog X.w) X.A (eval iter X.env) (λv s1=>wpAny (model X.prog X.w) X.A (pyIter v) (NX X ae σ tg R) X.xe s1) X.xe s
def xG(ho:s.heap.get? it=some o)(hc:o.cls=.type n)(hd:o.data=.fields vs)
    (hn:["enumerate","zip","dict_itemiterator","dict_reverseitemiterator","odict_iterator","itertools.zip_longest","itertools.pairwise"].contains n=false) (hQ:Q () s):wpAny M A (letOwnedTupleGo tg (.ref it) u) Q E s:=by
  unfold letOwnedTupleGo;cases tg<;>first
    |exact bL hQ
    | (cases u <;> first
        |exact bL hQ
        | (refine aF (wpAny_load ho ?_)
           rw [hc,hd]
           show wpAny M A (if (["enumerate","zip","dict_itemiterator","dict_reverseitemiterator","odict_iterator","itertools.zip_longest","itertools.pairwise"].contains n&&vs[0]? == some (rawInt _))=true then _ else _) Q E s
           rw [ax (by intro h;rw [hn,zJ]at h;cases h)]
           exact bL hQ))
noncomputable def je(K:Frag)(a:Addr):It :=
 ⟨λi H=>∃xs x,aj K H a xs/\xs[i]?=some x,λi H x H'=>H'=H/\∀xs,aj K H a xs->xs[i]?=some x,λi H=>∃xs,aj K H a xs/\xs.length<=i⟩
noncomputable def u7(K:Frag)(a:Addr):It :=
 ⟨λi H=>∃xs x,ay K H a xs/\xs[i]?=some x,λi H x H'=>H'=H/\∀xs,ay K H a xs->xs[i]?=some x,λi H=>∃xs,ay K H a xs/\xs.length<=i⟩
noncomputable def oR(lo:Int)(n:Nat):It:=⟨λi _=>i<n,λi H x H'=>H'=H/\x=.int (lo+i),λi _=>n<=i⟩
def za7{P:Program}{w:World}{K:Frag}{tg:Expr}(a it:Addr):nG P w K tg (je K a) [it] it (λi h=>h.IsListIter it a i) where
 mem:=by simp
 obj:=λi h st b hb=>by
  have e:b=it:=by simpa using hb
  subst e;obtain⟨o,e,c,d⟩:=st;exact⟨o,e,λv z=>by rw[d]at z;cases z⟩
 keep:=λi h h' st k=>st.at λo e=>k it (by simp) o e
 item:=by
  intro X hP hw hK hc i ae s σ H E I hf st hg;subst hP hw hK;obtain⟨xs,x,hq,hx⟩:=hg;obtain⟨ah,rv,p,hz⟩:=I.list hq;obtain⟨u,hu,ru⟩:=rv.get hx;obtain⟨f0,f1,f2,f3,f4,f5⟩:=hf it (by simp);refine wpAny_pyNext_list_item st p.isList (x:=u) (by simpa using hu) λh' cu sb=>?_
  have I1:Inv X ae σ H {s with heap:=h'}:=I.turned (t':=s.toks) (λb o hb e=>(sb.2 b hb).trans e) f0 f1 f3 f4 f5;obtain⟨o,e,c,d⟩:=id cu;nomatch u,rfl,xG (s:={s with heap:=h'}) e c d (by decide) ⟨x,H,I1,ru,⟨rfl,λys hy=>by rw[I.list_inj hy hq];exact hx⟩,cu,λb hb=>(hf b hb).1⟩
 done:=by
  intro X hP hw hK hc i ae s σ H E I hf st hg;subst hP hw hK;obtain⟨xs,hq,hx⟩:=hg;obtain⟨ah,rv,p,hz⟩:=I.list hq;obtain⟨f0,f1,f2,f3,f4,f5⟩:=hf it (by simp);have hl:=rv.length;exact wpAny_pyNext_list_end (I.ok.hd hc) st p.isList (by simp;lia) λh' eb=>⟨rfl,I.turned (t':=s.toks) (λb o hb e=>eb b o hb e) f0 f1 f3 f4 f5⟩
 self:=λ_ _ _ _ _ st h=>wpAny_pyIter_listiter st h
def Wr{P:Program}{w:World}{K:Frag}{tg:Expr}(a it:Addr):nG P w K tg (u7 K a) [it] it (λi h=>h.IsTupleIter it a i) where
 mem:=by simp
 obj:=λi h st b hb=>by
  have e:b=it:=by simpa using hb
  subst e;obtain⟨o,e,c,d⟩:=st;exact⟨o,e,λv z=>by rw[d]at z;cases z⟩
 keep:=λi h h' st k=>st.at λo e=>k it (by simp) o e
 item:=by
  intro X hP hw hK hc i ae s σ H E I hf st hg;subst hP hw hK;obtain⟨xs,x,hq,hx⟩:=hg;obtain⟨ah,rv,p,hz⟩:=I.tuple hq;obtain⟨u,hu,ru⟩:=rv.get hx;obtain⟨f0,f1,f2,f3,f4,f5⟩:=hf it (by simp);refine wpAny_pyNext_tuple_item st (show s.heap.IsTuple a ah.toArray from p) (x:=u) (by simpa using hu) λh' cu sb=>?_
  have I1:Inv X ae σ H {s with heap:=h'}:=I.turned (t':=s.toks) (λb o hb e=>(sb.2 b hb).trans e) f0 f1 f3 f4 f5;obtain⟨o,e,c,d⟩:=id cu;nomatch u,rfl,xG (s:={s with heap:=h'}) e c d (by decide) ⟨x,H,I1,ru,⟨rfl,λys hy=>by rw[I.tuple_inj hy hq];exact hx⟩,cu,λb hb=>(hf b hb).1⟩
 done:=by
  intro X hP hw hK hc i ae s σ H E I hf st hg;subst hP hw hK;obtain⟨xs,hq,hx⟩:=hg;obtain⟨ah,rv,p,hz⟩:=I.tuple hq;obtain⟨f0,f1,f2,f3,f4,f5⟩:=hf it (by simp);have hl:=rv.length;exact wpAny_pyNext_tuple_end (I.ok.hd hc) st (show s.heap.IsTuple a ah.toArray from p) (by simp;omega) λh' eb=>⟨rfl,I.turned (t':=s.toks) (λb o hb e=>eb b o hb e) f0 f1 f3 f4 f5⟩
 self:=λ_ _ _ _ _ st h=>wpAny_pyIter_tupleiter st h
def ZR{P:Program}{w:World}{K:Frag}{tg:Expr}(it:Addr)(lo:Int)(n:Nat):nG P w K tg (oR lo n) [it] it (λi h=>IsRangeIter h it (lo+(i:Nat)*1) ((n:Int)-(i:Nat)) 1) where
 mem:=by simp
 obj:=λi h st b hb=>by
  have e:b=it:=by simpa using hb
  subst e;exact⟨_,st,λv z=>by
   have z':Data.fields _=Data.cell v:=z;cases z'⟩
 keep:=λi h h' st k=>k it (by simp) _ st
 item:=by
  intro X hP hw hK hc i ae s σ H E I hf st hg;subst hP hw hK;obtain⟨f0,f1,f2,f3,f4,f5⟩:=hf it (by simp);have W:=Walks.range (prog:=X.prog) (w:=X.w) (I.ok.hd hc) it lo 1 n;refine W.item i s _ _ hg st λv h' tk hv cu kk=>?_
  obtain⟨t,rfl⟩:=hv;have I1:Inv X ae σ H {s with heap:=h',toks:=tk}:=I.turned (λb o hb e=>kk b o (by simpa using hb) e) f0 f1 f3 f4 f5;exists _,rfl,xG (s:={s with heap:=h',toks:=tk}) (n := "range_iterator") cu rfl rfl (by decide) ⟨.int (lo+i),H,I1,⟨t,?_⟩,⟨rfl,rfl⟩,cu,λb hb=>(hf b hb).1⟩;rw[Int.mul_one]
 done:=by
  intro X hP hw hK hc i ae s σ H E I hf st hg;subst hP hw hK;obtain⟨f0,f1,f2,f3,f4,f5⟩:=hf it (by simp);exact wpAny_pyNext_range_end (I.ok.hd hc) st (by have:n<=i:=hg;lia) λh' eb=>⟨rfl,I.turned (t':=s.toks) (λb o hb e=>eb b o hb e) f0 f1 f3 f4 f5⟩
 self:=λ_ _ _ _ _ st h=>wpAny_pyIter_rangeiter st h
section
variable{X:Cx}{tg:Expr}
def zao(K:Frag)(tl:TE):TI:=λσ H R=>tl σ H λx H1=>∃a,x=.ref a/\(∃xs,aj K H1 a xs)/\R (je K a) H1
def W4(K:Frag)(tl:TE):TI:=λσ H R=>tl σ H λx H1=>∃a,x=.ref a/\(∃xs,ay K H1 a xs)/\R (u7 K a) H1
def Bl{l:Expr}{tl:TE}(hl:PE X l tl):PI X tg l (zao X.K tl):=by
 intro ae s σ H R I h;refine aL (hl ae s σ H _ I h) λv s1 ⟨x,H1,I1,r1,q1⟩=>?_
 obtain⟨a,e,⟨xs,hq⟩,q⟩:=q1;subst e;cases r1;obtain⟨ah,rv,p,hz⟩:=I1.list hq;refine Bt p.isList ?_;exists s1.heap.objs.size,[s1.heap.objs.size],_,_,H1,rfl,I1.kept (t':=s1.toks) λb o e=>dG _ e,za7 a _,⟨_,eI _ rfl,rfl,rfl⟩,λb hb=>?_,q;have e:b=s1.heap.objs.size:=by simpa using hb
 subst e;exact I1.fpOk (aO _) (I1.hok.fresh (aO _))
def zch{l:Expr}{tl:TE}(hl:PE X l tl):PI X tg l (W4 X.K tl):=by
 intro ae s σ H R I h;refine aL (hl ae s σ H _ I h) λv s1 ⟨x,H1,I1,r1,q1⟩=>?_
 obtain⟨a,e,⟨xs,hq⟩,q⟩:=q1;subst e;cases r1;obtain⟨ah,rv,p,hz⟩:=I1.tuple hq;refine wpAny_pyIter_tuple (show s1.heap.IsTuple a ah.toArray from p) ?_;exists s1.heap.objs.size,[s1.heap.objs.size],_,_,H1,rfl,I1.kept (t':=s1.toks) λb o e=>dG _ e,Wr a _,⟨_,eI _ rfl,rfl,rfl⟩,λb hb=>?_,q;have e:b=s1.heap.objs.size:=by simpa using hb
 subst e;exact I1.fpOk (aO _) (I1.hok.fresh (aO _))
def zas{ae:List (Addr×Obj)}{σ:St}{H:Hp}{s:Shared}{R:It->Hp->Prop}{E:Value->Shared->Prop}{lo hi:Int}{t u v:Tok}{tk:Nat}(I:Inv X ae σ H s)(h1 : -(2^62)<=lo)(h2:lo<2^62)(h3 : -(2^62)<=hi)(h4:hi<2^62)
  (q:R (oR lo (hi-lo).toNat) H):wpAny (model X.prog X.w) X.A (pyIter (.ref s.heap.objs.size)) (NX X ae σ tg R) E {s with heap:=s.heap.push {cls:=.type "range",data:=.fields #[.int lo t,.int hi u,.int 1 v]},toks:=tk}:=by
 refine wpAny_pyIter_range (IsRange.new ..) (small_one h1 h2 h3 h4) ?_;have I1:Inv X ae σ H {s with heap:=s.heap.push {cls:=.type "range",data:=.fields #[.int lo t,.int hi u,.int 1 v]},toks:=tk}:=I.kept λb o e=>dG _ e
 refine⟨(s.heap.push {cls:=.type "range",data:=.fields #[.int lo t,.int hi u,.int 1 v]}).objs.size,[(s.heap.push {cls:=.type "range",data:=.fields #[.int lo t,.int hi u,.int 1 v]}).objs.size],_,_,H,rfl,I1.kept (t':=tk) λb o e=>dG _ e,ZR _ lo (hi-lo).toNat,?_,λb hb=>?_,q⟩
 ·have e1:lo+((0:Nat):Int)*1=lo:=by simp
  have e2:(((hi-lo).toNat:Nat):Int)-((0:Nat):Int)=Builtin.Range.rangeSize lo hi 1:=by rw[rangeSize_one];split<;>lia
  show IsRangeIter _ _ (lo+((0:Nat):Int)*1) ((((hi-lo).toNat:Nat):Int)-((0:Nat):Int)) 1;rw[e1,e2];exact eI _ rfl
 ·have e:b=(s.heap.push {cls:=.type "range",data:=.fields #[.int lo t,.int hi u,.int 1 v]}).objs.size:=by simpa using hb
  subst e;exact I1.fpOk (aO _) (I1.hok.fresh (aO _))
def zb2(ta:TA):TI:=λσ H R=>ta σ H λvs H1=>∃j,vs=[.int j] /\ -(2^62)<=j/\j<2^62/\R (oR 0 j.toNat) H1
def kB{a:Expr}{ta:TA}{p pos:Pos}(hg:Gl X "range")(hm:X.mg "range" = none)(ha:PA X [a] ta)(hs:starEach [a] X.env=[(false,eval a X.env)]:=by rfl):PI X tg (.Call (.Name "range" p) [a] [] pos) (zb2 ta):=by
 intro ae s σ H R I h;refine Call_ (pZ I hg hm boot_range (uu (aL (ha pos ae s σ H _ I h) λus s1 ⟨vs,H1,I1,r1,q1⟩=>?_) hs rfl));obtain⟨j,e,q1,q2,q⟩:=q1;subst e;cases r1 with
 |cons r rr =>
  cases rr;obtain⟨t,rfl⟩:=r;exact call_range_1 (zas I1 (by lia) (by lia) q1 q2 (by simpa using q))
def Ie(wi:TI)(g:TG)(tb:TS):TS:=λD σ H=>wi σ H λJ H1=>∃W:Nat->Nat->St->Hp->Prop,(∃m,W 0 m σ H1)/\∀i m σ H,W i m σ H ->
 (J.stop i H/\D.nx σ H)\/(J.go i H/\∃N:St->Hp->Prop,(∀σ' H',N σ' H'->∃m',m'<m/\W (i+1) m' σ' H')/\∀x H',J.yld i H x H'->g x σ H' λσ2 H2=>tb {D with nx:=N,ct:=N,bk:=D.nx} σ2 H2)
noncomputable def rR(fp:List Addr)(h:Heap):List (Addr×Obj):=fp.filterMap λb=>(h.get? b).map λo=>(b,o)
def wR(hb:b∈fp)(e:h.get? b=some o):(b,o)∈rR fp h:=Bn.mpr ⟨b,hb,by rw[e];rfl⟩
def Nb(hp:p∈rR fp h):p.1∈fp/\h.get? p.1=some p.2:=by
 obtain⟨b,hb,e⟩:=Bn.mp hp;cases q:h.get? b with
 |none=>rw[q]at e;cases e
 |some o =>
  rw[q]at e;have e':(b,o)=p:=dN e;subst e';nomatch hb,q
def Inv.pinned(I:Inv X ae σ H s)(hf:∀b∈fp,iK X ae H b)(ho:∀b∈fp,∃o,s.heap.get? b=some o/\∀v,o.data≠.cell v):Inv X (ae++rR fp s.heap) σ H s :=
 I.pins_of λp hp=>(bF.mp hp).elim (λz=>I.pin p (fX _ z)) λz=>by
  obtain⟨hb,e⟩:=Nb z;obtain⟨f0,f1,f2,_⟩:=hf p.1 hb;obtain⟨o,e',d⟩:=ho p.1 hb;rw[e]at e';cases e';nomatch e,f0,f1,f2,d
def Inv.unpinned(I:Inv X (ae++pl) σ H s):Inv X ae σ H s:=I.pins_of λp hp=>I.pin p (fX _ (mS _ hp))
set_option tactic.hygienic true in
def eK(hp:PassesOwn (model X.prog X.w) X.A X.env X.xe)(hc:X.calm=true)(hi:PI X tg iter wi)(hg:PG X tg g)(hb:f9 X body tb)
  (hs:∀x,foldedSetIterable iter X.env x=pure x:=by intro _;rfl):PS X (.For tg iter body [] pos) (Ie wi g tb):=by
 intro ae s σ H D I h;refine wpAny_For (aL (hi ae s σ H _ I h) λv s1 h1=>aL h1 λzb s2 h2=>?_) hs;obtain⟨it,fp,tn,J,H2,e,I2,T,mf,f2,W,⟨m0,w0⟩,turn⟩:=h2;subst e;have stat:∀{H':Hp},(∀b∈fp,H' b=none)->∀b∈fp,iK X ae H' b:=λhn b hb=>⟨hn b hb,(f2 b hb).2⟩
 refine codeAny_forLoop_any (λn s'=>∃i σ' H',Inv X ae σ' H' s'/\tn i s'.heap/\(∀b∈fp,H' b=none)/\W i n σ' H') ?_ m0 ⟨0,σ,H2,I2,mf,λb hb=>(f2 b hb).1,w0⟩;rintro n s3 ⟨i,σ3,H3,I3,xK,vZ,w3⟩;rcases turn i n σ3 H3 w3 with ⟨stop,qn⟩|⟨go,N,hN,step⟩
 ·refine rH hp (aL (T.done X rfl rfl rfl hc i ae s3 σ3 H3 X.xe I3 (stat vZ) xK stop) λr s4 ⟨hr,I4⟩=>?_);subst hr;exact tS ⟨σ3,H3,I4,qn⟩
 ·refine rH hp (aL (T.item X rfl rfl rfl hc i ae s3 σ3 H3 X.xe I3 (stat vZ) xK go) λr s4 ⟨u,hr,h4⟩=>?_);subst hr;refine rH hp (aL h4 λ_ s5 ⟨x,H5,I5,r5,y5,rn,EL⟩=>?_);have Cc:=I5.pinned (stat EL) (T.obj _ _ rn);refine rH hp (aL (hg _ s5 σ3 H5 x u _ Cc r5 (step x H5 y5)) λ_ s6 ⟨σ6,H6,I6,q6⟩=>?_);refine rH hp (aL (hb _ s6 σ6 H6 _ I6 q6) λf s7 q7=>?_);have again:∀{σ7:St}{H7:Hp},Inv X (ae++rR fp s5.heap) σ7 H7 s7->N σ7 H7->∃m,m<n/\∃i σ' H',Inv X ae σ' H' s7/\tn i s7.heap/\(∀b∈fp,H' b=none)/\W i m σ' H':=fun {σ7 H7} I7 n7=>by
   obtain⟨m',hm,w7⟩:=hN σ7 H7 n7;exists m',hm,i+1,σ7,H7,I7.unpinned,T.keep _ _ _ rn λb hb o e=>(I7.pin (b,o) (fX _ (fX _ (wR hb e)))).1,λb hb=>?_,w7;obtain⟨o,e,d⟩:=T.obj _ _ rn b hb;exact (I7.pin (b,o) (fX _ (fX _ (wR hb e)))).2.1
  cases f with
  |next=>obtain⟨σ7,H7,I7,n7⟩:=q7;exact again I7 n7
  |cont=>obtain⟨σ7,H7,I7,n7⟩:=q7;exact again I7 n7
  |brk=>obtain⟨σ7,H7,I7,q7⟩:=q7;nomatch σ7,H7,I7.unpinned,q7
  |ret v=>obtain⟨x7,σ7,H7,I7,r7,q7⟩:=q7;nomatch x7,σ7,H7,I7.unpinned,r7,q7
end
def jK{K:Frag}{a:Addr}{xs:List V}{g:TG}{tb:TS}{D:ky}{σ:St}{H:Hp}(Pv:Nat->St->Hp->Prop)(h0:Pv 0 σ H)(hl:∀i σ H,i<=xs.length->Pv i σ H->aj K H a xs)
  (hs:∀i x σ H,xs[i]?=some x->Pv i σ H->g x σ H λσ2 H2=>tb {D with nx:=Pv (i+1),ct:=Pv (i+1),bk:=D.nx} σ2 H2) (hd:∀σ H,Pv xs.length σ H->D.nx σ H) :
  ∃W:Nat->Nat->St->Hp->Prop,(∃m,W 0 m σ H)/\∀i m σ H,W i m σ H ->
   ((je K a).stop i H/\D.nx σ H)\/((je K a).go i H/\∃N:St->Hp->Prop,(∀σ' H',N σ' H'->∃m',m'<m/\W (i+1) m' σ' H')/\∀x H',(je K a).yld i H x H'->g x σ H' λσ2 H2=>tb {D with nx:=N,ct:=N,bk:=D.nx} σ2 H2):=by
 exists λi m σ H=>m=xs.length-i/\i<=xs.length/\Pv i σ H,⟨xs.length,by simp,bS _,h0⟩,?_;rintro i m σ H ⟨rfl,hi,p⟩;have q:=hl i σ H hi p;by_cases bA:i<xs.length
 ·refine .inr ⟨⟨xs,xs[i],q,by simp[bA]⟩,Pv (i+1),λσ' H' p'=>⟨xs.length-(i+1),by omega,rfl,bA,p'⟩,λx H' y=>?_⟩;obtain⟨e,y⟩:=y;subst e;exact hs i x σ _ (y xs q) p
 ·have e:i=xs.length:=by lia
  subst e;exact .inl ⟨⟨xs,q,aO _⟩,hd σ H p⟩
def Wc{K:Frag}{a:Addr}{xs:List V}{g:TG}{tb:TS}{D:ky}{σ:St}{H:Hp}(Pv:Nat->St->Hp->Prop)(h0:Pv 0 σ H)(hl:∀i σ H,i<=xs.length->Pv i σ H->ay K H a xs)
  (hs:∀i x σ H,xs[i]?=some x->Pv i σ H->g x σ H λσ2 H2=>tb {D with nx:=Pv (i+1),ct:=Pv (i+1),bk:=D.nx} σ2 H2) (hd:∀σ H,Pv xs.length σ H->D.nx σ H) :
  ∃W:Nat->Nat->St->Hp->Prop,(∃m,W 0 m σ H)/\∀i m σ H,W i m σ H ->
   ((u7 K a).stop i H/\D.nx σ H)\/((u7 K a).go i H/\∃N:St->Hp->Prop,(∀σ' H',N σ' H'->∃m',m'<m/\W (i+1) m' σ' H')/\∀x H',(u7 K a).yld i H x H'->g x σ H' λσ2 H2=>tb {D with nx:=N,ct:=N,bk:=D.nx} σ2 H2):=by
 exists λi m σ H=>m=xs.length-i/\i<=xs.length/\Pv i σ H,⟨xs.length,by simp,bS _,h0⟩,?_;rintro i m σ H ⟨rfl,hi,p⟩;have q:=hl i σ H hi p;by_cases bA:i<xs.length
 ·refine .inr ⟨⟨xs,xs[i],q,by simp[bA]⟩,Pv (i+1),λσ' H' p'=>⟨xs.length-(i+1),by omega,rfl,bA,p'⟩,λx H' y=>?_⟩;obtain⟨e,y⟩:=y;subst e;exact hs i x σ _ (y xs q) p
 ·have e:i=xs.length:=by omega
  subst e;exact .inl ⟨⟨xs,q,aO _⟩,hd σ H p⟩
def pI{lo:Int}{n:Nat}{g:TG}{tb:TS}{D:ky}{σ:St}{H:Hp}(Pv:Nat->St->Hp->Prop)(h0:Pv 0 σ H)
  (hs:∀i σ H,i<n->Pv i σ H->g (.int (lo+i)) σ H λσ2 H2=>tb {D with nx:=Pv (i+1),ct:=Pv (i+1),bk:=D.nx} σ2 H2) (hd:∀σ H,Pv n σ H->D.nx σ H) :
  ∃W:Nat->Nat->St->Hp->Prop,(∃m,W 0 m σ H)/\∀i m σ H,W i m σ H ->
   ((oR lo n).stop i H/\D.nx σ H)\/((oR lo n).go i H/\∃N:St->Hp->Prop,(∀σ' H',N σ' H'->∃m',m'<m/\W (i+1) m' σ' H')/\∀x H',(oR lo n).yld i H x H'->g x σ H' λσ2 H2=>tb {D with nx:=N,ct:=N,bk:=D.nx} σ2 H2):=by
 exists λi m σ H=>m=n-i/\i<=n/\Pv i σ H,⟨n,by simp,bS _,h0⟩,?_;rintro i m σ H ⟨rfl,hi,p⟩;by_cases bA:i<n
 ·refine .inr ⟨bA,Pv (i+1),λσ' H' p'=>⟨n-(i+1),by lia,rfl,bA,p'⟩,λx H' y=>?_⟩;obtain⟨e,y⟩:=y;subst e y;exact hs i σ _ bA p
 ·have e:i=n:=by lia
  subst e;exact .inl ⟨aO _,hd σ H p⟩
def zbI(Pv:St->Hp->Prop)(μ:St->Hp->Nat)(h0:Pv σ H)
  (hs:∀σ H,Pv σ H->c σ H λb H1=>if b=true then tb {D with nx:=λσ' H'=>Pv σ' H'/\μ σ' H'<μ σ H,ct:=λσ' H'=>Pv σ' H'/\μ σ' H'<μ σ H,bk:=D.nx} σ H1 else D.nx σ H1)
  (mono:∀σ H Q Q',(∀b H1,Q b H1->Q' b H1)->c σ H Q->c σ H Q'):Jp c tb D σ H:=by
 exists λm σ H=>m=μ σ H/\Pv σ H,⟨_,rfl,h0⟩,?_;rintro m σ H ⟨rfl,p⟩;refine mono σ H _ _ (λb H1 q=>?_) (hs σ H p);cases b with
 |true=>nomatch _,λσ' H' ⟨p',l⟩=>⟨_,l,rfl,p'⟩,q
 |false=>exact q
abbrev R2:=V->V->Hp->VK->Prop
def bV(X:Cx)(f:Value->Value->Sem Value)(r:R2):Prop :=
 ∀(ae:List (Addr×Obj)) (s:Shared) (σ:St) (H:Hp) (x y:V) (v u:Value) (Q:VK),Inv X ae σ H s->RelV x v->RelV y u->r x y H Q ->
  wpAny (model X.prog X.w) X.A (f v u) (EP X ae σ Q) X.xe s
def GV(X:Cx)(f:Value->Sem Value)(r:V->Hp->VK->Prop):Prop :=
 ∀(ae:List (Addr×Obj)) (s:Shared) (σ:St) (H:Hp) (x:V) (v:Value) (Q:VK),Inv X ae σ H s->RelV x v->r x H Q ->
  wpAny (model X.prog X.w) X.A (f v) (EP X ae σ Q) X.xe s
def jq(X:Cx)(f:Value)(r:List V->Hp->VK->Prop):Prop :=
 ∀(ae:List (Addr×Obj)) (s:Shared) (σ:St) (H:Hp) (xs:List V) (us:List Value) (Q:VK),Inv X ae σ H s->Vals xs us->r xs H Q ->
  wpAny (model X.prog X.w) X.A (call f us) (EP X ae σ Q) X.xe s
def VA(X:Cx)(r:V->Hp->(Bool->Hp->Prop)->Prop):Prop :=
 ∀(ae:List (Addr×Obj)) (s:Shared) (σ:St) (H:Hp) (x:V) (v:Value) (Q:Bool->Hp->Prop),Inv X ae σ H s->RelV x v->r x H Q ->
  wpAny (model X.prog X.w) X.A (truthy v) (TP X ae σ Q) X.xe s
def kc(r:R2)(ta tb:TE):TE:=λσ H Q=>ta σ H λx H1=>tb σ H1 λy H2=>r x y H2 Q
def Xk(r:V->Hp->VK->Prop)(ta:TE):TE:=λσ H Q=>ta σ H λx H1=>r x H1 Q
def rI(C:Int->Int->Prop)(g:Int->Int->V):R2:=λx y H Q=>∃i j,x=.int i/\y=.int j/\C i j/\Q (g i j) H
def kG(g:Int->Int->V):R2:=λx y H Q=>∃i j,x=.int i/\y=.int j/\Q (g i j) H
def rU(g:Int->V):V->Hp->VK->Prop:=λx H Q=>∃i,x=.int i/\Q (g i) H
section
variable{X:Cx}{a b c:Expr}{ta tb tc:TE}{pos:Pos}
def GG(ha:PE X a ta)(hb:PE X b tb){ae:List (Addr×Obj)}{s:Shared}{σ:St}{H:Hp}{R:V->V->Hp->Prop}(I:Inv X ae σ H s)
  (h:ta σ H λx H1=>tb σ H1 λy H2=>R x y H2) {Q:Value->Shared->Prop}{f:Value->Value->Sem Value}
  (hf:∀v u s2 x y H2,Inv X ae σ H2 s2->RelV x v->RelV y u->R x y H2->wpAny (model X.prog X.w) X.A (f v u) Q X.xe s2) :
  wpAny (model X.prog X.w) X.A (eval a X.env) (λv s₁=>wpAny (model X.prog X.w) X.A (eval b X.env) (λu s₂=>wpAny (model X.prog X.w) X.A (f v u) Q X.xe s₂) X.xe s₁) X.xe s:=by
 refine aL (ha ae s σ H _ I h) λv s1 ⟨x,H1,I1,r1,q1⟩=>?_
 refine aL (hb ae s1 σ H1 _ I1 q1) λu s2 ⟨y,H2,I2,r2,q2⟩=>?_
 exact hf v u s2 x y H2 I2 r1 r2 q2
def az{op:Operator}{r:R2}(ho:bV X (binaryOp op) r)(ha:PE X a ta)(hb:PE X b tb):PE X (.BinOp a op b pos) (kc r ta tb):=by
 intro ae s σ H Q I h;exact wpAny_BinOp (GG ha hb I h λv u s2 x y H2 I2 rx ry q=>ho ae s2 σ H2 x y v u Q I2 rx ry q)
def o6(ho:GV X (unaryOp op) r)(ha:PE X a ta):PE X (.UnaryOp op a pos) (Xk r ta):=by
 intro ae s σ H Q I h;exact UnaryOp_ (aL (ha ae s σ H _ I h) λv s1 ⟨x,H1,I1,r1,q1⟩=>ho ae s1 σ H1 x v Q I1 r1 q1)
def uj{f:Value->Value->Sem Value}{C:Int->Int->Prop}{g:Int->Int->Int}
  (rule:∀(i j:Int) (t u:Tok) (s:Shared) (Q:Value->Shared->Prop) (E:Value->Shared->Prop),C i j->Q (.int (g i j) s.toks) {s with toks:=s.toks+1}->wpAny (model X.prog X.w) X.A (f (.int i t) (.int j u)) Q E s) :
  bV X f (rI C λi j=>.int (g i j)):=by
 intro ae s σ H x y v u Q I rx ry h;obtain⟨i,j,rfl,rfl,hc,q⟩:=h;obtain⟨t,rfl⟩:=rx;obtain⟨t',rfl⟩:=ry;exact rule i j t t' s _ _ hc ⟨.int (g i j),H,I.tok _,⟨_,rfl⟩,q⟩
def yj{f:Value->Value->Sem Value}{g:Int->Int->Int}
  (rule:∀(i j:Int) (t u:Tok) (s:Shared) (Q:Value->Shared->Prop) (E:Value->Shared->Prop),Q (.int (g i j) s.toks) {s with toks:=s.toks+1}->wpAny (model X.prog X.w) X.A (f (.int i t) (.int j u)) Q E s) :
  bV X f (kG λi j=>.int (g i j)):=by
 intro ae s σ H x y v u Q I rx ry h;obtain⟨i,j,rfl,rfl,q⟩:=h;obtain⟨t,rfl⟩:=rx;obtain⟨t',rfl⟩:=ry;exact rule i j t t' s _ _ ⟨.int (g i j),H,I.tok _,⟨_,rfl⟩,q⟩
def zL{f:Value->Value->Sem Value}{g:Int->Int->Bool}
  (rule:∀(i j:Int) (t u:Tok) (s:Shared) (Q:Value->Shared->Prop) (E:Value->Shared->Prop),Q (.bool (g i j)) s->wpAny (model X.prog X.w) X.A (f (.int i t) (.int j u)) Q E s) :
  bV X f (kG λi j=>.bl (g i j)):=by
 intro ae s σ H x y v u Q I rx ry h;obtain⟨i,j,rfl,rfl,q⟩:=h;obtain⟨t,rfl⟩:=rx;obtain⟨t',rfl⟩:=ry;exact rule i j t t' s _ _ ⟨.bl (g i j),H,I,rfl,q⟩
def Pk(i j:Int):Prop:=0<=j/\j<=1000000/\i.natAbs<2^64
def yx(i j:Int):Prop:=(-(2^64)<i/\i<2^64)\/(-(2^64)<j/\j<2^64)
def yx.ok(h:yx i j):IntMulOk i j:=by
 rcases h with ⟨h1,h2⟩|⟨h1,h2⟩
 ·exact .of_left (intBits_le_64 h1 h2)
 ·exact .of_right (intBits_le_64 h1 h2)
def fz:bV X (binaryOp .Add) (kG λi j=>.int (i+j)):=yj λ_ _ _ _ _ _ _ q=>add_int q
def ki:bV X (binaryOp .Sub) (kG λi j=>.int (i-j)):=yj λ_ _ _ _ _ _ _ q=>sub_int q
def bQ:bV X (binaryOp .Mod) (rI (λ_ j=>0<j) λi j=>.int (i%j)):=uj λi j _ _ _ _ _ hc q=>by
 have h1:(0:Int)<j:=hc;exact mod_int' (by lia) (by rw[Int.fmod_eq_emod_of_nonneg i (by lia)];exact q)
def tN:bV X (binaryOp .Pow) (rI Pk λi j=>.int (i^j.toNat)):=uj λ_ _ _ _ _ _ _ hc q=>pow_int_small hc.1 hc.2.1 hc.2.2 q
def pJ:bV X (binaryOp .LShift) (rI Pk λi j=>.int (i*2^j.toNat)):=uj λ_ _ _ _ _ _ _ hc q=>lshift_int_small hc.1 hc.2.1 hc.2.2 q
def sq:bV X (binaryOp .BitAnd) (kG λi j=>.int (Builtin.bitAnd i j)):=yj λ_ _ _ _ _ _ _ q=>and_int q
def wD:bV X (binaryOp .BitOr) (kG λi j=>.int (Builtin.bitOr i j)):=yj λ_ _ _ _ _ _ _ q=>or_int q
def unI{f:Value->Sem Value}{g:Int->Int}
  (rule:∀(i:Int) (t:Tok) (s:Shared) (Q:Value->Shared->Prop) (E:Value->Shared->Prop),Q (.int (g i) s.toks) {s with toks:=s.toks+1}->wpAny (model X.prog X.w) X.A (f (.int i t)) Q E s) :
  GV X f (rU λi=>.int (g i)):=by
 intro ae s σ H x v Q I rx h;obtain⟨i,rfl,q⟩:=h;obtain⟨t,rfl⟩:=rx;exact rule i t s _ _ ⟨.int (g i),H,I.tok _,⟨_,rfl⟩,q⟩
def oq:GV X (unaryOp .USub) (rU λi=>.int (-i)):=unI λ_ _ _ _ _ q=>neg_int q
end
noncomputable def xB:V->V->Bool
 |.non,.non=>true|.non,.int _=>true|.int _,.non=>true|.non,.bl _=>true|.bl _,.non=>true|.non,.str _=>true|.str _,.non=>true
 |.int _,.int _=>true|.bl _,.bl _=>true|.str _,.str _=>true|.byt _,.byt _=>true
 |.int _,.str _=>true|.str _,.int _=>true|.bl _,.str _=>true|.str _,.bl _=>true
 |_,_=>false
def VT:R2:=λx y H Q=>xB x y=true/\Q (.bl (decide (x=y))) H
def rNe:R2:=λx y H Q=>xB x y=true/\Q (.bl (!decide (x=y))) H
def IY:decide (V.int i=V.int j)=(i == j):=by
 rw[qD];simp
def KJ:decide (V.bl i=V.bl j)=(i == j):=by
 rw[qD];simp
def Jk:decide (V.str i=V.str j)=(i == j):=by
 rw[qD];simp
def OL:decide (V.byt i=V.byt j)=(i.toList == j.toList):=by
 rw[qD];cases i;cases j;simp
section
variable{X:Cx}{a b c:Expr}{ta tb tc:TE}{pos:Pos}
def c9(I:Inv X ae σ H s)(q:Q (.bl k) H)(e:k=k'):EP X ae σ Q (.bool k') s:=by
 subst e;nomatch .bl k,H,I,rfl,q
def oP:bV X (compareOp .Eq) VT:=by
 intro ae s σ H x y v u Q I rx ry h;obtain⟨hs,q⟩:=h;cases x with
 |non =>
  cases rx;cases y with
  |non=>cases ry;exact PySem.EqNone.eq_none_none (c9 I q (by simp))
  |bl j=>cases ry;exact PySem.EqNone.eq_none_bool (c9 I q (by simp))
  |int j=>obtain⟨t',rfl⟩:=ry;exact PySem.EqNone.eq_none_int (c9 I q (by simp))
  |str j=>obtain⟨t',rfl⟩:=ry;exact PySem.EqNone.eq_none_str (c9 I q (by simp))
  |_=>exact absurd (show false=true from hs) dJ
 |bl i =>
  cases rx;cases y with
  |non=>cases ry;exact PySem.EqNone.eq_bool_none (c9 I q (by simp))
  |bl j=>cases ry;exact eq_bool (c9 I q KJ)
  |str j=>obtain⟨t',rfl⟩:=ry;exact PySem.EqMixed.eq_bool_str (c9 I q (by simp))
  |_=>exact absurd (show false=true from hs) dJ
 |int i =>
  obtain⟨t,rfl⟩:=rx;cases y with
  |non=>cases ry;exact PySem.EqNone.eq_int_none (c9 I q (by simp))
  |int j=>obtain⟨t',rfl⟩:=ry;exact eq_int (c9 I q IY)
  |str j=>obtain⟨t',rfl⟩:=ry;exact PySem.EqMixed.eq_int_str (c9 I q (by simp))
  |_=>exact absurd (show false=true from hs) dJ
 |str i =>
  obtain⟨t,rfl⟩:=rx;cases y with
  |non=>cases ry;exact PySem.EqNone.eq_str_none (c9 I q (by simp))
  |bl j=>cases ry;exact PySem.EqMixed.eq_str_bool (c9 I q (by simp))
  |int j=>obtain⟨t',rfl⟩:=ry;exact PySem.EqMixed.eq_str_int (c9 I q (by simp))
  |str j=>obtain⟨t',rfl⟩:=ry;exact eq_str (c9 I q Jk)
  |_=>exact absurd (show false=true from hs) dJ
 |byt i =>
  obtain⟨t,rfl⟩:=rx;cases y with
  |byt j=>obtain⟨t',rfl⟩:=ry;exact PySem.W.eq_bytes (c9 I q OL)
  |_=>exact absurd (show false=true from hs) dJ
 |_=>cases y<;>exact absurd (show false=true from hs) dJ
def Ad:bV X (compareOp .NotEq) rNe:=by
 intro ae s σ H x y v u Q I rx ry h;obtain⟨hs,q⟩:=h;cases x with
 |non =>
  cases rx;cases y with
  |non=>cases ry;exact PySem.EqNone.ne_none_none (c9 I q (by simp))
  |bl j=>cases ry;exact PySem.EqNone.ne_none_bool (c9 I q (by simp))
  |int j=>obtain⟨t',rfl⟩:=ry;exact PySem.EqNone.ne_none_int (c9 I q (by simp))
  |str j=>obtain⟨t',rfl⟩:=ry;exact PySem.EqNone.ne_none_str (c9 I q (by simp))
  |_=>exact absurd (show false=true from hs) dJ
 |bl i =>
  cases rx;cases y with
  |non=>cases ry;exact PySem.EqNone.ne_bool_none (c9 I q (by simp))
  |bl j=>cases ry;exact ne_bool (c9 I q (congrArg not KJ))
  |str j=>obtain⟨t',rfl⟩:=ry;exact PySem.EqMixed.ne_bool_str (c9 I q (by simp))
  |_=>exact absurd (show false=true from hs) dJ
 |int i =>
  obtain⟨t,rfl⟩:=rx;cases y with
  |non=>cases ry;exact PySem.EqNone.ne_int_none (c9 I q (by simp))
  |int j=>obtain⟨t',rfl⟩:=ry;exact ne_int (c9 I q (congrArg not IY))
  |str j=>obtain⟨t',rfl⟩:=ry;exact PySem.EqMixed.ne_int_str (c9 I q (by simp))
  |_=>exact absurd (show false=true from hs) dJ
 |str i =>
  obtain⟨t,rfl⟩:=rx;cases y with
  |non=>cases ry;exact PySem.EqNone.ne_str_none (c9 I q (by simp))
  |bl j=>cases ry;exact PySem.EqMixed.ne_str_bool (c9 I q (by simp))
  |int j=>obtain⟨t',rfl⟩:=ry;exact PySem.EqMixed.ne_str_int (c9 I q (by simp))
  |str j=>obtain⟨t',rfl⟩:=ry;exact ne_str (c9 I q (congrArg not Jk))
  |_=>exact absurd (show false=true from hs) dJ
 |byt i =>
  obtain⟨t,rfl⟩:=rx;cases y with
  |byt j=>obtain⟨t',rfl⟩:=ry;exact PySem.W.ne_bytes (c9 I q (congrArg not OL))
  |_=>exact absurd (show false=true from hs) dJ
 |_=>cases y<;>exact absurd (show false=true from hs) dJ
def pE:bV X (compareOp .Lt) (kG λi j=>.bl (decide (i<j))):=zL λ_ _ _ _ _ _ _ q=>lt_int q
def rO:bV X (compareOp .LtE) (kG λi j=>.bl (decide (i<=j))):=zL λ_ _ _ _ _ _ _ q=>le_int q
def mm:bV X (compareOp .Gt) (kG λi j=>.bl (decide (j<i))):=zL λ_ _ _ _ _ _ _ q=>gt_int q
def Mt:bV X (compareOp .GtE) (kG λi j=>.bl (decide (j<=i))):=zL λ_ _ _ _ _ _ _ q=>ge_int q
def B7:bV X (compareOp .In) (λx y H Q=>∃i j,x=.str i/\y=.str j/\Q (.bl (!(Builtin.Str.occurrences j i 0 j.length 1).isEmpty)) H):=by
 intro ae s σ H x y v u Q I rx ry h;obtain⟨i,j,rfl,rfl,q⟩:=h;obtain⟨t,rfl⟩:=rx;obtain⟨t',rfl⟩:=ry;exact in_str (c9 I q rfl)
def rF:bV X (compareOp .Is) (λx y H Q=>y=.non/\Q (.bl (decide (x=.non))) H):=by
 intro ae s σ H x y v u Q I rx ry h;obtain⟨rfl,q⟩:=h;cases ry;refine is_none_gen (c9 I q ?_);cases x<;>first
  |(cases rx;rfl)
  |(obtain⟨t,rfl⟩:=rx;rfl)
def En(b:Expr)(h:op≠.In:=by decide)(h2:op≠.NotIn:=by decide):behindInMarks op b=false:=by
 have e1:(op == CmpOp.In)=false:=by cases op<;>first|rfl|exact absurd rfl h
 have e2:(op == CmpOp.NotIn)=false:=by cases op<;>first|rfl|exact absurd rfl h2
 cases b with
 |Set elts k pos=>show (k == 0&&(op == CmpOp.In || op == CmpOp.NotIn)&&_)=false;rw[e1,e2,FN,tQ,zJ]
 |_=>rfl
def tL(ho:bV X (compareOp op) r)(ha:PE X a ta)(hb:PE X b tb)(hm:behindInMarks op b=false):PE X (.Compare a [op] [b] pos) (kc r ta tb):=by
 intro ae s σ H Q I h;exact wpAny_Compare1 (GG ha hb I h λv u s2 x y H2 I2 rx ry q=>ho ae s2 σ H2 x y v u Q I2 rx ry q) hm
def OZ(t:TE):TT:=λσ H Q=>t σ H λx H'=>∃k,x=.bl k/\Q k H'
def nJ(ho:bV X (compareOp op) r)(ha:PE X a ta)(hb:PE X b tb)(hm:behindInMarks op b=false):PT X (.Compare a [op] [b] pos) (OZ (kc r ta tb)):=by
 intro ae s σ H Q I h;refine DS (aL (ha ae s σ H _ I h) λv s1 ⟨x,H1,I1,r1,q1⟩=>aL (hb ae s1 σ H1 _ I1 q1) λu s2 ⟨y,H2,I2,r2,q2⟩ =>
  aL (ho ae s2 σ H2 x y v u _ I2 r1 r2 q2) λc s3 ⟨z,H3,I3,r3,k,e,q3⟩=>?_) hm
 subst e;cases r3;exact lq ⟨H3,I3,q3⟩
def zcf(r r':R2)(ta tb tc:TE):TE:=λσ H Q=>ta σ H λx H1=>tb σ H1 λy H2=>r x y H2 λz H3=>∃k,z=.bl k /\
 (if k=true then tc σ H3 λw' H4=>r' y w' H4 Q else Q (.bl false) H3)
def Ik(ho:bV X (compareOp op) r)(nQ:bV X (compareOp op') r')(ha:PE X a ta)(hb:PE X b tb)(hc:PE X c tc)
  (hm:lastMarks [op,op'] [b,c]=false:=by with_unfolding_all rfl):PE X (.Compare a [op,op'] [b,c] pos) (zcf r r' ta tb tc):=by
 intro ae s σ H Q I h;refine Compare_chain (aL (ha ae s σ H _ I h) λv s1 ⟨x,H1,I1,r1,q1⟩=>chain_link (aL (hb ae s1 σ H1 _ I1 q1) λu s2 ⟨y,H2,I2,r2,q2⟩ =>
  aL (ho ae s2 σ H2 x y v u _ I2 r1 r2 q2) λd s3 ⟨z,H3,I3,r3,k,e,q3⟩=>?_)) hm
 subst e;cases r3;refine lq ?_;cases k with
 |false=>exact ite_ff ⟨.bl false,H3,I3,rfl,q3⟩
 |true=>exact ite_tt (chain_last (aL (hc ae s3 σ H3 _ I3 q3) λw' s4 ⟨z',H4,I4,r4,q4⟩=>nQ ae s4 σ H4 y z' u w' Q I4 r2 r4 q4))
def NQ(K:Frag)(x:V)(H:Hp)(k:Bool):Prop :=
 match x with
 |.non=>k=false
 |.bl b=>k=b
 |.int i=>k=(i != 0)
 |.str y=>y.length<=sizeLine/\k=((y.length:Int) != 0)
 |.byt y=>y.size<=sizeLine/\k=((y.size:Int) != 0)
 |.ref p=>(∃xs,aj K H p xs/\k = !xs.isEmpty)\/(∃xs,ay K H p xs/\k = !xs.isEmpty)\/∃kvs,H p=some (.dK kvs)/\k = !kvs.isEmpty
 |_=>False
def SA(r:KV kvs vs):(!vs.isEmpty) = !kvs.isEmpty:=by
 cases r<;>rfl
def Ju(r:Vals xs ah):(!ah.toArray.isEmpty) = !xs.isEmpty:=by
 cases r<;>simp
def qf:(sizeLine:Nat)<2^63:=by rw[Ak];decide
def WZ:VA X (λx H Q=>∃k,NQ X.K x H k/\Q k H):=by
 intro ae s σ H x v Q I rx h;obtain⟨k,e,q⟩:=h;have hl:=qf;have hs:sizeLine=16777216:=Ak;cases x with
 |non =>
  cases rx;have e':k=false:=e;subst e';exact truthy_none ⟨H,I,q⟩
 |bl b =>
  cases rx;have e':k=b:=e;subst e';exact lq ⟨H,I,q⟩
 |int i =>
  obtain⟨t,rfl⟩:=rx;have e':k=(i != 0):=e;subst e';exact PySem.P.truthy_int ⟨H,I,q⟩
 |str y =>
  obtain⟨t,rfl⟩:=rx;obtain⟨hy,e'⟩:y.length<=sizeLine/\k=((y.length:Int) != 0):=e;subst e';exact PySem.P.truthy_str (by lia) ⟨H,I.tok _,q⟩
 |byt y =>
  obtain⟨t,rfl⟩:=rx;obtain⟨hy,e'⟩:y.size<=sizeLine/\k=((y.size:Int) != 0):=e;subst e';exact PySem.W.truthy_bytes (by lia) ⟨H,I.tok _,q⟩
 |ref p =>
  cases rx;have e':(∃xs,aj X.K H p xs/\k = !xs.isEmpty)\/(∃xs,ay X.K H p xs/\k = !xs.isEmpty)\/∃kvs,H p=some (.dK kvs)/\k = !kvs.isEmpty:=e;rcases e' with ⟨xs,hx,e'⟩|⟨xs,hx,e'⟩|⟨kvs,hx,e'⟩
  ·subst e';obtain⟨ah,r,pl,hz⟩:=I.list hx;have aH:=r.length;exact wpAny_truthy_list pl.isList (by simp only[cf];lia) ⟨H,I.tok _,by rw[Ju r];exact q⟩
  ·subst e';obtain⟨ah,r,pl,hz⟩:=I.tuple hx;have aH:=r.length;exact truthy_tuple pl (by simp only[cf];omega) ⟨H,I.tok _,by rw[Ju r];exact q⟩
  ·subst e';obtain⟨hz,hS,vs,r,m⟩:kvs.length<=sizeLine/\(p == sysModules)=false/\∃vs,KV kvs vs/\s.heap.DictOf (fO X.prog X.w) p vs:=I.hok p _ hx;have aH:kvs.length=vs.length:=er r;exact wpAny_truthy_dict hS m (by lia) ⟨H,I.tok _,by rw[SA r];exact q⟩
 |_=>exact (show False from e).elim
def pP(ha:PE X a ta)(he:∀whole,isTrue a X.env whole=(do let v <-whole;standAt a.pos;holding [v] (truthy v))) :
  PT X a (λσ H Q=>ta σ H λx H'=>∃k,NQ X.K x H' k/\Q k H'):=by
 intro ae s σ H Q I h;exact isTrue_plain (aL (ha ae s σ H _ I h) λv s1 ⟨x,H1,I1,r1,q1⟩=>WZ ae s1 σ H1 x v Q I1 r1 q1) (he _)
def gc:bV X (binaryOp .Add) (λx y H Q=>∃i j,x=.str i/\y=.str j/\i.length+j.length<=sizeLine/\Q (.str (i++j)) H):=by
 intro ae s σ H x y v u Q I rx ry h;obtain⟨i,j,rfl,rfl,hz,q⟩:=h;obtain⟨t,rfl⟩:=rx;obtain⟨t',rfl⟩:=ry;exact add_str (λt' tk=>⟨.str (i++j),H,I.tok _,⟨_,rfl⟩,q⟩) hz
def jz(r:Vals [x] us):∃u,us=[u]/\RelV x u:=by
 cases r with
 |cons r1 r2=>cases r2;nomatch _,rfl,r1
def AW(r:Vals [x,y] us):∃u w',us=[u,w']/\RelV x u/\RelV y w':=by
 cases r with
 |cons r1 r2 =>
  cases r2 with
  |cons r3 r4=>cases r4;nomatch _,_,rfl,r1,r3
def wy:jq X (.builtin "abs") (λxs H Q=>∃i,xs=[.int i]/\Q (.int (if i<0 then -i else i)) H):=by
 intro ae s σ H xs us Q I r h;obtain⟨i,rfl,q⟩:=h;obtain⟨u,rfl,t,rfl⟩:=jz r;exact call_abs_int λu tk=>⟨.int (if i<0 then -i else i),H,I.tok _,⟨_,rfl⟩,q⟩
def Hf:jq X (.type "int") (λxs H Q=>(∃i,xs=[.int i]/\Q (.int i) H)\/∃k,xs=[.bl k]/\Q (.int (if k then 1 else 0)) H):=by
 intro ae s σ H xs us Q I r h;rcases h with ⟨i,rfl,q⟩|⟨k,rfl,q⟩
 ·obtain⟨u,rfl,t,rfl⟩:=jz r;exact call_int_int ⟨.int i,H,I,⟨_,rfl⟩,q⟩
 ·obtain⟨u,rfl,r1⟩:=jz r;cases r1;exact call_int_bool ⟨.int (if k then 1 else 0),H,I.tok _,⟨_,rfl⟩,q⟩
def lj:jq X (.type "str") (λxs H Q=>∃i,xs=[.int i]/\i.natAbs.log2<1920/\Q (.str (toString i)) H):=by
 intro ae s σ H xs us Q I r h;obtain⟨i,rfl,hz,q⟩:=h;obtain⟨u,rfl,t,rfl⟩:=jz r;exact PySem.P.str_of_int hz ⟨.str _,H,I.tok _,⟨_,rfl⟩,q⟩
end
structure qI(h:Heap)(x dx C:Addr)(mA:Str->Option Value):Prop where
 obj:h.get? x=some (PySem.W.instObj C dx)
 ns:h.Ns1 dx mA
 ne:dx≠x
set_option tactic.hygienic true in
def VS{h:Heap}{dx:Addr}{mA:Str->Option Value}(n:h.Ns1 dx mA):∃od,h.get? dx=some od/\∀name,PySem.W.lookIn name od=some (mA name):=by
 obtain⟨o,es,ep,ho,hd,hk,_,hm⟩:=n;exists o,ho,λname=>?_;have e:=hm name;unfold nsFind findBy at e;rw[<-Array.find?_toList]at e;unfold PySem.W.lookIn;rw[hd];dsimp only;split
 ·rename_i y q;rw[q]at e;exact congrArg some e
 ·rename_i q;rw[q]at e;have a:es.toList.any (·.refKey)=false:=by
   rw[List.any_eq_false];intro y hy;obtain⟨z,t,So⟩:=hk y (Array.mem_toList_iff.mp hy);simp[DictEntry.refKey,So]
  have a':¬es.toList.any (·.refKey)=true:=by rw[a];exact dJ
  rw[ax a'];exact congrArg some e
def qI.look(I:qI h x dx C mA):∃od,PySem.W.InstAt h x (PySem.W.instObj C dx) C (some od)/\∀name,PySem.W.lookIn name od=some (mA name) :=
 let ⟨od,ho,hl⟩:=VS I.ns
 ⟨od,⟨I.obj,rfl,rfl,ho⟩,hl⟩
section
variable{prog:Program}{w:World}{A:Around}{E:Value->Shared->Prop}{s:Shared}{K:Frag}{x dx C f:Addr}{mA:Str->Option Value}{name:Str}{v:Value}
def Wu(X:K.In s.heap)(I:qI s.heap x dx C mA)(hg:PySem.W.plainGet K C name=true)(hh:PySem.W.hasDictIn K C=true)
  (ha:PySem.W.findIn K (.ref C) name=some none) (hv:mA name=some v) (Tu:PySem.W.handedIn v=true) (h:Q v {s with toks:=s.toks+1}) :
  wpAny (model prog w) A (getAttr (.ref x) name expr) Q E s:=by
 obtain⟨od,J,hl⟩:=I.look;exact PySem.W.get_value X J (Ef hg).1 (PySem.W.findObj_own hh ha rfl (by rw[hl,hv])) Tu h
def zbi(X:K.In s.heap)(I:qI s.heap x dx C mA)(hg:PySem.W.plainGet K C name=true)
  (hf:PySem.W.findIn K (.ref C) name=some (some (.ref f))) (ht:PySem.W.isFn K (.ref f)=true) (hv:mA name=none) (h:Q (.ref f,[.ref x]) s) :
  wpAny (model prog w) A (getMethod (.ref x) name pl) Q E s:=by
 obtain⟨od,J,hl⟩:=I.look;exact PySem.W.method_fn X J (Ef hg).1 (Ef hg).2 hf (mX.mp ht) (by show (PySem.W.lookIn name od).map (·.isSome)=some false;rw[hl,hv];rfl) h
def XN(X:K.In s.heap)(I:qI s.heap x dx C mA)
  (hs:PySem.W.findIn K (.ref C) "__setattr__" = some (some (.builtin "object.__setattr__"))) (hp:PySem.W.plainOver K C=true) (ht:PySem.W.takerIn K C name=some none) (hh:PySem.W.hasDictIn K C=true)
  (hw:PySem.Within mA ns) (hsz:ns.length<=sizeLine)
  (h:∀h',qI h' x dx C (λy=>if y=name then some v else mA y)->Heap.SameBut dx s.heap h'->Q () {s with heap:=h',toks:=s.toks+2}) :
  wpAny (model prog w) A (setAttr (.ref x) name v) Q E s:=by
 obtain⟨od,J,hl⟩:=I.look;refine PySem.W.set_plain X J hs (PySem.W.osa_open (s:={s with toks:=s.toks+1}) (r:=none) X J hp ht λb=>?_);obtain⟨cd,hc,vX⟩:=PySem.W.any_some hh;have hx:s.heap.get? x=some ⟨.ref C,some dx,.plain,#[]⟩:=I.obj;refine aF (bL (aF (aF (wpAny_loadPart hx (aF (PySem.W.Looks.here (s:={s with toks:=s.toks+1}) (PySem.W.looks_clsIn X hc) ?_))))));rw[vX];refine bL (a:=some dx) (aF (bL (aF ?_)));refine wpAny_nsSet1 (s:={s with toks:=s.toks+1}) I.ns λh' tZ pD=>?_
 obtain⟨oD,esD,epD,Zh,RL,hcD⟩:=tZ.count (PySem.Within.cons name v hw);refine aF (wpAny_lookBehind Zh (by rw[RL];exact pastItsLine_dict (aW hcD (by rw[br];lia))) ?_);exact bL (h _ ⟨(pD.2 _ (Ne.symm I.ne)).trans I.obj,tZ,I.ne⟩ pD)
def WI(X:K.In s.heap)(hm:PySem.W.makesIn K C=true)
  (hi:PySem.W.findIn K (.ref C) "__init__" = some (some (.ref f))) (hf:PySem.W.typeIn K (.ref f)=some (.type "function"))
  (h:codeAny (model prog w) (A.under (.builtin "type.__call__" ⟨.ref C :: vs,kw⟩)) (.call (.ref f) ⟨.ref (s.heap.objs.size+1) :: vs,kw⟩) (PySem.W.InitBack (s.heap.objs.size+1) R) {s with heap:=(s.heap.push PySem.W.emptyDict).push (PySem.W.instObj C s.heap.objs.size)}) :
  codeAny (model prog w) A (.call (.ref C) ⟨vs,kw⟩) R s:=by
 obtain⟨hh,g,d,t,os⟩:=s;exact PySem.W.make_core (PySem.W.makes_of X hm) (PySem.W.looks_findIn X hi) (λself=>PySem.W.bind_fn X self hf) (.inl rfl) h
end
noncomputable def iY(f:Str)(v:V):List (Str×V)->List (Str×V)
 |[]=>[(f,v)]
 |(g,x)::r=>if g=f then (g,v)::r else (g,x)::iY f v r
theorem J2(f g:Str)(v:V):∀fs:List (Str×V),(iY f v fs).lookup g=if g=f then some v else fs.lookup g
 |[]=>by
  show List.lookup g [(f,v)]=_;by_cases h:g=f
  ·have hb:(g == f)=true:=mX.mpr h;simp only[List.lookup,hb,aB h]
  ·have hb:(g == f)=false:=rD.mpr h;simp only[List.lookup,hb,ax h]
 |(k,x)::r=>by
  have ih:=J2 f g v r;rw[show iY f v ((k,x)::r)=(if k=f then (k,v)::r else (k,x)::iY f v r) from rfl];by_cases hk:k=f
  ·rw[aB hk];by_cases h:g=k
   ·have hb:(g == k)=true:=mX.mpr h;simp only[List.lookup,hb,aB (h.trans hk)]
   ·have hb:(g == k)=false:=rD.mpr h;simp only[List.lookup,hb,ax (λe:g=f=>h (e.trans hk.symm))]
  ·rw[ax hk];by_cases h:g=k
   ·have hb:(g == k)=true:=mX.mpr h;simp only[List.lookup,hb,ax (λe:g=f=>hk (h.symm.trans e))]
   ·have hb:(g == k)=false:=rD.mpr h;simp only[List.lookup,hb];exact ih
theorem D6(f:Str)(v:V):∀fs:List (Str×V),f∈(iY f v fs).map (·.1)/\∀g,g∈fs.map (·.1)->g∈(iY f v fs).map (·.1)
 |[]=>⟨by simp[iY],λg h=>by simp at h⟩
 |(k,x)::r=>by
  obtain⟨i1,i2⟩:=D6 f v r;rw[show iY f v ((k,x)::r)=(if k=f then (k,v)::r else (k,x)::iY f v r) from rfl];by_cases hk:k=f
  ·rw[aB hk];subst hk;exact⟨by simp,λg h=>by simpa using h⟩
  ·rw[ax hk];exists ?_,λg h=>?_
   ·rw[bU];exact eJ _ i1
   ·rw[bU]at h ⊢;rcases aZ.mp h with e|e
    ·exact aZ.mpr (.inl e)
    ·exact eJ _ (i2 g e)
theorem NP(f:Str)(v:V):∀fs:List (Str×V),(iY f v fs).length<=fs.length+1
 |[]=>by simp[iY]
 |(k,x)::r=>by
  have ih:=NP f v r;rw[show iY f v ((k,x)::r)=(if k=f then (k,v)::r else (k,x)::iY f v r) from rfl];by_cases hk:k=f
  ·rw[aB hk,br,br];lia
  ·rw[ax hk,br,br];lia
def gY.some_of(r:gY (some v) o):∃u,o=some u/\RelV v u:=by
 cases o with
 |none=>exact (show False from r).elim
 |some u=>nomatch u,rfl,r
def gY.none_of(r:gY none o):o=none:=by
 cases o with
 |none=>rfl
 |some u=>exact (show False from r).elim
def zaz(r:RelV v u):PySem.W.handedIn u=true:=by
 cases v with
 |non=>cases (show u=Value.none from r);rfl
 |bl b=>cases (show u=Value.bool b from r);rfl
 |int i=>obtain⟨t,e⟩:=(show ∃t,u=Value.int i t from r);cases e;rfl
 |str x=>obtain⟨t,e⟩:=(show ∃t,u=Value.str x t from r);cases e;rfl
 |byt b=>obtain⟨t,e⟩:=(show ∃t,u=Value.bytes b t from r);cases e;rfl
 |flt b=>obtain⟨t,e⟩:=(show ∃t,u=Value.float b t from r);cases e;rfl
 |ref a=>cases (show u=Value.ref a from r);rfl
 |ty n=>cases (show u=Value.type n from r);rfl
section
variable{P:Program}{w:World}{H H':Hp}{h h':Heap}{a C dx:Addr}{fs UP:List (Str×V)}
def GJ(hok:cW P w H h)(e:H a=some (.ins C dx fs)):∃mA,qI h a dx C mA/\(∀f,gY (fs.lookup f) (mA f))/\PySem.Within mA (fs.map (·.1))/\fs.length<=1000/\H dx=some (.own a):=by
 obtain⟨d,z,ne,ob,mA,n,r,q⟩:=(show dQ P w H h a (.ins C dx fs) from hok a _ e);nomatch mA,⟨ob,n,ne⟩,r,q,z,d
end
structure lM(K:Frag)(C:Addr):Prop where
 pg:PySem.W.plainGet K C Str.empty=true
 hd:PySem.W.hasDictIn K C=true
 po:PySem.W.plainOver K C=true
 sa:PySem.W.findIn K (.ref C) "__setattr__" = some (some (.builtin "object.__setattr__"))
def lM.get{K:Frag}{C:Addr}(c:lM K C)(f:Str):PySem.W.plainGet K C f=true:=c.pg
def qR(K:Frag)(C:Addr)(f:Str):Prop:=PySem.W.findIn K (.ref C) f=some none
def qR.taker{K:Frag}{C:Addr}{f:Str}(n:qR K C f):PySem.W.takerIn K C f=some none:=by
 unfold PySem.W.takerIn;rw[show PySem.W.findIn K (.ref C) f=some none from n];rfl
structure xD(K:Frag)(C:Addr)(m:Str)(f:Addr):Prop where
 at_:PySem.W.findIn K (.ref C) m=some (some (.ref f))
 fn:PySem.W.isFn K (.ref f)=true
 kp:PySem.W.keepIn K (.ref f)=true
section
variable{X:Cx}{ae:List (Addr×Obj)}{σ:St}{H:Hp}{s:Shared}{a C dx:Addr}{fs:List (Str×V)}{f:Str}{v:V}{A:Around}{E:Value->Shared->Prop}
def Ui(I:Inv X ae σ H s)(e:H a=some (.ins C dx fs))(c:lM X.K C)(n:qR X.K C f)(l:fs.lookup f=some v)
  (h:∀u s',Inv X ae σ H s'->RelV v u->Q u s'):wpAny (model X.prog X.w) A (getAttr (.ref a) f b) Q E s:=by
 obtain⟨mA,O,r,_,_,_⟩:=GJ I.hok e;obtain⟨u,hu,ru⟩:=gY.some_of (v:=v) (o:=mA f) (by rw[<-l];exact r f);exact Wu I.kIn O (c.get f) c.hd n hu (zaz ru) (h u _ (I.tok _) ru)
def QS(I:Inv X ae σ H s)(e:H a=some (.ins C dx fs))(c:lM X.K C)(k:xD X.K C m g)(l:fs.lookup m=none)
  (h:Q (.ref g,[.ref a]) s):wpAny (model X.prog X.w) A (getMethod (.ref a) m pl) Q E s:=by
 obtain⟨mA,O,r,_,_,_⟩:=GJ I.hok e;have hn:mA m=none:=gY.none_of (by rw[<-l];exact r m);exact zbi I.kIn O (c.get m) k.at_ k.fn hn h
def ZT(I:Inv X ae σ H s)(e:H a=some (.ins C dx fs))(c:lM X.K C)(n:qR X.K C f)(hl:fs.length<1000)(ry:RelV y u)
  (h:∀s',Inv X ae σ (upd H a (.ins C dx (iY f y fs))) s'->Q () s'):wpAny (model X.prog X.w) A (setAttr (.ref a) f u) Q E s:=by
 obtain⟨mA,O,r,wi,_,ho⟩:=GJ I.hok e;have hz:(fs.map (·.1)).length<=sizeLine:=by rw[av,Ak];lia
 refine XN I.kIn O c.sa c.po n.taker c.hd wi hz λh' O' sb=>h _ ?_
 have hd:∃o,h'.get? dx=some o:=let ⟨o,_,_,e',_⟩:=O'.ns; ⟨o,e'⟩
 refine I.write (x:=a) (e:=dx) (by rw[e];exact True.intro) (.inr ho) (λb q hb z=>(sb.2 b hb).trans z) hd ?_;exists by rw[aJ O.ne];exact ho,?_,O.ne,O'.obj,_,O'.ns,λg=>?_,λg hg=>?_
 ·have:=NP f y fs;lia
 ·show gY ((iY f y fs).lookup g) (if g=f then some u else mA g);rw[J2];by_cases q:g=f
  ·rw[aB q,aB q];exact ry
  ·rw[ax q,ax q];exact r g
 ·by_cases q:g=f
  ·rw[q];exact (D6 f y fs).1
  ·refine (D6 f y fs).2 g (wi g λz=>hg ?_);show (if g=f then some u else mA g)=none;rw[ax q];exact z
def Inv.made(I:Inv X ae σ H s):Inv X ae σ (upd (upd H s.heap.objs.size (.own (s.heap.objs.size+1))) (s.heap.objs.size+1) (.ins C s.heap.objs.size []))
  {s with heap:=(s.heap.push PySem.W.emptyDict).push (PySem.W.instObj C s.heap.objs.size)}:=by
 have e1:(s.heap.push PySem.W.emptyDict).get? s.heap.objs.size=some PySem.W.emptyDict:=eI s.heap rfl;have e2:((s.heap.push PySem.W.emptyDict).push (PySem.W.instObj C s.heap.objs.size)).get? (s.heap.objs.size+1)=some (PySem.W.instObj C s.heap.objs.size):=by
  have:=eI (s.heap.push PySem.W.emptyDict) (o:=PySem.W.instObj C s.heap.objs.size) rfl
  rwa [rK]at this
 have e3:(s.heap.push PySem.W.emptyDict).Ns s.heap.objs.size (λ_=>none):=⟨PySem.W.emptyDict,#[],_,e1,rfl,(λe he=>absurd he (by simp)),λ_=>rfl⟩;have I1:=I.laid (a:=s.heap.objs.size) (o:=.own (s.heap.objs.size+1)) (h':=s.heap.push PySem.W.emptyDict) (t':=s.toks) (λb u q=>dG _ q) (aO _) ⟨_,e1⟩;refine I1.laid (a:=s.heap.objs.size+1) (o:=.ins C s.heap.objs.size []) (t':=s.toks) (λb u q=>dG _ q) (Nat.le_of_eq (rK _ _)) ?_;have ne:s.heap.objs.size≠s.heap.objs.size+1:=d5 (B9 _);exists by rw[aJ ne,aq],bS _,ne,e2,λ_=>none,(Heap.Ns1.of_empty e3).at λo q=>dG _ q,λ_=>True.intro,λy hy=>absurd rfl hy
def zai(hb:attributeBase e f env (eval e env)=eval e env)
  (h:wpAny (model prog w) A (eval e env) (λo s₁=>wpAny (model prog w) A (getAttr o f true) Q E s₁) E s):wpAny (model prog w) A (eval (.Attribute e f pos) env) Q E s :=
 Attribute_any_ h (by rw[arm_eval_Attribute,hb])
end
def VL(K:Frag)(ta:TE)(f:Str):TE:=λσ H Q=>ta σ H λx H1=>∃a C dx fs v,x=.ref a/\H1 a=some (.ins C dx fs)/\lM K C/\qR K C f/\fs.lookup f=some v/\Q v H1
def XC(K:Frag)(ta tv:TE)(f:Str):TS:=λD σ H=>tv σ H λy H1=>ta σ H1 λx H2=>∃a C dx fs,x=.ref a/\H2 a=some (.ins C dx fs)/\lM K C/\qR K C f/\fs.length<1000 /\
 D.nx σ (upd H2 a (.ins C dx (iY f y fs)))
section
variable{X:Cx}{o e value:Expr}{f:Str}{pos pos' tpos:Pos}{ta tv:TE}
def DC(he:PE X e ta)(hb:attributeBase e f X.env (eval e X.env)=eval e X.env):PE X (.Attribute e f pos) (VL X.K ta f):=by
 intro ae s σ H Q I h;refine zai hb (aL (he ae s σ H _ I h) λu s1 ⟨x,H1,I1,rx,a,C,dx,fs,v,ex,ea,c,n,l,q⟩=>?_);subst ex;obtain rfl:u=Value.ref a:=rx;exact Ui I1 ea c n l λu' s2 I2 ru=>⟨v,H1,I2,ru,q⟩
def UX(ha:PE X o ta)(hv:PE X value tv)(hs:swapsWith value (some (.Attribute o f pos')) pos.line X.env=pure false):PS X (.Assign [.Attribute o f pos'] value pos) (XC X.K ta tv f):=by
 intro ae s σ H D I h;refine plainObj_wpAny_Assign_Attribute (aL (hv ae s σ H _ I h) λu s1 ⟨y,H1,I1,ry,q⟩=>aL (ha ae s1 σ H1 _ I1 q) λov s2 ⟨x,H2,I2,rx,a,C,dx,fs,ex,ea,c,n,l,q2⟩=>?_) hs;subst ex;obtain rfl:ov=Value.ref a:=rx;exact ZT I2 ea c n l ry λs3 I3=>⟨σ,_,I3,q2⟩
end
structure cX(k:Nat)(A:Around):Prop where
 hd:A.handled=none
 dp:A.depth+3*k+5<recursionLimit
 un:A.units+16*k+200<cLine
def cX.mono(r:cX k A)(h:j<=k):cX j A:=⟨r.hd,by have:=r.dp;lia,by have:=r.un;lia⟩
def cX.deeper(r:cX (k+1) A)(env:Env):cX k (A.deeper env) :=
 ⟨r.hd,by have:=r.dp;show A.depth+1+3*k+5<_;lia,by have:=r.un;show A.units+3+16*k+200<_;lia⟩
def VO{A:Around}{C:Addr}{us:List Value}{kw:List (Str×Value)}:(A.under (.builtin "type.__call__" ⟨.ref C::us,kw⟩)).depth=A.depth+1:=by
 first|rfl|simp[Around.under,Code.weight,Code.isCreation,Code.isGuard,Code.isCaller,Code.frames,Code.isFrame,guardIds]
def zbs{A:Around}{C:Addr}{us:List Value}{kw:List (Str×Value)}:(A.under (.builtin "type.__call__" ⟨.ref C::us,kw⟩)).units=A.units+1:=by
 first|rfl|simp[Around.under,Code.cUnits,Code.frames,Code.isFrame]
def cX.make(r:cX (k+1) A)(C:Addr)(us:List Value)(kw:List (Str×Value)):cX k (A.under (.builtin "type.__call__" ⟨.ref C::us,kw⟩)) :=
 ⟨r.hd,by have:=r.dp;rw[VO];lia,by have:=r.un;rw[zbs];lia⟩
def cX.depth(r:cX k A):A.depth<recursionLimit:=by have:=r.dp;lia
def cX.units(r:cX k A):A.units+64<cLine:=by have:=r.un;lia
def sj:TA:=λ_ H Q=>Q [] H
def ql(ta:TE)(tr:TA):TA:=λσ H Q=>ta σ H λx H1=>tr σ H1 λxs H2=>Q (x::xs) H2
section
variable{X:Cx}{e:Expr}{es:List Expr}{te:TE}{t:TA}{pos:Pos}
def ag:PA X [] sj:=λ_ _ _ _ H Q I h=>Cf ⟨[],H,I,.nil,h⟩
def aa(ha:PE X e te)(hr:PA X es t)(hs:starEach (e::es) X.env=(false,eval e X.env)::starEach es X.env:=by rfl):PA X (e::es) (ql te t):=by
 intro pos ae s σ H Q I h;rw[hs];show wpAny _ _ (spliced ((false,eval e X.env)::backTo pos (starEach es X.env))) _ _ s;refine yS (aL (ha ae s σ H _ I h) λu s1 ⟨x,H1,I1,r1,q1⟩=>?_);exact aL (hr pos ae s1 σ H1 _ I1 q1) λus s2 ⟨xs,H2,I2,r2,q2⟩=>⟨x::xs,H2,I2,.cons r1 r2,q2⟩
def Lr(t:TA):TE:=λσ H Q=>t σ H λxs H1=>xs.length<=sizeLine/\∀p,H1 p=none->Q (.ref p) (upd H1 p (.tup xs))
def Mc(t:TA):TE:=λσ H Q=>t σ H λxs H1=>xs.length<=sizeLine/\∀p,H1 p=none->Q (.ref p) (upd H1 p (.lst xs))
def bz{x1}(h:PA X es t):PE X (.Tuple es x1 pos) (Lr t):=by
 intro ae s σ H Q I hq;refine wpAny_Tuple_spliced (aL (h pos ae s σ H _ I hq) λus s1 ⟨xs,H1,I1,r,z,q⟩=>⟨by rw[<-r.length];exact z,?_⟩);have hf:H1 s1.heap.objs.size=none:=I1.hok.fresh (aO _);exists .ref s1.heap.objs.size,upd H1 s1.heap.objs.size (.tup xs),I1.laid (t':=s1.toks) (λb u e=>dG _ e) (aO _) ?_,rfl,q _ hf;nomatch z,us,r,⟨_,eI _ rfl,rfl,_,rfl⟩
def bq(h:PA X es t):PE X (.List es pos) (Mc t):=by
 intro ae s σ H Q I hq;refine wpAny_List_spliced (aL (h pos ae s σ H _ I hq) λus s1 ⟨xs,H1,I1,r,z,q⟩=>⟨by rw[<-r.length];exact z,?_⟩);have hf:H1 s1.heap.objs.size=none:=I1.hok.fresh (aO _);exists .ref s1.heap.objs.size,upd H1 s1.heap.objs.size (.lst xs),I1.laid (t':=s1.toks) (λb u e=>dG _ e) (aO _) ?_,rfl,q _ hf;nomatch z,us,0,r,eI _ rfl
end
abbrev Sp:=List V->Hp->VK->XK->Prop
abbrev lZ:=List Env->Hp->Shared->XK->Value->Shared->Prop
structure ra(P:Program)(w:World)(K:Frag)(mg:Str->Option Value)(base:Heap)(A:Around)(outer:List Env)(s:Shared)(H:Hp):Prop where
 frames:A.frames=some outer
 mod:Mod K mg base
 bs:∀b o,base.get? b=some o->s.heap.get? b=some o/\H b=none
 bsz:base.objs.size<=s.heap.objs.size
 funs:s.heap.FunFrames base outer
 frf:∀b∈cx outer,H b=none
 hok:cW P w H s.heap
 bare:AllBare s.gens
def CE(outer:List Env)(P:Program)(w:World)(H:Hp)(s:Shared)(Q:VK)(u:Value)(s':Shared):Prop :=
 ∃v H',s'.os=s.os/\AllBare s'.gens/\Un (cx outer) [] H H' s.heap s'.heap/\cW P w H' s'.heap/\RelV v u/\Q v H'
def CR(CX:lZ)(outer:List Env)(P:Program)(w:World)(H:Hp)(s:Shared)(Q:VK)(E:XK)(r:Result)(s':Shared):Prop :=
 match r with
 |.ok (.ret u)=>CE outer P w H s Q u s'
 |.ok _=>False
 |.error e=>CX outer H s E e s'
structure jo(P:Program)(w:World)(K:Frag)(mg:Str->Option Value)(base:Heap)(CX:lZ)(k:Nat)(f:Addr)(fd:FuncData)(ps:List Str)(sp:Sp):Prop where
 len:∀vs H Q E,sp vs H Q E->vs.length=ps.length
 run:∀(A:Around) (outer:List Env) (s:Shared) (H:Hp) (args:Args) (us:List Value) (vs:List V) (Q:VK) (E:XK),cX k A->ra P w K mg base A outer s H->BindsTo s fd args (ps.zip us)->Vals vs us->sp vs H Q E ->
  codeAny (model P w) A (.call (.ref f) args) (CR CX outer P w H s Q E) s
def ra.make{P:Program}{w:World}{K:Frag}{mg:Str->Option Value}{base:Heap}{A:Around}{outer:List Env}{s:Shared}{H:Hp}(e:ra P w K mg base A outer s H)(C:Addr)(us:List Value)(kw:List (Str×Value)) :
  ra P w K mg base (A.under (.builtin "type.__call__" ⟨.ref C::us,kw⟩)) outer s H:=⟨by first|exact e.frames|(simpa [Around.under,Code.envs,Code.isFrame,pushEnvs] using e.frames),e.mod,e.bs,e.bsz,e.funs,e.frf,e.hok,e.bare⟩
section
variable{X:Cx}{ae:List (Addr×Obj)}{σ:St}{H:Hp}{s s':Shared}
def Inv.env0(I:Inv X ae σ H s):ra X.prog X.w X.K X.mg X.base X.A X.stack s H :=
 ⟨I.ok.frames,I.ok.mod,I.bs,aW I.ok.bsz I.sz,I.stack,I.stkFree,I.hok,I.bare⟩
def Inv.after(I:Inv X ae σ H s)(h:CE X.stack X.prog X.w H s Q u s'):EP X ae σ Q u s':=by
 obtain⟨v,H',os,bare,un,hok,r,q⟩:=h;obtain⟨hh,g,d,t,RO⟩:=s';obtain rfl:RO=s.os:=os;nomatch v,H',I.call (h':=hh) (g':=g) (d':=d) (t':=t) (ch:=[]) un hok bare (λb z=>absurd z (by simp)),r,q
end
def Ic(sp:Sp)(gw:List V)(E:XK)(t:TA):TE:=λσ H Q=>t σ H λvs H1=>sp (vs++gw) H1 Q E
def Xl(C:Addr)(m:Str)(sp:Sp)(gw:List V)(E:XK)(ta:TE)(t:TA):TE:=λσ H Q=>ta σ H λx H1=>∃a dx fs,x=.ref a/\H1 a=some (.ins C dx fs)/\fs.lookup m=none /\
 t σ H1 λvs H2=>sp (x::(vs++gw)) H2 Q E
def T2(C:Addr)(sp:Sp)(gw:List V)(E:XK)(t:TA):TE:=λσ H Q=>t σ H λvs H1=>∀x dx,H1 x=none->H1 dx=none->dx≠x ->
 sp (.ref x::(vs++gw)) (upd (upd H1 dx (.own x)) x (.ins C dx [])) (λv H2=>v=.non/\Q (.ref x) H2) E
def Binds(K:Frag)(fd:FuncData)(ps:List Str)(ds:List Value):Prop :=
 ∀(s:Shared) (us:List Value),K.In s.heap->(us++ds).length=ps.length->BindsTo s fd ⟨us,[]⟩ (ps.zip (us++ds))
def Binds.all{K:Frag}{fd:FuncData}{ps:List Str}(h:∀us:List Value,us.length=ps.length->bindArgs fd ⟨us,[]⟩=pure (ps.zip us)):Binds K fd ps []:=λs us _ hl=>by
 rw[iM]at hl ⊢;exact .of_eq (h us hl)
def rq(CX:lZ)(X:Cx)(E:XK):Prop:=∀(ae:List (Addr×Obj)) (σ:St) (H:Hp) (s:Shared) (e:Value) (s':Shared),Inv X ae σ H s->CX X.stack H s E e s'->X.xe e s'
section
variable{X:Cx}{CX:lZ}{k:Nat}{f C:Addr}{fd:FuncData}{ps:List Str}{sp:Sp}{gw:List V}{ds:List Value}{E:XK}{x m:Str}{p pos eM:Pos}{e o:Expr}{es:List Expr}{ta:TE}{t:TA}
set_option tactic.hygienic true in
def Pc(F:jo X.prog X.w X.K X.mg X.base CX k f fd ps sp)(hr:cX k X.A)(hb:Binds X.K fd ps ds)(hd:Vals gw ds)(hx:rq CX X E)
  (I:Inv X ae σ H s) (r:Vals vs us) (h:sp (vs++gw) H Q E):wpAny (model X.prog X.w) X.A (call (.ref f) us) (EP X ae σ Q) X.xe s:=by
 have r2:Vals (vs++gw) (us++ds):=r.append hd;have hl:(us++ds).length=ps.length:=by rw[<-r2.length];exact F.len _ _ _ _ h
 refine wpAny_call (xM (F.run X.A X.stack s H ⟨us,[]⟩ (us++ds) (vs++gw) Q E hr I.env0 (hb s us I.kIn hl) r2 h) λr s' hq=>?_);cases r with
 |error e=>exact hx ae σ H s e s' I hq
 |ok fl =>
  cases fl with
  |ret u=>exact I.after hq
  |next=>exact False.elim hq
  |brk=>exact False.elim hq
  |cont=>exact False.elim hq
def pd(F:jo X.prog X.w X.K X.mg X.base CX k f fd ps sp)(hr:cX k X.A)(hg:Gl X x)(hm:X.mg x=some (.ref f))(hk:PySem.W.keepIn X.K (.ref f)=true)(hb:Binds X.K fd ps ds)(hd:Vals gw ds)(hx:rq CX X E)
  (ha:PA X (e::es) t) (oM:(x == ("__debug__" : Str))=false:=by decide) (he:starEach (e::es) X.env=(false,eval e X.env)::starEach es X.env:=by rfl) (cD:(backTo pos (starEach es X.env)).any (·.1)=false:=by rfl) :
  PE X (.Call (.Name x p) (e::es) [] pos) (Ic sp gw E t):=by
 intro ae s σ H Q I h;refine zX (wb I hg hm ?_ oM);refine HM (h₀:=X.base) I.ok.mod.kin hk (aL (ha pos ae s σ H _ I h) λus s1 ⟨vs,H1,I1,r,q⟩=>⟨I1.kIn,?_⟩) he cD;exact Pc F hr hb hd hx I1 r q
def qg(he:PE X o ta)(c:lM X.K C)(hm:xD X.K C m f)(F:jo X.prog X.w X.K X.mg X.base CX k f fd ps sp)(hr:cX k X.A)(hb:Binds X.K fd ps ds)(hd:Vals gw ds)(hx:rq CX X E)(ha:PA X (e::es) t)
  (bc:starEach (e::es) X.env=(false,eval e X.env)::starEach es X.env:=by rfl) (cD:(backTo pos (starEach es X.env)).any (·.1)=false:=by rfl)
  (ht:eval (.Call (.Attribute o m eM) (e :: es) [] pos) X.env=(do
   let ov <-eval o X.env
   standAt eM.atName
   let (f,first) <-holding [ov] (getMethod ov m pl)
   callWith pos f first (backTo pos (starEach (e::es) X.env)) (backToKw pos (keywordEach [] X.env))):=by rfl) :
  PE X (.Call (.Attribute o m eM) (e::es) [] pos) (Xl C m sp gw E ta t):=by
 intro ae s σ H Q I h;refine PySem.W.methodCall_KW (pl:=pl) (aL (he ae s σ H _ I h) λu s1 ⟨x,H1,I1,rx,a,dx,fs,ex,ea,l,q⟩=>?_) ht;subst ex;obtain rfl:u=Value.ref a:=rx;refine QS I1 ea c hm l ?_;refine HM (first:=[.ref a]) (h₀:=X.base) I.ok.mod.kin hm.kp (aL (ha pos ae s1 σ H1 _ I1 q) λus s2 ⟨vs,H2,I2,r,q2⟩=>⟨I2.kIn,?_⟩) bc cD;exact Pc (us:=.ref a::us) (vs:=.ref a::vs) F hr hb hd hx I2 (.cons rfl r) q2
structure Mk(K:Frag)(C f:Addr):Prop where
 makes:PySem.W.makesIn K C=true
 init:PySem.W.findIn K (.ref C) "__init__" = some (some (.ref f))
 fn:PySem.W.isFn K (.ref f)=true
 kp:PySem.W.keepIn K (.ref C)=true
set_option tactic.hygienic true in
def Sy(M:Mk X.K C f)(F:jo X.prog X.w X.K X.mg X.base CX k f fd ps sp)(hr:cX (k+1) X.A)(hb:Binds X.K fd ps ds)(hd:Vals gw ds)
  (hx:rq CX X E) (I:Inv X ae σ H s) (r:Vals vs us)
  (h:∀x dx,H x=none->H dx=none->dx≠x->sp (.ref x::(vs++gw)) (upd (upd H dx (.own x)) x (.ins C dx [])) (λv H2=>v=.non/\Q (.ref x) H2) E) :
  wpAny (model X.prog X.w) X.A (call (.ref C) us) (EP X ae σ Q) X.xe s:=by
 have hq:=h (s.heap.objs.size+1) s.heap.objs.size (I.hok.fresh (BY _)) (I.hok.fresh (aO _)) (d5 (B9 _));have I2:=Inv.made (C:=C) I;have r2:Vals (V.ref (s.heap.objs.size+1)::(vs++gw)) (Value.ref (s.heap.objs.size+1)::(us++ds)):=.cons rfl (r.append hd);have hl:(Value.ref (s.heap.objs.size+1)::us++ds).length=ps.length:=by
  have e:=r2.length;rw[F.len _ _ _ _ hq]at e;exact e.symm
 refine wpAny_call (WI (f:=f) I.kIn M.makes M.init (mX.mp M.fn) (xM (F.run _ X.stack _ _ ⟨Value.ref (s.heap.objs.size+1) :: us,[]⟩ (Value.ref (s.heap.objs.size+1) :: (us++ds)) _ _ E (hr.make C us []) (I2.env0.make C us []) (hb _ (Value.ref (s.heap.objs.size+1)::us) I2.kIn hl) r2 hq) λr s' d9=>?_))
 cases r with
 |error e=>exact hx ae σ _ _ e s' I2 d9
 |ok fl =>
  cases fl with
  |ret u =>
   obtain⟨v,H',I3,rv,ev,q3⟩:=I2.after d9;subst ev;nomatch rv,⟨V.ref (s.heap.objs.size+1),H',I3,rfl,q3⟩
  |next=>exact False.elim d9
  |brk=>exact False.elim d9
  |cont=>exact False.elim d9
def O8(M:Mk X.K C f)(F:jo X.prog X.w X.K X.mg X.base CX k f fd ps sp)(hr:cX (k+1) X.A)(hg:Gl X x)(hm:X.mg x=some (.ref C))(hb:Binds X.K fd ps ds)(hd:Vals gw ds)(hx:rq CX X E)
  (oM:(x == ("__debug__" : Str))=false:=by decide):PE X (.Call (.Name x p) [] [] pos) (T2 C sp gw E sj):=by
 intro ae s σ H Q I h;refine zX (wb I hg hm ?_ oM);exact PySem.W.callWith_K0 I.kIn M.kp (Sy (us:=[]) M F hr hb hd hx I .nil h)
end
structure oF(N P:List Str)(sc:Scope):Prop where
 kind:sc.kind=.function
 co:sc.isCoroutine=false
 gen:sc.isGenerator=false
 nd:N.Nodup
 pre:N.take P.length=P
 par:∀x∈P,sc.names.lookup x=some .local\/sc.names.lookup x=some .cell
 nofree:∀y∈sc.names,y.2≠.free
theorem QA{kindOf:Str->Option NameKind}{x:Str}:∀{binds:List (Str×Value)}{m:Str->Option Value},(∀v,(x,v)∉binds)->bindL kindOf binds m x=m x
 |[],_,_=>rfl
 |(n,v)::r,m,h=>by
  unfold bindL;rw[QA λw hw=>h w (eJ _ hw)];split
  ·have:x≠n:=by rintro rfl;exact h v ng
   simp[this]
  ·rfl
theorem Pj{kindOf:Str->Option NameKind}{x:Str}:∀{binds:List (Str×Value)}{m:Str->Option Value},(∀v,(x,v)∉binds)->bindC kindOf binds m x=m x
 |[],_,_=>rfl
 |(n,v)::r,m,h=>by
  unfold bindC;rw[Pj λw hw=>h w (eJ _ hw)];split
  ·rfl
  ·have:x≠n:=by rintro rfl;exact h v ng
   simp[this]
theorem PL{kindOf:Str->Option NameKind}{x:Str}{v:Value}:∀{P:List Str}{vs:List Value}{i:Nat}{m:Str->Option Value},P.Nodup->P[i]?=some x->vs[i]?=some v->kindOf x=some .local ->
  bindL kindOf (P.zip vs) m x=some v
 |[],_,_,_,_,h,_,_=>by simp at h
 |_::_,[],_,_,_,_,h,_=>by simp at h
 |p::P,w::vs,0,m,nd,h1,h2,hk=>by
  simp at h1 h2;subst h1;subst h2;show bindL kindOf ((p,w)::P.zip vs) m p=_;unfold bindL;rw[QA λv hv=>(jB.mp nd).1 (HL hv).1,aB hk];simp
 |p::P,w::vs,i+1,m,nd,h1,h2,hk=>by
  show bindL kindOf ((p,w)::P.zip vs) m x=_;unfold bindL;exact PL (i:=i) (jB.mp nd).2 (by simpa using h1) (by simpa using h2) hk
theorem Jq{kindOf:Str->Option NameKind}{x:Str}{v:Value}:∀{P:List Str}{vs:List Value}{i:Nat}{m:Str->Option Value},P.Nodup->P[i]?=some x->vs[i]?=some v->kindOf x≠some .local ->
  bindC kindOf (P.zip vs) m x=some v
 |[],_,_,_,_,h,_,_=>by simp at h
 |_::_,[],_,_,_,_,h,_=>by simp at h
 |p::P,w::vs,0,m,nd,h1,h2,hk=>by
  simp at h1 h2;subst h1;subst h2;show bindC kindOf ((p,w)::P.zip vs) m p=_;unfold bindC;rw[Pj λv hv=>(jB.mp nd).1 (HL hv).1,ax hk];simp
 |p::P,w::vs,i+1,m,nd,h1,h2,hk=>by
  show bindC kindOf ((p,w)::P.zip vs) m x=_;unfold bindC;exact Jq (i:=i) (jB.mp nd).2 (by simpa using h1) (by simpa using h2) hk
noncomputable def lr(N:List Str)(vs:List V):St:=vs.map some++List.replicate (N.length-vs.length) none
noncomputable def lC(CX:lZ)(P:Program)(w:World)(K:Frag)(mg:Str->Option Value)(base:Heap)(N:List Str)(qual:Str)(scope:Scope)(f:Addr)(cd:Value)(A:Around)(outer:List Env)(s:Shared)(H:Hp)(E:XK):Cx where
 prog:=P
 w:=w
 K:=K
 mg:=mg
 base:=base
 A:=A.deeper (envOfC qual scope s.heap.objs.size f cd)
 N:=N
 s₀:=s
 H₀:=H
 env:=envOfC qual scope s.heap.objs.size f cd
 outer:=outer
 stack:=envOfC qual scope s.heap.objs.size f cd::outer
 ex:=[]
 calm:=true
 fn:=λ_=>true
 pn:=[]
 xe:=λe s'=>wpAny (model P w) (A.deeper (envOfC qual scope s.heap.objs.size f cd)) (leaving (envOfC qual scope s.heap.objs.size f cd) e) (λ_ pb=>CX outer H s E e pb) (λe' pb=>CX outer H s E e' pb) s'
def Qf{sc:Scope}{n:Nat}{x:Str}(h:sc.names.lookup x=some .cell):∃c,(cellsFrom n sc.names []).lookup x=some c:=by
 have q:=PySem.W.cellsFrom_some sc.names n [] (.inl h);exact KW.mp q
def zbF{CX:lZ}{P:Program}{w:World}{K:Frag}{mg:Str->Option Value}{base:Heap}{N ps:List Str}{qual:Str}{scope:Scope}{f:Addr}{cd:Value}{A:Around}{outer:List Env}{s s1:Shared}{H:Hp}{E:XK}{us:List Value}{vs:List V}
  (S:oF N ps scope) (hd:A.handled=none) (e0:ra P w K mg base A outer s H) (hl:vs.length=ps.length) (r:Vals vs us)
  (x:InCallC s s.heap.objs.size (bindL (envOfC qual scope s.heap.objs.size f cd).kindOf (ps.zip us) λ_=>none) (cellsFrom (s.heap.objs.size+1) scope.names []) (bindC (envOfC qual scope s.heap.objs.size f cd).kindOf (ps.zip us) λ_=>none) s1) :
  Inv (lC CX P w K mg base N qual scope f cd A outer s H E) [] (lr N vs) H s1:=by
 have cD:ps.length<=N.length:=by have:=congrArg List.length S.pre;rw[dY]at this;lia
 obtain⟨h1,tk,rfl,hk⟩:=x.done;have xE:∀b:Addr,b∉(lC CX P w K mg base N qual scope f cd A outer s H E).ex:=λb z=>absurd (show b∈([]:List Addr) from z) (by simp)
 refine⟨⟨e0.mod,S.kind,rfl,rfl,aO _,λy z c h1 h2=>?_,λy hy=>?_,λy c _ h=>?_,λ_=>hd,Around.frames_deeper e0.frames,.inr ⟨rfl,rfl⟩,λb z=>absurd z (xE b),e0.bs,e0.bsz,λb _ _=>xE b,λb z=>absurd z (xE b),e0.funs,e0.frf⟩,rfl,e0.bare,Un.kept hk,⟨_,x.toInCall.ns,λi y v h1 h2 h3=>?_⟩,λy c h=>⟨_,x.cell y c h⟩,e0.hok.fresh (aO _),λy c h=>?_,λp hp=>absurd (show p∈([]:List (Addr×Obj)) from hp) (by simp),e0.hok.kept hk,?_⟩
 ·exact name_of_addr x.apart (rY h1) (rY h2)
 ·have hy:scope.names.lookup y=some .cell\/scope.names.lookup y=some .free:=hy;rcases hy with hy|hy
  ·exact Qf hy
  ·exact absurd rfl (S.nofree _ (rY hy))
 ·exact cj (x.above y c (rY h))
 ·have hi:i<vs.length:=by
   unfold lr at h2;by_cases hi:i<vs.length
   ·exact hi
   ·rw[Kr (by simpa using hi)]at h2;rw[Lc]at h2;split at h2<;>cases h2
  have ha:vs[i]?=some v:=by
   unfold lr at h2;rw[Kx (by simpa using hi),dE]at h2;cases e:vs[i]? with
   |none=>rw[e]at h2;cases h2
   |some a=>rw[e]at h2;cases h2;rfl
  obtain⟨u,hu,rv⟩:=r.get ha;have hp:ps[i]?=some y:=by
   rw[<-S.pre,List.getElem?_take_of_lt (by lia)];exact h1
  have KS:ps.Nodup:=by rw[<-S.pre];exact S.nd.sublist (List.take_sublist _ _)
  exists u,rv,?_;rcases S.par y (dr hp)with k|k
  ·exact .inl ⟨k,PL KS hp hu k⟩
  ·obtain⟨c,e⟩:=Qf (n:=s.heap.objs.size+1) k;refine .inr ⟨.inl k,c,e,?_⟩;have q:=x.cell y c e;rw[Jq KS hp hu (by show scope.names.lookup y≠_;rw[k];decide)]at q;exact q
 ·exact e0.hok.fresh (cj (x.above y c (rY h)))
 ·unfold lr;show _=N.length;rw[aS,av,BA];lia
set_option tactic.hygienic true in
def Ig{CX:lZ}{P:Program}{w:World}{K:Frag}{mg:Str->Option Value}{base:Heap}{k:Nat}{f:Addr}{name qual:Str}{params:Arguments}{body:List Stmt}{scope:Scope}{dV kV doc pm cJ ct oc:Value}{an od:Option Addr}
  {qt:Array (Option Value)}{N ps:List Str}{sp:Sp} (lk:K.lookup f=some ⟨oc,od,.func (PySem.W.fnOf name qual params body scope dV kV doc pm an cJ ct),qt⟩) (j5:PySem.W.codeIn K cJ qual=true) (S:oF N ps scope)
  (len:∀vs H Q E,sp vs H Q E->vs.length=ps.length)
  (FY:∀ (A:Around) (outer:List Env) (s:Shared) (H:Hp) (vs:List V) (Q:VK) (E:XK),cX k (A.deeper (envOfC qual scope s.heap.objs.size f cJ))->sp vs H Q E -> ∃t,f9 (lC CX P w K mg base N qual scope f cJ A outer s H E) body t/\t {nx:=λ_ H'=>Q .non H',rt:=Q} (lr N vs) H) :
  jo P w K mg base CX (k+1) f (PySem.W.fnOf name qual params body scope dV kV doc pm an cJ ct) ps sp:=by
 exists len,λA outer s H args us vs Q E hr e0 hb r iV=>?_;have hl:=len _ _ _ _ iV;have KX:K.In s.heap:=e0.mod.kin.keeps λb o e=>(e0.bs b o e).1
 have lim:s.heap.NoLimit:=e0.mod.nolimit.keeps λb o e=>(e0.bs b o e).1
 have CH:∀y∈ps.zip us,scope.names.lookup y.1=some .local\/(scope.names.lookup y.1=some .cell/\((cellsFrom (s.heap.objs.size+1) scope.names []).lookup y.1).isSome=true):=λ⟨n,v⟩ hy=>by
  rcases S.par n (HL hy).1 with q|q
  ·exact .inl q
  ·exact .inr ⟨q,PySem.W.cellsFrom_some _ _ _ (.inl q)⟩
 refine codeAny_call_function hr.depth (KX _ _ lk) rfl S.co S.gen rfl (PySem.W.codeRec_of KX j5) (hb _ _ _ _ ?_);refine wpAny_newFunctionEnv_cells S.kind CH λenv he s1 x=>?_
 subst he;exists lim.keeps x.toInCall.keep,codeAny_func ?_;obtain⟨t,ht,hq⟩:=FY A outer s H vs Q E (hr.deeper _) iV;have I:Inv (lC CX P w K mg base N qual scope f cJ A outer s H E) [] (lr N vs) H s1:=zbF S hr.hd e0 hl r x;refine eA (ht [] s1 (lr N vs) H _ I hq) (λfl s' hs=>?_) λe s' hs=>hs
 have fin:∀{σ':St}{H':Hp}{v:V}{u:Value},Inv (lC CX P w K mg base N qual scope f cJ A outer s H E) [] σ' H' s'->RelV v u->Q v H'->CE outer P w H s Q u s' :=
  fun {σ' H' v u} J rv q=>⟨v,H',J.os,J.bare,J.base,J.hok,rv,q⟩
 cases fl with
 |ret u =>
  obtain⟨v,σ',H',J,rv,q⟩:=hs;exact fin J rv q
 |next =>
  obtain⟨σ',H',J,q⟩:=hs;exact fin (v:=V.non) (u:=Value.none) J rfl q
 |brk =>
  obtain⟨_,_,_,q⟩:=hs;exact False.elim q
 |cont =>
  obtain⟨_,_,_,q⟩:=hs;exact False.elim q
section
variable{X:Cx}{x:Str}{p pos:Pos}{e:Expr}{es:List Expr}{t:TA}{id T:String}{r:List V->Hp->VK->Prop}
def yY(r:List V->Hp->VK->Prop)(t:TA):TE:=λσ H Q=>t σ H λvs H1=>r vs H1 Q
def bD(hc:jq X (.builtin id) r)(hg:Gl X x)(hm:X.mg x=none)(hv:bootBuiltins x=some (.builtin id))(ha:PA X (e::es) t)(hn:x ≠ "__name__" := by decide)(oM:(x == ("__debug__" : Str))=false:=by decide)
  (he:starEach (e::es) X.env=(false,eval e X.env)::starEach es X.env:=by rfl) (cD:(backTo pos (starEach es X.env)).any (·.1)=false:=by rfl):PE X (.Call (.Name x p) (e::es) [] pos) (yY r t):=by
 intro ae s σ H Q I h;refine zX (pZ I hg hm hv ?_ hn oM);exact PyProof.Rows.callWith_builtin1 (aL (ha pos ae s σ H _ I h) λus s1 ⟨vs,H1,I1,r1,q1⟩=>hc ae s1 σ H1 vs us Q I1 r1 q1) he cD
def gE(hc:jq X (.type T) r)(hg:Gl X x)(hm:X.mg x=none)(hv:bootBuiltins x=some (.type T))(ha:PA X (e::es) t)(hn:x ≠ "__name__" := by decide)(oM:(x == ("__debug__" : Str))=false:=by decide)
  (he:starEach (e::es) X.env=(false,eval e X.env)::starEach es X.env:=by rfl) (cD:(backTo pos (starEach es X.env)).any (·.1)=false:=by rfl):PE X (.Call (.Name x p) (e::es) [] pos) (yY r t):=by
 intro ae s σ H Q I h;refine zX (pZ I hg hm hv ?_ hn oM);exact uu (aL (ha pos ae s σ H _ I h) λus s1 ⟨vs,H1,I1,r1,q1⟩=>hc ae s1 σ H1 vs us Q I1 r1 q1) he cD
end
end L2
namespace HT
open PySem PyProof.Rows
section
variable{prog:Program}{w:World}{A:Around}{E:Value->Shared->Prop}{s:Shared}
def cat_tup(ht:IsTup s.heap t vs.toArray)(hb:IsTup s.heap b ws.toArray)(hv:vs≠[])
  (h1:ws=[]->Q (.ref t) s) (h2:ws≠[]->Q (.ref s.heap.objs.size) {s with heap:=s.heap.push {cls:=.type "tuple",data:=.seq (vs++ws).toArray}})
  (hsz:vs.length+ws.length<=sizeLine):wpAny (model prog w) A (binaryOp .Add (.ref t) (.ref b)) Q E s:=by
 obtain⟨⟨cls,dd,data,sl⟩,ho,hc,n,hd⟩:=id ht;obtain⟨⟨cls2,xS,data2,bK⟩,kT,tE,n2,hd2⟩:=id hb;simp only at hc hd tE hd2;subst hc hd tE hd2;have e:vs.toArray++ws.toArray=(vs++ws).toArray:=by simp
 by_cases hw:ws=[]
 ·exact concat_meets ⟨_,ho,rfl⟩ ⟨_,kT,rfl⟩ noFill_tuple_add seq_tuple_add PySem.F.slot_tuple_add LH (Na _ _)
   (tuple_addW1 t b vs.toArray ws.toArray n n2 dd xS sl bK (by simpa using hv) (by simp[hw])) ⟨ho,kT,h1 hw⟩
 ·refine concat_meets ⟨_,ho,rfl⟩ ⟨_,kT,rfl⟩ noFill_tuple_add seq_tuple_add PySem.F.slot_tuple_add LH (Na _ _)
   (tuple_addW2 t b vs.toArray ws.toArray n n2 dd xS sl bK (by simpa using hv) (by simpa using hw) (by rw[cf,cf];exact hsz)) ⟨ho,kT,?_⟩
  rw[e];exact h2 hw
noncomputable def sIx(n d:Nat):Option Int->Nat
 |none=>d
 |some v=>if v<0 then (v+(n:Int)).toNat else min v.toNat n
def sIx_none(n d:Nat):sIx n d none=d:=rfl
def sIx_nat(n d k:Nat):sIx n d (some (k:Int))=min k n:=by
 show (if (k:Int)<0 then ((k:Int)+(n:Int)).toNat else min (k:Int).toNat n)=min k n;rw[ax (by lia),ph]
def Uv(n d:Nat)(hd:d<=n)(o:Option Int):sIx n d o<=n:=by
 cases o with
 |none=>exact hd
 |some v =>
  show (if v<0 then (v+(n:Int)).toNat else min v.toNat n)<=n;by_cases hv:v<0
  ·rw[aB hv];lia
  ·rw[ax hv];exact Nat.min_le_right _ _
def Ia(v:Int)(n d:Nat):(if v<0 then max (v+(n:Int)) 0 else min v (n:Int))=((sIx n d (some v):Nat):Int):=by
 show (if v<0 then max (v+(n:Int)) 0 else min v (n:Int))=(((if v<0 then (v+(n:Int)).toNat else min v.toNat n):Nat):Int);by_cases hv:v<0
 ·simp only[aB hv];lia
 ·simp only[ax hv];lia
def Xh(lo hi:Option Int)(n:Nat):Builtin.Slice.sliceAdjust lo hi 1 (n:Int)=(((sIx n 0 lo:Nat):Int),((sIx n n hi:Nat):Int)):=by
 have h1:¬((1:Int)<0):=by lia
 unfold Builtin.Slice.sliceAdjust;simp only[h1,p9];refine Prod.ext ?_ ?_
 ·cases lo with
  |none=>rfl
  |some v=>exact Ia v n 0
 ·cases hi with
  |none=>rfl
  |some v=>exact Ia v n n
def Sj(i j:Nat):Builtin.Slice.slicePlaces (i:Int) (j:Int) 1=j-i:=by
 unfold Builtin.Slice.slicePlaces;have h1:(1:Int)>0:=by lia
 simp only[h1,j9,Int.ediv_one];split<;>lia
def Kl(p:IsPart v o)(h:Q o s):wpAny (model prog w) A (Builtin.Slice.slicePartIndex v) Q E s:=by
 cases p with
 |none=>exact slicePart_none h
 |int i t=>exact slicePart_int h
def ZI{sl:Addr}{vl vu:Value}{lo hi:Option Int}{n:Nat}{Q:Int×Int×Nat->Shared->Prop}(hs:s.heap.IsSliceOf sl vl vu .none)(pl:IsPart vl lo)(pu:IsPart vu hi)
  (h:Q (((sIx n 0 lo:Nat):Int),1,sIx n n hi-sIx n 0 lo) s):wpAny (model prog w) A (Builtin.Slice.sliceApplied (.ref sl) (pure (n:Int))) Q E s:=by
 obtain⟨os,vx,jv,m9⟩:=id hs;unfold Builtin.Slice.sliceApplied Builtin.Slice.sliceFields;refine aF (aF (jr vx m9 (x:=vl) rfl (aF (jr vx m9 (x:=vu) rfl (aF (jr vx m9 (x:=.none) rfl (bL ?_)))))));refine aF (slicePart_none ?_);show wpAny _ _ (if ((1:Int) == 0)=true then _ else _) _ _ s;rw[ax (by decide)];refine aF (Kl pl (aF (Kl pu (aF (bL ?_)))));show wpAny _ _ (match Builtin.Slice.sliceAdjust lo hi 1 (n:Int)with|(lo,hi)=>pure (lo,(1:Int),Builtin.Slice.slicePlaces lo hi 1)) _ _ s;rw[Xh lo hi n];show wpAny _ _ (pure (((sIx n 0 lo:Nat):Int),(1:Int),Builtin.Slice.slicePlaces ((sIx n 0 lo:Nat):Int) ((sIx n n hi:Nat):Int) 1)) _ _ s;rw[Sj];exact bL h
def RV(xs:Array Value)(i k:Nat):((List.range k).filterMap λ(m:Nat)=>xs[((i:Int)+(m:Int)*1).toNat]?).toArray=((xs.toList.drop i).take k).toArray:=by
 have e:(λ(m:Nat)=>xs[((i:Int)+(m:Int)*1).toNat]?)=λm=>xs[i+m]?:=by
  funext m
  have:((i:Int)+(m:Int)*1).toNat=i+m:=by lia
  rw[this]
 rw[e]
 have:=pick_run xs i k
 rw[List.filterMap_map]at this;have e2:((λx=>xs[x]?) ∘ λx=>i+x)=λm=>xs[i+m]?:=rfl
 rw[e2]at this;rw[this]
def getItem_tuple_cut{t sl:Addr}{items:Array Value}{vl vu:Value}{lo hi:Option Int}{Q:Value->Shared->Prop}(ht:IsTup s.heap t items)(hs:s.heap.IsSliceOf sl vl vu .none)(pl:IsPart vl lo)(pu:IsPart vu hi)
  (hw:¬(sIx items.size 0 lo=0/\sIx items.size items.size hi=items.size))
  (h:Q (.ref s.heap.objs.size) {s with heap:=s.heap.push {cls:=.type "tuple",data:=.seq ((items.toList.drop (sIx items.size 0 lo)).take (sIx items.size items.size hi-sIx items.size 0 lo)).toArray}})
  (hsz:items.size<=sizeLine):wpAny (model prog w) A (getItem (.ref t) (.ref sl)) Q E s:=by
 have yw:sizeOk (.seq ((items.toList.drop (sIx items.size 0 lo)).take (sIx items.size items.size hi-sIx items.size 0 lo)).toArray):=by
  show ((items.toList.drop (sIx items.size 0 lo)).take (sIx items.size items.size hi-sIx items.size 0 lo)).toArray.size<=sizeLine;rw[cf,dY,ml,vF];omega
 have hj:sIx items.size items.size hi<=items.size:=Uv _ _ (aO _) hi;obtain⟨os,vx,jv,m9⟩:=id hs;have Vy:s.TypeIs (.ref sl) "slice" := ⟨os,vx,jv⟩;unfold getItem
 try with_reducible refine xg ?_
 first|refine aF (bL ?_)|skip
 refine aF (wpAny_sequenceKey ht.typeIs (by decide) ?_);refine aF (xw (name:=ofString "__getitem__") ht.typeIs Qu (rV Qu ht.typeIs entry_tuple_getitem ?_ (args_tuple_getitem _ _)))
 show wpAny _ _ (Builtin.Tuple.tupleItemsOf (.ref t) >>= _) _ _ s;refine aF (tupleItemsOf_ ht ?_);refine aF (wpAny_typeOf Vy ?_);rw[aB (by decide)];refine aF (ZI hs pl pu ?_);have nO:¬((((sIx items.size 0 lo:Nat):Int) == 0&&(1:Int) == 1&&(sIx items.size items.size hi-sIx items.size 0 lo) == items.size)=true):=by
  intro q;rw[gz,gz]at q;have q1:((sIx items.size 0 lo:Nat):Int)=0:=eq_of_beq q.1.1;have q2:sIx items.size items.size hi-sIx items.size 0 lo=items.size:=eq_of_beq q.2;exact hw ⟨by lia,by lia⟩
 show wpAny _ _ (if (((sIx items.size 0 lo:Nat):Int) == 0&&(1:Int) == 1&&(sIx items.size items.size hi-sIx items.size 0 lo) == items.size)=true then _ else _) _ _ s;rw[ax nO,RV]
 first
  |exact aF (m:=Builtin.Tuple.tupleExact _) (rQ (bL ⟨_,rfl,bL h⟩) yw)
  |exact aF (m:=Builtin.Tuple.tupleExact _) (rQ (aF (bL (bL ⟨_,rfl,bL h⟩))) yw)
  |exact aF (aF (m:=Builtin.Tuple.tupleExact _) (rQ (bL (bL ⟨_,rfl,bL h⟩)) yw))
  |exact aF (aF (m:=Builtin.Tuple.tupleExact _) (rQ (bL ⟨_,rfl,bL h⟩) yw))
end
end HT
namespace L2
open PySem PySem.Spec PyProof.Rows
abbrev TO:=St->Hp->(Option Int->Hp->Prop)->Prop
def PO(X:Cx)(e:Option Expr)(t:TO):Prop :=
 ∀(ae:List (Addr×Obj)) (s:Shared) (σ:St) (H:Hp) (Q:Option Int->Hp->Prop),Inv X ae σ H s->t σ H Q ->
  wpAny (model X.prog X.w) X.A (evalPart e X.env) (λu s'=>∃o H',Inv X ae σ H' s'/\IsPart u o/\Q o H') X.xe s
def zbB:TO:=λ_ H Q=>Q none H
def zaC(t:TE):TO:=λσ H Q=>t σ H λx H1=>∃i,x=.int i/\Q (some i) H1
def BE:∀{us:List Value},Vals (ns.map V.int) us->IntsAre us ns:=by
 induction ns with
 |nil=>intro us r;rw[nR]at r;cases r;exact .nil
 |cons n ns ih =>
  intro us r;rw[bU]at r;cases r with
  |cons r1 r2 =>
   obtain⟨t,e⟩:=r1;subst e;exact .cons n t (ih r2)
section
variable{X:Cx}{e:Expr}{te:TE}{lo hi:Option Expr}{tl th:TO}{pos p2:Pos}
def nB:PO X none zbB:=by
 intro ae s σ H Q I h;rw[FX];exact bL ⟨none,H,I,.none,h⟩
def Kt(h:PE X e te):PO X (some e) (zaC te):=by
 intro ae s σ H Q I hw;rw[evalPart_some];refine aL (h ae s σ H _ I hw) λu s1 ⟨x,H1,I1,r1,q1⟩=>?_
 obtain⟨i,rfl,q⟩:=q1;obtain⟨t,rfl⟩:=r1;nomatch some i,H1,I1,.int i t,q
def zf(X:Cx)(r:V->Option Int->Option Int->Hp->VK->Prop):Prop :=
 ∀(ae:List (Addr×Obj)) (s:Shared) (σ:St) (H:Hp) (x:V) (v vl vu:Value) (lo hi:Option Int) (sl:Addr) (Q:VK),Inv X ae σ H s->RelV x v->s.heap.IsSliceOf sl vl vu .none->IsPart vl lo->IsPart vu hi->r x lo hi H Q ->
  ∃T id,typeLookup (.type T) "__getitem__" = pure (some (.builtin id))/\s.TypeIs v T/\wpAny (model X.prog X.w) X.A (getItem v (.ref sl)) (EP X ae σ Q) X.xe s
def tSl(r:V->Option Int->Option Int->Hp->VK->Prop)(te:TE)(tl th:TO):TE:=λσ H Q=>te σ H λx H1=>tl σ H1 λl H2=>th σ H2 λu H3=>r x l u H3 Q
def k7(hr:zf X r)(he:PE X e te)(hl:PO X lo tl)(hu:PO X hi th):PE X (.Subscript e (.Slice lo hi none p2) pos) (tSl r te tl th):=by
 intro ae s σ H Q I h;refine yI (aL (he ae s σ H _ I h) λv s1 ⟨x,H1,I1,r1,q1⟩=>?_);refine wpAny_Slice (aL (hl ae s1 σ H1 _ I1 q1) λvl s2 ⟨l,H2,I2,pl,q2⟩=>aL (hu ae s2 σ H2 _ I2 q2) λvu s3 ⟨u,H3,I3,pu,q3⟩=>?_);rw[FX];refine bL ?_;have I4:Inv X ae σ H3 {s3 with heap:=s3.heap.push {cls:=.type "slice",data:=.fields #[vl,vu,.none]}}:=I3.kept (t':=s3.toks) λb ob q=>dG _ q
 obtain⟨T,id,hT,ht,hg⟩:=hr ae {s3 with heap:=s3.heap.push {cls:=.type "slice",data:=.fields #[vl,vu,.none]}} σ H3 x v vl vu l u s3.heap.objs.size Q I4 r1 (Heap.IsSliceOf.new ..) pl pu q3;show wpAny (model X.prog X.w) X.A (subscriptTail e (.Slice lo hi none p2) v (.ref s3.heap.objs.size)) (EP X ae σ Q) X.xe {s3 with heap:=s3.heap.push {cls:=.type "slice",data:=.fields #[vl,vu,.none]}};exact tail_any (ops:=[.ref s3.heap.objs.size,v]) ht hT hg (by with_unfolding_all rfl)
noncomputable def gq(xs:List V)(lo hi:Option Int):List V:=(xs.drop (HT.sIx xs.length 0 lo)).take (HT.sIx xs.length xs.length hi-HT.sIx xs.length 0 lo)
def LC(xs:List V)(lo hi:Option Int):(gq xs lo hi).length<=xs.length:=by
 unfold gq;rw[dY,ml];exact aW (Nat.min_le_right _ _) (Nat.sub_le _ _)
def X8(K:Frag):V->Option Int->Option Int->Hp->VK->Prop:=λx lo hi H Q=>∃a xs,x=.ref a/\ay K H a xs /\
 ¬(HT.sIx xs.length 0 lo=0/\HT.sIx xs.length xs.length hi=xs.length)/\∀p,H p=none->Q (.ref p) (upd H p (.tup (gq xs lo hi)))
def za2:zf X (X8 X.K):=by
 intro ae s σ H x v vl vu lo hi sl Q I rx hs pl pu h;obtain⟨a,xs,rfl,hx,hw,q⟩:=h;cases rx;obtain⟨ah,r,ht,hz⟩:=I.tuple hx;have aH:ah.toArray.size=xs.length:=by rw[cf];exact r.length.symm
 exists "tuple",_,PyProof.Rows.slot_tuple_getitem.lookup,ht.typeIs,?_;refine HT.getItem_tuple_cut ht hs pl pu (by rw[aH];exact hw) ?_ (by rw[aH];exact hz);rw[aH];exists .ref s.heap.objs.size,_,I.laid (t':=s.toks) (o:=.tup (gq xs lo hi)) (λb ob q=>dG _ q) (aO _) ?_,rfl,q _ (I.hok.fresh (aO _));nomatch aW (LC xs lo hi) hz,_,(r.drop (HT.sIx xs.length 0 lo)).take (HT.sIx xs.length xs.length hi-HT.sIx xs.length 0 lo),IsTup.new _ _
def Yq(K:Frag):R2:=λx y H Q=>∃a b xs ys,x=.ref a/\y=.ref b/\ay K H a xs/\ay K H b ys/\xs≠[]/\xs.length+ys.length<=sizeLine /\
 (ys=[]->Q (.ref a) H)/\(ys≠[]->∀p,H p=none->Q (.ref p) (upd H p (.tup (xs++ys))))
def Vals.nil_iff(r:Vals xs us):us=[]↔xs=[]:=by
 cases r with
 |nil=>simp
 |cons _ _=>simp
def Lx:bV X (binaryOp .Add) (Yq X.K):=by
 intro ae s σ H x y v u Q I rx ry h;obtain⟨a,b,xs,ys,rfl,rfl,ha,hb,hx,hz,q1,q2⟩:=h;cases rx;cases ry;obtain⟨ah,r1,p1,_⟩:=I.tuple ha;obtain⟨fg,r2,p2,_⟩:=I.tuple hb;refine HT.cat_tup p1 p2 (λz=>hx (r1.nil_iff.mp z)) (λz=>⟨.ref a,H,I,rfl,q1 (r2.nil_iff.mp z)⟩) (λz=>?_) (by rw[<-r1.length,<-r2.length];exact hz);exists .ref s.heap.objs.size,_,I.laid (t':=s.toks) (o:=.tup (xs++ys)) (λb ob q=>dG _ q) (aO _) ?_,rfl,q2 (λw=>z (r2.nil_iff.mpr w)) _ (I.hok.fresh (aO _));nomatch by rw[aS];exact hz,_,r1.append r2,IsTup.new _ _
end
noncomputable def j7(n:Nat)(i:Int):Option Nat:=if 0<=i then (if i<n then some i.toNat else none)else if -(n:Int)<=i then some (i+n).toNat else none
noncomputable def di{α:Type}(xs:List α)(i:Int):Option α:=(j7 xs.length i).bind λj=>xs[j]?
def Iv(h:j7 n i=some j):seqIndex? i n=some j/\j<n /\ -(n:Int)<=i/\i<n:=by
 unfold j7 at h;by_cases h0:0<=i
 ·rw[aB h0]at h;by_cases h1:i<n
  ·rw[aB h1]at h;have e:i.toNat=j:=dN h;nomatch by rw[seqIndex_of h0 h1,e],by lia,by lia,h1
  ·rw[ax h1]at h;cases h
 ·rw[ax h0]at h;by_cases h1 : -(n:Int)<=i
  ·rw[aB h1]at h;have e:(i+n).toNat=j:=dN h;exact⟨by rw[seqIndex_neg (by lia) h1,e],by lia,h1,by lia⟩
  ·rw[ax h1]at h;cases h
def EG(h:di xs i=some v):∃j,seqIndex? i xs.length=some j/\xs[j]?=some v/\j<xs.length /\ -(xs.length:Int)<=i/\i<xs.length:=by
 unfold di at h;cases e:j7 xs.length i with
 |none=>rw[e]at h;cases h
 |some j =>
  rw[e]at h;obtain⟨h1,h2,h3,h4⟩:=Iv e;nomatch j,h1,h,h2,h3,h4
def bo{α:Type}{xs:List α}{j:Nat}{v:α}(h:xs[j]?=some v):di xs (j:Int)=some v:=by
 have hj:j<xs.length:=(dS.mp h).1;have e:j7 xs.length (j:Int)=some j:=by
  unfold j7;rw[aB (by lia),aB (by lia)];simp
 unfold di;rw[e];exact h
def xq(b:Expr):Prop:=∀o i,subscripted b false o i=operate [o,i] (getItem o i)
def kK(X:Cx)(r:R2):Prop :=
 ∀(value slice:Expr) (ae:List (Addr×Obj)) (s:Shared) (σ:St) (H:Hp) (x y:V) (v u:Value) (Q:VK),Inv X ae σ H s->RelV x v->RelV y u->r x y H Q ->
  subscripted slice false v u=operate [v,u] (getItem v u)->wpAny (model X.prog X.w) X.A (subscriptTail value slice v u) (EP X ae σ Q) X.xe s
def Lz(X:Cx)(id:String)(r:V->List V->Hp->VK->Prop):Prop :=
 ∀(ae:List (Addr×Obj)) (s:Shared) (σ:St) (H:Hp) (x:V) (xs:List V) (v:Value) (us:List Value) (Q:VK),Inv X ae σ H s->RelV x v->Vals xs us->r x xs H Q ->
  wpAny (model X.prog X.w) X.A (call (.builtin id) (v::us)) (EP X ae σ Q) X.xe s
section
variable{X:Cx}{a b:Expr}{ta tb:TE}{pos:Pos}
def BL(hr:kK X r)(ha:PE X a ta)(hb:PE X b tb)(hs:xq b):PE X (.Subscript a b pos) (kc r ta tb):=by
 intro ae s σ H Q I h;exact yI (GG ha hb I h λv u s2 x y H2 I2 rx ry q=>hr a b ae s2 σ H2 x y v u Q I2 rx ry q (hs _ _))
def Qa(K:Frag):R2:=λx y H Q=>∃p xs i v,x=.ref p/\y=.int i/\aj K H p xs/\di xs i=some v/\Q v H
def SJ(K:Frag):R2:=λx y H Q=>∃p xs i v,x=.ref p/\y=.int i/\ay K H p xs/\di xs i=some v/\Q v H
def Ts:R2:=λx y H Q=>∃z i c,x=.str z/\y=.int i/\z.length<=sizeLine/\di z.cps.toList i=some c/\Q (.str ⟨#[c]⟩) H
def Ot:kK X (Qa X.K):=by
 intro value slice ae s σ H x y v u Q I rx ry h hs;obtain⟨p,xs,i,z,rfl,rfl,hq,he,q⟩:=h;cases rx;obtain⟨t,rfl⟩:=ry;obtain⟨ah,r,pl,hz⟩:=I.list hq;obtain⟨j,h1,h2,h3,h4,h5⟩:=EG he;obtain⟨w,ew,hZ⟩:=r.get h2;have hl:=r.length;have hn:=qf;have fin:EP X ae σ Q w s:=⟨z,H,I,hZ,q⟩;by_cases h0:0<=i
 ·have hj:i.toNat=j:=by
   rw[seqIndex_of h0 h5]at h1;exact dN h1
  exact item_listR pl.isList h0 (by lia) (by rw[hj];simpa using ew) fin hs
 ·have hj:(i+(ah.toArray.size:Int)).toNat=j:=by
   rw[seqIndex_neg (by lia) h4]at h1;rw[cf,<-hl];exact dN h1
  exact subscriptTail_builtinR (x:=w) pl.isList.typeIs slot_list_getitem.lookup
   (wpAny_getItem_list_neg (Q:=λr s'=>r=w/\EP X ae σ Q r s') pl.isList (by omega) (by rw[cf]<;>lia) (by lia) (by rw[hj];simpa using ew) ⟨rfl,fin⟩) hs
def X5:kK X (SJ X.K):=by
 intro value slice ae s σ H x y v u Q I rx ry h hs;obtain⟨p,xs,i,z,rfl,rfl,hq,he,q⟩:=h;cases rx;obtain⟨t,rfl⟩:=ry;obtain⟨ah,r,pl,hz⟩:=I.tuple hq;obtain⟨j,h1,h2,h3,h4,h5⟩:=EG he;obtain⟨w,ew,hZ⟩:=r.get h2;have hl:=r.length;have hn:=qf;have fin:EP X ae σ Q w s:=⟨z,H,I,hZ,q⟩;exact subscriptTail_builtinR (x:=w) pl.typeIs slot_tuple_getitem.lookup
  (getItem_tuple (j:=j) (Q:=λr s'=>r=w/\EP X ae σ Q r s') pl (by lia) (by lia) (by rw[cf,<-hl];exact h1) (by simpa using ew) ⟨rfl,fin⟩) hs
def pF:kK X Ts:=by
 intro value slice ae s σ H x y v u Q I rx ry h hs;obtain⟨z,i,c,rfl,rfl,hz,he,q⟩:=h;obtain⟨t,rfl⟩:=rx;obtain⟨t',rfl⟩:=ry;obtain⟨j,h1,h2,h3,h4,h5⟩:=EG he;have hl:z.cps.toList.length=z.length:=by simp[Str.length]
 rw[hl]at h1 h4 h5;have hn:=qf;exact tail_any (pN s z t) slot_str_getitem.lookup (getItem_str (c:=c) (by
  have e1:decide (i < -(2^63:Int))=false:=bj (by lia);have e2:decide (i ≥ 2^63)=false:=bj (by lia);rw[e1,e2,FN]) (by rw[h1];simpa using h2) ⟨.str ⟨#[c]⟩,H,I.tok _,⟨_,rfl⟩,q⟩) hs
def Vz(ah:List Value)(n j:Nat)(u:Value):Obj.mapSeq (·.setIfInBounds j u) {cls:=.type "list",data:=.seq ah.toArray n}={cls:=.type "list",data:=.seq (ah.set j u).toArray n}:=by
 simp[Obj.mapSeq]
def Inv.lst(I:Inv X ae σ H s)(h:H p=some (.lst xs)) :
  ∃ah n,Vals xs ah/\s.heap.get? p=some {cls:=.type "list",data:=.seq ah.toArray n}/\xs.length<=sizeLine:=by
 obtain⟨z,ah,n,r,e⟩:=I.hok p _ h;nomatch ah,n,r,e,z
def Inv.lstUpd{ae:List (Addr×Obj)}{σ:St}{H:Hp}{s:Shared}{p:Addr}{xs ys:List V}{ah its':List Value}{n n':Nat}{f:Obj->Obj}(I:Inv X ae σ H s)(h:H p=some (.lst xs))
  (ho:s.heap.get? p=some {cls:=.type "list",data:=.seq ah.toArray n}) (hf:f {cls:=.type "list",data:=.seq ah.toArray n}={cls:=.type "list",data:=.seq its'.toArray n'}) (r:Vals ys its') (hz:ys.length<=sizeLine) (t:Nat) :
  Inv X ae σ (upd H p (.lst ys)) {s with heap:=s.heap.update p f,toks:=t}:=by
 have e:(s.heap.update p f).get? p=some {cls:=.type "list",data:=.seq its'.toArray n'}:=by
  rw[Heap.get?_update_self f ho (by rw[hf]<;>rfl),hf]
 refine I.write (x:=p) (e:=p) (by rw[h];trivial) (.inl rfl) (λb u hb q=>(Heap.get?_update_other _ _ (Ne.symm hb)).trans q) ⟨_,e⟩ ?_;nomatch hz,its',n',r,e
def U8:V->V->V->Hp->(Hp->Prop)->Prop:=λo i v H Q=>∃p xs k j,o=.ref p/\i=.int k/\H p=some (.lst xs)/\j7 xs.length k=some j/\Q (upd H p (.lst (xs.set j v)))
def OX:JC X U8:=by
 intro ae s σ H o i v ov iv u Q I ro ri rv h;obtain⟨p,xs,k,j,rfl,rfl,hp,hj,q⟩:=h;cases ro;obtain⟨t,rfl⟩:=ri;obtain⟨ah,n,r,ho,hz⟩:=I.lst hp;obtain⟨h1,h2,h3,h4⟩:=Iv hj;have hl:=r.length;have hn:=qf;have I':Inv X ae σ (upd H p (.lst (xs.set j v))) {s with heap:=s.heap.update p (Obj.mapSeq (·.setIfInBounds j u))} :=
  I.lstUpd hp ho (Vz ah n j u) (r.set rv j) (by rw[sE];exact hz) s.toks
 by_cases h0:0<=k
 ·have hk:k.toNat=j:=by
   rw[seqIndex_of h0 h4]at h1;exact dN h1
  exact PySem.W.ki_setAt ho h0 (by lia) (by rw[cf,<-hl];exact h4) (by rw[hk];nomatch _,I',q)
 ·have hk:(k+(ah.toArray.size:Int)).toNat=j:=by
   rw[seqIndex_neg (by lia) h3]at h1;rw[cf,<-hl];exact dN h1
  exact PySem.W.ki_setBack ho (by omega) (by rw[cf,<-hl];exact h3) (by lia) (by rw[hk];nomatch _,I',q)
def Ka(h:i<0):max 0 (min (i+(n:Int)) n)=(((i+n).toNat:Nat):Int):=by
 rw[Int.min_eq_left (by lia),Int.ofNat_toNat,Int.max_comm]
def OY{i:Int}{n:Nat}(h:¬i<0):max 0 (min i (n:Int))=((min i.toNat n:Nat):Int):=by
 obtain⟨k,rfl⟩:=oO (Int.not_lt.mp h);rw[ph];rcases Nat.le_total k n with h|h
 ·rw[oK h,Int.min_eq_left (Int.ofNat_le.mpr h),Ez (gD _)]
 ·rw[wN h,Int.min_eq_right (Int.ofNat_le.mpr h),Ez (gD _)]
def Ur(lo hi:Option Int)(n:Nat):(sliceBounds lo hi none n).1=((HT.sIx n 0 lo:Nat):Int)/\(sliceBounds lo hi none n).2.1=((HT.sIx n n hi:Nat):Int)/\(sliceBounds lo hi none n).2.2=1:=by
 exists ?_,?_,rfl
 ·cases lo with
  |none=>simp[sliceBounds,HT.sIx]
  |some i =>
   simp only[sliceBounds,HT.sIx,Option.getD_none,show (1:Int)>0 by decide,j9];by_cases h:i<0
   ·simp only[h,j9];exact Ka h
   ·simp only[h,p9];exact OY h
 ·cases hi with
  |none=>simp[sliceBounds,HT.sIx]
  |some i =>
   simp only[sliceBounds,HT.sIx,Option.getD_none,show (1:Int)>0 by decide,j9];by_cases h:i<0
   ·simp only[h,j9];exact Ka h
   ·simp only[h,p9];exact OY h
def VH(ah:List Value)(lo hi:Option Int):slicePick ah.toArray lo hi none=((ah.drop (HT.sIx ah.length 0 lo)).take (HT.sIx ah.length ah.length hi-HT.sIx ah.length 0 lo)).toArray:=by
 obtain⟨h1,h2,h3⟩:=Ur lo hi ah.toArray.size;unfold slicePick;rw[h1,h2,h3];simp only[sliceRange_one,pick_run,cf]<;>rfl
def zat(K:Frag):V->Option Int->Option Int->Hp->VK->Prop:=λx lo hi H Q=>∃a xs,x=.ref a/\aj K H a xs/\∀p,H p=none->Q (.ref p) (upd H p (.lst (gq xs lo hi)))
def qK:zf X (zat X.K):=by
 intro ae s σ H x v vl vu lo hi sl Q I rx hs pl pu h;obtain⟨a,xs,rfl,hx,q⟩:=h;cases rx;obtain⟨ah,r,ht,hz⟩:=I.list hx;have aH:=r.length;exists "list",_,slot_list_getitem.lookup,ht.isList.typeIs,?_;refine Qo ht.isList hs pl pu .none (by simp) ?_ (by rw[cf]<;>lia);rw[VH,<-aH];exists .ref s.heap.objs.size,_,I.laid (t':=s.toks) (o:=.lst (gq xs lo hi)) (λb ob q=>dG _ q) (aO _) ?_,rfl,q _ (I.hok.fresh (aO _));nomatch aW (LC xs lo hi) hz,_,0,(r.drop (HT.sIx xs.length 0 lo)).take (HT.sIx xs.length xs.length hi-HT.sIx xs.length 0 lo),eI _ rfl
noncomputable def l9:V->Bool
 |.non=>true
 |.bl _=>true
 |.int _=>true
 |.str _=>true
 |_=>false
noncomputable def jA:V->V->Bool
 |.non,.non=>true
 |.bl a,.bl b=>a == b
 |.bl a,.int b=>(if a then 1 else 0) == b
 |.int a,.bl b=>a == (if b then 1 else 0)
 |.int a,.int b=>a == b
 |.str a,.str b=>a == b
 |_,_=>false
def Vc(ry:RelV y u)(rx:RelV x v)(fy:l9 y=true)(fx:l9 x=true):SeqAt.EqAt A s u v (jA y x):=by
 cases y with
 |non =>
  cases ry;cases x with
  |non=>cases rx;exact yr _
  |bl b=>cases rx;exact SeqAt.EqAt.none_bool b
  |int b=>obtain⟨t,rfl⟩:=rx;exact SeqAt.EqAt.none_int b t
  |str b=>obtain⟨t,rfl⟩:=rx;exact SeqAt.EqAt.none_str b t
  |_=>exact absurd (show false=true from fx) dJ
 |bl a =>
  cases ry;cases x with
  |non=>cases rx;exact SeqAt.EqAt.bool_none a
  |bl b=>cases rx;exact SeqAt.EqAt.bool_bool a b
  |int b=>obtain⟨t,rfl⟩:=rx;exact SeqAt.EqAt.bool_int a b t
  |str b=>obtain⟨t,rfl⟩:=rx;exact SeqAt.EqAt.bool_str a b t
  |_=>exact absurd (show false=true from fx) dJ
 |int a =>
  obtain⟨t',rfl⟩:=ry;cases x with
  |non=>cases rx;exact SeqAt.EqAt.int_none a t'
  |bl b=>cases rx;exact SeqAt.EqAt.int_bool a t' b
  |int b=>obtain⟨t,rfl⟩:=rx;exact SeqAt.EqAt.int_int a t' b t
  |str b=>obtain⟨t,rfl⟩:=rx;exact SeqAt.EqAt.int_str a t' b t
  |_=>exact absurd (show false=true from fx) dJ
 |str a =>
  obtain⟨t',rfl⟩:=ry;cases x with
  |non=>cases rx;exact SeqAt.EqAt.str_none a t'
  |bl b=>cases rx;exact SeqAt.EqAt.str_bool a t' b
  |int b=>obtain⟨t,rfl⟩:=rx;exact SeqAt.EqAt.str_int a t' b t
  |str b=>obtain⟨t,rfl⟩:=rx;exact SeqAt.EqAt.str_str a t' b t
  |_=>exact absurd (show false=true from fx) dJ
 |_=>exact absurd (show false=true from fy) dJ
noncomputable def gn(x:V)(u:Value):Bool:=match u with
 |.none=>jA .non x
 |.bool b=>jA (.bl b) x
 |.int i _=>jA (.int i) x
 |.str z _=>jA (.str z) x
 |_=>false
def Cm(r:RelV y u)(f:l9 y=true):gn x u=jA y x:=by
 cases y with
 |non=>cases r;rfl
 |bl b=>cases r;rfl
 |int i=>obtain⟨t,rfl⟩:=r;rfl
 |str z=>obtain⟨t,rfl⟩:=r;rfl
 |_=>exact absurd (show false=true from f) dJ
theorem xA:∀{xs:List V}{us:List Value},Vals xs us->xs.all l9=true->us.any (gn x)=xs.any λy=>jA y x
 |_,_,.nil,_=>rfl
 |y::xs,u::us,.cons r t,f=>by
  rw[Gi,gz]at f;rw[md,md,Cm r f.1,xA t f.2]
theorem sL(rx:RelV x v)(fx:l9 x=true):∀{xs:List V}{us:List Value},Vals xs us->xs.all l9=true->∀u∈us,SeqAt.EqAt A s u v (gn x u)
 |_,_,.nil,_=>λu hu=>by cases hu
 |y::xs,u::us,.cons r t,f=>λu' hu=>by
  rw[Gi,gz]at f;rcases aZ.mp hu with rfl|hu
  ·rw[Cm r f.1];exact Vc r rx f.1 fx
  ·exact sL rx fx t f.2 u' hu
noncomputable def gf(x:V)(xs:List V):Bool:=xs.any λy=>jA y x
def Ko(K:Frag)(neg:Bool):R2:=λx y H Q=>∃p xs,y=.ref p/\(aj K H p xs\/ay K H p xs)/\l9 x=true/\xs.all l9=true/\Q (.bl (if neg then !gf x xs else gf x xs)) H
def nY:bV X (compareOp .In) (Ko X.K false):=by
 intro ae s σ H x y v u Q I rx ry h;obtain⟨p,xs,rfl,hq,fx,fs,q⟩:=h;cases ry;rcases hq with hq|hq
 ·obtain⟨ah,r,pl,hz⟩:=I.list hq;refine SeqAt.in_listAt (gn x) pl.isList (λw hw=>sL rx fx r fs w (by simpa using hw)) ⟨.bl _,H,I,rfl,?_⟩;rw[show ah.toArray.any (gn x)=ah.any (gn x) by simp,xA r fs];exact q
 ·obtain⟨ah,r,pl,hz⟩:=I.tuple hq;refine SeqAt.in_tupleAt (gn x) pl (λw hw=>sL rx fx r fs w (by simpa using hw)) ⟨.bl _,H,I,rfl,?_⟩;rw[show ah.toArray.any (gn x)=ah.any (gn x) by simp,xA r fs];exact q
def zcs:bV X (compareOp .NotIn) (Ko X.K true):=by
 intro ae s σ H x y v u Q I rx ry h;obtain⟨p,xs,rfl,hq,fx,fs,q⟩:=h;cases ry;rcases hq with hq|hq
 ·obtain⟨ah,r,pl,hz⟩:=I.list hq;refine SeqAt.notIn_listAt (gn x) pl.isList (λw hw=>sL rx fx r fs w (by simpa using hw)) ⟨.bl _,H,I,rfl,?_⟩;rw[show ah.toArray.any (gn x)=ah.any (gn x) by simp,xA r fs];exact q
 ·obtain⟨ah,r,pl,hz⟩:=I.tuple hq;refine SeqAt.notIn_tupleAt (gn x) pl (λw hw=>sL rx fx r fs w (by simpa using hw)) ⟨.bl _,H,I,rfl,?_⟩;rw[show ah.toArray.any (gn x)=ah.any (gn x) by simp,xA r fs];exact q
def gd:jq X (.builtin "len") (λxs H Q=>∃p ys,xs=[.ref p]/\(aj X.K H p ys\/ay X.K H p ys)/\Q (.int ys.length) H):=by
 intro ae s σ H xs us Q I r h;obtain⟨p,ys,rfl,hq,q⟩:=h;obtain⟨u,rfl,rx⟩:=jz r;cases rx;have hn:=qf;rcases hq with hq|hq
 ·obtain⟨ah,r',pl,hz⟩:=I.list hq;have aH:=r'.length;exact Calls.call_len_list pl.isList (by simp only[cf]<;>lia) ⟨.int ys.length,H,I.tok _,⟨s.toks+1,by rw[cf,aH]⟩,q⟩
 ·obtain⟨ah,r',pl,hz⟩:=I.tuple hq;have aH:=r'.length;exact len_tuple pl (by simp only[cf]<;>omega) ⟨.int ys.length,H,I.tok _,⟨s.toks+1,by rw[cf,aH]⟩,q⟩
def m8:jq X (.builtin "len") (λxs H Q=>∃z,xs=[.str z]/\z.length<=sizeLine/\Q (.int z.length) H):=by
 intro ae s σ H xs us Q I r h;obtain⟨z,rfl,hz,q⟩:=h;obtain⟨u,rfl,t,rfl⟩:=jz r;have hn:=qf;exact len_str (by lia) ⟨.int z.length,H,I.tok _,⟨_,rfl⟩,q⟩
def EA(K:Frag)(T:String)(x:V)(H:Hp):Prop:=match x with
 |.str _=>T = "str"
 |.int _=>T = "int"
 |.ref p=>(T = "list" /\ ∃xs,aj K H p xs)\/(T = "tuple" /\ ∃o,K.lookup p=some o/\o.cls=.type "tuple" /\ o.dict=none) \/
   (T = "dict" /\ ((∃kvs,H p=some (.dK kvs))\/∃kvs,H p=some (.dT kvs)))\/(T = "set" /\ ∃S n,H p=some (.set S n))
 |_=>False
def Mm(I:Inv X ae σ H s)(r:RelV x v)(ty:EA X.K T x H) :
  s.TypeIs v T/\∀a,v=.ref a->∃ob,s.heap.get? a=some ob/\ob.dict=none:=by
 cases x with
 |str z =>
  obtain⟨t,rfl⟩:=r;cases (show T = "str" from ty);nomatch pN s z t,λ_ e=>nomatch e
 |int i =>
  obtain⟨t,rfl⟩:=r;cases (show T = "int" from ty);nomatch typeIs_int s i t,λ_ e=>nomatch e
 |ref p =>
  cases r;rcases ty with ⟨rfl,xs,hq⟩|⟨rfl,o,hk,hc,hd⟩|⟨rfl,hk⟩|⟨rfl,S,n,hk⟩
  ·obtain⟨ah,_,pl,_⟩:=I.list hq;exists pl.isList.typeIs,λa e=>?_;cases e;obtain⟨o,n,e,c,hd,_⟩:=pl;nomatch o,e,hd
  ·exists ⟨o,I.kIn p o hk,hc⟩,λa e=>?_;cases e;nomatch o,I.kIn _ o hk,hd
  ·have z:∃o,s.heap.get? p=some o/\o.ExactDict:=by
    rcases hk with ⟨kvs,hk⟩|⟨kvs,hk⟩
    ·obtain⟨_,_,_,_,o,_,_,e,ex,_⟩:=I.hok p _ hk;nomatch o,e,ex
    ·obtain⟨_,_,_,_,o,_,_,e,ex,_⟩:=I.hok p _ hk;nomatch o,e,ex
   obtain⟨o,e,ex⟩:=z;exists ⟨o,e,ex.1⟩,λa e2=>?_;cases e2;nomatch o,e,ex.2.1
  ·obtain⟨o,_,_,_,e,ex,_⟩:=I.hok p _ hk;exists ⟨o,e,ex.1⟩,λa e2=>?_;cases e2;nomatch o,e,ex.2.1
 |_=>exact False.elim ty
def T3(K:Frag)(T:String)(r:V->List V->Hp->VK->Prop)(to:TE):TE:=λσ H Q=>to σ H λx H1=>EA K T x H1/\r x [] H1 Q
def tBM(K:Frag)(T:String)(r:V->List V->Hp->VK->Prop)(to:TE)(t:TA):TE:=λσ H Q=>to σ H λx H1=>EA K T x H1/\t σ H1 λxs H2=>r x xs H2 Q
variable{o e:Expr}{es:List Expr}{to:TE}{t:TA}{name:Str}{eM cw:Pos}{T id:String}{r:V->List V->Hp->VK->Prop}
def gL(pa:PlainAttrs T)(slot:Slot T name id)(D8:typeOf (.builtin id)=pure (.type "method_descriptor"))(hm:Lz X id r)(ho:PE X o to)
  (DF:attributeBase o name X.env (eval o X.env)=eval o X.env:=by rfl) (Ga:(eM.endLine == cw.line)=true:=by rfl):PE X (.Call (.Attribute o name eM) [] [] cw) (T3 X.K T r to):=by
 intro ae s σ H Q I h;refine wpAny_Call_method0_late DF Ga (aL (ho ae s σ H _ I h) λv s1 ⟨x,H1,I1,r1,ty,q1⟩=>?_);obtain⟨h1,h2⟩:=Mm I1 r1 ty;nomatch T,id,pa,slot,D8,h1,h2,Ab rfl (PySem.evalArgs_none (hm ae s1 σ H1 x [] v [] Q I1 r1 .nil q1))
def bY(pa:PlainAttrs T)(slot:Slot T name id)(D8:typeOf (.builtin id)=pure (.type "method_descriptor"))(hm:Lz X id r)(ho:PE X o to)(ha:PA X (e::es) t)
  (DF:attributeBase o name X.env (eval o X.env)=eval o X.env:=by rfl)
  (xo:((backTo cw (starEach (e :: es) X.env)).all (fun x => !x.1) && (backToKw cw (keywordEach [] X.env)).all (fun x=>x.1.isSome) && decide ((e::es).length+([]:List Keyword).length+(if ([]:List Keyword).isEmpty then 0 else 1)<30))=true:=by rfl)
  (Ga:(eM.endLine == cw.line)=true:=by rfl) (hs:starEach (e::es) X.env=(false,eval e X.env)::starEach es X.env:=by rfl) (Vo:(backTo cw (starEach es X.env)).any (·.1)=false:=by rfl) :
  PE X (.Call (.Attribute o name eM) (e::es) [] cw) (tBM X.K T r to t):=by
 intro ae s σ H Q I h;refine wpAny_Call_method_late DF xo Ga rfl (aL (ho ae s σ H _ I h) λv s1 ⟨x,H1,I1,r1,ty,q1⟩=>?_);obtain⟨h1,h2⟩:=Mm I1 r1 ty;exists T,id,pa,slot,D8,h1,h2,?_;have hA:=ha cw ae s1 σ H1 _ I1 q1;rw[hs]at hA ⊢;refine Ab (by show (false || (backTo cw (starEach es X.env)).any (·.1))=false;rw[Vo]<;>rfl) (AJ ?_);exact aL hA λus s2 ⟨vs,H2,I2,r2,q2⟩=>hm ae s2 σ H2 x vs v us Q I2 r1 r2 q2
end
def ip(X:Cx)(id:String)(r:V->List V->Hp->VK->Prop):Prop :=
 ∀(ae:List (Addr×Obj)) (s:Shared) (σ:St) (H:Hp) (x:V) (xs:List V) (v:Value) (us:List Value) (Q:VK),Inv X ae σ H s->RelV x v->Vals xs us->r x xs H Q ->
  wpAny (model X.prog X.w) X.A (call (.builtin id) (v::us)) (EP X ae σ Q) X.xe s
def Vals.one(h:Vals [x] us):∃u,us=[u]/\RelV x u:=by
 cases h with|cons r t=>cases t;nomatch _,rfl,r
def Vals.two(h:Vals [x,y] us):∃u v,us=[u,v]/\RelV x u/\RelV y v:=by
 cases h with|cons r t=>cases t with|cons q t=>cases t;nomatch _,_,rfl,r,q
theorem Vals.zero:∀{us:List Value},Vals [] us->us=[]
 |_,.nil=>rfl
def Vals.dropLast(h:Vals xs us):Vals xs.dropLast us.dropLast:=by
 induction h with
 |nil=>exact .nil
 |cons r t ih =>
  cases t with
  |nil=>exact .nil
  |cons q t'=>exact .cons r ih
def Rp(l:List α):l.eraseIdx (l.length-1)=l.dropLast:=by
 induction l with
 |nil=>rfl
 |cons a r ih =>
  cases r with
  |nil=>rfl
  |cons b r =>
   have e:(a::b::r).length-1=((b::r).length-1)+1:=by
    have h1:(a::b::r).length=r.length+2:=rfl;have h2:(b::r).length=r.length+1:=rfl;assumption
   rw[e,List.eraseIdx_cons_succ,ih]
   all_goals rfl
section
variable{X:Cx}{ae:List (Addr×Obj)}{σ:St}{H:Hp}{s:Shared}{l b:Addr}{xs ys zs:List V}
def Inv.lset{ah its':List Value}{n:Nat}{f:Array Value->Array Value}{t':Nat}(I:Inv X ae σ H s)(hH:H l=some (.lst xs))
  (e:s.heap.get? l=some {cls:=.type "list",data:=.seq ah.toArray n}) (hf:f ah.toArray=its'.toArray) (hv:Vals ys its') (hz:ys.length<=sizeLine) :
  Inv X ae σ (upd H l (.lst ys)) {s with heap:=s.heap.update l (Obj.mapSeq f),toks:=t'}:=by
 have q:=PySem.IsL.update e f;rw[hf]at q;refine I.write (x:=l) (e:=l) (by rw[hH];exact trivial) (.inl rfl) (λb' u hb hu=>(Heap.get?_update_other s.heap (Obj.mapSeq f) (Ne.symm hb)).trans hu) ⟨_,q⟩ ?_;nomatch hz,its',_,hv,q
def Inv.lnew(I:Inv X ae σ H s)(hv:Vals ys ah)(hz:ys.length<=sizeLine) :
  Inv X ae σ (upd H s.heap.objs.size (.lst ys)) {s with heap:=s.heap.push {cls:=.type "list",data:=.seq ah.toArray},toks:=t'} :=
 I.laid (λ_ _ q=>dG _ q) (aO _) ⟨hz,ah,0,hv,eI _ rfl⟩
def Inv.fresh(I:Inv X ae σ H s):H s.heap.objs.size=none:=I.hok.fresh (aO _)
def Inv.lstM(I:Inv X ae σ H s)(hH:H l=some (.lst xs)):xs.length<=sizeLine/\∃ah n,Vals xs ah/\xs.length=ah.length/\s.heap.get? l=some {cls:=.type "list",data:=.seq ah.toArray n}:=by
 obtain⟨z,ah,n,r,e⟩:=I.hok l _ hH;nomatch z,ah,n,r,r.length,e
def Va(h:n<=sizeLine):Builtin.List.listTooLong n=false:=by
 unfold Builtin.List.listTooLong;exact bj (by lia)
end
section
variable{X:Cx}
def Yp:V->List V->Hp->VK->Prop:=λx vs H Q=>∃l xs y,x=.ref l/\vs=[y]/\H l=some (.lst xs)/\xs.length<sizeLine/\Q .non (upd H l (.lst (xs++[y])))
def Q6:ip X "list.append" Yp:=by
 intro ae s σ H x vs v us Q I rx rv h;obtain⟨l,xs,y,rfl,rfl,hH,hz,q⟩:=h;cases rx;obtain⟨u,rfl,ru⟩:=rv.one;obtain⟨z,ah,n,r,hl,e⟩:=I.lstM hH;refine qz F.slot_list_append ⟨_,e,rfl⟩ F.entry_list_append (F.args_list_append_2 _ _) (PySem.list_append l ah.toArray n u (by rw[cf];lia)) ⟨e,?_⟩;exists .non,_,I.lset (its':=ah++[u]) hH e (by simp) (r.append (.cons ru .nil)) ?_,rfl,q;rw[aS,List.length_singleton];assumption
def U2:V->List V->Hp->VK->Prop:=λx vs H Q=>∃l xs y,x=.ref l/\vs=[]/\H l=some (.lst xs)/\xs[xs.length-1]?=some y/\Q y (upd H l (.lst xs.dropLast))
def kI:ip X "list.pop" U2:=by
 intro ae s σ H x vs v us Q I rx rv h;obtain⟨l,xs,y,rfl,rfl,hH,hy,q⟩:=h;cases rx;have VN:=rv.zero;subst VN;obtain⟨z,ah,n,r,hl,e⟩:=I.lstM hH;obtain⟨u,hu,ru⟩:=r.get hy;have Lg:ah.toArray[ah.toArray.size-1]?=some u:=by
  show ah.toArray[ah.length-1]?=some u;rw[<-Dp,<-hl];exact hu
 refine qz F.slot_list_pop ⟨_,e,rfl⟩ F.entry_list_pop (F.args_list_pop_1 _) (MeetsSeq.list_pop_last l ah.toArray n u Lg (by rw[cf];lia)) ⟨e,?_⟩;exists y,_,I.lset (its':=ah.dropLast) hH e ?_ r.dropLast ?_,ru,q
 ·show ah.toArray.eraseIdxIfInBounds (ah.toArray.size-1)=ah.dropLast.toArray;rw[cf,List.eraseIdxIfInBounds_toArray,Rp]
 ·rw[tw];lia
def X4:R2:=λx y H Q=>∃l b xs zs,x=.ref l/\y=.ref b/\H l=some (.lst xs)/\H b=some (.lst zs)/\xs.length+zs.length<=sizeLine/\∀p,H p=none->Q (.ref p) (upd H p (.lst (xs++zs)))
def tj:bV X (binaryOp .Add) X4:=by
 intro ae s σ H x y v u Q I rx ry h;obtain⟨l,b,xs,zs,rfl,rfl,hH,hB,hz,q⟩:=h;cases rx;cases ry;obtain⟨z,ah,n,r,hl,e⟩:=I.lstM hH;obtain⟨z2,fg,n2,r2,jL,e2⟩:=I.lstM hB;refine PySem.P.add_list e e2 ?_ (by rw[cf,cf];lia);have ea:ah.toArray++fg.toArray=(ah++fg).toArray:=by simp
 rw[ea];nomatch .ref _,_,I.lnew (t':=s.toks) (r.append r2) (by rw[aS];assumption),rfl,q _ I.fresh
end
section
variable{κ:Type}[DecidableEq κ]
noncomputable def il(kvs:List (κ×V))(k:κ):Option V:=(kvs.find? λkv=>decide (kv.1=k)).map (·.2)
noncomputable def dq(kvs:List (κ×V))(k:κ)(v:V):List (κ×V) :=
 if (kvs.any λkv=>decide (kv.1=k))=true then kvs.map (λkv=>if kv.1=k then (kv.1,v)else kv)else kvs++[(k,v)]
def vv{p:κ×V}{r:List (κ×V)}{k:κ}(e:p.1=k):il (p::r) k=some p.2:=by simp[il,dm,e]
def wa{p:κ×V}{r:List (κ×V)}{k:κ}(e:¬p.1=k):il (p::r) k=il r k:=by simp[il,dm,e]
theorem Ha(k:κ):∀kvs:List (κ×V),(kvs.any λkv=>decide (kv.1=k))=(il kvs k).isSome
 |[]=>rfl
 |p::r=>by
  rw[md];by_cases e:p.1=k
  ·simp only[vv e,aR e,Bool.true_or,Option.isSome_some]
  ·rw[wa e,bj e,Bool.false_or];exact Ha k r
def F6(kvs:List (κ×V))(k:κ)(v:V):(dq kvs k v).length<=kvs.length+1:=by
 unfold dq;split
 ·rw[av];lia
 ·rw[aS,br,mj];lia
def gY.isSome_eq(r:gY o u):o.isSome=u.isSome:=by
 cases o with
 |none=>cases u with
  |none=>rfl
  |some _=>exact (show False from r).elim
 |some _=>cases u with
  |none=>exact (show False from r).elim
  |some _=>rfl
def gY.getD(r:gY o u)(rd:RelV d d'):RelV (o.getD d) (u.getD d'):=by
 cases o with
 |none=>cases u with
  |none=>exact rd
  |some _=>exact (show False from r).elim
 |some _=>cases u with
  |none=>exact (show False from r).elim
  |some _=>exact r
def KV.val{kvs:List (κ×V)}{vs:List (κ×Value)}(r:KV kvs vs)(k:κ):gY (il kvs k) (valueAt vs k):=by
 unfold KV at r;induction r with
 |nil=>exact True.intro
 |@cons p q ps qs h t ih =>
  obtain⟨h1,h2⟩:=h;by_cases e:p.1=k
  ·have e':q.1=k:=h1.symm.trans e;have b:valueAt (q::qs) k=some q.2:=by simp[valueAt,dm,e']
   rw[vv e,b];exact h2
  ·have e':¬q.1=k:=λz=>e (h1.trans z)
   have b:valueAt (q::qs) k=valueAt qs k:=by simp[valueAt,dm,e']
   rw[wa e,b];exact ih
def KV.any(r:KV kvs vs)(k:κ):(kvs.any λkv=>decide (kv.1=k))=vs.any λkv=>decide (kv.1=k):=by
 unfold KV at r;induction r with
 |nil=>rfl
 |cons h t ih=>rw[md,md,ih,h.1]
def KV.repl(r:KV kvs vs)(k:κ)(ry:RelV y u) :
  KV (kvs.map λkv=>if kv.1=k then (kv.1,y)else kv) (vs.map λkv=>if kv.1=k then (kv.1,u)else kv):=by
 unfold KV at r ⊢;induction r with
 |nil=>exact .nil
 |@cons p q ps qs h t ih =>
  rw[bU,bU];refine .cons ?_ ih;obtain⟨h1,h2⟩:=h;by_cases e:p.1=k
  ·rw[aB e,aB (h1.symm.trans e)];nomatch h1,ry
  ·rw[ax e,ax (λz=>e (h1.trans z))];nomatch h1,h2
def KV.put(r:KV kvs vs)(k:κ)(ry:RelV y u):KV (dq kvs k y) (stored vs k u):=by
 unfold dq stored;rw[r.any k];by_cases e:(vs.any λkv=>decide (kv.1=k))=true
 ·rw[aB e,aB e];exact r.repl k ry
 ·rw[ax e,ax e];exact Paired.snoc r ⟨rfl,ry⟩
def KV.keys{kvs:List (κ×V)}{vs:List (κ×Value)}(r:KV kvs vs):kvs.map (·.1)=vs.map (·.1):=by
 unfold KV at r;induction r with
 |nil=>rfl
 |cons h t ih=>rw[bU,bU,ih,h.1]
def KV.length(r:KV kvs vs):kvs.length=vs.length:=er r
end
def ud(r:RelV (kV k) u):(fO P w).is k u=true:=by
 cases k with
 |inl i=>obtain⟨t,e⟩:=(show ∃t,u=Value.int i t from r);subst e;exact Vn P w i t
 |inr x=>obtain⟨t,e⟩:=(show ∃t,u=Value.str x t from r);subst e;exact sr P w x t
theorem Qy:∀{ks:List bJ}{us:List Value},Vals (ks.map kV) us->ItemsAre (fO P w) ks us
 |[],_,r=>by rw[nR]at r;cases r;exact .nil
 |k::ks,_,r=>by
  rw[bU]at r;cases r with
  |cons h t=>exact .cons (ud h) (Qy t)
abbrev KT(H:Hp):List (List bJ×V)->List (List bJ×Addr×Value)->Prop:=Paired λp q=>p.1=q.1/\H q.2.1=some (.tup (p.1.map kV))/\RelV p.2 q.2.2
def KT.val(r:KT H kvs xs)(k:List bJ):gY (il kvs k) ((atKey xs k).map (·.2)):=by
 induction r with
 |nil=>exact True.intro
 |@cons p q ps qs h t ih =>
  obtain⟨h1,_,h2⟩:=h;by_cases e:p.1=k
  ·have e':q.1=k:=h1.symm.trans e;have b:atKey (q::qs) k=some q.2:=by simp[atKey,dm,e']
   rw[vv e,b];exact h2
  ·have e':¬q.1=k:=λz=>e (h1.trans z)
   have b:atKey (q::qs) k=atKey qs k:=by simp[atKey,dm,e']
   rw[wa e,b];exact ih
def KT.repl(r:KT H kvs xs)(k:List bJ)(ry:RelV y u) :
  KT H (kvs.map λkv=>if kv.1=k then (kv.1,y)else kv) (xs.map (putAt k u)):=by
 induction r with
 |nil=>exact .nil
 |@cons p q ps qs h t ih =>
  rw[bU,bU];refine .cons ?_ ih;obtain⟨h1,h2,h3⟩:=h;unfold putAt;by_cases e:p.1=k
  ·rw[aB e,aB (h1.symm.trans e)];nomatch h1,h2,ry
  ·rw[ax e,ax (λz=>e (h1.trans z))];nomatch h1,h2,h3
def KT.put(r:KT H kvs xs)(k:List bJ)(hb:H b=some (.tup (k.map kV)))(ry:RelV y u) :
  KT H (dq kvs k y) (storedH xs k b u):=by
 have e:(kvs.any λkv=>decide (kv.1=k))=(atKey xs k).isSome:=by
  rw[Ha,(r.val k).isSome_eq,AI]
 unfold dq storedH;rw[e];by_cases q:(atKey xs k).isSome=true
 ·rw[aB q,aB q];exact r.repl k ry
 ·rw[ax q,ax q];exact Paired.snoc r ⟨rfl,hb,ry⟩
def KT.keeps(r:KT H kvs xs)(ht:∀b ys,H b=some (.tup ys)->H' b=some (.tup ys)):KT H' kvs xs :=
 Paired.mapP r λ_ _ z=>⟨z.1,ht _ _ z.2.1,z.2.2⟩
section
variable{P:Program}{w:World}{H:Hp}{h:Heap}{a:Addr}
def Ir(ok:cW P w H h)(e:Rd H a u):dQ P w H h a u:=e.ok ok
def tu(ok:cW P w H h)(e:Rd H a (.dK kvs)):kvs.length<=sizeLine/\(a == sysModules)=false/\∃vs,KV kvs vs/\h.DictOf (fO P w) a vs :=
 show dQ P w H h a (.dK kvs) from Ir ok e
def D5(ok:cW P w H h)(e:H a=some (.dK kvs)):kvs.length<=sizeLine/\(a == sysModules)=false/\∃vs,KV kvs vs/\h.DictOf (fO P w) a vs:=tu ok (.inl e)
def vt(ok:cW P w H h)(e:H a=some (.tup (ks.map kV))):(tupleKind (fO P w)).is h ks a:=by
 obtain⟨_,ah,r,o,h1,h2,n,h3⟩:=(show dQ P w H h a (.tup (ks.map kV)) from ok a _ e);exact⟨o,ah.toArray,n,h1,h2,h3,by simpa using Qy r⟩
def sM(ok:cW P w H h)(e:Rd H a (.dT kvs)):kvs.length<=sizeLine/\(a == sysModules)=false /\
  ∃xs,KT H kvs xs/\h.DictOfH (tupleKind (fO P w)) a xs:=by
 obtain⟨z,y,xs,r,o,es,ep,h1,h2,h3,h4,h5⟩:=(show dQ P w H h a (.dT kvs) from Ir ok e);exists z,y,xs,r,o,es,ep,h1,h2,h3,h4,λx hx=>?_,h5;have all:∀{l:List (List bJ×V)}{m:List (List bJ×Addr×Value)},KT H l m->∀x∈m,(tupleKind (fO P w)).is h x.1 x.2.1:=by
  intro l m q;induction q with
  |nil=>intro x hx;exact nomatch hx
  |@cons p q ps qs hq t ih =>
   intro x hx;rcases aZ.mp hx with e|hx
   ·subst e;exact vt ok (by rw[<-hq.1];exact hq.2.1)
   ·exact ih x hx
 exact all r x hx
def zb4(ok:cW P w H h)(e:H a=some (.dT kvs)):kvs.length<=sizeLine/\(a == sysModules)=false /\
  ∃xs,KT H kvs xs/\h.DictOfH (tupleKind (fO P w)) a xs:=sM ok (.inl e)
end
def c8(H:Hp)(a:Addr)(y:V)(r:Option V):Prop :=
 (∃kvs k,Rd H a (.dK kvs)/\y=kV k/\r=il kvs k)\/∃kvs k b,Rd H a (.dT kvs)/\y=.ref b/\H b=some (.tup (k.map kV))/\r=il kvs k
def mI(H:Hp)(a:Addr)(y v:V)(H':Hp):Prop :=
 (∃kvs k,H a=some (.dK kvs)/\y=kV k/\kvs.length<sizeLine/\H'=upd H a (.dK (dq kvs k v))) \/
 ∃kvs k b,H a=some (.dT kvs)/\y=.ref b/\H b=some (.tup (k.map kV))/\kvs.length<sizeLine/\H'=upd H a (.dT (dq kvs k v))
theorem c8.k{H:Hp}{a:Addr}{kvs:List (bJ×V)}{k:bJ}(e:H a=some (.dK kvs)):c8 H a (kV k) (il kvs k):=.inl ⟨kvs,k,.inl e,rfl,rfl⟩
theorem mI.k{H:Hp}{a:Addr}{kvs:List (bJ×V)}{k:bJ}{v:V}(e:H a=some (.dK kvs))(hl:kvs.length<sizeLine):mI H a (kV k) v (upd H a (.dK (dq kvs k v))):=.inl ⟨kvs,k,e,rfl,hl,rfl⟩
section
variable{X:Cx}{ae:List (Addr×Obj)}{σ:St}{H:Hp}{s:Shared}{a:Addr}{y v:V}{u r:Value}{o:Option V}{A:Around}{E:Value->Shared->Prop}
def Inv.big(I:Inv X ae σ H s):sysModules<s.heap.objs.size:=by
 have h:mainGlobals<s.heap.objs.size:=(I.mod.glob.keeps I.bk).lt;exact px (by decide) h
def ZE(hu:A.units+1<cLine)(I:Inv X ae σ H s)(g:c8 H a y (some v))(ry:RelV y u)(h:∀w' s',Inv X ae σ H s'->RelV v w'->Q w' s') :
  wpAny (model X.prog X.w) A (getItem (.ref a) u) Q E s:=by
 rcases g with ⟨kvs,k,e,ey,l⟩|⟨kvs,k,b,e,ey,eb,l⟩
 ·subst ey;obtain⟨z,hd,vs,rel,dd⟩:=tu I.hok e;obtain⟨w',hw,hZ⟩:=gY.some_of (v:=v) (o:=valueAt vs k) (by rw[l];exact rel.val k);exact wpAny_getItem_of (ud ry) dd.mapOf hw (h w' _ (I.tok _) hZ)
 ·subst ey;cases (show u=Value.ref b from ry);obtain⟨z,hd,xs,rel,dd⟩:=sM I.hok e;obtain⟨w',hw,hZ⟩:=gY.some_of (v:=v) (o:=(atKey xs k).map (·.2)) (by rw[l];exact rel.val k);obtain⟨p,hp,cm⟩:=Bz.mp hw;refine wpAny_getItem_heap (xZ hu) (vt I.hok eb) dd hp ?_;rw[cm];exact h w' _ (I.tok _) hZ
def zbb(hu:A.units+1<cLine)(I:Inv X ae σ H s)(g:c8 H a y o)(ry:RelV y u)(h:∀s',Inv X ae σ H s'->Q (.bool (!o.isSome)) s') :
  wpAny (model X.prog X.w) A (compareOp .NotIn u (.ref a)) Q E s:=by
 rcases g with ⟨kvs,k,e,ey,l⟩|⟨kvs,k,b,e,ey,eb,l⟩
 ·subst ey;obtain⟨z,hd,vs,rel,dd⟩:=tu I.hok e;refine wpAny_notIn_of (ud ry) hd dd.mapOf ?_;rw[<- (rel.val k).isSome_eq,<-l];exact h _ (I.tok _)
 ·subst ey;cases (show u=Value.ref b from ry);obtain⟨z,hd,xs,rel,dd⟩:=sM I.hok e;refine wpAny_notIn_heap (xZ hu) (vt I.hok eb) hd dd ?_;have q:=(rel.val k).isSome_eq;rw[AI]at q;rw[<-q,<-l];exact h _ (I.tok _)
def EU(I:Inv X ae σ H s)(mu:va (H a))(hs:Heap.SameBut a s.heap h')(he:∃q,h'.get? a=some q)(new:dQ X.prog X.w (upd H a ob) h' a ob) :
  Inv X ae σ (upd H a ob) {s with heap:=h',toks:=t'} :=
 I.write (x:=a) (e:=a) mu (.inl rfl) (λb q hb z=>(hs.2 b hb).trans z) he new
def KI(z:kvs.length<=sizeLine)(hd:(a == sysModules)=false)(rel:KV kvs vs)(dd:h'.DictOf (fO P w) a vs) :
  dQ P w H' h' a (.dK kvs):=⟨z,hd,vs,rel,dd⟩
def T1(hu:A.units+1<cLine)(I:Inv X ae σ H s)(g:mI H a y v H')(ry:RelV y u)(rv:RelV v r)(h:∀s',Inv X ae σ H' s'->Q () s') :
  wpAny (model X.prog X.w) A (setItem (.ref a) u r) Q E s:=by
 rcases g with ⟨kvs,k,e,ey,l,eH⟩|⟨kvs,k,b,e,ey,eb,l,eH⟩
 ·subst ey eH;obtain⟨z,hd,vs,rel,dd⟩:=D5 I.hok e;have hz:vs.length<=sizeLine:=by rw[<-rel.length];exact z
  have hl:(dq kvs k v).length<=sizeLine:=by have:=F6 kvs k v;lia
  refine wpAny_setItem_pairs (hsz:=hz) (ud ry) dd λh' qe hs=>h _ ?_
  have he:∃q,h'.get? a=some q:=let ⟨q,_,_,hq,_⟩:=qe; ⟨q,hq⟩
  exact EU I (by rw[e];exact True.intro) hs he (KI hl hd (rel.put k rv) qe)
 ·subst ey eH;cases (show u=Value.ref b from ry);obtain⟨z,hd,xs,rel,dd⟩:=zb4 I.hok e;have hz:xs.length<=sizeLine:=by rw[<-er rel];exact z
  have hl:(dq kvs k v).length<=sizeLine:=by have:=F6 kvs k v;lia
  refine wpAny_setItem_heap (hsz:=hz) (xZ hu) (vt I.hok eb) dd λh' qe hs=>h _ ?_
  obtain⟨q,es,ep,hq,h2,h3,h4,_,h5⟩:=qe;refine EU I (by rw[e];exact True.intro) hs ⟨q,hq⟩ ⟨hl,hd,_,(rel.put k eb rv).keeps λc ys ec=>?_,q,es,ep,hq,h2,h3,h4,h5⟩;rw[aJ (QB ec e (λz=>nomatch z))];exact ec
end
def yh(i:Expr):Prop:=∀ov iv,subscripted i false ov iv=operate [ov,iv] (getItem ov iv)
def Jy{prog:Program}{w:World}{A:Around}{E:Value->Shared->Prop}{s:Shared}{env:Env}{value slice:Expr}{pos:Pos}{T id:String}{Q:Value->Shared->Prop}
  (hl:typeLookup (.type T) "__getitem__" = pure (some (.builtin id))) (hs:yh slice)
  (h:wpAny (model prog w) A (eval value env) (λo s₁=>wpAny (model prog w) A (eval slice env) (λi s₂=>s₂.TypeIs o T/\wpAny (model prog w) A (getItem o i) Q E s₂) E s₁) E s) :
  wpAny (model prog w) A (eval (.Subscript value slice pos) env) Q E s:=by
 refine yI (eA h (λo s₁ h₁=>eA h₁ (λi s₂ h₂=>?_) λ_ _ x=>x) λ_ _ x=>x);obtain⟨hT,h₂⟩:=h₂;unfold subscriptTail;refine aF ?_;rw[getitemInPython_of_ne hT.not_modules];refine aF (wpAny_specialOf hT hl ?_);have fin:wpAny (model prog w) A (subscripted slice false o i) (λr s₃=>wpAny (model prog w) A (letTemporaryGo value o r >>= λ_=>pure r) Q E s₃) E s₂:=by
  rw[hs o i];exact wpAny_operating (eA h₂ (λr s₃ h₃=>aF (wpAny_letTemporaryGo (bL h₃))) λ_ _ x=>x)
 first
  |exact bL (aF fin)
  |exact aF (bL (aF fin))
  |exact aF fin
def Xy(I:Inv X ae σ H s)(g:c8 H a y o):s.TypeIs (.ref a) "dict" := by
 rcases g with ⟨kvs,k,e,_,_⟩|⟨kvs,k,b,e,_,_,_⟩
 ·obtain⟨_,_,vs,_,dd⟩:=tu I.hok e;exact dd.typeIs
 ·obtain⟨_,_,xs,_,dd⟩:=sM I.hok e;exact dd.typeIs
def Ul(td ty:TE):TE:=λσ H Q=>td σ H λx H1=>ty σ H1 λy H2=>∃a v,x=.ref a/\c8 H2 a y (some v)/\Q v H2
def zbL(ty td:TE):TE:=λσ H Q=>ty σ H λy H1=>td σ H1 λx H2=>∃a o,x=.ref a/\c8 H2 a y o/\Q (.bl (!o.isSome)) H2
def XU(td ty tv:TE):TS:=λD σ H=>tv σ H λv H1=>td σ H1 λx H2=>ty σ H2 λy H3=>∃a H4,x=.ref a/\mI H3 a y v H4/\D.nx σ H4
section
variable{X:Cx}{o i e value:Expr}{pos pos' tpos:Pos}{td ty tv:TE}
def zaN(hu:X.A.units+1<cLine)(ho:PE X o td)(hi:PE X i ty)(hs:yh i):PE X (.Subscript o i pos) (Ul td ty):=by
 intro ae s σ H Q I h;refine Jy PySem.F.slot_dict_getitem.lookup hs (aL (ho ae s σ H _ I h) λu s1 ⟨x,H1,I1,rx,q1⟩=>aL (hi ae s1 σ H1 _ I1 q1) λiv s2 ⟨y,H2,I2,ry,a,v,ex,g,q2⟩=>?_);subst ex;obtain rfl:u=Value.ref a:=rx;nomatch Xy I2 g,ZE hu I2 g ry λw' s3 I3 hZ=>⟨v,H2,I3,hZ,q2⟩
def xj(hu:X.A.units+1<cLine)(hi:PE X i ty)(ho:PE X o td):PC X .NotIn i o (zbL ty td):=by
 intro ae s σ H Q I h;refine aL (hi ae s σ H _ I h) λiv s1 ⟨y,H1,I1,ry,q1⟩=>aL (ho ae s1 σ H1 _ I1 q1) λu s2 ⟨x,H2,I2,rx,a,ov,ex,g,q2⟩=>?_
 subst ex;obtain rfl:u=Value.ref a:=rx;exact zbb hu I2 g ry λs3 I3=>⟨.bl (!ov.isSome),H2,I3,rfl,q2⟩
def uh(hu:X.A.units+1<cLine)(ho:PE X o td)(hi:PE X i ty)(hv:PE X value tv)(hs:swapsWith value (some (.Subscript o i pos')) pos.line X.env=pure false) :
  PS X (.Assign [.Subscript o i pos'] value pos) (XU td ty tv):=by
 intro ae s σ H D I h;refine wpAny_Assign_Subscript (aL (hv ae s σ H _ I h) λr s1 ⟨v,H1,I1,rv,q1⟩=>aL (ho ae s1 σ H1 _ I1 q1) λu s2 ⟨x,H2,I2,rx,q2⟩=>aL (hi ae s2 σ H2 _ I2 q2) λiv s3 ⟨y,H3,I3,ry,a,H4,ex,g,q3⟩=>?_) hs;subst ex;obtain rfl:u=Value.ref a:=rx;exact T1 hu I3 g ry rv λs4 I4=>⟨σ,H4,I4,q3⟩
end
def JX(h:Heap)(hb:sysModules<h.objs.size):dQ P w H (h.push {cls:=.type "dict",data:=.dict #[]}) h.objs.size (.dK []) :=
 ⟨bS _,rD.mpr (Ne.symm (d5 hb)),[],.nil,Heap.DictOf.new h⟩
def zbz:TE:=λ_ H Q=>∀p,H p=none->Q (.ref p) (upd H p (.dK []))
section
variable{X:Cx}{pos:Pos}
def qF:PE X (.Dict [] [] pos) zbz:=λae s σ H Q I h =>
 wpAny_Dict_empty ⟨.ref s.heap.objs.size,_,I.laid (a:=s.heap.objs.size) (o:=.dK []) (t':=s.toks) (λ_ _ q=>dG _ q) (aO _) (JX s.heap I.big),rfl,h _ (I.hok.fresh (aO _))⟩
end
def CB:List (TE×TE)->St->Hp->(List (V×V)->Hp->Prop)->Prop
 |[],_,H,Q=>Q [] H
 |(tk,tv)::r,σ,H,Q=>tk σ H λx H1=>tv σ H1 λy H2=>CB r σ H2 λps H3=>Q ((x,y)::ps) H3
abbrev VV:List (V×V)->List (Value×Value)->Prop:=Paired λp q=>RelV p.1 q.1/\RelV p.2 q.2
def Br(X:Cx)(pos:Pos)(keys:List (Option Expr))(values:List Expr)(rX:List (TE×TE)):Prop :=
 ∀(ae:List (Addr×Obj)) (s:Shared) (σ:St) (H:Hp) (Q:List (V×V)->Hp->Prop),Inv X ae σ H s->CB rX σ H Q ->
  wpAny (model X.prog X.w) X.A (evalPairs (pairTrees keys values X.env pos)) (λvs s'=>∃ps H',Inv X ae σ H' s'/\VV ps vs/\Q ps H') X.xe s
def Mx:Br X pos [] [] []:=λae s σ H Q I h=>pairTrees_nil_walk ⟨[],H,I,.nil,h⟩
def yZ(hk:PE X k tk)(hv:PE X v tv)(hr:Br X pos ks vs rX) :
  Br X pos (some k::ks) (v::vs) ((tk,tv)::rX):=λae s σ H Q I h =>
 pairTrees_cons_walk (aL (hk ae s σ H _ I h) λu s1 ⟨x,H1,I1,rx,q1⟩=>aL (hv ae s1 σ H1 _ I1 q1) λw2 s2 ⟨y,H2,I2,ry,q2⟩ =>
  aL (hr ae s2 σ H2 _ I2 q2) λws s3 ⟨ps,H3,I3,rel,q3⟩=>⟨(x,y)::ps,H3,I3,.cons ⟨rx,ry⟩ rel,q3⟩)
noncomputable def sH(kvs more:List (bJ×V)):List (bJ×V):=more.foldl (λacc kv=>dq acc kv.1 kv.2) kvs
def KV.merge:∀{more:List (bJ×V)}{rs:List (bJ×Value)}{kvs:List (bJ×V)}{vs:List (bJ×Value)},KV more rs->KV kvs vs->KV (sH kvs more) (merged vs rs):=by
 intro more rs kvs vs r;unfold KV at r;induction r generalizing kvs vs with
 |nil=>intro q;exact q
 |@cons p q ps qs h t ih =>
  intro r0;have e:KV (dq kvs p.1 p.2) (stored vs q.1 q.2):=by
   have:=r0.put p.1 h.2
   rw[<-h.1];exact this
  exact ih e
theorem LL:∀(more kvs:List (bJ×V)),(sH kvs more).length<=kvs.length+more.length
 |[],kvs=>by show kvs.length<=kvs.length+0;lia
 |p::r,kvs=>by
  have h1:=LL r (dq kvs p.1 p.2);have h2:=F6 kvs p.1 p.2;show (sH (dq kvs p.1 p.2) r).length<=_;rw[br];lia
theorem Qj:∀{kvs:List (bJ×V)}{ws:List (Value×Value)},VV (kvs.map λkv=>(kV kv.1,kv.2)) ws->∃rs,Carries (fO P w) ws rs/\KV kvs rs
 |[],_,r=>by rw[nR]at r;cases r;nomatch [],True.intro,.nil
 |p::kvs,_,r=>by
  rw[bU]at r;cases r with
  |@cons a b as bs h t =>
   obtain⟨rs,c,q⟩:=Qj (P:=P) (w:=w) t;obtain⟨b1,b2⟩:=b;nomatch (p.1,b2)::rs,⟨ud h.1,rfl,c⟩,.cons ⟨rfl,h.2⟩ q
def zbY(rX:List (TE×TE)):TE:=λσ H Q=>∀p,H p=none->CB rX σ (upd H p (.dK [])) λps H2=>H2 p=some (.dK [])/\∃kvs,ps=kvs.map (λkv=>(kV kv.1,kv.2))/\kvs.length<=15/\Q (.ref p) (upd H2 p (.dK (sH [] kvs)))
def NK(h:Br X pos keys values rX)(iZ:keys.all (·.isSome)=true)(hl:keys.length=values.length)(h0:keys≠[])
  (Uq:keys.length<=15):PE X (.Dict keys values pos) (zbY rX):=by
 intro ae s σ H Q I q;have hn:=I.hok.fresh (aO s.heap.objs.size);have I1:=I.laid (a:=s.heap.objs.size) (o:=.dK []) (h':=s.heap.push {cls:=.type "dict",data:=.dict #[]}) (t':=s.toks) (λ_ _ q=>dG _ q) (aO _) (JX s.heap I.big);refine wpAny_Dict_walk (knd:=fO X.prog X.w) iZ hl h0 Uq (aL (h ae _ σ _ _ I1 (q _ hn)) λws s2 ⟨ps,H2,I2,rel,e,kvs,ep,lk,q2⟩=>?_);subst ep;obtain⟨rs,c,rk⟩:=Qj (P:=X.prog) (w:=X.w) rel;obtain⟨z,hd,vs0,r0,dd⟩:=D5 I2.hok e;cases r0;exists rs,c,dd,λh' qe hs=>⟨.ref s.heap.objs.size,_,?_,rfl,q2⟩;have hz:(sH [] kvs).length<=sizeLine:=by
  have h1:=LL kvs [];rw[mj]at h1;rw[Ak];lia
 have he:∃q,h'.get? s.heap.objs.size=some q:=let ⟨q,_,_,hq,_⟩:=qe; ⟨q,hq⟩
 exact EU I2 (by rw[e];exact True.intro) hs he (KI hz hd (rk.merge .nil) qe)
structure M1(X:Cx)(o:Expr)(m:Str)(eM:Pos)(e:Expr)(cw:Pos):Prop where
 base:attributeBase o m X.env (eval o X.env)=eval o X.env
 few:((backTo cw (starEach [e] X.env)).all (fun x => !x.1) && (backToKw cw (keywordEach [] X.env)).all (fun x=>x.1.isSome) && decide (([e]:List Expr).length+([]:List Keyword).length+(if ([]:List Keyword).isEmpty then 0 else 1)<30))=true
 line:(eM.endLine == cw.line)=true
 trees:backTo cw (starEach [e] X.env)=[(false,eval e X.env)]
structure M2(X:Cx)(o:Expr)(m:Str)(eM:Pos)(e f:Expr)(cw:Pos):Prop where
 base:attributeBase o m X.env (eval o X.env)=eval o X.env
 few:((backTo cw (starEach [e,f] X.env)).all (fun x => !x.1) && (backToKw cw (keywordEach [] X.env)).all (fun x=>x.1.isSome) && decide (([e,f]:List Expr).length+([]:List Keyword).length+(if ([]:List Keyword).isEmpty then 0 else 1)<30))=true
 line:(eM.endLine == cw.line)=true
 trees:backTo cw (starEach [e,f] X.env)=[(false,eval e X.env),(false,eval f X.env)]
def Kw(H:Hp)(a:Addr):Prop:=(∃kvs,Rd H a (.dK kvs))\/∃kvs,Rd H a (.dT kvs)
def RK(I:Inv X ae σ H s)(d:Kw H a) :
  s.TypeIs (.ref a) "dict" /\ (∀b,Value.ref a=.ref b->∃ob,s.heap.get? b=some ob/\ob.dict=none)/\(a == sysModules)=false:=by
 rcases d with ⟨kvs,e⟩|⟨kvs,e⟩
 ·obtain⟨_,hd,vs,_,dd⟩:=tu I.hok e;exists dd.typeIs,λb q=>?_,hd;cases q;obtain⟨ob,_,_,h1,h2,_⟩:=dd;nomatch ob,h1,h2.2.1
 ·obtain⟨_,hd,xs,_,dd⟩:=sM I.hok e;exists dd.typeIs,λb q=>?_,hd;cases q;obtain⟨ob,_,_,h1,h2,_⟩:=dd;nomatch ob,h1,h2.2.1
section
variable{X:Cx}{ae:List (Addr×Obj)}{σ:St}{H:Hp}{s:Shared}{a:Addr}{y d:V}{u r:Value}{o:Option V}{A:Around}{E:Value->Shared->Prop}
def Tq(hu:A.units+1<cLine)(I:Inv X ae σ H s)(g:c8 H a y o)(ry:RelV y u)(rd:RelV d r)(h:∀w' s',Inv X ae σ H s'->RelV (o.getD d) w'->Q w' s') :
  wpAny (model X.prog X.w) A (call (.builtin "dict.get") [.ref a,u,r]) Q E s:=by
 rcases g with ⟨kvs,k,e,ey,l⟩|⟨kvs,k,b,e,ey,eb,l⟩
 ·subst ey;obtain⟨z,hd,vs,rel,dd⟩:=tu I.hok e;refine call_meetsIn vH dd.typeIs CO (OM _ _ _) (meets_dict_get_default (fO X.prog X.w) a (ud ry) hd r) ⟨_,dd.mapOf,h _ _ (I.tok _) ?_⟩;rw[l];exact (rel.val k).getD rd
 ·subst ey;cases (show u=Value.ref b from ry);obtain⟨z,hd,xs,rel,dd⟩:=sM I.hok e;refine call_meetsIn vH dd.typeIs CO (OM _ _ _) (meetsH_dict_get_default (tupleKind (fO X.prog X.w)) a b hd r) ⟨xZ hu,k,xs,vt I.hok eb,dd,h _ _ (I.tok _) ?_⟩;rw[l];exact (rel.val k).getD rd
end
def UG(td ty tx:TE):TE:=λσ H Q=>td σ H λx H1=>∃a,x=.ref a/\Kw H1 a/\ty σ H1 λy H2=>tx σ H2 λz H3=>∃o,c8 H3 a y o/\Q (o.getD z) H3
section
variable{X:Cx}{o e f:Expr}{eM cw:Pos}{td ty tx:TE}
def xu(hu:X.A.units+1<cLine)(ho:PE X o td)(he:PE X e ty)(hf:PE X f tx)(m:M2 X o "get" eM e f cw):PE X (.Call (.Attribute o "get" eM) [e,f] [] cw) (UG td ty tx):=by
 intro ae s σ H Q I h;refine wpAny_Call_method m.base m.few m.line LU vH PySem.F.type_dict_get (aL (ho ae s σ H _ I h) λu s1 ⟨x,H1,I1,rx,a,ex,d,q1⟩=>?_);subst ex;obtain rfl:u=Value.ref a:=rx;obtain⟨t1,t2,_⟩:=RK I1 d;exists t1,t2,?_;rw[m.trees];refine Ab rfl (AJ (yS (aL (he ae s1 σ H1 _ I1 q1) λiv s2 ⟨y,H2,I2,ry,q2⟩ =>
  yS (aL (hf ae s2 σ H2 _ I2 q2) λfv s3 ⟨z,H3,I3,rz,ov,g,q3⟩=>Cf ?_))))
 exact Tq hu I3 g ry rz λw' s4 I4 hZ=>⟨_,H3,I4,hZ,q3⟩
end
end L2
namespace Att
open PySem PySem.W PySem.Calls PyProof.Rows
def zaS:∀(ns:List Int) (vs:List Value),WellAll P h vs (ns.map WData.int)->IntsAre vs ns:=by
 intro ns;induction ns with
 |nil =>
  intro vs w;rw[nR]at w;cases w;exact .nil
 |cons n ns ih =>
  intro vs w;rw[bU]at w;cases w with
  |cons a b =>
   cases a;exact .cons _ _ (ih _ b)
def script_of{l:OpenLaw}{n:Nat}(hn:l.most=some n){P:Params}{h:Heap}{args:List WData}{vals:List Value}
  (yf:l.row.toRowW.claim.pre args=true) (fU:WellAll P h vals args) :
  ∃a vs ns,vals=[Value.ref a]/\args=[WData.list (ns.map WData.int)]/\h.get? a=some {cls:=.type "list",data:=.seq vs.toArray}/\IntsAre vs ns/\ns.length<=n:=by
 have hsh:WShape.hasAll [] args [.list .int]=true:=(pre_splitW yf).1;have hc:l.pre.holds [] {args:=args}=true:=(pre_splitW yf).2;obtain⟨d,r,rfl,h1,h2⟩:=hasAllW_cons hsh;obtain rfl:=hasAllW_nil h2;obtain⟨xs,rfl,h3⟩:=hasW_list h1;obtain⟨ns,rfl⟩:=items_int h3;have aH:ns.length<=n:=by
  unfold OpenLaw.pre at hc;have h4:(WTm.not (.lt (.lit (.int (n:Int))) (.len (.arg 0)))).holds [] {args:=[.list (ns.map .int)]}=true:=by
   have h4:=(holds_andW hc).1;rw[hn]at h4;exact h4
  have h5:=condW_of h4 (w_not (w_lt w_lit (w_len_list (w_arg rfl))));rw[av]at h5;refine Nat.le_of_not_lt λq=>?_
  have q':(n:Int)<((ns.length:Nat):Int):=by omega
  first
   |(rw[aR q']at h5;exact absurd h5 (by decide))
   |(simp at h5;omega)
 cases fU with
 |cons w1 w2 =>
  cases w2;cases w1 with
  |list ho iZ=>nomatch _,_,ns,rfl,rfl,ho,zaS ns _ iZ,aH
def post_true(l:OpenLaw)(args:List WData):l.row.toRowW.claim.post args (.bool true) args=true :=
 postW_of (r:=l.row.toRowW) (X:=(true == true))
  (show WShape.has [] (.bool true) .bool=true by first|rfl|decide|simp[WShape.has,WShape.arms,WShape.armsAll])
  (show (WTm.eq .res (.lit (.bool true))).value [] {args:=args,res:=some (.bool true),after:=args}=some (.bool (true == true)) from w_eq_bool (w_res rfl) w_lit) rfl
end Att
namespace L2
open PySem PySem.Spec PyProof.Rows
theorem zP:∀{vs:List Value}{ns:List Int},IntsAre vs ns->Vals (ns.map V.int) vs
 |_,_,.nil=>.nil
 |_,_,.cons n t h=>.cons ⟨t,rfl⟩ (zP h)
def HE(H:Hp):Prop:=∀b,H b=none\/∃o xs,H b=some (.frz o (.lst xs))
set_option tactic.hygienic true in
def XA{P:Program}{w:World}{K:Frag}{mg mb:Str->Option Value}{CX:lZ}{k:Nat}{fa a:Addr}{fd:FuncData}{x:Str}{sp:Sp}{s₁:Shared}{vs:List Value}{ns:List Int}
  (KX:K.In s₁.heap) (kr:s₁.heap.Ns mainGlobals mg) (hb:s₁.heap.Ns builtinsNs mb) (RW:∀x:Str,x ≠ "__name__" -> mb x=bootBuiltins x) (Up:s₁.heap.NoLimit) (hg:s₁.gens = #[])
  (ha:s₁.heap.get? a=some {cls:=.type "list",data:=.seq vs.toArray}) (hi:IntsAre vs ns) (hl:ns.length<=sizeLine) (hr:cX k callerA)
  (F:∀base:Heap,K.In base->base.Ns mainGlobals mg->jo P w K mg base CX k fa fd [x] sp) (hbind:∀(s:Shared) (u:Value),BindsTo s fd ⟨[u],[]⟩ [(x,u)])
  (iV:∀H:Hp,HE H->aj K H a (ns.map V.int)->sp [.ref a] H (λv _=>v=.bl true) λ_ _ _=>False)
  (HS:∀H e s',CX [] H s₁ (λ_ _ _=>False) e s'->False) :
  codeAny (model P w) callerA (.call (.ref fa) ⟨[.ref a],[]⟩) (λr s'=>r=.ok (.ret (.bool true))/\OldK s₁.heap s'.heap/\s'.os=s₁.os/\AllBare s'.gens) s₁:=by
 have rv:=zP hi;have lenV:=hi.length;have core:∀H:Hp,HE H->aj K H a (ns.map V.int)->cW P w H s₁.heap->(∀b,H b≠none->b=a)->(H a≠none->K.lookup a=none) ->
   codeAny (model P w) callerA (.call (.ref fa) ⟨[.ref a],[]⟩) (λr s'=>r=.ok (.ret (.bool true))/\OldK s₁.heap s'.heap/\s'.os=s₁.os/\AllBare s'.gens) s₁:=by
  intro H hO hS hok hA hK;have QJ:∀{b:Addr}{o:Obj},s₁.heap.get? b=some o->H b=none->(oo s₁.heap H).get? b=some o:=λe n=>X6 e n
  have xE:∀{b:Addr}{o:Obj}{es:Array DictEntry}{ep:Nat},s₁.heap.get? b=some o->o.data=.dict es ep->H b=none:=fun {b o es ep} e d=>by
   cases q:H b with
   |none=>rfl
   |some u =>
    have e':b=a:=hA b (by rw[q];simp);subst e';rw[ha]at e;cases e;have d':Data.seq vs.toArray _=Data.dict es ep:=d;cases d'
  have BC:∀{b:Addr}{m:Str->Option Value},s₁.heap.Ns b m->(oo s₁.heap H).Ns b m:=fun {b m} ⟨o,es,ep,e,d,r⟩=>⟨o,es,ep,QJ e (xE e d),d,r⟩
  have JU:K.In (oo s₁.heap H):=λb o e=>QJ (KX b o e) (by
   cases q:H b with
   |none=>rfl
   |some u =>
    have e':b=a:=hA b (by rw[q];simp);subst e';rw[hK (by rw[q];simp)]at e;cases e)
  have hM:Mod K mg (oo s₁.heap H):=⟨JU,BC kr,⟨mb,BC hb,RW⟩,let ⟨mc,h1,h2⟩:=Up; ⟨mc,BC h1,h2⟩⟩;have e0:ra P w K mg (oo s₁.heap H) callerA [] s₁ H:=⟨rfl,hM,λb o e=>SH e,Nat.le_of_eq (zbH _ _),trivial,λb hb=>absurd (show b∈([]:List Addr) from hb) (by simp),hok,.of_eq hg⟩;refine xM ((F _ JU (BC kr)).run callerA [] s₁ H ⟨[.ref a],[]⟩ [.ref a] [.ref a] _ _ hr e0 (hbind s₁ (.ref a)) (.cons rfl .nil) (iV H hO hS)) λr s' h=>?_
  cases r with
  |error e=>exact (HS H e s' h).elim
  |ok fl =>
   cases fl with
   |next=>exact False.elim h
   |brk=>exact False.elim h
   |cont=>exact False.elim h
   |ret u =>
    obtain⟨v,H',os,bare,un,Tb,r',q⟩:=h;have q':v=.bl true:=q;subst q';obtain rfl:u=Value.bool true:=r';exists rfl,OldK.of_keep λb o e=>?_,os,bare;cases q:H b with
    |none=>exact un.keep b o e q (by intro z;exact absurd (show b∈([]:List Addr) from z) (by simp)) (by simp)
    |some u =>
     rcases hO b with z|⟨ob,xs,z⟩
     ·rw[q]at z;cases z
     ·have z2:=un.frzs b ob _ z;obtain⟨e1,_⟩:=hok b _ z;obtain⟨e2,_⟩:=Tb b _ z2;rw[e]at e1;cases e1;exact e2
 cases hk:K.lookup a with
 |some o =>
  have e:=KX a o hk;rw[ha]at e;cases e;refine core (λ_=>none) (λ_=>.inl rfl) (.inr ⟨_,vs.toArray,_,hk,rfl,rfl,rfl,by rw[cf,lenV];exact hl,by simpa using rv⟩) (λb u z=>by have z':(none:Option HO)=some u:=z;cases z') (λb z=>absurd rfl z) λz=>absurd rfl z
 |none =>
  refine core (λb=>if b=a then some (.frz {cls:=.type "list",data:=.seq vs.toArray} (.lst (ns.map V.int)))else none) (λb=>?_) (.inl (.inr ⟨{cls:=.type "list",data:=.seq vs.toArray},aB rfl⟩)) (λb u z=>?_) (λb z=>?_) λ_=>hk
  ·by_cases hb:b=a
   ·exact .inr ⟨_,_,aB hb⟩
   ·exact .inl (ax hb)
  ·by_cases hb:b=a
   ·have z':=(aB hb).symm.trans z;cases z';subst hb;nomatch ha,by rw[av];exact hl,vs,_,rv,ha
   ·have z':=(ax hb).symm.trans z;cases z'
  ·by_cases hb:b=a
   ·exact hb
   ·exact absurd (ax hb) z
abbrev qM:lZ:=λ_ _ _ _ _ _=>False
abbrev E0:XK:=λ_ _ _=>False
def HN:rq qM X E0:=λ_ _ _ _ _ _ _ h=>h.elim
structure mM(K:Frag)(x qual:Str)(st:Stmt)(f:Addr)(fd:FuncData):Prop where
 ex:∃(oc:Value) (od:Option Addr) (kV doc pm:Value) (an:Option Addr) (cJ ct:Value) (qt:Array (Option Value)),
  fd=PySem.W.fnOf x qual (wq st) (ou st) (dy st) .none kV doc pm an cJ ct/\K.lookup f=some ⟨oc,od,.func fd,qt⟩/\PySem.W.codeIn K cJ qual=true
 kp:PySem.W.keepIn K (.ref f)=true
section
variable{P:Program}{w:World}{K:Frag}{mg:Str->Option Value}{base:Heap}
def mM.ok{x qual:Str}{st:Stmt}{f:Addr}{fd:FuncData}{N ps:List Str}{k:Nat}{sp:Sp}(F:mM K x qual st f fd)(S:oF N ps (dy st))(len:∀vs H Q E,sp vs H Q E->vs.length=ps.length)
  (FY:∀ (cJ:Value) (A:Around) (outer:List Env) (s:Shared) (H:Hp) (vs:List V) (Q:VK) (E:XK),cX k (A.deeper (envOfC qual (dy st) s.heap.objs.size f cJ))->sp vs H Q E -> ∃t,f9 (lC qM P w K mg base N qual (dy st) f cJ A outer s H E).nox (ou st) t/\t {nx:=λ_ H'=>Q .non H',rt:=Q} (lr N vs) H):jo P w K mg base qM (k+1) f fd ps sp:=by
 obtain⟨oc,od,kV,doc,pm,an,cJ,ct,qt,rfl,lk,j5⟩:=F.ex;refine Ig lk j5 S len λA outer s H vs Q E hr iV=>?_
 obtain⟨t,h,q⟩:=FY cJ A outer s H vs Q E hr iV;nomatch t,h.nox,q
def UC{x qual:Str}{st:Stmt}{f:Addr}{oc:Value}{od an:Option Addr}{qt:Array (Option Value)}{kV doc pm cJ ct:Value}(l:K.lookup f=some ⟨oc,od,.func (PySem.W.fnOf x qual (wq st) (ou st) (dy st) .none kV doc pm an cJ ct),qt⟩)
  (c:PySem.W.codeIn K cJ qual=true) (k:PySem.W.keepIn K (.ref f)=true):mM K x qual st f (PySem.W.fnOf x qual (wq st) (ou st) (dy st) .none kV doc pm an cJ ct):=⟨⟨oc,od,kV,doc,pm,an,cJ,ct,qt,rfl,l,c⟩,k⟩
end
def QI(hr:cX k A):A.units+1<cLine:=lB (yU (by decide:1<=64) _) hr.units
section
variable{X:Cx}
def pv(i:Nat)(hN:X.N[i]?=some x:=by rfl)(hv:wJ X.env.scope x:=by first|exact Or.inl rfl|exact Or.inr (Or.inl rfl)|exact Or.inr (Or.inr rfl))(hd:(x == ("__debug__" : Str))=false:=by decide)
  (j5:(x == ("__classdict__" : Str))=false:=by decide):PE X (.Name x pos) (kx i):=Oe hN hv hd j5
end
def eP{A B:Prop}(h:B):if false=true then A else B:=by
 rw[ax dJ];exact h
def ff{A B:Prop}(h:A):if true=true then A else B:=by
 rw[aB rfl];exact h
def eR{c A B:Prop}[Decidable c](h1:c->A)(h2:¬c->B):if c then A else B:=by
 by_cases h:c
 ·rw[aB h];exact h1 h
 ·rw[ax h];exact h2 h
def JN{c A B:Prop}[Decidable c](hc:c)(h:B):if (!decide c)=true then A else B:=by
 rw[aR hc];exact eP h
def af(H H':Hp):Prop:=∀b o,H b=some o->H' b=some o
def af.refl(H:Hp):af H H:=λ_ _ h=>h
def af.trans(a:af H H1)(b:af H1 H2):af H H2:=λc o h=>b c o (a c o h)
def af.free(e:af H H')(h:H' l=Option.none):H l=Option.none:=by
 cases q:H l with
 |none=>rfl
 |some o =>
  rw[e l o q]at h;cases h
def af.seq{K:Frag}{H H':Hp}{a:Addr}{xs:List V}(e:af H H')(h:aj K H a xs):aj K H' a xs:=by
 rcases h with (h|⟨o,h⟩)|h
 ·exact .inl (.inl (e _ _ h))
 ·exact .inl (.inr ⟨o,e _ _ h⟩)
 ·exact .inr h
section
variable{κ:Type}[DecidableEq κ]
theorem Nt:∀{l:List κ}{k:κ},l.Nodup->¬k∈l->(l++[k]).Nodup
 |[],k,_,_=>by simp
 |a::r,k,h,hk=>by
  obtain⟨h1,h2⟩:=jB.mp h;show (a::(r++[k])).Nodup;refine jB.mpr ⟨λm=>?_,Nt h2 λm=>hk (aZ.mpr (Or.inr m))⟩;rcases bF.mp m with q|q
  ·exact h1 q
  ·exact hk (aZ.mpr (Or.inl (bu.mp q).symm))
end
end L2
namespace OF
abbrev ar:=List (Int×Int)
noncomputable def aQ:ar->Int->Int
 |[],_=>0
 |p::r,k=>(if p.1=k then p.2 else 0)+aQ r k
structure IsForm(f:ar):Prop where
 rise:f.Pairwise (λa b=>a.1<b.1)
 nz:∀p∈f,p.2≠0
theorem cO:∀(a b:ar) (k:Int),aQ (a++b) k=aQ a k+aQ b k
 |[],b,k=>by simp[aQ]
 |p::r,b,k=>by
  have ih:=cO r b k;simp only[Bw,aQ,ih];lia
def Zk(a:ar)(p:Int×Int)(k:Int):aQ (a++[p]) k=aQ a k+(if p.1=k then p.2 else 0):=by
 rw[cO];simp[aQ]
theorem ow:∀(a:ar) (k:Int),aQ (a.map λp=>(p.1,-p.2)) k = -aQ a k
 |[],_=>rfl
 |p::r,k=>by
  simp only[bU,aQ,ow r k];split<;>lia
theorem nI(n:Int):∀(a:ar) (k:Int),aQ (a.map λp=>(p.1,n*p.2)) k=n*aQ a k
 |[],k=>by simp[aQ]
 |p::r,k=>by
  simp only[bU,aQ,nI n r k,za];split<;>simp
theorem wF:∀(a:ar) (k:Int),(∀p∈a,p.1≠k)->aQ a k=0
 |[],_,_=>rfl
 |p::r,k,h=>by
  have h1:¬p.1=k:=h p (by simp);simp only[aQ,ax h1,wF r k λq hq=>h q (by simp[hq])];rfl
def qX(h:∀q∈r,p.1<q.1):aQ (p::r) p.1=p.2:=by
 simp only[aQ,aB];rw[wF r p.1 λq hq=>Int.ne_of_gt (h q hq)];lia
theorem NM:∀{f g:ar},IsForm f->IsForm g->(∀k,aQ f k=aQ g k)->f=g
 |[],[],_,_,_=>rfl
 |[],q::s,_,hg,h=>by
  have h1:=nS.mp hg.rise;have h2:=h q.1;rw[qX h1.1]at h2;exact absurd h2.symm (hg.nz q (by simp))
 |p::r,[],hf,_,h=>by
  have h1:=nS.mp hf.rise;have h2:=h p.1;rw[qX h1.1]at h2;exact absurd h2 (hf.nz p (by simp))
 |p::r,q::s,hf,hg,h=>by
  have f1:=nS.mp hf.rise;have g1:=nS.mp hg.rise;have lu:p.1=q.1:=by
   rcases Int.lt_trichotomy p.1 q.1 with hl|he|hl
   ·have h2:=h p.1;rw[qX f1.1,wF (q::s) p.1 (λz hz=>by
     rcases aZ.mp hz with e|hz
     ·rw[e];lia
     ·have:=g1.1 z hz;lia)]at h2
    exact absurd h2 (hf.nz p (by simp))
   ·exact he
   ·have h2:=h q.1;rw[qX g1.1,wF (p::r) q.1 (λz hz=>by
     rcases aZ.mp hz with e|hz
     ·rw[e];lia
     ·have:=f1.1 z hz;lia)]at h2
    exact absurd h2.symm (hg.nz q (by simp))
  have hv:p.2=q.2:=by
   have h2:=h p.1;rw[qX f1.1,lu,qX g1.1]at h2;exact h2
  have e:p=q:=Prod.ext lu hv;subst e;have ih:=NM (f:=r) (g:=s) ⟨f1.2,λz hz=>hf.nz z (by simp[hz])⟩ ⟨g1.2,λz hz=>hg.nz z (by simp[hz])⟩ λk=>by
   have h2:=h k;simp only[aQ]at h2;lia
  rw[ih]
noncomputable def look:ar->Int->Option Int
 |[],_=>none
 |p::r,k=>if p.1=k then some p.2 else look r k
noncomputable def dW(d:ar)(k:Int):Int:=(look d k).getD 0
noncomputable def jE(d:ar)(k v:Int):ar:=if (d.any λp=>decide (p.1=k))=true then d.map (λp=>if p.1=k then (p.1,v)else p)else d++[(k,v)]
theorem vO(k:Int):∀d:ar,(d.any λp=>decide (p.1=k))=(look d k).isSome
 |[]=>rfl
 |p::r=>by
  rw[md,look];by_cases e:p.1=k
  ·simp[e]
  ·simp[e,vO k r]
theorem Lf(k j v:Int):∀d:ar,look (d.map λp=>if p.1=k then (p.1,v)else p) j=(look d j).map λx=>if j=k then v else x
 |[]=>rfl
 |p::r=>by
  have ih:=Lf k j v r;rw[bU];by_cases h:p.1=k
  ·rw[aB h];by_cases e:p.1=j
   ·simp[look,e,show j=k from e.symm.trans h]
   ·simp[look,e,ih]
  ·rw[ax h];by_cases e:p.1=j
   ·simp[look,e,show ¬j=k from λz=>h (e.trans z)]
   ·simp[look,e,ih]
theorem K4(k j v:Int):∀d:ar,look d k=none->look (d++[(k,v)]) j=if j=k then some v else look d j
 |[],_=>by
  by_cases e:k=j
  ·simp[look,e]
  ·simp[look,e,show ¬j=k from λz=>e z.symm]
 |p::r,hn=>by
  have hk:¬p.1=k:=λz=>by simp[look,z]at hn
  have qw:look r k=none:=by simpa [look,hk] using hn
  have ih:=K4 k j v r qw;rw[Bw];by_cases e:p.1=j
  ·simp[look,e,show ¬j=k from λz=>hk (e.trans z)]
  ·simp[look,e,ih]
def Zl(d:ar)(k j v:Int):look (jE d k v) j=if j=k then some v else look d j:=by
 unfold jE;by_cases a:(d.any λp=>decide (p.1=k))=true
 ·rw[aB a,Lf];rw[vO]at a;by_cases e:j=k
  ·obtain⟨x,hx⟩:=KW.mp a;rw[e,hx];simp
  ·rw[ax e];cases look d j<;>simp[e]
 ·rw[ax a];refine K4 k j v d ?_;rw[vO]at a;cases q:look d k with
  |none=>rfl
  |some x=>rw[q]at a;exact (a rfl).elim
def Xn(d:ar)(k v:Int):(jE d k v).length<=d.length+1:=by
 unfold jE;split
 ·rw[av];lia
 ·simp
def yi:look d k≠none↔k∈d.map (·.1):=by
 induction d with
 |nil=>simp[look]
 |cons p r ih =>
  rw[bU,aZ,look];by_cases e:p.1=k
  ·simp[e]
  ·have e':¬k=p.1:=λz=>e z.symm
   simp only[ax e];rw[ih];simp[e']
def Aj(d:ar)(k v:Int):(jE d k v).map (·.1)=if (look d k).isSome then d.map (·.1)else d.map (·.1)++[k]:=by
 unfold jE;rw[vO];by_cases a:(look d k).isSome=true
 ·rw[aB a,aB a,fE];congr 1
  funext p
  simp only[Function.comp];split<;>rfl
 ·rw[ax a,ax a,aT];rfl
def Rf(k v:Int)(h:(d.map (·.1)).Nodup):((jE d k v).map (·.1)).Nodup:=by
 rw[Aj];by_cases a:(look d k).isSome=true
 ·rw[aB a];exact h
 ·rw[ax a];have hk:¬k∈d.map (·.1):=λm=>a (by
   have:=yi.mpr m
   cases q:look d k with
   |none=>exact (this q).elim
   |some x=>rfl)
  exact List.nodup_append.mpr ⟨h,by simp,λa ha b hb=>by
   have:b=k:=by simpa using hb
   subst this;intro e;subst e;exact hk ha⟩
def Se(d:ar)(k j v:Int):dW (jE d k v) j=if j=k then v else dW d j:=by
 unfold dW;rw[Zl];split<;>rfl
structure DictOf(d l:ar):Prop where
 nd:(d.map (·.1)).Nodup
 len:d.length<=l.length
 val:∀k,dW d k=aQ l k
 src:∀k∈d.map (·.1),k∈l.map (·.1)
def AE:DictOf [] []:=⟨Bu,aO _,λ_=>rfl,λ_ h=>h⟩
def DictOf.snoc(h:DictOf d l)(p:Int×Int):DictOf (jE d p.1 (dW d p.1+p.2)) (l++[p]):=by
 exists Rf _ _ h.nd,?_,λk=>?_,λk hk=>?_
 ·have:=Xn d p.1 (dW d p.1+p.2);have:=h.len;simp;lia
 ·rw[Se,Zk,<-h.val];by_cases e:k=p.1
  ·subst e;simp
  ·simp[e,show ¬p.1=k from λz=>e z.symm]
 ·rw[Aj]at hk;rw[aT,bF];split at hk
  ·exact .inl (h.src k hk)
  ·rcases bF.mp hk with hk|hk
   ·exact .inl (h.src k hk)
   ·exact .inr (by simpa using hk)
noncomputable def dv(d:ar)(ks:List Int):ar:=(ks.filter λk=>decide (dW d k≠0)).map λk=>(k,dW d k)
theorem Ly(d:ar):∀(ks:List Int),ks.Nodup->∀k,aQ (dv d ks) k=if k∈ks then dW d k else 0
 |[],_,k=>by simp[dv,aQ]
 |a::r,hn,k=>by
  have h1:=jB.mp hn;have ih:=Ly d r h1.2 k;have e0:dv d (a::r)=if dW d a≠0 then (a,dW d a)::dv d r else dv d r:=by
   unfold dv;rw[mW];by_cases e:dW d a=0<;>simp[e]
  rw[e0];by_cases e:a=k
  ·subst e;have:¬a∈r:=h1.1;by_cases z:dW d a=0
   ·simp[z,ih,this]
   ·simp[z,aQ,ih,this]
  ·have e':¬k=a:=λz=>e z.symm
   by_cases z:dW d a=0
   ·simp[z,ih,e']
   ·simp[z,aQ,ih,e,e']
def zbx(d:ar)(h:ks.Pairwise (· < ·)):IsForm (dv d ks):=by
 exists ?_,λp hp=>?_
 ·unfold dv;rw[zN];exact (h.filter _)
 ·unfold dv at hp;obtain⟨k,hk,e⟩:=bW.mp hp;subst e;simpa using (jd.mp hk).2
theorem LG:∀{ks:List Int},ks.Pairwise (· <= ·)->ks.Nodup->ks.Pairwise (· < ·)
 |[],_,_=>.nil
 |a::r,h,n=>by
  have h1:=nS.mp h;have n1:=jB.mp n;refine .cons (λb hb=>?_) (LG h1.2 n1.2)
  have:=h1.1 b hb
  have:a≠b:=λe=>n1.1 (e ▸ hb)
  lia
structure bf(f l:ar):Prop extends IsForm f where
 val:∀k,aQ f k=aQ l k
 src:∀p∈f,p.1∈l.map (·.1)
set_option tactic.hygienic true in
def zt(h:DictOf d l)(hp:ks.Perm (d.map (·.1)))(hs:ks.Pairwise (· <= ·)):bf (dv d ks) l:=by
 have nd:ks.Nodup:=hp.nodup_iff.mpr h.nd;exists zbx d (LG hs nd),λk=>?_,λp hq=>?_
 ·rw[Ly d ks nd,<-h.val];split
  ·rfl
  ·rename_i hk;unfold dW
   have:look d k=none:=by
    cases q:look d k with
    |none=>rfl
    |some x=>exact (hk (hp.mem_iff.mpr (yi.mp (by rw[q];simp)))).elim
   rw[this];rfl
 ·unfold dv at hq;obtain⟨k,hk,e⟩:=bW.mp hq;subst e;exact h.src k (hp.mem_iff.mp (jd.mp hk).1)
def bf.unique(a:bf f l)(b:bf g m)(h:∀k,aQ l k=aQ m k):f=g :=
 NM a.toIsForm b.toIsForm λk=>by rw[a.val,b.val,h]
def bf.self(h:IsForm f):bf f f:=⟨h,λ_=>rfl,λp hp=>bW.mpr ⟨p,hp,rfl⟩⟩
def vU(d:ar)(ks:List Int):(dv d ks).length<=ks.length:=by
 unfold dv;rw[av];exact jR _ _
end OF
namespace L2
open PySem PySem.Spec PyProof.Rows
section
variable{X:Cx}
def Y3(i j:Int):Prop:=0<j/\j.natAbs.log2<9000
def gU:bV X (binaryOp .FloorDiv) (rI Y3 λi j=>.int (i/j)):=uj λi j _ _ _ _ _ hc q=>by
 have h1:(0:Int)<j:=hc.1;have e:i.fdiv j=i/j:=Int.fdiv_eq_ediv_of_nonneg i (Int.le_of_lt h1);exact floordiv_int (Int.ne_of_gt h1) (by rw[e];exact q) (.inl (PyProof.noPylong_of_log2 hc.2))
def fW:bV X (binaryOp .Mult) (rI IntMulOk λi j=>.int (i*j)):=uj λ_ _ _ _ _ _ _ hc q=>mul_int q hc
def iU{j:Int}(h1:0<j)(h2:j<2^250):0<j/\j.natAbs.log2<9000:=by
 exists h1,?_;have h3:j.natAbs<2^250:=by
  have e:(j.natAbs:Int)=j:=by lia
  have:((j.natAbs:Nat):Int)<((2^250:Nat):Int):=by rw[e]; (have q:((2^250:Nat):Int)=(2:Int)^250:=by norm_cast);rw[q];exact h2
  exact Int.ofNat_lt.mp this
 have h4:j.natAbs≠0:=by lia
 have:=(tU h4).mpr h3
 lia
def vj(hc:X.calm=true):jq X (.builtin "sum") (λxs H Q=>∃(a:Addr) (ns:List Int),xs=[.ref a]/\aj X.K H a (ns.map V.int)/\Q (.int ns.sum) H):=by
 intro ae s σ H xs us Q I r h;obtain⟨a,ns,rfl,hq,q⟩:=h;obtain⟨u,rfl,ru⟩:=jz r;cases (show u=Value.ref a from ru);obtain⟨ah,rv,p,hz⟩:=I.list hq;have hi:=BE rv;obtain⟨zs,qh⟩:=hi.allInts.items;have hs:(PySem.numsOf ah.toArray.toList).sum=ns.sum:=by rw[show ah.toArray.toList=ah from rfl,hi.numsOf]
 rw[qh,PySem.nums_intItems]at hs;refine sum_intListG (I.ok.hd hc) (qh ▸ p.isList) λh' tk t' hk=>?_
 exists .int ns.sum,H,I.kept (t':=tk) hk,⟨t',?_⟩,q;rw[preSum_eq,nN (by simp),hs]
def Zf:V->List V->Hp->VK->Prop:=λx vs H Q=>∃l xs k y,x=.ref l/\vs=[.int (k:Nat),y]/\H l=some (.lst xs)/\k<=xs.length/\xs.length<sizeLine/\Q .non (upd H l (.lst (xs.take k++y::xs.drop k)))
def IG:ip X "list.insert" Zf:=by
 intro ae s σ H x vs v us Q I rx rv h;obtain⟨l,xs,k,y,rfl,rfl,hH,hk,hz,q⟩:=h;cases rx;obtain⟨u,w',rfl,ru,hZ⟩:=rv.two;obtain⟨t,rfl⟩:=ru;obtain⟨z,ah,n,r,hl,e⟩:=I.lstM hH;have aH:=r.length;have uO:¬(!Builtin.List.listFitsIndex (k:Int))=true:=by
  have h1:(k:Int)<2^63:=by
   have:=qf
   have:k<2^63:=by lia
   exact_mod_cast this
  have h0:(0:Int)<=(k:Int):=gD _;simp[Builtin.List.listFitsIndex];omega
 have hsz:ah.toArray.size<=sizeLine:=by rw[cf];lia
 obtain⟨x,hx⟩:∃x:Int,x=(k:Int):=⟨_,rfl⟩;rw[<-hx]at uO ⊢;have M:=AutoSeq1.list_insert_list_int_val_1 l ah.toArray n x t w' uO hsz;refine qz F.slot_list_insert ⟨_,e,rfl⟩ F.entry_list_insert (F.args_list_insert_3 _ _ _) M ⟨e,?_⟩;exists .non,_,I.lset (its':=ah.take k++w'::ah.drop k) hH e ?_ (Vals.append (r.take k) (.cons hZ (r.drop k))) ?_,rfl,q
 ·have h1:¬(x<0):=by lia
  have h2:min x.toNat ah.toArray.size=k:=by rw[cf];lia
  apply Array.ext';simp only[ax h1,h2];simp[List.extract_eq_take_drop];rw[nN (by rw[ml];exact aO _)]
 ·rw[aS,br,dY,ml];lia
end
def dQ.there(x:dQ P w H h a o):∃ob,h.get? a=some ob:=by
 cases o with
 |lst xs=>obtain⟨_,_,_,_,e⟩:=x;nomatch _,e
 |tup xs=>obtain⟨_,_,_,o,e,_⟩:=x;nomatch _,e
 |dK kvs=>obtain⟨_,_,_,_,o,_,_,e,_⟩:=x;nomatch _,e
 |dT kvs=>obtain⟨_,_,_,_,o,_,_,e,_⟩:=x;nomatch _,e
 |set S n=>obtain⟨o,_,_,_,e,_⟩:=x;nomatch _,e
 |ins C dx fs=>obtain⟨_,_,_,e,_⟩:=x;nomatch _,e
 |own y=>exact x
 |xd fs=>obtain⟨_,⟨_,_,_,e,_⟩,_⟩:=x;nomatch _,e
 |rng lo hi=>obtain⟨_,_,_,e⟩:=x;nomatch _,e
 |frz ob u=>obtain⟨e,_⟩:=x;nomatch _,e
 |tbl ps=>nomatch _,x
 |met f y=>nomatch _,x
 |ext φ=>obtain⟨_,e,_⟩:=x;exact e
def Inv.laidN(I:Inv X ae σ H s)(k:∀b u,s.heap.get? b=some u->h'.get? b=some u)(hn:s.heap.get? a=none)
  (new:dQ X.prog X.w (upd H a o) h' a o):Inv X ae σ (upd H a o) {s with heap:=h',toks:=t'}:=by
 have hH:H a=none:=by
  cases q:H a with
  |none=>rfl
  |some u =>
   obtain⟨ob,e⟩:=(I.hok a u q).there;rw[hn]at e;cases e
 refine I.un ⟨λb u q _ _ _=>k b u q,λb u q _ _ _=>⟨u.slots,k b u q⟩,λb u q n _=>?_,λb u q _=>⟨u,k b u q⟩,λb xs q=>?_,λb u xs q=>?_,λb ps q=>⟨#[],?_⟩⟩ λb u e=>?_
 ·rw[aJ (by intro z;rw[z,hn]at q;cases q)];exact n
 ·rw[aJ (cP q hH)];exact q
 ·rw[aJ (cP q hH)];exact q
 ·rw[aJ (cP q hH),q];simp
 ·by_cases hb:b=a
  ·subst hb;rw[aq]at e;cases e;exact new
  ·rw[aJ hb]at e;exact (I.hok b u e).stay (λc v _ q=>k c v q) (λc q=>by rw[aJ (cP q hH)];exact q) λc xs q=>by rw[aJ (cP q hH)];exact q
theorem ye:∀(names:List (Str×NameKind)) (acc:List (Str×Addr)),(∀x,(x,NameKind.free)∈names->∃c,env.cells.lookup x=some c) ->
  ∃cl,(forIn names acc λ(x:Str×NameKind) (cs:List (Str×Addr))=>(if (x.2 == NameKind.free)=true then (do let a <-cellOf env x.1;pure (ForInStep.yield ((x.1,a)::cs)))else pure (ForInStep.yield cs):Sem (ForInStep (List (Str×Addr)))))=pure cl /\
   ∀x,cl.lookup x=(if (x,NameKind.free)∈names then env.cells.lookup x else acc.lookup x)
 |[],acc,_=>⟨acc,rfl,λx=>by simp⟩
 |(n,k)::r,acc,h=>by
  by_cases hk:k=NameKind.free
  ·subst hk;obtain⟨c,hc⟩:=h n (by simp);obtain⟨cl,e,l⟩:=ye (env:=env) r ((n,c)::acc) λx hx=>h x (by simp[hx])
   exists cl,?_,λx=>?_
   ·rw[BM];have nK:cellOf env n=pure c:=by unfold cellOf;rw[hc]
    simp only[beq_self_eq_true,j9,nK,pure_bind];exact e
   ·rw[l x];by_cases hx:(x,NameKind.free)∈r
    ·simp[hx]
    ·by_cases hn:x=n
     ·subst hn;simp[hx,hc]
     ·have hb:(x == n)=false:=by simpa using hn
      simp[hx,hn,uF,hb]
  ·have hb:(k == NameKind.free)=false:=by simpa using hk
   obtain⟨cl,e,l⟩:=ye (env:=env) r acc λx hx=>h x (by simp[hx])
   exists cl,?_,λx=>?_
   ·rw[BM];simp only[hb,Bx,p9,pure_bind];exact e
   ·rw[l x];have:¬((x,NameKind.free)=(n,k)):=λz=>hk (by injection z with _ z2;exact z2.symm)
    simp[aZ,this]
theorem GY(env:Env)(x:Str):∀(names:List (Str×NameKind)),(names.map λ(n,k)=>if (k == NameKind.free&&env.scope.kind == .function&&env.kindOf n == some .cell)then (n,NameKind.cell)else (n,k)).lookup x =
  (names.lookup x).map λk=>if (k == NameKind.free&&env.scope.kind == .function&&env.kindOf x == some .cell)then NameKind.cell else k
 |[]=>rfl
 |(n,k)::r=>by
  have ih:=GY env x r;show List.lookup x ((if (k == NameKind.free&&env.scope.kind == .function&&env.kindOf n == some .cell)=true then (n,NameKind.cell)else (n,k))::_)=_;by_cases hx:x=n
  ·subst hx;split<;>simp_all [uF]
  ·have hb:(x == n)=false:=by simpa using hx
   split
   ·simp only[uF,hb];exact ih
   ·simp only[uF,hb];exact ih
noncomputable abbrev iy(X:Cx)(N':List Str)(scope:Scope)(cl:List (Str×Addr))(C:Addr)(s₀:Shared)(H₀:Hp)(fp:List Addr):Cx :=
 {X with N:=N',s₀:=s₀,H₀:=H₀,env:=compEnvC scope cl C X.env,outer:=X.stack,ex:=fp,fn:=λ_=>false,pn:=[],xe:=λ_ _=>False}
structure rL(X:Cx)(scope:Scope)(N':List Str)(nT:Nat)(js:List Nat):Prop where
 kind:scope.kind=.function
 nocell:∀y∈scope.names,y.2≠.cell
 names:∀y∈scope.names,y.2=.local->scope.names.lookup y.1=some .local
 len:N'.length=nT+js.length
 frees:∀(k j:Nat) (x:Str),js[k]?=some j->N'[nT+k]?=some x->X.N[j]?=some x
 kinds:∀y∈scope.names,y.2=.free->X.env.scope.names.lookup y.1=some .cell
 vis:∀x∈N'.drop nT,scope.names.lookup x=some .free
noncomputable def um(nT:Nat)(js:List Nat)(σ:St):St:=List.replicate nT none++js.map λj=>(σ[j]?).join
def Jl(wi:TI)(nT:Nat)(js:List Nat)(g:TG)(tc:TT)(te:TE):TE:=λσ H Q=>wi σ H λJ H1=>∃W:Nat->Nat->List V->St->Hp->Prop,(∃m,W 0 m [] (um nT js σ) H1)/\∀i m ys σ H,W i m ys σ H ->
 (J.stop i H/\∀D,H D=none->Q (.ref D) (upd H D (.lst ys))) \/
 (J.go i H/\ys.length<sizeLine/\∃ N:List V->St->Hp->Prop,(∀ dP σ' H',N dP σ' H'->∃ m',m'<m/\W (i+1) m' dP σ' H') /\ ∀x H',J.yld i H x H'->g x σ H' λσ2 H2=>tc σ2 H2 λb H3=>if b=true then te σ2 H3 λy H4=>N (ys++[y]) σ2 H4 else N ys σ2 H3)
def si(X:Cx)(ifs:List Expr)(t:TT):Prop :=
 ∀(ae:List (Addr×Obj)) (s:Shared) (σ:St) (H:Hp) (Q:Bool->Hp->Prop),Inv X ae σ H s->t σ H Q ->
  wpAny (model X.prog X.w) X.A (forIn ifs true λc r=>if r=true then do let ok <-isTrue c X.env (eval c X.env);pure (ForInStep.yield ok)else pure (ForInStep.yield r)) (TP X ae σ Q) X.xe s
def Hd:TT:=λ_ H Q=>Q true H
def jO:si X [] Hd:=λ_ _ _ H _ I h=>wpAny_tests_nil ⟨H,I,h⟩
def iJ(h:PT X c t):si X [c] t:=λae s σ H Q I q=>wpAny_tests_one (h ae s σ H Q I q)
section
variable{prog:Program}{w:World}{A:Around}{R:Result->Shared->Prop}{s:Shared}
theorem zbv(I:Nat->Shared->Prop)
  (turn:∀ n s,I n s->wpAny (model prog w) A (pyNext it) (fun r s₁=>match r with
   |none=>R (.ok .next) s₁
   |some v=>wpAny (model prog w) A (letOwnedTupleGo target it v) (λ_ s₁'=>wpAny (model prog w) A (assign target env v) (λ_ s₂ =>
     wpAny (model prog w) A (forIn ifs true λc r=>if r=true then do let ok <-isTrue c env (eval c env);pure (ForInStep.yield ok)else pure (ForInStep.yield r)) (λok s₃ =>
      if ok=true then wpAny (model prog w) A (eval elt env) (λx s₄ =>
       wpAny (model prog w) A (call (.builtin "list.append") [acc,x]) (λ_ s₅=>∃m,m<n/\I m s₅) (λ_ _=>False) s₄) (λ_ _=>False) s₃
      else ∃m,m<n/\I m s₃) (λ_ _=>False) s₂) (λ_ _=>False) s₁') (λ_ _=>False) s₁) (λ_ _=>False) s)
  (n:Nat) (h:I n s) :
  codeAny (model prog w) A (.compLoop (.ListComp elt [⟨target,iter,ifs,0⟩] scope pos) 0 it acc env) R s:=by
 refine codeAny_loop rfl I (λn s hI=>?_) n h;show wpAny _ A ((compTurn (.ListComp elt [⟨target,iter,ifs,0⟩] scope pos) 0 it acc env).onRaise (λx=>do noteFrame x env;theTreesLotGoes x)) _ _ s;refine wpAny_noted ?_;rw[compTurn_list];refine aF (HG (aF (eA (turn n s hI) (λr s₁ h₁=>?_) λ_ _ h'=>h'.elim)));cases r with
 |none=>exact bL h₁
 |some v =>
  refine aF (eA h₁ (λ_ s₁' h₁'=>?_) λ_ _ h'=>h'.elim);refine aF (eA h₁' (λ_ s₂ h₂=>aF (eA h₂ (λok s₃ h₃=>?_) λ_ _ h'=>h'.elim)) λ_ _ h'=>h'.elim);cases ok with
  |false=>exact bL ⟨rfl,h₃⟩
  |true =>
   exact aF (aF (eA h₃ (λx s₄ h₄=>aF (eA h₄ (λ_ s₅ h₅=>bL (bL ⟨rfl,h₅⟩)) λ_ _ h'=>h'.elim)) λ_ _ h'=>h'.elim))
end
set_option maxHeartbeats 4000000 in
set_option tactic.hygienic true in
def IA{X:Cx}{tg iter elt:Expr}{ifs:List Expr}{scope:Scope}{pos:Pos}{N':List Str}{nT:Nat}{js:List Nat}{g:TG}{tc:TT}{te:TE}{RR:Value->Addr->Result->Shared->Prop}
  (hc:X.calm=true) (S:rL X scope N' nT js) {ae:List (Addr×Obj)}{σ:St}{H2:Hp}{s2:Shared}{cl:List (Str×Addr)}{it:Addr}{fp:List Addr}{tn:Nat->Heap->Prop}{J:It}
  (gP:∀x,cl.lookup x=(if (x,NameKind.free)∈scope.names then X.env.cells.lookup x else none))
  (hg:∀C s₀ H₀ fp,PG (iy X N' scope cl C s₀ H₀ fp) tg g) (ht:∀C s₀ H₀ fp,si (iy X N' scope cl C s₀ H₀ fp) ifs tc) (he:∀C s₀ H₀ fp,PE (iy X N' scope cl C s₀ H₀ fp) elt te)
  (I2:Inv X ae σ H2 s2) (T:nG X.prog X.w X.K tg J fp it tn) (mf:tn 0 s2.heap) (f2:∀b∈fp,iK X ae H2 b) {QQ:Addr->List V->Hp->Prop}
  (W:Nat->Nat->List V->St->Hp->Prop) (w0:∃m,W 0 m [] (um nT js σ) H2)
  (turn:∀ i m ys σ H,W i m ys σ H->(J.stop i H/\∀ D,H D=none->QQ D ys H) \/ (J.go i H/\ys.length<sizeLine/\∃ N:List V->St->Hp->Prop,(∀ dP σ' H',N dP σ' H'->∃ m',m'<m/\W (i+1) m' dP σ' H') /\ ∀x H',J.yld i H x H'->g x σ H' λσ2 H2=>tc σ2 H2 λb H3=>if b=true then te σ2 H3 λy H4=>N (ys++[y]) σ2 H4 else N ys σ2 H3))
  (hRR:∀(D C:Addr) (s':Shared) (ys:List V) (H':Hp) (m:Str->Option Value),QQ D ys H'->s'.heap.Ns C m->s2.heap.get? C=none->s2.heap.objs.size<=C->D≠C->H' C=none->(∀h',Heap.SameBut C s'.heap h'->Inv X ae σ (upd H' D (.lst ys)) {s' with heap:=h'})->RR (.ref D) C (.ok .next) s') :
  wpAny (model X.prog X.w) X.A (newList []) (λacc s₃=>wpAny (model X.prog X.w) X.A (newFunctionEnv scope X.env.globals cl [] X.env.qual none .none (some X.env)) (λIE s₄ =>
   codeAny (model X.prog X.w) X.A (.compStart (.ListComp elt [⟨tg,iter,ifs,0⟩] scope pos) 0 (.ref it) acc {IE with scope:=relabel scope X.env}) (RR acc IE.locals) s₄) (λ_ _=>False) s₃) (λ_ _=>False) s2:=by
 refine rQ (wpAny_newFunctionEnv S.nocell (by intro y hy;simp at hy) (λh₁ hns₁ hsb₁=>?_) S.kind);dsimp only at hns₁ hsb₁ ⊢;generalize hH2:s2.heap.push {cls:=.type "list",dict:=none,data:=.seq ([]:List Value).toArray}=G2 at hns₁ hsb₁ ⊢;have hC:G2.objs.size=s2.heap.objs.size+1:=by rw[<-hH2,rK]
 generalize hCC:G2.objs.size=C at hns₁ hsb₁ hC ⊢;generalize hDD:s2.heap.objs.size=D at hC ⊢;have mn:D≠C:=by lia
 have below:∀b o,s2.heap.get? b=some o->b≠C/\b≠D:=λb o e=>by
  have h:@LT.lt Nat _ b s2.heap.objs.size:=bB e;exact⟨λz=>by have z':@Eq Nat b C:=z;lia,λz=>by have z':@Eq Nat b D:=z;lia⟩
 have old:∀b o,s2.heap.get? b=some o->h₁.get? b=some o:=λb o e=>hsb₁.extBut b o (below b o e).1 (dG _ (hH2 ▸ dG _ e))
 have Ax:h₁.get? D=some {cls:=.type "list",data:=.seq ([]:List Value).toArray}:=hsb₁.extBut _ _ mn (dG _ (by rw[<-hH2,<-hDD];exact eI _ rfl));have nC:s2.heap.get? C=none:=ze (by lia);have nD:s2.heap.get? D=none:=ze (by lia);have fC:H2 C=none:=I2.hok.fresh (by omega);have fD:H2 D=none:=I2.hok.fresh (by omega);have zg:∀b∈fp,b≠C/\b≠D:=λb hb=>by obtain⟨o,e,_⟩:=T.obj _ _ mf b hb;exact below b o e
 have K1:∀b∈fp,b∉cx X.stack:=λb hb z=>by
  obtain⟨_,f1,f3,_⟩:=f2 b hb;rcases aZ.mp (I2.stkSub b z)with e|e
  ·exact f1 e
  ·exact f3 e
 have tJ:∀x c,cl.lookup x=some c->X.env.cells.lookup x=some c/\(x,NameKind.free)∈scope.names:=λx c e=>by
  rw[gP]at e;split at e
  ·rename_i hm;nomatch e,hm
  ·cases e
 have Za:∀b∈cx X.stack,b≠D/\b≠C:=λb hb=>by
  have h:=I2.stkSub b hb;rcases aZ.mp h with e|e
  ·have h1:@LT.lt Nat _ X.env.locals s2.heap.objs.size:=I2.lt;have h2:@Eq Nat b X.env.locals:=e;exact⟨λz=>by have z':@Eq Nat b D:=z;lia,λz=>by have z':@Eq Nat b C:=z;lia⟩
  ·obtain⟨_,o,ho,_⟩:=I2.ok.funs.mem e;have h1:@LT.lt Nat _ b X.s₀.heap.objs.size:=bB ho;have h2:=I2.sz;exact⟨λz=>by have z':@Eq Nat b D:=z;lia,λz=>by have z':@Eq Nat b C:=z;lia⟩
 have SW:(iy X N' scope cl C s2 H2 fp).Ok:=by
  refine⟨I2.ok.mod,S.kind,I2.ok.glob,I2.ok.blt,(by show s2.heap.objs.size<=C;omega),λx y c h1 h2=>I2.ok.inj x y c (tJ x c h1).1 (tJ y c h2).1,λx hx=>?_,λx c hx _=>(dJ hx).elim,λ_=>I2.ok.hd hc,I2.ok.frames,.inl rfl,
   λb hb=>⟨(zg b hb).1,λx c e=>(f2 b hb).2.2.2.2.1 x c (tJ x c e).1⟩,I2.bs,aW I2.ok.bsz I2.sz,λb o e hb=>?_,K1,I2.stack,I2.stkFree⟩
  ·have gO:(relabel scope X.env).names.lookup x=some .cell\/(relabel scope X.env).names.lookup x=some .free:=hx;have hk:(relabel scope X.env).names.lookup x=_:=GY X.env x scope.names;rw[hk]at gO;have hf:(x,NameKind.free)∈scope.names:=by
    cases q:scope.names.lookup x with
    |none=>rw[q]at gO;rcases gO with z|z<;>cases z
    |some k =>
     have hm:=rY q;cases k with
     |free=>exact hm
     |cell=>exact absurd rfl (S.nocell _ hm)
     |_=>rw[q]at gO;rcases gO with z|z<;>simp at z
   obtain⟨c,e⟩:=I2.ok.has x (.inl (S.kinds _ hf rfl));exact⟨c,by show cl.lookup x=some c;rw[gP,aB hf];exact e⟩
  ·rcases (f2 b hb).2.2.2.1 with z|z
   ·exact I2.ok.noex b o e z
   ·have h1:@LT.lt Nat _ b X.s₀.heap.objs.size:=bB (I2.ok.bs b o e).1;have h2:@LE.le Nat _ X.s₀.heap.objs.size b:=z;lia
 have I0:Inv (iy X N' scope cl C s2 H2 fp) [] (um nT js σ) H2 {s2 with heap:=h₁,toks:=s2.toks+([]:List (Str×Value)).length}:=by
  exists SW,rfl,I2.bare,Un.kept old,⟨_,hns₁,λi x v e1 e2 e3=>?_⟩,λx c e=>?_,fC,λx c e=>I2.freeC x c (tJ x c e).1,λp hp=>absurd (show p∈([]:List (Addr×Obj)) from hp) (by simp),I2.hok.kept old,?_
  ·unfold um at e2;by_cases hi:i<nT
   ·rw[Kx (by simpa using hi),Lc,aB hi]at e2;cases e2
   ·rw[Kr (by simpa using hi),BA,dE]at e2;obtain⟨k,hk⟩:∃k,i=nT+k:=⟨i-nT,by lia⟩;subst hk;rw[Fe]at e2;cases q:js[k]? with
    |none=>rw[q]at e2;cases e2
    |some j =>
     rw[q]at e2;have BP:(σ[j]?).join=some v:=dN e2;have V2:σ[j]?=some (some v):=by
      cases z:σ[j]? with
      |none=>rw[z]at BP;cases BP
      |some a=>rw[z]at BP;exact congrArg some BP
     have Ux:=S.frees k j x q e1;have O3:scope.names.lookup x=some .free:=S.vis x (by
      rw[List.mem_iff_getElem?];exact⟨k,by rw[List.getElem?_drop];exact e1⟩)
     have rM:(x,NameKind.free)∈scope.names:=rY O3;have nK:=S.kinds _ rM rfl;obtain⟨m,hn,hl⟩:=I2.loc;obtain⟨u,r,l⟩:=hl j x v Ux V2 (.inr (.inl nK));exists u,r,?_;rcases l with ⟨l,_⟩|⟨_,c,ec,ic⟩
     ·have l':X.env.scope.names.lookup x=some .local:=l;rw[nK]at l';cases l'
     ·refine .inr ⟨?_,c,?_,?_⟩
      ·left;show (relabel scope X.env).names.lookup x=some .cell;have hk:(relabel scope X.env).names.lookup x=_:=GY X.env x scope.names;have CH:X.env.scope.kind=.function:=I2.ok.kind;have Rt:X.env.kindOf x=some .cell:=nK;rw[hk,O3,Option.map_some,CH,Rt];rfl
      ·show cl.lookup x=some c;rw[gP,aB rM];exact ec
      ·exact ic.keeps old
  ·obtain⟨v,q⟩:=I2.cell x c (tJ x c e).1;nomatch v,q.keeps old
  ·unfold um;rw[aS,BA,av];exact S.len.symm
 have lp:∀s₃:Shared,s₃={s2 with heap:=h₁,toks:=s2.toks+([]:List (Str×Value)).length} ->
   codeAny (model X.prog X.w) X.A (.compLoop (.ListComp elt [⟨tg,iter,ifs,0⟩] scope pos) 0 (.ref it) (.ref D) (compEnvC scope cl C X.env)) (RR (.ref D) C) s₃:=by
  rintro s₃ rfl;obtain⟨m0,w0⟩:=w0;refine zbv (λn s'=>∃(i:Nat) (ys:List V) (ah:List Value) (no:Nat) (σ':St) (H':Hp),Inv (iy X N' scope cl C s2 H2 fp) [(D,{cls:=.type "list",data:=.seq ah.toArray no})] σ' H' s'/\Vals ys ah/\tn i s'.heap/\(∀b∈fp,H' b=none)/\ys.length<=sizeLine/\W i n ys σ' H') ?_ m0
   ⟨0,[],[],0,um nT js σ,H2,I0.pins_of λp hp=>?_,.nil,T.keep _ _ _ mf λb _ o e=>old b o e,λb hb=>(f2 b hb).1,bS _,w0⟩
  ·rintro n s3 ⟨i,ys,ah,no,σ3,H3,I3,rv,xK,vZ,hz,w3⟩;have Cq:∀{H':Hp},(∀b∈fp,H' b=none)->∀b∈fp,iK (iy X N' scope cl C s2 H2 fp) [(D,{cls:=.type "list",data:=.seq ah.toArray no})] H' b:=λhn b hb =>
    ⟨hn b hb,(zg b hb).1,K1 b hb,.inl hb,λx c e=>(f2 b hb).2.2.2.2.1 x c (tJ x c e).1,λp hp=>by
     have e:p=(D,{cls:=.type "list",data:=.seq ah.toArray no}):=by simpa using hp
     rw[e];exact Ne.symm (zg b hb).2⟩
   rcases turn i n ys σ3 H3 w3 with ⟨stop,q⟩|⟨go,bA,N,hN,step⟩
   ·refine eA (T.done (iy X N' scope cl C s2 H2 fp) rfl rfl rfl hc i _ s3 σ3 H3 (λ_ _=>False) I3 (Cq vZ) xK stop) (λr s4 ⟨hr,I4⟩=>?_) λ_ _ h=>h
    subst hr;obtain⟨Xf,Qd,pD3,pD4,_⟩:=I4.pin (D,{cls:=.type "list",data:=.seq ah.toArray no}) (by simp);obtain⟨m,hn,_⟩:=I4.loc;have HU:H3 C=none:=I4.free;refine hRR D C s4 ys H3 m (q D Qd) hn nC (by lia) mn HU λh' sb=>?_
    have k4:∀b o,b≠C->s4.heap.get? b=some o->h'.get? b=some o:=λb o hb e=>sb.extBut b o hb e
    have xp:∀b u,H3 b=some u->b≠D:=λb u e=>cP e Qd
    refine I2.call' (s':={s4 with heap:=h'}) (ch:=fp) I4.os ⟨λb o e n hb hx=>k4 b o (below b o e).1 (I4.base.keep b o e n hb hx),λb o e n hb hx=>?_,λb o e n hx=>?_,λb o e hx=>?_,λb xs e=>?_,λb o u e=>?_,λb ps e=>?_⟩ (λb u e=>?_) I4.bare λb hb=>?_
    ·obtain⟨sl,e'⟩:=I4.base.slot b o e n hb hx;nomatch sl,k4 b _ (below b o e).1 e'
    ·rw[aJ (below b o e).2];exact I4.base.free b o e n hx
    ·obtain⟨o',e'⟩:=I4.base.there b o e hx;nomatch o',k4 b o' (below b o e).1 e'
    ·have e':=I4.base.tups b xs e;rw[aJ (xp b _ e')];exact e'
    ·have e':=I4.base.frzs b o u e;rw[aJ (xp b _ e')];exact e'
    ·obtain⟨more,e'⟩:=I4.base.tbls b ps e;exact⟨more,by rw[aJ (xp b _ e')];exact e'⟩
    ·by_cases hb:b=D
     ·subst hb;rw[aq]at e;cases e;nomatch hz,ah,no,rv,k4 b _ mn Xf
     ·rw[aJ hb]at e;refine (I4.hok b u e).stay (λc v lP z=>k4 c v ?_ z) (λc z=>by rw[aJ (xp c _ z)];exact z) λc xs z=>by rw[aJ (xp c _ z)];exact z
      rcases lP with rfl|lP
      ·exact cP e HU
      ·exact cP lP HU
    ·obtain⟨_,g1,_,g3,g4,g5⟩:=f2 b hb;nomatch g3,g1,g4,g5
   ·refine eA (T.item (iy X N' scope cl C s2 H2 fp) rfl rfl rfl hc i _ s3 σ3 H3 (λ_ _=>False) I3 (Cq vZ) xK go) (λr s4 ⟨u,hr,h4⟩=>?_) λ_ _ h=>h
    subst hr;refine eA h4 (λ_ s5 ⟨x,H5,I5,r5,y5,rn,EL⟩=>?_) λ_ _ h=>h
    have Cc:=I5.pinned (Cq EL) (T.obj _ _ rn);refine eA (hg C s2 H2 fp _ s5 σ3 H5 x u _ Cc r5 (step x H5 y5)) (λ_ s6 ⟨σ6,H6,I6,q6⟩=>?_) λ_ _ h=>h
    refine eA (ht C s2 H2 fp _ s6 σ6 H6 _ I6 q6) (λok s7 ⟨H7,I7,q7⟩=>?_) λ_ _ h=>h
    have back:∀{pp:List (Addr×Obj)}{s':Shared}{σ':St}{H':Hp},(∀b∈fp,∀o,s5.heap.get? b=some o->(b,o)∈pp)->Inv (iy X N' scope cl C s2 H2 fp) pp σ' H' s'->tn (i+1) s'.heap/\∀b∈fp,H' b=none:=fun {pp s' σ' H'} lW I'=>by
     exists T.keep _ _ _ rn λb hb o e=>(I'.pin (b,o) (fX _ (lW b hb o e))).1,λb hb=>?_;obtain⟨o,e,d⟩:=T.obj _ _ rn b hb;exact (I'.pin (b,o) (fX _ (lW b hb o e))).2.1
    have inpp:∀b∈fp,∀o,s5.heap.get? b=some o->(b,o)∈[(D,({cls:=.type "list",data:=.seq ah.toArray no}:Obj))]++rR fp s5.heap:=λb hb o e=>fX _ (wR hb e)
    cases ok with
    |false =>
     rw[ax dJ];rw[ax dJ]at q7;obtain⟨m',hm,w7⟩:=hN _ _ _ q7;obtain⟨b1,b2⟩:=back inpp I7;nomatch m',hm,i+1,ys,ah,no,σ6,H7,I7.unpinned,rv,b1,b2,hz,w7
    |true =>
     rw[aB rfl];rw[aB rfl]at q7;refine eA (he C s2 H2 fp _ s7 σ6 H7 _ I7 q7) (λv8 s8 ⟨y,H8,I8,r8,q8⟩=>?_) λ_ _ h=>h
     obtain⟨eD,LQ,neL,nf,_⟩:=I8.pin (D,{cls:=.type "list",data:=.seq ah.toArray no}) (fX _ (mS _ (by simp)));have aH:=rv.length;refine qz F.slot_list_append ⟨_,eD,rfl⟩ F.entry_list_append (F.args_list_append_2 _ _) (PySem.list_append D ah.toArray no v8 (by rw[cf];lia)) ⟨eD,?_⟩;obtain⟨m',hm,w8⟩:=hN _ _ _ q8;have I9:Inv (iy X N' scope cl C s2 H2 fp) (rR fp s5.heap) σ6 H8 s8:=I8.pins_of λp hp=>I8.pin p (fX _ (fX _ hp))
     have zp:=get?_update_seq eD (λa=>a.push v8);have MT:=I9.turned (h':=s8.heap.update D (Obj.mapSeq λa=>a.push v8)) (t':=s8.toks) (it:=D) (λb o hb e=>(Heap.get?_update_ne _ _ _ _ hb).trans e) LQ neL (.inr (by show s2.heap.objs.size<=D;lia))
      (λx c e z=>by
       obtain⟨v,oc,uR,Rx⟩:=I8.cell x c e;rw[z,eD]at uR;cases uR;cases Rx) (λp hp z=>by
        have lI:p∈rR fp s5.heap:=by simpa using hp
        exact (zg p.1 (Nb lI).1).2 z)
     obtain⟨b1,b2⟩:=back (λb hb o e=>wR hb e) MT;exists m',hm,i+1,ys++[y],ah++[v8],(if ((ah.toArray.push v8).size == ah.toArray.size)=true then no else no+1),σ6,H8,MT.pins_of λp hp=>?_,rv.append (.cons r8 .nil),b1,b2,(by rw[aS];simp;assumption),w8;obtain rfl:=bu.mp hp;refine⟨?_,LQ,neL,nf,λv z=>by cases z⟩;refine zp.trans ?_;rw[List.push_toArray]
  ·have e:p=(D,{cls:=.type "list",data:=.seq ([]:List Value).toArray}):=by simpa using hp
   subst e;exact⟨Ax,fD,mn,λz=>(Za D z).1 rfl,λv z=>by cases z⟩
 exact codeAny_compStart_list (lp _ rfl) (T.self _ 0 _ _ _ (T.keep _ _ _ mf λb _ o e=>old b o e) (lp _ rfl))
def eO{X:Cx}{tg iter elt:Expr}{ifs:List Expr}{scope:Scope}{pos:Pos}(N':List Str)(nT:Nat)(js:List Nat){wi:TI}{g:TG}{tc:TT}{te:TE}
  (hc:X.calm=true) (S:rL X.nox scope N' nT js) (hi:PI X.nox tg iter wi)
  (hg:∀cl C s₀ H₀ fp,PG (iy X.nox N' scope cl C s₀ H₀ fp) tg g) (ht:∀cl C s₀ H₀ fp,si (iy X.nox N' scope cl C s₀ H₀ fp) ifs tc) (he:∀cl C s₀ H₀ fp,PE (iy X.nox N' scope cl C s₀ H₀ fp) elt te)
  (hs:∀x,foldedSetIterable iter X.env x=pure x:=by intro _;rfl) :
  PE X.nox (.ListComp elt [⟨tg,iter,ifs,0⟩] scope pos) (Jl wi nT js g tc te):=by
 intro ae s σ H Q I h;rw[eval_ListComp];obtain⟨cl,e,l⟩:=ye (env:=X.env) scope.names [] λx hx=>I.ok.has x (.inl (S.kinds _ hx rfl))
 have D9:closureFor scope X.env=pure cl:=by
  unfold closureFor;show (forIn scope.names [] λ(x:Str×NameKind) (cs:List (Str×Addr))=>(if (x.2 == NameKind.free)=true then (do let a <-cellOf X.env x.1;pure (ForInStep.yield ((x.1,a)::cs)))else pure (ForInStep.yield cs):Sem (ForInStep (List (Str×Addr))))) >>= (λs=>pure s)=pure cl;rw[e,pure_bind]
 refine Nn (cl:=cl) (use:=none) rfl hs D9 S.kind S.names ?_;refine aL (hi ae s σ H _ I h) λv s1 h1=>aL h1 λzb s2 h2=>?_
 obtain⟨it,fp,tn,J,H2,rfl,I2,T,mf,f2,W,w0,turn⟩:=h2;refine IA (X:=X.nox) (QQ:=λD ys H'=>Q (.ref D) (upd H' D (.lst ys))) (RR:=λacc C=>compPost (model X.prog X.w) X.A (λ_ _=>False) none (EP X.nox ae σ Q) acc C) hc S (λx=>by rw[l x];rfl) (hg cl) (ht cl) (he cl) I2 T mf f2 W w0 turn λD C s' ys H' m q hn nC _ _ _ fin=>?_
 nomatch m,hn,λh' sb=>⟨.ref D,_,fin h' sb,rfl,q⟩
set_option tactic.hygienic true in
def yd{X:Cx}{tg iter elt:Expr}{ifs:List Expr}{scope:Scope}{cw pos pos':Pos}{x:Str}{i:Nat}(N':List Str)(nT:Nat)(js:List Nat){wi:TI}{g:TG}{tc:TT}{te:TE}
    (hN:X.nox.N.Nodup) (WN:X.nox.N[i]?=some x) (hx:rp X.nox.env.scope x)
    (hc:X.calm=true) (S:rL X.nox scope N' nT js) (hi:PI X.nox tg iter wi)
    (hg:∀cl C s₀ H₀ fp,PG (iy X.nox N' scope cl C s₀ H₀ fp) tg g) (ht:∀cl C s₀ H₀ fp,si (iy X.nox N' scope cl C s₀ H₀ fp) ifs tc) (he:∀cl C s₀ H₀ fp,PE (iy X.nox N' scope cl C s₀ H₀ fp) elt te)
    (hs:∀x,foldedSetIterable iter X.env x=pure x:=by intro _;rfl) (wW:swapsWith (.ListComp elt [⟨tg,iter,ifs,0⟩] scope cw) (some (.Name x pos')) pos.line X.env=pure true:=by rfl)
    (hf:X.nox.fn x=true\/X.nox.env.scope.names.lookup x=some .local:=by first|exact .inl rfl|exact .inr rfl|assumption) :
    PS X.nox (.Assign [.Name x pos'] (.ListComp elt [⟨tg,iter,ifs,0⟩] scope cw) pos) (rZ (Jl wi nT js g tc te) (a8 i)):=by
  intro ae s σ H D0 I h;have hG:PG X.nox (.Name x pos') (a8 i):=O9 hN WN hx hf;rw [exec_Assign_Name_used _ _ _ _ wW];obtain ⟨cl,e,l⟩:=ye (env:=X.env) scope.names [] λx hx=>I.ok.has x (.inl (S.kinds _ hx rfl))
  have D9:closureFor scope X.env=pure cl:=by
    unfold closureFor;show (forIn scope.names [] λ(x:Str×NameKind) (cs:List (Str×Addr))=>(if (x.2 == NameKind.free)=true then (do let a <-cellOf X.env x.1;pure (ForInStep.yield ((x.1,a)::cs)))else pure (ForInStep.yield cs):Sem (ForInStep (List (Str×Addr))))) >>= (λs=>pure s)=pure cl;rw [e,pure_bind]
  refine aF (HG (aF ?_));show wpAny _ X.nox.A (do let _ <-comprehension (.ListComp elt [⟨tg,iter,ifs,0⟩] scope cw) scope X.env _ (newList []) false (eval iter X.env) (some (assign (.Name x pos') X.env))) _ _ s;refine aF (eA (Nn (cl:=cl) (use:=some (assign (.Name x pos') X.env)) (Q:=λ_ s'=>SP X.nox ae D0 .next s') rfl hs D9 S.kind S.names ?_) (λ_ s' hq=>bL (bL hq)) λ_ _ e=>e);refine aL (hi ae s σ H _ I h) λv s1 h1=>aL h1 λzb s2 h2=>?_
  obtain ⟨it,fp,tn,J,H2,rfl,I2,T,mf,f2,W,w0,turn⟩:=h2;refine IA (X:=X.nox) (QQ:=λD ys H'=>a8 i (.ref D) σ (upd H' D (.lst ys)) D0.nx) (RR:=λacc C=>compPost (model X.prog X.w) X.A (λ_ _=>False) (some (assign (.Name x pos') X.env)) (λ_ s'=>SP X.nox ae D0 .next s') acc C) hc S (λx=>by rw [l x];rfl) (hg cl) (ht cl) (he cl) I2 T mf f2 W w0 turn λD C s' ys H' m q hn nC hC mn WL fin=>?_
  show wpAny _ X.A (assign (.Name x pos') X.env (.ref D)) _ _ _;have I3:Inv X.nox ae σ (upd H' D (.lst ys)) s':=fin s'.heap ⟨rfl,λ_ _=>rfl⟩;have YI:upd H' D (.lst ys) C=none:=by rw [aJ (Ne.symm mn)];exact WL
  have MS:∀{H3:Hp},H3 C=none->iK X.nox ae H3 C:=λh3=>I2.fpOk hC h3
  obtain ⟨oC,es,ep,PB,rC⟩:=id hn;have nK:∀v,oC.data≠.cell v:=λv z=>by
    have:=rC
    rw [z]at this;simp at this
  have I4 := I3.pinned (fp := [C]) (fun b hb => by have z : b = C := by simpa using hb
                                                   subst z; exact MS  YI  ) (fun b hb => by have z : b = C := by simpa using hb
                                                                                            subst z; exact ⟨oC, PB, nK⟩)
  refine aL (hG _ s' σ _ (.ref D) (.ref D) _ I4 rfl q) λ_ s5 ⟨σ5,H5,I5,q5⟩=>?_
  have pC:=I5.pin (C,oC) (fX _ (fX _ (wR (by simp) PB)));refine ⟨m,⟨oC,es,ep,pC.1,rC⟩,λh' sb=>?_⟩;obtain ⟨f0,f1,f2',f3,f4,f5⟩:=MS pC.2.1;exact ⟨σ5,H5,(I5.unpinned).turned (t':=s5.toks) (λb o hb e=>(sb.2 b hb).trans e) f0 f1 f3 f4 f5,q5⟩
def jj{K:Frag}{a:Addr}{xs:List V}{g:TG}{tc:TT}{te:TE}{σ:St}{H:Hp}{R:List V->Hp->Addr->Prop}(Pv:Nat->List V->St->Hp->Prop)(h0:Pv 0 [] σ H)(hl:∀i ys σ H,i<=xs.length->Pv i ys σ H->aj K H a xs/\ys.length<=i)(hz:xs.length<=sizeLine)
  (hs:∀i x ys σ H,xs[i]?=some x->Pv i ys σ H->g x σ H λσ2 H2=>tc σ2 H2 λb H3=>if b=true then te σ2 H3 λy H4=>Pv (i+1) (ys++[y]) σ2 H4 else Pv (i+1) ys σ2 H3)
  (hd:∀ys σ H,Pv xs.length ys σ H->∀D,H D=none->R ys H D) :
  ∃W:Nat->Nat->List V->St->Hp->Prop,(∃m,W 0 m [] σ H)/\∀i m ys σ H,W i m ys σ H ->
   ((je K a).stop i H/\∀D,H D=none->R ys H D) \/
   ((je K a).go i H/\ys.length<sizeLine/\∃ N:List V->St->Hp->Prop,(∀ dP σ' H',N dP σ' H'->∃ m',m'<m/\W (i+1) m' dP σ' H') /\ ∀x H',(je K a).yld i H x H'->g x σ H' λσ2 H2=>tc σ2 H2 λb H3=>if b=true then te σ2 H3 λy H4=>N (ys++[y]) σ2 H4 else N ys σ2 H3):=by
 exists λi m ys σ H=>m=xs.length-i/\i<=xs.length/\Pv i ys σ H,⟨xs.length,by simp,bS _,h0⟩,?_;rintro i m ys σ H ⟨rfl,hi,p⟩;have q:=hl i ys σ H hi p;by_cases bA:i<xs.length
 ·refine .inr ⟨⟨xs,xs[i],q.1,by simp[bA]⟩,(by lia),Pv (i+1),λdP σ' H' p'=>⟨xs.length-(i+1),by lia,rfl,bA,p'⟩,λx H' y=>?_⟩;obtain⟨e,y⟩:=y;subst e;exact hs i x ys σ _ (y xs q.1) p
 ·have e:i=xs.length:=by lia
  subst e;exact .inl ⟨⟨xs,q.1,aO _⟩,hd ys σ H p⟩
def zC{lo:Int}{n:Nat}{g:TG}{tc:TT}{te:TE}{σ:St}{H:Hp}{R:List V->Hp->Addr->Prop}(Pv:Nat->List V->St->Hp->Prop)(h0:Pv 0 [] σ H)(hl:∀i ys σ H,Pv i ys σ H->ys.length<=i)(hz:n<=sizeLine)
  (hs:∀i ys σ H,i<n->Pv i ys σ H->g (.int (lo+i)) σ H λσ2 H2=>tc σ2 H2 λb H3=>if b=true then te σ2 H3 λy H4=>Pv (i+1) (ys++[y]) σ2 H4 else Pv (i+1) ys σ2 H3)
  (hd:∀ys σ H,Pv n ys σ H->∀D,H D=none->R ys H D) :
  ∃W:Nat->Nat->List V->St->Hp->Prop,(∃m,W 0 m [] σ H)/\∀i m ys σ H,W i m ys σ H ->
   ((oR lo n).stop i H/\∀D,H D=none->R ys H D) \/
   ((oR lo n).go i H/\ys.length<sizeLine/\∃ N:List V->St->Hp->Prop,(∀ dP σ' H',N dP σ' H'->∃ m',m'<m/\W (i+1) m' dP σ' H') /\ ∀x H',(oR lo n).yld i H x H'->g x σ H' λσ2 H2=>tc σ2 H2 λb H3=>if b=true then te σ2 H3 λy H4=>N (ys++[y]) σ2 H4 else N ys σ2 H3):=by
 exists λi m ys σ H=>m=n-i/\i<=n/\Pv i ys σ H,⟨n,by simp,bS _,h0⟩,?_;rintro i m ys σ H ⟨rfl,hi,p⟩;have q:=hl i ys σ H p;by_cases bA:i<n
 ·refine .inr ⟨bA,(by lia),Pv (i+1),λdP σ' H' p'=>⟨n-(i+1),by lia,rfl,bA,p'⟩,λx H' y=>?_⟩;obtain⟨e,y⟩:=y;subst e y;exact hs i ys σ _ bA p
 ·have e:i=n:=by lia
  subst e;exact .inl ⟨aO _,hd ys σ H p⟩
end L2
namespace OS
open PySem PyProof.Rows
class KO where
 num:Value->Int
 ok:Value->Prop
 kind:SortKind
class KL [KO] (prog:Program) (w:World) (A:Around) (s:Shared):Prop where
 lt:∀{E:Value->Shared->Prop}{Q:Bool->Shared->Prop}{u v:Value},KO.ok u->KO.ok v->Q (decide (KO.num u<KO.num v)) s->wpAny (model prog w) A (keyLt' KO.kind u v) Q E s
variable [KO]
end OS
namespace L2
open PySem PySem.Spec PyProof.Rows
def cS(H:Hp):List Addr->List (Int×Int)->Prop:=Paired λp t=>H p=some (.tup [.int t.1,.int t.2])
def cS.length(h:cS H ps l):ps.length=l.length:=er h
def cS.keep(h:cS H ps l)(k:∀b xs,H b=some (.tup xs)->H' b=some (.tup xs)):cS H' ps l:=Paired.mapP h λp t e=>k p _ e
theorem cS.at:∀{H:Hp}{ps:List Addr}{l:List (Int×Int)}{i:Nat}{t:Int×Int},cS H ps l->l[i]?=some t->∃p,ps[i]?=some p/\H p=some (.tup [.int t.1,.int t.2])
 |_,_,_,_,_,.nil,e=>by simp at e
 |_,_,_,0,_,.cons r _,e=>by simp at e;subst e;nomatch _,rfl,r
 |_,_,_,i+1,t,.cons _ q,e=>by
  obtain⟨p,h1,h2⟩:=cS.at (i:=i) (t:=t) q (by simpa using e);nomatch p,by simpa using h1,h2
def cS.at'{H:Hp}{ps:List Addr}{l:List (Int×Int)}{i:Nat}{p:Addr}(h:cS H ps l)(e:ps[i]?=some p):∃t,l[i]?=some t/\H p=some (.tup [.int t.1,.int t.2]):=by
 have hi:i<l.length:=by
  have:=(dS.mp e).1
  have:=h.length
  lia
 obtain⟨q,h1,h2⟩:=h.at (i:=i) (t:=l[i]) (by simp[hi]);rw[e]at h1;cases h1;nomatch l[i],by simp[hi],h2
theorem cS.append:∀{H:Hp}{ps qs:List Addr}{l m:List (Int×Int)},cS H ps l->cS H qs m->cS H (ps++qs) (l++m)
 |_,_,_,_,_,.nil,s=>s
 |_,_,_,_,_,.cons r t,s=>.cons r (cS.append t s)
def cS.snoc(h:cS H ps l)(e:H p=some (.tup [.int t.1,.int t.2])):cS H (ps++[p]) (l++[t]):=cS.append h (.cons e .nil)
def TL(K:Frag)(H:Hp)(a:Addr)(l:List (Int×Int)):Prop:=∃ps:List Addr,aj K H a (ps.map V.ref)/\cS H ps l
def aI(H:Hp)(a:Addr)(l:List (Int×Int)):Prop:=∃ps:List Addr,H a=some (.lst (ps.map V.ref))/\cS H ps l
def aI.tl{K:Frag}{H:Hp}{a:Addr}{l:List (Int×Int)}(h:aI H a l):TL K H a l:=let ⟨ps,h1,h2⟩:=h; ⟨ps,.of h1,h2⟩
def aI.keep(h:aI H a l)(k:af H H'):aI H' a l:=let ⟨ps,h1,h2⟩:=h; ⟨ps,k _ _ h1,h2.keep λb xs e=>k b _ e⟩
def af.upd(h:H p=none):af H (upd H p o):=λc o' e=>by rw[aJ (cP e h)];exact e
theorem Le:∀(ns:List Int),PySem.W.WData.weightAll (ns.map PySem.W.WData.int)<=2^20->∀n∈ns,intBits n<=2^20
 |[],_,_,h=>by simp at h
 |m::r,hw,n,hn=>by
  have e:PySem.W.WData.weightAll ((m::r).map PySem.W.WData.int)=PySem.W.WData.weight (.int m)+1+PySem.W.WData.weightAll (r.map PySem.W.WData.int):=rfl;rw[e]at hw;rcases aZ.mp hn with z|z
  ·subst z;have e2:PySem.W.WData.weight (.int n)=if n == 0 then 0 else n.natAbs.log2+1:=rfl
   rw[e2]at hw;unfold intBits;split at hw<;>split<;>simp_all<;>lia
  ·exact Le r (by lia) n z
def Tj{l:PySem.W.OpenLaw}{n k:Nat}{q:Program}{loose:List Str}{XP:(Str->Option Value)->Heap->Prop}{YP:World->Heap->Prop}{d:DefRec}{K:Params->Frag}{CX:World->lZ}{sp:World->Sp}{x:Str}
  (hn:l.most=some n) (tZ:n<=sizeLine) (HW:d.params.defaults=[]) (hr:cX k callerA)
  (hY:∀(w:World) (h:Heap),YP w h->(K w.params).In h)
  (F:∀ (w:World) (mg:Str->Option Value) (fa:Addr) (h:Heap),(K w.params).In h->h.Ns mainGlobals mg->mg d.name=some (.ref fa) -> ∃fd:FuncData,(∀(s:Shared) (u:Value),BindsTo s fd ⟨[u],[]⟩ [(x,u)]) /\ ∀base:Heap,(K w.params).In base->base.Ns mainGlobals mg->jo l.prog w (K w.params) mg base (CX w) k fa fd [x] (sp w))
  (iV:∀(w:World) (H:Hp) (a:Addr) (ns:List Int),ns.length<=n->(∀z∈ns,intBits z<=2^20)->HE H->aj (K w.params) H a (ns.map V.int)->sp w [.ref a] H (λv _=>v=.bl true) λ_ _ _=>False)
  (HS:∀(w:World) (H:Hp) (s:Shared) (e:Value) (s':Shared),CX w [] H s (λ_ _ _=>False) e s'->False) :
  PySem.W.WalkO q loose XP YP l.row.toRowW d [] (λf vs=>PySem.call f vs):=by
 intro w s₀ s₁ mg mb G Y fa o pm cd doc dV kV ho hd j5 hD zk hg args vals as yf ZN Ej fU tY;obtain rfl:dV=.none:=PySem.W.Dflts.none hD HW;obtain rfl:kV=.none:=PySem.W.Dflts.noKw hD;obtain⟨a,vs,ns,rfl,rfl,ZY,hints,aH⟩:=Att.script_of hn yf fU;have LS:∀z∈ns,intBits z<=2^20:=by
  have h1:(PySem.W.WData.list (ns.map PySem.W.WData.int)).layable=true:=jf.mp ZN _ (by simp);have h2:=bG (xC.mp h1).2;exact Le ns h2
 have KX:=hY w _ Y;obtain⟨fd,hb,hF⟩:=F w mg fa _ KX G.T.g zk;refine PySem.W.enter_call (xM (XA KX G.T.g G.T.b G.T.builtins G.T.nolimit hg ZY hints (aW aH tZ) hr hF hb (λH hO hS=>iV w H a ns aH LS hO hS) λH e s'=>HS w H s₁ e s') λr s' hq=>?_);obtain⟨rfl,h2,h3,h4⟩:=hq;nomatch .inl ⟨.bool true,.bool true,[],rfl,λ_=>rfl,.bool true,Att.post_true l _,λ_=>⟨List.Pairwise.nil,λ_ hm=>(nomatch hm)⟩⟩,h2,h3,h4
noncomputable def gQ(p:Int×Int):bJ×V:=(Sum.inl p.1,V.int p.2)
theorem rj(k:Int):∀d:OF.ar,il (d.map gQ) (Sum.inl k)=(OF.look d k).map V.int
 |[]=>rfl
 |p::r=>by
  rw[bU,OF.look];by_cases e:p.1=k
  ·rw[vv (show (gQ p).1=Sum.inl k by simp[gQ,e]),aB e];rfl
  ·rw[wa (show ¬(gQ p).1=Sum.inl k by simp[gQ,e]),ax e];exact rj k r
def Es(d:OF.ar)(k v:Int):dq (d.map gQ) (Sum.inl k:bJ) (V.int v)=(OF.jE d k v).map gQ:=by
 unfold dq OF.jE;rw[Ha,rj,OF.vO,AI];split
 ·rw[fE,fE];congr 1
  funext p
  simp only[Function.comp,gQ];by_cases e:p.1=k
  ·simp[e]
  ·simp[e]
 ·rw[aT];rfl
def IF(d:OF.ar):(d.map gQ).map (·.1)=(d.map (·.1)).map Sum.inl:=by
 rw[fE,fE];rfl
end L2
namespace OF
open PySem
def Wm(hx:0<=x)(hy:0<=y):Builtin.bitOr x y=((x.toNat|||y.toNat:Nat):Int):=by
 have n1:¬0<=Builtin.bitNot x:=by unfold Builtin.bitNot;lia
 have n2:¬0<=Builtin.bitNot y:=by unfold Builtin.bitNot;lia
 have e:∀z:Int,Builtin.bitNot (Builtin.bitNot z)=z:=λz=>by unfold Builtin.bitNot;lia
 unfold Builtin.bitOr;rw[PyProof.Rows.bitAnd_nn n1 n2,e,e,e]
def Cu(h:z/2^i%2=0):z+2^i=z|||2^i:=by
 have hb:z%2^i<2^i:=ub _ (pf i);have hz:z=2^(i+1)*(z/2^(i+1))+z%2^i:=by
  have h1:=Nat.div_add_mod z (2^(i+1));have h2:z%2^(i+1)=z%2^i+2^i*(z/2^i%2):=Nat.mod_pow_succ;rw[h,BI,zv]at h2;lia
 generalize z/2^(i+1)=a at hz;generalize z%2^i=b at hz hb;have hp:2^i+b<2^(i+1):=by rw[jU];lia
 have iL:b<2^(i+1):=by lia
 have e1:z+2^i=2^(i+1)*a+(2^i+b):=by lia
 have e2:2^i+b=2^i|||b:=by
  have:=DO hb 1
  rw[Nat.mul_one]at this;exact this
 rw[e1,hz,DO hp,DO iL,e2,Nat.or_assoc,Nat.or_comm b]
noncomputable def cy:List (Int×Int)->Nat->Nat
 |[],a=>a
 |t::r,a=>cy r (a|||t.1.toNat)
theorem EX:∀(l:List (Int×Int)) (t:Int×Int) (a:Nat),cy (l++[t]) a=cy l a|||t.1.toNat
 |[],_,_=>rfl
 |p::r,t,a=>EX r t _
noncomputable def cR(l:List (Int×Int))(g:Int):Int:=((l.filter λt=>decide (Builtin.bitAnd t.1 g=t.1)).map (·.2)).sum
end OF
namespace L2
open PySem PySem.Spec PyProof.Rows
def aK{c A B:Prop}[Decidable c](h:¬c)(b:B):if c then A else B:=by rw[ax h];exact b
def aY{c A B:Prop}[Decidable c](h:c)(a:A):if c then A else B:=by rw[aB h];exact a
def rL.of(sc₀:Scope)(N₀:List Str)(h1:X.env.scope=sc₀)(h2:X.N=N₀)(hk:scope.kind=.function)
  (iZ:(scope.names.all λy=>y.2 != .cell&&(y.2 != .local || scope.names.lookup y.1 == some .local)&&(y.2 != .free || sc₀.names.lookup y.1 == some .cell))=true)
  (aH:N'.length=nT+js.length) (hf:(js.map λj=>N₀[j]?)=(N'.drop nT).map some) (hv:((N'.drop nT).all λx=>scope.names.lookup x == some .free)=true):rL X scope N' nT js:=by
 have Gu:=jf.mp iZ;exists hk,λy hy e=>?_,λy hy e=>?_,aH,λk j x e1 e2=>?_,λy hy e=>?_,λx hx=>?_
 ·have:=Gu y hy;rw[e]at this;simp at this
 ·have:=Gu y hy;rw[e]at this;simp at this;exact this
 ·have e3:(js.map λj=>N₀[j]?)[k]?=some (N₀[j]?):=by rw[dE,e1];rfl
  rw[hf,dE,List.getElem?_drop,e2]at e3;rw[h2];exact (dN e3).symm
 ·have:=Gu y hy;rw[e]at this;simp at this;rw[h1];exact this
 ·have:=jf.mp hv x hx;simpa using this
end L2
namespace OF
theorem sZ:∀{l B:List Int},l.Nodup->(∀x∈l,x∈B)->l.length<=B.length
 |[],_,_,_=>bS _
 |a::r,B,hn,hs=>by
  have h1:=jB.mp hn;have ha:=hs a (by simp);have h2:r.length<=(B.erase a).length:=sZ h1.2 λx hx=>by
   have dZ:x≠a:=λz=>h1.1 (z ▸ hx)
   exact (List.mem_erase_of_ne dZ).mpr (hs x (by simp[hx]))
  have h3:=List.length_erase_of_mem ha;have h4:0<B.length:=List.length_pos_of_mem ha;rw[br];lia
end OF
namespace L2
open PySem PySem.Spec PyProof.Rows
inductive D where
 |non|bl (b:Bool)|int (n:Int)|str (x:Str)|tup (ds:List D)|lst (ds:List D)
mutual
def Is(H:Hp):V->D->Prop
 |v,.non=>v=.non
 |v,.bl b=>v=.bl b
 |v,.int n=>v=.int n
 |v,.str x=>v=.str x
 |v,.tup ds=>∃a xs,v=.ref a/\H a=some (.tup xs)/\ba H xs ds
 |v,.lst ds=>∃a xs,v=.ref a/\H a=some (.lst xs)/\ba H xs ds
def ba(H:Hp):List V->List D->Prop
 |xs,[]=>xs=[]
 |xs,d::ds=>∃x r,xs=x::r/\Is H x d/\ba H r ds
end
mutual
theorem Is.keep(k:af H H'):∀{v:V}{d:D},Is H v d->Is H' v d
 |v,.non,h=>by unfold Is at *;exact h
 |v,.bl _,h=>by unfold Is at *;exact h
 |v,.int _,h=>by unfold Is at *;exact h
 |v,.str _,h=>by unfold Is at *;exact h
 |v,.tup ds,h=>by
  unfold Is at *;obtain⟨a,xs,e,h1,h2⟩:=h;nomatch a,xs,e,k _ _ h1,ba.keep k h2
 |v,.lst ds,h=>by
  unfold Is at *;obtain⟨a,xs,e,h1,h2⟩:=h;nomatch a,xs,e,k _ _ h1,ba.keep k h2
theorem ba.keep(k:af H H'):∀{xs:List V}{ds:List D},ba H xs ds->ba H' xs ds
 |xs,[],h=>by unfold ba at *;exact h
 |xs,d::ds,h=>by
  unfold ba at *;obtain⟨x,r,e,h1,h2⟩:=h;nomatch x,r,e,Is.keep k h1,ba.keep k h2
end
theorem ba.length:∀{xs:List V}{ds:List D},ba H xs ds->xs.length=ds.length
 |xs,[],h=>by unfold ba at h;rw[h];rfl
 |xs,d::ds,h=>by
  unfold ba at h;obtain⟨x,r,rfl,_,h2⟩:=h;rw[br,br,ba.length h2]
theorem ba.at:∀{xs:List V}{ds:List D}{i:Nat}{d:D},ba H xs ds->ds[i]?=some d->∃x,xs[i]?=some x/\Is H x d
 |xs,[],i,d,h,e=>by simp at e
 |xs,d'::ds,0,d,h,e=>by
  unfold ba at h;obtain⟨x,r,rfl,h1,h2⟩:=h
  have:d'=d:=by simpa using e
  subst this;nomatch x,rfl,h1
 |xs,d'::ds,i+1,d,h,e=>by
  unfold ba at h;obtain⟨x,r,rfl,h1,h2⟩:=h;obtain⟨x',e1,e2⟩:=ba.at (i:=i) (d:=d) h2 (by simpa using e);nomatch x',by simpa using e1,e2
noncomputable def Qh(b:Bool):Int:=if b then 1 else 0
mutual
noncomputable def dR:D->D->Bool
 |.non,.non=>true
 |.bl a,.bl b=>a == b
 |.bl a,.int n=>Qh a == n
 |.int n,.bl a=>n == Qh a
 |.int n,.int m=>n == m
 |.str x,.str y=>x == y
 |.tup ds,.tup es=>lR ds es
 |.lst ds,.lst es=>lR ds es
 |_,_=>false
noncomputable def lR:List D->List D->Bool
 |[],[]=>true
 |d::ds,e::es=>dR d e&&lR ds es
 |_,_=>false
end
mutual
noncomputable def jP:D->Nat
 |.tup ds=>mV ds+1
 |.lst ds=>mV ds+1
 |_=>0
noncomputable def mV:List D->Nat
 |[]=>0
 |d::ds=>max (jP d) (mV ds)
end
theorem D3:∀{ds:List D}{j:Nat}{d:D},ds[j]?=some d->jP d<=mV ds
 |[],j,d,e=>by simp at e
 |d'::ds,0,d,e=>by
  have:d'=d:=by simpa using e
  subst this;unfold mV;lia
 |d'::ds,j+1,d,e=>by
  have:=D3 (ds:=ds) (j:=j) (d:=d) (by simpa using e)
  rw[mV];lia
def Zj(ds es:List D):dR (.tup ds) (.tup es)=lR ds es:=rfl
def FV(ds es:List D):dR (.lst ds) (.lst es)=lR ds es:=rfl
def DM(d e:D)(ds es:List D):lR (d::ds) (e::es)=(dR d e&&lR ds es):=rfl
noncomputable def k8(ds es:List D)(j:Nat):Bool:=match ds[j]?,es[j]? with
 |some d,some e=>dR d e
 |_,_=>false
theorem yq:∀(ds es:List D),lR ds es=((List.range (min ds.length es.length)).all (k8 ds es)&&(ds.length == es.length))
 |[],[]=>rfl
 |[],e::es=>by show false=_;simp
 |d::ds,[]=>by show false=_;simp
 |d::ds,e::es=>by
  have ih:=yq ds es;rw[DM,ih,br,br,Nat.add_min_add_right,List.range_succ_eq_map,Gi,List.all_map];have e1:k8 (d::ds) (e::es) 0=dR d e:=rfl;have e2:(k8 (d::ds) (e::es)) ∘ Nat.succ=k8 ds es:=by funext j;rfl
  rw[e1,e2,Bool.and_assoc];congr 2;simp
def Z1(h:ds.length≠es.length):lR ds es=false:=by
 rw[yq]
 have:(ds.length == es.length)=false:=by simpa using h
 rw[this,tQ]
mutual
theorem vS:∀d:D,dR d d=true
 |.non=>rfl
 |.bl b=>by show (b == b)=true;simp
 |.int n=>by show (n == n)=true;simp
 |.str x=>by show (x == x)=true;simp
 |.tup ds=>Gg ds
 |.lst ds=>Gg ds
theorem Gg:∀ds:List D,lR ds ds=true
 |[]=>rfl
 |d::ds=>by rw[DM,vS d,Gg ds];rfl
end
mutual
theorem Is.inj:∀{v:V}{d e:D},Is H v d->Is H v e->d=e
 |v,.non,e,h,h'=>by
  unfold Is at h;subst h;cases e<;>unfold Is at h' <;>first|rfl|(cases h';done)|(obtain⟨_,_,z,_⟩:=h';cases z)
 |v,.bl b,e,h,h'=>by
  unfold Is at h;subst h;cases e<;>unfold Is at h' <;>first|(cases h';rfl)|(cases h';done)|(obtain⟨_,_,z,_⟩:=h';cases z)
 |v,.int n,e,h,h'=>by
  unfold Is at h;subst h;cases e<;>unfold Is at h' <;>first|(cases h';rfl)|(cases h';done)|(obtain⟨_,_,z,_⟩:=h';cases z)
 |v,.str x,e,h,h'=>by
  unfold Is at h;subst h;cases e<;>unfold Is at h' <;>first|(cases h';rfl)|(cases h';done)|(obtain⟨_,_,z,_⟩:=h';cases z)
 |v,.tup ds,e,h,h'=>by
  unfold Is at h;obtain⟨a,xs,rfl,h1,h2⟩:=h;cases e with
  |tup es =>
   unfold Is at h';obtain⟨b,ys,z,g1,g2⟩:=h';cases z;rw[h1]at g1;cases g1;rw[ba.inj h2 g2]
  |lst es =>
   unfold Is at h';obtain⟨b,ys,z,g1,g2⟩:=h';cases z;rw[h1]at g1;cases g1
  |_=>unfold Is at h';cases h'
 |v,.lst ds,e,h,h'=>by
  unfold Is at h;obtain⟨a,xs,rfl,h1,h2⟩:=h;cases e with
  |lst es =>
   unfold Is at h';obtain⟨b,ys,z,g1,g2⟩:=h';cases z;rw[h1]at g1;cases g1;rw[ba.inj h2 g2]
  |tup es =>
   unfold Is at h';obtain⟨b,ys,z,g1,g2⟩:=h';cases z;rw[h1]at g1;cases g1
  |_=>unfold Is at h';cases h'
theorem ba.inj:∀{xs:List V}{ds es:List D},ba H xs ds->ba H xs es->ds=es
 |xs,[],es,h,h'=>by
  unfold ba at h;subst h;cases es with
  |nil=>rfl
  |cons e es=>unfold ba at h';obtain⟨_,_,z,_⟩:=h';cases z
 |xs,d::ds,es,h,h'=>by
  unfold ba at h;obtain⟨x,r,rfl,h1,h2⟩:=h;cases es with
  |nil=>unfold ba at h';cases h'
  |cons e es =>
   unfold ba at h';obtain⟨x',r',z,g1,g2⟩:=h';cases z;rw[Is.inj h1 g1,ba.inj h2 g2]
end
section
variable{X:Cx}{ae:List (Addr×Obj)}{σ:St}{H:Hp}{s:Shared}
structure FH(A:Around)(s:Shared)(u w:Value)(b:Bool):Prop where
 rc:SeqAt.RcAt A s u w b
 ne:SeqAt.RcNeAt A s u w (!b)
def BX(r:Vals xs ah)(h:ba H xs ds)(hj:j<ah.toArray.size):∃d x,ds[j]?=some d/\Is H x d/\RelV x ah.toArray[j]:=by
 have jm:j<ah.length:=by simpa using hj
 have l1:=r.length;have l2:=h.length;have ed:ds[j]?=some ds[j]:=by simp[show j<ds.length by omega]
 obtain⟨x,ex,hx⟩:=h.at ed;obtain⟨u,eu,ru⟩:=r.get ex;exists _,x,ed,hx,?_;rw[eC jm]at eu
 have:ah.toArray[j]=u:=by simpa using dN eu
 rw[this];exact ru
inductive Kd (s:Shared) (H:Hp):Value->D->Prop where
 |none:Kd s H .none .non
 |bool (b:Bool):Kd s H (.bool b) (.bl b)
 |int (n:Int) (t:Tok):Kd s H (.int n t) (.int n)
 |str (x:Str) (t:Tok):Kd s H (.str x t) (.str x)
 |tuple {a:Addr}{xs:List V}{ah:List Value}{ds:List D} (h:H a=some (.tup xs)) (r:Vals xs ah) (p:s.heap.IsTuple a ah.toArray) (q:ba H xs ds):Kd s H (.ref a) (.tup ds)
 |list {a:Addr}{xs:List V}{ah:List Value}{ds:List D} (h:H a=some (.lst xs)) (r:Vals xs ah) (p:s.heap.IsList a ah.toArray) (q:ba H xs ds):Kd s H (.ref a) (.lst ds)
def mG(I:Inv X ae σ H s)(h:Is H v d)(r:RelV v u):Kd s H u d:=by
 cases d with
 |non=>unfold Is at h;subst h;cases (show u=Value.none from r);exact .none
 |bl b=>unfold Is at h;subst h;cases (show u=Value.bool b from r);exact .bool b
 |int n=>unfold Is at h;subst h;obtain⟨t,e⟩:=(show ∃t,u=Value.int n t from r);cases e;exact .int n t
 |str x=>unfold Is at h;subst h;obtain⟨t,e⟩:=(show ∃t,u=Value.str x t from r);cases e;exact .str x t
 |tup ds =>
  unfold Is at h;obtain⟨a,xs,rfl,h1,h2⟩:=h;cases (show u=Value.ref a from r);obtain⟨_,ah,r1,t1⟩:=(show dQ X.prog X.w H s.heap a (.tup xs) from I.hok a _ h1);exact .tuple h1 r1 t1 h2
 |lst ds =>
  unfold Is at h;obtain⟨a,xs,rfl,h1,h2⟩:=h;cases (show u=Value.ref a from r);obtain⟨ah,r1,p1,_⟩:=I.list (aj.of (K:=X.K) h1);exact .list h1 r1 p1.isList h2
def Sc:D->Prop
 |.tup _=>False
 |.lst _=>False
 |_=>True
set_option maxHeartbeats 4000000 in
def pQ(hu:A.units<cLine)(k1:Kd s H u d)(hs:Sc d)(k2:Kd s H u' e):FH A s u u' (dR d e)/\SeqAt.EqAt A s u u' (dR d e):=by
 cases k1 with
 |tuple=>exact hs.elim
 |list=>exact hs.elim
 |none  =>
  cases k2 with
  |none  => nomatch ⟨.none_none ,.none_none ⟩,yr _
  |bool c=>nomatch ⟨.none_bool c,.none_bool c⟩,.none_bool c
  |int k v=>nomatch ⟨.none_int k v,.none_int k v⟩,.none_int k v
  |str y v=>nomatch ⟨.none_str y v,.none_str y v⟩,.none_str y v
  |list h r p q=>nomatch ⟨.none_list  p hu,.none_list  p hu⟩,.none_list  p hu
  |tuple h r p q=>nomatch ⟨.none_tuple  p hu,.none_tuple  p hu⟩,.none_tuple  p hu
 |bool b =>
  cases k2 with
  |none  => nomatch ⟨.bool_none b,.bool_none b⟩,.bool_none b
  |bool c=>nomatch ⟨.bool_bool b c,.bool_bool b c⟩,.bool_bool b c
  |int k v=>nomatch ⟨.bool_int b k v,.bool_int b k v⟩,.bool_int b k v
  |str y v=>nomatch ⟨.bool_str b y v,.bool_str b y v⟩,.bool_str b y v
  |list h r p q=>nomatch ⟨.bool_list b p hu,.bool_list b p hu⟩,.bool_list b p hu
  |tuple h r p q=>nomatch ⟨.bool_tuple b p hu,.bool_tuple b p hu⟩,.bool_tuple b p hu
 |int m t =>
  cases k2 with
  |none  => nomatch ⟨.int_none m t,.int_none m t⟩,.int_none m t
  |bool c=>nomatch ⟨.int_bool m t c,.int_bool m t c⟩,.int_bool m t c
  |int k v=>nomatch ⟨.int_int m t k v,.int_int m t k v⟩,.int_int m t k v
  |str y v=>nomatch ⟨.int_str m t y v,.int_str m t y v⟩,.int_str m t y v
  |list h r p q=>nomatch ⟨.int_list m t p hu,.int_list m t p hu⟩,.int_list m t p hu
  |tuple h r p q=>nomatch ⟨.int_tuple m t p hu,.int_tuple m t p hu⟩,.int_tuple m t p hu
 |str x t =>
  cases k2 with
  |none  => nomatch ⟨.str_none x t,.str_none x t⟩,.str_none x t
  |bool c=>nomatch ⟨.str_bool x t c,.str_bool x t c⟩,.str_bool x t c
  |int k v=>nomatch ⟨.str_int x t k v,.str_int x t k v⟩,.str_int x t k v
  |str y v=>nomatch ⟨.str_str x t y v,.str_str x t y v⟩,.str_str x t y v
  |list h r p q=>nomatch ⟨.str_list x t p hu,.str_list x t p hu⟩,.str_list x t p hu
  |tuple h r p q=>nomatch ⟨.str_tuple x t p hu,.str_tuple x t p hu⟩,.str_tuple x t p hu
set_option maxHeartbeats 4000000 in
def ES(I:Inv X ae σ H s):∀(n:Nat) (d e:D) (A:Around) {u u':Value},jP d<=n->A.units+n<cLine->Kd s H u d->Kd s H u' e->FH A s u u' (dR d e)/\SeqAt.EqAt A s u u' (dR d e):=by
 intro n;induction n with
 |zero =>
  intro d e A u u' hd hu k1 k2;cases k1 with
  |tuple=>unfold jP at hd;lia
  |list=>unfold jP at hd;omega
  |none=>exact pQ (by assumption) .none trivial k2
  |bool b=>exact pQ (by assumption) (.bool b) trivial k2
  |int m t=>exact pQ (by assumption) (.int m t) trivial k2
  |str y t=>exact pQ (by assumption) (.str y t) trivial k2
 |succ n ih =>
  intro d e A u u' hd hu k1 k2;have cv:A.units<cLine:=by lia
  have uk:A.in1.units+n<cLine:=by show A.units+1+n<cLine;lia
  cases k1 with
  |@tuple a xs ah ds h1 r1 p1 q1 =>
   cases k2 with
   |@tuple b ys fg es h2 r2 p2 q2 =>
    have cq:mV ds<=n:=by unfold jP at hd;lia
    have n1:ah.length=ds.length:=by have:=r1.length;have:=q1.length;lia
    have n2:fg.length=es.length:=by have:=r2.length;have:=q2.length;lia
    have he:∀j (g1:j<ah.toArray.size) (g2:j<fg.toArray.size),SeqAt.EqAt A.in1 s ah.toArray[j] fg.toArray[j] (k8 ds es j):=λj g1 g2=>by
     obtain⟨d1,x1,e1,i1,v1⟩:=BX r1 q1 g1;obtain⟨d2,x2,e2,i2,v2⟩:=BX r2 q2 g2;have e3:k8 ds es j=dR d1 d2:=by unfold k8;rw[e1,e2]
     rw[e3];exact (ih d1 d2 A.in1 (aW (D3 e1) cq) uk (mG I i1 v1) (mG I i2 v2)).2
    have ev:((List.range (min ah.toArray.size fg.toArray.size)).all (k8 ds es)&&(ah.toArray.size == fg.toArray.size))=dR (.tup ds) (.tup es):=by
     rw[cf,cf,n1,n2,Zj,yq]
    have R1:=SeqAt.RcAt.tuples p1 p2 cv he;have R2:=SeqAt.RcNeAt.tuples p1 p2 cv he;rw[ev]at R1 R2;exists ⟨R1,R2⟩,?_;by_cases j8:a=b
    ·subst j8;rw[h1]at h2;cases h2;rw[ba.inj q1 q2,vS];exact yr _
    ·exact SeqAt.EqAt.of_refs j8 R1
   |@list b ys fg es h2 r2 p2 q2=>nomatch ⟨.tuple_list p1 p2 cv,.tuple_list p1 p2 cv⟩,.tuple_list p1 p2 cv
   |none=>nomatch ⟨.tuple_none p1 cv,.tuple_none p1 cv⟩,.tuple_none p1 cv
   |bool b=>nomatch ⟨.tuple_bool b p1 cv,.tuple_bool b p1 cv⟩,.tuple_bool b p1 cv
   |int m t=>nomatch ⟨.tuple_int m t p1 cv,.tuple_int m t p1 cv⟩,.tuple_int m t p1 cv
   |str y t=>nomatch ⟨.tuple_str y t p1 cv,.tuple_str y t p1 cv⟩,.tuple_str y t p1 cv
  |@list a xs ah ds h1 r1 p1 q1 =>
   cases k2 with
   |@list b ys fg es h2 r2 p2 q2 =>
    have cq:mV ds<=n:=by unfold jP at hd;omega
    have n1:ah.length=ds.length:=by have:=r1.length;have:=q1.length;omega
    have n2:fg.length=es.length:=by have:=r2.length;have:=q2.length;omega
    have R:FH A s (.ref a) (.ref b) (dR (.lst ds) (.lst es)):=by
     by_cases hn:ds.length=es.length
     ·have he:∀j (g1:j<ah.toArray.size) (g2:j<fg.toArray.size),SeqAt.EqAt A.in1 s ah.toArray[j] fg.toArray[j] (k8 ds es j):=λj g1 g2=>by
       obtain⟨d1,x1,e1,i1,v1⟩:=BX r1 q1 g1;obtain⟨d2,x2,e2,i2,v2⟩:=BX r2 q2 g2;have e3:k8 ds es j=dR d1 d2:=by unfold k8;rw[e1,e2]
       rw[e3];exact (ih d1 d2 A.in1 (aW (D3 e1) cq) uk (mG I i1 v1) (mG I i2 v2)).2
      have hsz:ah.toArray.size=fg.toArray.size:=by simp;lia
      have ev:(List.range ah.toArray.size).all (k8 ds es)=dR (.lst ds) (.lst es):=by
       rw[cf,n1,FV,yq,hn,Nat.min_self];simp
      have R1:=SeqAt.RcAt.lists p1 p2 hsz cv he;have R2:=SeqAt.RcNeAt.lists p1 p2 hsz cv he;rw[ev]at R1 R2;nomatch R1,R2
     ·have hsz:(ah.toArray.size != fg.toArray.size)=true:=by simp;lia
      rw[FV,Z1 hn];nomatch SeqAt.RcAt.lists_lengths p1 p2 hsz cv,SeqAt.RcNeAt.lists_lengths p1 p2 hsz cv
    exists R,?_;by_cases j8:a=b
    ·subst j8;rw[h1]at h2;cases h2;rw[ba.inj q1 q2,vS];exact yr _
    ·exact SeqAt.EqAt.of_refs j8 R.rc
   |@tuple b ys fg es h2 r2 p2 q2=>nomatch ⟨.list_tuple p1 p2 cv,.list_tuple p1 p2 cv⟩,.list_tuple p1 p2 cv
   |none=>nomatch ⟨.list_none p1 cv,.list_none p1 cv⟩,.list_none p1 cv
   |bool b=>nomatch ⟨.list_bool b p1 cv,.list_bool b p1 cv⟩,.list_bool b p1 cv
   |int m t=>nomatch ⟨.list_int m t p1 cv,.list_int m t p1 cv⟩,.list_int m t p1 cv
   |str y t=>nomatch ⟨.list_str y t p1 cv,.list_str y t p1 cv⟩,.list_str y t p1 cv
  |none=>exact pQ cv .none trivial k2
  |bool b=>exact pQ cv (.bool b) trivial k2
  |int m t=>exact pQ cv (.int m t) trivial k2
  |str y t=>exact pQ cv (.str y t) trivial k2
def Pf(f:Bool->Bool):R2:=λx y H Q=>∃d e,Is H x d/\Is H y e/\jP d<=60/\Q (.bl (f (dR d e))) H
def OD(hu:X.A.units+60<cLine):bV X (compareOp .Eq) (Pf id):=by
 intro ae s σ H x y v u Q I rx ry h;obtain⟨d,e,h1,h2,h3,q⟩:=h;exact (ES I 60 d e X.A h3 hu (mG I h1 rx) (mG I h2 ry)).1.rc _ _ _ _ ⟨.bl (dR d e),H,I,rfl,q⟩
def Xz(hu:X.A.units+60<cLine):bV X (compareOp .NotEq) (Pf not):=by
 intro ae s σ H x y v u Q I rx ry h;obtain⟨d,e,h1,h2,h3,q⟩:=h;exact (ES I 60 d e X.A h3 hu (mG I h1 rx) (mG I h2 ry)).1.ne _ _ _ _ ⟨.bl (!(dR d e)),H,I,rfl,q⟩
def A1(hr:cX k A):A.units+60<cLine:=lB (yU (by decide:60<=64) _) hr.units
end
open PySem PySem.Spec PyProof.Rows
section
variable{X:Cx}{st:Stmt}{sts:List Stmt}{t:TS}{e:Expr}{te:TE}
def WR(t:TS):TS:=λD σ H=>∃M:St->Hp->Prop,t {D with nx:=M} σ H/\∀σ' H',M σ' H'->D.nx σ' H'
set_option tactic.hygienic true in
def ke(h:PS X st t):PS X st (WR t):=by
 rintro ae s σ H D I ⟨M,q,w⟩;refine aL (h ae s σ H {D with nx:=M} I q) λr s' z=>?_
 cases r with
 |next=>obtain⟨σ',H',I',m⟩:=z;nomatch σ',H',I',w _ _ m
 |_=>exact z
end
end L2
namespace My
open PySem L2 OF
def bH(h:n<=1000000):n<sizeLine:=lB h (by decide)
def gH(h1 : -(2^64)<a)(h2:a<2^64):IntMulOk a b:=yx.ok (.inl ⟨h1,h2⟩)
def kN(h1 : -(2^64)<b)(h2:b<2^64):IntMulOk a b:=yx.ok (.inr ⟨h1,h2⟩)
def qr(m:Nat):(1:Int)*2^((m:Int)).toNat=2^m:=by rw[ui,ph]
def fY{ps:List Addr}{i:Nat}{y:V}(hi:(ps.map V.ref)[i]?=some y):∃p,ps[i]?=some p/\y=V.ref p:=by
 rw[dE]at hi;cases e:ps[i]? with
 |none=>rw[e]at hi;cases hi
 |some p=>rw[e]at hi;nomatch p,rfl,(dN hi).symm
def vo{ns:List Int}{i:Nat}{y:V}(hi:(ns.map V.int)[i]?=some y):∃n,ns[i]?=some n/\y=V.int n:=by
 rw[dE]at hi;cases e:ns[i]? with
 |none=>rw[e]at hi;cases hi
 |some p=>rw[e]at hi;nomatch p,rfl,(dN hi).symm
def Pb(K:Frag):Sp:=λvs H Q _=>∃(a:Addr) (l:ar) (g:Int),vs=[.ref a,.int g]/\TL K H a l/\l.length<=100000/\∀H',af H H'->Q (.int (cR l g)) H'
def Jr(K:Frag):Sp:=λvs H Q _=>∃(a:Addr) (ns:List Int),vs=[.ref a]/\aj K H a (ns.map V.int)/\ns.length<=63/\(∀n∈ns,intBits n<=2^20)/\∀H',Q (.bl true) H'
noncomputable def dT(t:Int×Int):D:=.tup [.int t.1,.int t.2]
noncomputable def dF(l:ar):D:=.lst (l.map dT)
theorem K9:∀{ps:List Addr}{l:ar},cS H ps l->ba H (ps.map V.ref) (l.map dT)
 |_,_,.nil=>by unfold ba;rfl
 |_,_,.cons (a:=p) (b:=t) r q=>by
  rw[bU,bU];unfold ba;exists _,_,rfl,?_,K9 q;unfold dT Is;exists p,_,rfl,r,?_;unfold ba;exists _,_,rfl,(by unfold Is;rfl),?_;unfold ba;exists _,_,rfl,(by unfold Is;rfl),?_;unfold ba;rfl
def _root_.L2.aI.is(h:aI H a l):Is H (.ref a) (dF l):=by
 obtain⟨ps,h1,h2⟩:=h;unfold dF Is;nomatch a,_,rfl,h1,K9 h2
def zcn(t:Int×Int):jP (dT t)=1:=rfl
theorem LZ:∀l:ar,mV (l.map dT)<=1
 |[]=>bS _
 |t::r=>by
  rw[bU,mV,zcn]
  have:=LZ r
  lia
def OP(l:ar):jP (dF l)<=2:=by
 unfold dF;rw[jP];have:=LZ l;lia
def YA(t u:Int×Int):dR (dT t) (dT u)=decide (t=u):=by
 obtain⟨a,b⟩:=t;obtain⟨c,d⟩:=u;show ((a == c)&&((b == d)&&true))=decide ((a,b)=(c,d));by_cases e1:a=c<;>by_cases e2:b=d<;>simp[e1,e2]
theorem QN:∀l m:ar,lR (l.map dT) (m.map dT)=decide (l=m)
 |[],[]=>rfl
 |[],_::_=>rfl
 |_::_,[]=>rfl
 |t::l,u::m=>by
  rw[bU,bU,DM,YA,QN l m];by_cases e1:t=u<;>by_cases e2:l=m<;>simp[e1,e2]
def Oa(l m:ar):dR (dF l) (dF m)=decide (l=m):=by unfold dF;rw[FV];exact QN l m
def Vs(h1:H a=some (.lst xs))(h2:ba H xs ds):Is H (.ref a) (.lst ds):=by
 unfold Is;nomatch a,xs,rfl,h1,h2
set_option tactic.hygienic true in
def zbC(h1:a.natAbs<2^j)(h2:b.natAbs<2^k)(h:j+k<=134217728):IntMulOk a b:=by
 have f:∀{x:Int}{m:Nat},x.natAbs<2^m->intBits x<=m:=fun {x m} hx=>by
  unfold intBits;split
  ·exact bS _
  ·rename_i h0;have Wg:x.natAbs≠0:=by simpa using h0
   exact (tU Wg).mpr hx
 exact PyProof.Rows.mulOk_of_bits (f h1) (f h2) h
def YV(B:Nat)(l:ar):Prop:=∀t∈l,t.2.natAbs<=B
theorem CL:∀{f:ar},IsForm f->∀t∈f,aQ f t.1=t.2
 |[],_,t,h=>by simp at h
 |p::r,hf,t,h=>by
  have h1:=nS.mp hf.rise;rcases aZ.mp h with e|e
  ·rw[e];exact qX h1.1
  ·have hr:IsForm r:=⟨h1.2,λq hq=>hf.nz q (by simp[hq])⟩
   have:=CL hr t e
   have h2:=h1.1 t e;rw[aQ,ax (by lia),this];lia
def _root_.L2.af.write(h:af HB H)(ha:HB a=none):af HB (upd H a o):=λb u e=>by
 rw[aJ (cP e ha)];exact h b u e
def aI.cat{H H':Hp}{a b c:Addr}{l m:ar}{ps qs:List Addr}(h1:cS H ps l)(h2:cS H qs m)(s:af H H')(hc:H' c=some (.lst (ps.map V.ref++qs.map V.ref))):aI H' c (l++m) :=
 ⟨ps++qs,by rw[hc,aT],cS.append (h1.keep λb xs z=>s b _ z) (h2.keep λb xs z=>s b _ z)⟩
def _root_.L2.TL.seq{K:Frag}{H:Hp}{a:Addr}{l:ar}(h:TL K H a l):∃xs,aj K H a xs:=let ⟨ps,h1,_⟩:=h; ⟨_,h1⟩
def B0{K:Frag}{a:Addr}{l:ar}{H:Hp}{te:TE}{R:List V->Hp->Addr->Prop}(f:Int×Int->Int×Int)(hT:TL K H a l)(hl:l.length<=1000000)(rest:List (Option V)){σ:St}(hσ:σ=none::none::rest)
  (he:∀t∈l,∀(H2:Hp) (R:V->Hp->Prop),af H H2->(∀w,H2 w=none->R (.ref w) (upd H2 w (.tup [.int (f t).1,.int (f t).2])))->te (some (.int t.1)::some (.int t.2)::rest) H2 R)
  (q:∀(D:Addr) (ys:List V) (H2:Hp),H D=none->aI (upd H2 D (.lst ys)) D (l.map f)->af H (upd H2 D (.lst ys))->R ys H2 D) :
  ∃W:Nat->Nat->List V->St->Hp->Prop,(∃m,W 0 m [] σ H)/\∀i m ys σ H,W i m ys σ H ->
   ((je K a).stop i H/\∀D,H D=none->R ys H D) \/
   ((je K a).go i H/\ys.length<sizeLine/\∃ N:List V->St->Hp->Prop,(∀ dP σ' H',N dP σ' H'->∃ m',m'<m/\W (i+1) m' dP σ' H') /\ ∀x H',(je K a).yld i H x H'->fT K 2 (cn (a8 0) (cn (a8 1) f7)) x σ H' λσ2 H2=>Hd σ2 H2 λb H3=>if b=true then te σ2 H3 λy H4=>N (ys++[y]) σ2 H4 else N ys σ2 H3):=by
 obtain⟨ps,hS,hP⟩:=hT;subst hσ;refine jj (K:=K) (a:=a) (xs:=ps.map V.ref) (R:=R) (λi ys σ H2=>∃(v0 v1:Option V) (qs:List Addr),σ=v0::v1::rest/\ys=qs.map V.ref/\cS H2 qs ((l.take i).map f)/\af H H2)
  ⟨none,none,[],rfl,rfl,.nil,af.refl _⟩ (λi ys σ H2 hi ⟨_,_,qs,_,e1,e2,e3⟩=>⟨e3.seq hS,by rw[e1,av,e2.length,av,dY];lia⟩) (by rw[av,hP.length];exact cj (bH hl)) ?_ ?_
 ·rintro i z ys σ H2 hi ⟨v0,v1,qs,rfl,rfl,g2,g4⟩;obtain⟨p,sQ,rfl⟩:=fY hi;obtain⟨t,bg,cK⟩:=hP.at' sQ;have bP:l.take (i+1)=l.take i++[t]:=by rw[dU,bg];rfl
  exists p,_,rfl,ay.of (g4 _ _ cK),rfl,_,_,rfl,_,_,rfl,rfl,?_;show te (some (.int t.1)::some (.int t.2)::rest) H2 _;refine he t (dr bg) H2 _ g4 λw hw=>?_
  have lN:af H2 (upd H2 w (.tup [.int (f t).1,.int (f t).2])):=af.upd hw;exists _,_,qs++[w],rfl,(by rw[aT];rfl),?_,g4.trans lN;rw[bP,aT];exact cS.snoc (g2.keep λb xs z=>lN b _ z) aq
 ·rintro ys σ H2 ⟨v0,v1,qs,rfl,rfl,g2,g4⟩ w hw;have GW:l.take (ps.map V.ref).length=l:=by rw[av,hP.length,dO]
  rw[GW]at g2;have lN:af H2 (upd H2 w (.lst (qs.map V.ref))):=af.upd hw;exact q w _ _ (g4.free hw) ⟨qs,aq,g2.keep λb xs z=>lN b _ z⟩ (g4.trans lN)
def BG{H:Hp}{a b:Addr}{o:HO}(h:H a=some o)(hb:H b=none):b≠a:=(cP h hb).symm
end My
namespace OF
open PySem
noncomputable def d4(t:Int×Int)(m:ar):ar:=m.map λu=>(Builtin.bitOr t.1 u.1,t.2*u.2)
noncomputable def bC(l m:ar):ar:=l.flatMap λt=>d4 t m
def Ni(t:Int×Int)(m:ar):(d4 t m).length=m.length:=av _
def YC(t u:Int×Int)(m:ar):d4 t (m++[u])=d4 t m++[(Builtin.bitOr t.1 u.1,t.2*u.2)]:=by unfold d4;rw[aT];rfl
def IS(l m:ar)(t:Int×Int):bC (l++[t]) m=bC l m++d4 t m:=by unfold bC;rw[List.flatMap_append];simp
theorem rW:∀(l m:ar),(bC l m).length=l.length*m.length
 |[],m=>by simp[bC]
 |t::l,m=>by
  have:=rW l m
  have e:bC (t::l) m=d4 t m++bC l m:=by unfold bC;rw[jG]
  rw[e,aS,Ni,this,br,Nat.add_mul,Nat.one_mul,yu]
def PF(h:x∈bC l m):∃t∈l,∃u∈m,x=(Builtin.bitOr t.1 u.1,t.2*u.2):=by
 unfold bC at h;obtain⟨t,ht,h⟩:=DA.mp h;unfold d4 at h;obtain⟨u,hu,e⟩:=bW.mp h;nomatch t,ht,u,hu,e.symm
noncomputable def bR(φ:Int->Int):ar->Int
 |[]=>0
 |t::r=>φ t.1*t.2+bR φ r
theorem xQ(φ:Int->Int):∀a b:ar,bR φ (a++b)=bR φ a+bR φ b
 |[],b=>by simp[bR]
 |t::r,b=>by rw[Bw,bR,bR,xQ φ r b];lia
theorem ID(φ:Int->Int)(k:Int):∀l:ar,bR φ l=φ k*aQ l k+bR φ (l.filter λt=>decide (t.1≠k))
 |[]=>by simp[bR,aQ]
 |t::r=>by
  have ih:=ID φ k r;rw[bR,aQ,ih];by_cases h:t.1=k
  ·rw[aB h,Ag (by simp[h]),h,za];lia
  ·rw[ax h,EH (by simp[h]),bR,rB];lia
theorem MJ(k j:Int):∀l:ar,aQ (l.filter λt=>decide (t.1≠k)) j=if j=k then 0 else aQ l j
 |[]=>by simp[aQ]
 |t::r=>by
  have ih:=MJ k j r;by_cases h:t.1=k
  ·rw[Ag (by simp[h]),ih,aQ];by_cases hj:j=k
   ·simp[hj]
   ·rw[ax hj,ax hj,ax (by lia)];lia
  ·rw[EH (by simp[h]),aQ,aQ,ih];by_cases hj:j=k
   ·rw[aB hj,aB hj,ax (by lia)];rfl
   ·rw[ax hj,ax hj]
theorem LD(φ:Int->Int):∀(n:Nat) (l:ar),l.length<=n->(∀k,aQ l k=0)->bR φ l=0
 |_,[],_,_=>rfl
 |0,t::r,h,_=>by simp at h
 |n+1,t::r,h,hc=>by
  rw[ID φ t.1,hc,Int.mul_zero,rB];have e:((t::r).filter λu=>decide (u.1≠t.1))=r.filter λu=>decide (u.1≠t.1):=Ag (by simp)
  rw[e];refine LD φ n _ ?_ λk=>?_
  ·have:=jR (λu:Int×Int=>decide (u.1≠t.1)) r
   rw[br]at h;lia
  ·rw[<-e,MJ];split
   ·rfl
   ·exact hc k
theorem P6(φ:Int->Int):∀l:ar,bR φ (l.map λp=>(p.1,-p.2)) = -bR φ l
 |[]=>rfl
 |t::r=>by
  rw[bU,bR,bR,P6 φ r];show φ t.1 * -t.2 + -bR φ r=_;rw[Int.mul_neg];lia
def ND(φ:Int->Int)(h:∀k,aQ l k=aQ m k):bR φ l=bR φ m:=by
 have:=LD φ _ (l++m.map λp=>(p.1,-p.2)) (aO _) λk=>by rw[cO,ow,h];lia
 rw[xQ,P6]at this;lia
theorem z9(φ:Int->Int)(c:Int):∀l:ar,bR φ (l.map λp=>(p.1,p.2*c))=bR φ l*c
 |[]=>by simp[bR]
 |t::r=>by rw[bU,bR,bR,z9 φ c r,Int.add_mul,xm]
noncomputable def gK(g k:Int):Int:=if Builtin.bitAnd k g=k then 1 else 0
theorem iD(g:Int):∀l:ar,cR l g=bR (gK g) l
 |[]=>rfl
 |t::r=>by
  have ih:=iD g r;unfold cR at ih ⊢;rw[bR,<-ih,gK];by_cases h:Builtin.bitAnd t.1 g=t.1
  ·rw[aB h,EH (by simp[h]),bU,jV,ui]
  ·rw[ax h,Ag (by simp[h]),Int.zero_mul,rB]
def tW(g:Int)(h:∀k,aQ l k=aQ m k):cR l g=cR m g:=by rw[iD,iD,ND _ h]
theorem O2:∀(l m:ar),(∀t∈l,∀u∈m,φ (Builtin.bitOr t.1 u.1)=φ t.1*φ u.1)->bR φ (bC l m)=bR φ l*bR φ m
 |[],m,_=>by simp[bC,bR]
 |t::l,m,h=>by
  have ih:=O2 l m λt' TC u hu=>h t' (by simp[TC]) u hu
  have e:bC (t::l) m=d4 t m++bC l m:=by unfold bC;rw[jG]
  rw[e,xQ,ih,bR,Int.add_mul];congr 1;have hr:∀m':ar,(∀u∈m',φ (Builtin.bitOr t.1 u.1)=φ t.1*φ u.1)->bR φ (d4 t m')=φ t.1*t.2*bR φ m':=by
   intro m';induction m' with
   |nil=>intro _;simp[d4,bR]
   |cons u r Wj =>
    intro hu;have e2:d4 t (u::r)=(Builtin.bitOr t.1 u.1,t.2*u.2)::d4 t r:=rfl;rw[e2,bR,Wj λv hv=>hu v (by simp[hv]),hu u (by simp),bR,za];congr 1;show φ t.1*φ u.1*(t.2*u.2)=_;rw[xm,xm,Int.mul_left_comm (φ u.1)]
  exact hr m λu hu=>h t (by simp) u hu
def Vi(a b g:Nat):(a|||b)&&&g=(a|||b)↔a&&&g=a/\b&&&g=b:=by
 constructor
 ·intro h;constructor
  ·apply o9;intro j
   have:=congrArg (λx=>x.testBit j) h
   simp only[kW,mz]at this;rw[kW]
   revert this
   cases a.testBit j<;>cases b.testBit j<;>cases g.testBit j<;>simp
  ·apply o9;intro j
   have:=congrArg (λx=>x.testBit j) h
   simp only[kW,mz]at this;rw[kW]
   revert this
   cases a.testBit j<;>cases b.testBit j<;>cases g.testBit j<;>simp
 ·rintro⟨h1,h2⟩;apply o9;intro j;have e1:=congrArg (λx=>x.testBit j) h1;have e2:=congrArg (λx=>x.testBit j) h2;simp only[kW]at e1 e2;rw[kW,mz]
  revert e1 e2
  cases a.testBit j<;>cases b.testBit j<;>cases g.testBit j<;>simp
def pG(a b:Nat):Builtin.bitAnd (a:Int) (b:Int)=((a&&&b:Nat):Int):=by
 have:=PyProof.Rows.bitAnd_pp (x:=(a:Int)) (y:=(b:Int)) (gD _) (gD _)
 simpa using this
def uQ(a b:Nat):Builtin.bitOr (a:Int) (b:Int)=((a|||b:Nat):Int):=by
 have:=Wm (x:=(a:Int)) (y:=(b:Int)) (gD _) (gD _)
 simpa using this
def To(ha:0<=a)(hb:0<=b)(hg:0<=g):gK g (Builtin.bitOr a b)=gK g a*gK g b:=by
 obtain⟨a,rfl⟩:=oO ha;obtain⟨b,rfl⟩:=oO hb;obtain⟨g,rfl⟩:=oO hg;unfold gK;rw[uQ,pG,pG,pG];have h:=Vi a b g;have c:∀x:Nat,(((x&&&g:Nat):Int)=(x:Int))↔x&&&g=x:=λx=>by lia
 simp only[c];by_cases h1:a&&&g=a
 ·by_cases h2:b&&&g=b
  ·rw[aB (h.mpr ⟨h1,h2⟩),aB h1,aB h2];rfl
  ·rw[ax (λz=>h2 (h.mp z).2),ax h2,Int.mul_zero]
 ·rw[ax (λz=>h1 (h.mp z).1),ax h1,Int.zero_mul]
def uE(l:ar)(k:Int):aQ l k=bR (λj=>if j=k then 1 else 0) l:=by
 induction l with
 |nil=>rfl
 |cons t r ih =>
  rw[aQ,bR,ih];split<;>simp_all
def RM(a b:Int):Builtin.bitAnd a b=Builtin.bitAnd b a:=by
 unfold Builtin.bitAnd;by_cases h1:0<=a<;>by_cases h2:0<=b<;>simp[h1,h2,Nat.and_comm,Nat.or_comm]
def zaF(a b:Int):Builtin.bitOr a b=Builtin.bitOr b a:=by unfold Builtin.bitOr;rw[RM]
def Kq(l m:ar)(k:Int):aQ (bC l m) k=aQ (bC m l) k:=by
 have e0:∀l:ar,aQ (bC l []) k=0:=λl=>by
  induction l with
  |nil=>rfl
  |cons t r ih =>
   have e:bC (t::r) []=d4 t []++bC r []:=(by unfold bC;rw[jG]);rw[e];exact ih
 have step:∀(l m:ar) (t:Int×Int),aQ (bC m (t::l)) k=aQ (d4 t m) k+aQ (bC m l) k:=by
  intro l m t;induction m with
  |nil=>rfl
  |cons u r ih =>
   have e1:bC (u::r) (t::l)=d4 u (t::l)++bC r (t::l):=by unfold bC;rw[jG]
   have e2:bC (u::r) l=d4 u l++bC r l:=by unfold bC;rw[jG]
   have e3:d4 u (t::l)=(Builtin.bitOr u.1 t.1,u.2*t.2)::d4 u l:=rfl;have e4:d4 t (u::r)=(Builtin.bitOr t.1 u.1,t.2*u.2)::d4 t r:=rfl;rw[e1,cO,ih,e2,cO,e3,e4,aQ,aQ,zaF u.1 t.1,Int.mul_comm u.2 t.2];lia
 induction l with
 |nil=>rw[e0];rfl
 |cons t r ih =>
  have e:bC (t::r) m=d4 t m++bC r m:=by unfold bC;rw[jG]
  rw[e,cO,ih,step]
end OF
namespace L2
open PySem PySem.Spec PyProof.Rows
def Inv.turnedT(I:Inv X ae σ H s)(k:∀b u,b≠e->b≠it->s.heap.get? b=some u->h'.get? b=some u)
  (fe:iK X ae H e) (fi:iK X ae H it) (hT:s.heap.objs.size<=T) (new:dQ X.prog X.w (upd H T o) h' T o):Inv X ae σ (upd H T o) {s with heap:=h',toks:=t'}:=by
 have hn:H T=none:=I.hok.fresh hT;have ne1:∀b u,H b=some u->b≠e/\b≠it:=λb u q=>⟨cP q fe.1,cP q fi.1⟩
 have nm:∀b,b∉[e,it]->b≠e/\b≠it:=λb hb=>⟨λz=>hb (by simp[z]),λz=>hb (by simp[z])⟩
 have lt:∀b u,s.heap.get? b=some u->b≠T:=λb u q=>d5 (dH (bB q) hT)
 refine I.step (g':=s.gens) (d':=s.drawn) (ch:=[e,it]) (λb hb=>?_) (λb u _ _ hc q _=>k b u (nm b hc).1 (nm b hc).2 q) (λb u _ _ hc q _=>⟨u.slots,k b u (nm b hc).1 (nm b hc).2 q⟩) (λb u _ q n=>by rw[aJ (lt b u q)];exact n)
  (λb u hc q=>⟨u,k b u (nm b hc).1 (nm b hc).2 q⟩) (λb xs q=>by rw[aJ (cP q hn)];exact q) (λb u xs q=>by rw[aJ (cP q hn)];exact q) (λb ps q=>⟨#[],by rw[aJ (cP q hn),q];simp⟩) (λm hm=>?_) (λb u q=>?_) I.bare
 ·rcases aZ.mp hb with z|z
  ·subst z;nomatch fe.2.2.2.1,fe.2.1,fe.2.2.2.2.1,fe.2.2.2.2.2
  ·have z':b=it:=by simpa using z
   subst z';nomatch fi.2.2.2.1,fi.2.1,fi.2.2.2.2.1,fi.2.2.2.2.2
 ·obtain⟨u,es,ep,ho,r⟩:=hm;nomatch u,es,ep,k _ u (Ne.symm fe.2.1) (Ne.symm fi.2.1) ho,r
 ·by_cases hb:b=T
  ·subst hb;rw[aq]at q;cases q;exact new
  ·rw[aJ hb]at q;refine (I.hok b u q).stay (λc v hc z=>?_) (λc z=>by rw[aJ (cP z hn)];exact z) λc xs z=>by rw[aJ (cP z hn)];exact z
   rcases hc with w|w
   ·rw[w]at z ⊢;exact k b v (ne1 b u q).1 (ne1 b u q).2 z
   ·exact k c v (ne1 c _ w).1 (ne1 c _ w).2 z
noncomputable def vW(K:Frag)(a:Addr):It :=
 ⟨λi H=>∃xs x,aj K H a xs/\xs[i]?=some x,λi H y H'=>∃T x,H T=none/\y=.ref T/\H'=upd H T (.tup [.int (i:Nat),x])/\∀xs,aj K H a xs->xs[i]?=some x,λi H=>∃xs,aj K H a xs/\xs.length<=i⟩
def Zw{P:Program}{w:World}{K:Frag}{elts:List Expr}{x1:Nat}{pos:Pos}(a e it:Addr)(Qs:e≠it):nG P w K (.Tuple elts x1 pos) (vW K a) [e,it] e (λi h=>(∃old,IsEnum h e it i old)/\h.IsListIter it a i) where
 mem:=by simp
 obj:=λi h st b hb=>by
  obtain⟨⟨old,he⟩,o,ho,c,d⟩:=st;rcases aZ.mp hb with z|z
  ·subst z;exact⟨_,he,λv z=>by cases z⟩
  ·have z':b=it:=by simpa using z
   subst z';exact⟨o,ho,λv z=>by rw[d]at z;cases z⟩
 keep:=λi h h' st k=>by
  obtain⟨⟨old,he⟩,hit⟩:=st;nomatch ⟨old,k e (by simp) _ he⟩,hit.at λo q=>k it (by simp) o q
 item:=by
  intro X hP hw hK hc i ae s σ H E I hf st hg;subst hP hw hK;obtain⟨⟨old,he⟩,hit⟩:=st;obtain⟨xs,x,hq,hx⟩:=hg;obtain⟨ah,rv,p,hz⟩:=I.list hq;obtain⟨u,hu,ru⟩:=rv.get hx;have fe:=hf e (by simp);have fi:=hf it (by simp);refine wpAny_pyNext_enum_item he hit p.isList (x:=u) (by simpa using hu) Qs λh1 ho hit1 hT hsz k1=>⟨_,rfl,?_⟩
  have helt:e<s.heap.objs.size:=bB he;have P4:s.heap.objs.size≠e:=uN helt;have iR:it<s.heap.objs.size:=by obtain⟨o,q,_⟩:=hit;exact bB q
  refine wpAny_letOwnedTupleGo_enum ho λh2 jJ sb=>?_
  have kk:∀b v,b≠e->b≠it->s.heap.get? b=some v->h2.get? b=some v:=λb v bT dh q=>(sb.2 b bT).trans (k1 b v bT dh q)
  have bE:h2.get? s.heap.objs.size=some {cls:=.type "tuple",data:=.seq #[.int i s.toks,u]}:=(sb.2 _ P4).trans hT;exists .ref s.heap.objs.size,upd H s.heap.objs.size (.tup [.int (i:Nat),x]),I.turnedT (t':=s.toks+1) kk fe fi (aO _) ⟨by show 2<=sizeLine;decide,[.int i s.toks,u],.cons ⟨_,rfl⟩ (.cons ru .nil),?_⟩,rfl,⟨_,x,I.hok.fresh (aO _),rfl,rfl,λys hy=>by rw[I.list_inj hy hq];exact hx⟩,⟨⟨_,by simpa using jJ⟩,?_⟩,λb hb=>?_
  ·nomatch _,bE,rfl,0,rfl
  ·exact hit1.at λo q=>(sb.2 it Qs.symm).trans q
  ·rcases aZ.mp hb with z|z
   ·subst z;rw[aJ (Ne.symm P4)];exact fe.1
   ·have z':b=it:=by simpa using z
    subst z';rw[aJ (d5 iR)];exact fi.1
 done:=by
  intro X hP hw hK hc i ae s σ H E I hf st hg;subst hP hw hK;obtain⟨⟨old,he⟩,hit⟩:=st;obtain⟨xs,hq,hx⟩:=hg;obtain⟨ah,rv,p,hz⟩:=I.list hq;obtain⟨f0,f1,f2,f3,f4,f5⟩:=hf it (by simp);have hl:=rv.length;exact wpAny_pyNext_enum_end (I.ok.hd hc) he hit p.isList (by simp;lia) λh' eb=>⟨rfl,I.turned (t':=s.toks) (λb o hb q=>eb b o hb q) f0 f1 f3 f4 f5⟩
 self:=λ_ _ _ _ _ st h=>by
  obtain⟨⟨old,he⟩,_⟩:=st;exact wpAny_pyIter_enum he h
def zaV(K:Frag)(ta:TA):TI:=λσ H R=>ta σ H λvs H1=>∃a,vs=[.ref a]/\(∃xs,aj K H1 a xs)/\R (vW K a) H1
def V4:bootBuiltins "enumerate" = some (.type "enumerate"):=by decide+kernel
def VP{X:Cx}{elts:List Expr}{x1:Nat}{p0 p pos:Pos}{a:Expr}{ta:TA}(hg:Gl X "enumerate")(hm:X.mg "enumerate" = none)(ha:PA X [a] ta)(hs:starEach [a] X.env=[(false,eval a X.env)]:=by rfl) :
  PI X (.Tuple elts x1 p0) (.Call (.Name "enumerate" p) [a] [] pos) (zaV X.K ta):=by
 intro ae s σ H R I h;refine Call_ (pZ I hg hm V4 (uu (aL (ha pos ae s σ H _ I h) λus s1 ⟨vs,H1,I1,r1,q1⟩=>?_) hs rfl));obtain⟨b,rfl,⟨xs,hq⟩,q⟩:=q1;obtain⟨u,rfl,ru⟩:=jz r1;cases (show u=Value.ref b from ru);obtain⟨ah,rv,p,hz⟩:=I1.list hq;refine call_enumerate_list p.isList λh' he hit hsz k=>wpAny_pyIter_enum he ?_
 have I2:Inv X ae σ H1 {s1 with heap:=h'}:=I1.kept (t':=s1.toks) k;have dZ:s1.heap.objs.size+1≠s1.heap.objs.size:=Nat.succ_ne_self _;exists s1.heap.objs.size+1,[s1.heap.objs.size+1,s1.heap.objs.size],_,_,H1,rfl,I2,Zw b _ _ dZ,⟨⟨_,he⟩,hit⟩,λc hc=>?_,q;have fr:∀c,s1.heap.objs.size<=c->iK X ae H1 c:=λc hc=>I1.fpOk hc (I1.hok.fresh hc)
 rcases aZ.mp hc with z|z
 ·subst z;exact fr _ (BY _)
 ·have z':c=s1.heap.objs.size:=by simpa using z
  subst z';exact fr _ (aO _)
def zap{K:Frag}{a:Addr}{xs:List V}{g:TG}{tc:TT}{te:TE}{σ:St}{H:Hp}{R:List V->Hp->Addr->Prop}(Pv:Nat->List V->St->Hp->Prop)(h0:Pv 0 [] σ H)(hl:∀i ys σ H,i<=xs.length->Pv i ys σ H->aj K H a xs/\ys.length<=i)(hz:xs.length<=sizeLine)
  (hs:∀i x ys σ H T,xs[i]?=some x->Pv i ys σ H->H T=none->g (.ref T) σ (upd H T (.tup [.int (i:Nat),x])) λσ2 H2=>tc σ2 H2 λb H3=>if b=true then te σ2 H3 λy H4=>Pv (i+1) (ys++[y]) σ2 H4 else Pv (i+1) ys σ2 H3)
  (hd:∀ys σ H,Pv xs.length ys σ H->∀D,H D=none->R ys H D) :
  ∃W:Nat->Nat->List V->St->Hp->Prop,(∃m,W 0 m [] σ H)/\∀i m ys σ H,W i m ys σ H ->
   ((vW K a).stop i H/\∀D,H D=none->R ys H D) \/
   ((vW K a).go i H/\ys.length<sizeLine/\∃ N:List V->St->Hp->Prop,(∀ dP σ' H',N dP σ' H'->∃ m',m'<m/\W (i+1) m' dP σ' H') /\ ∀x H',(vW K a).yld i H x H'->g x σ H' λσ2 H2=>tc σ2 H2 λb H3=>if b=true then te σ2 H3 λy H4=>N (ys++[y]) σ2 H4 else N ys σ2 H3):=by
 exists λi m ys σ H=>m=xs.length-i/\i<=xs.length/\Pv i ys σ H,⟨xs.length,by simp,bS _,h0⟩,?_;rintro i m ys σ H ⟨rfl,hi,p⟩;have q:=hl i ys σ H hi p;by_cases bA:i<xs.length
 ·refine .inr ⟨⟨xs,xs[i],q.1,by simp[bA]⟩,(by lia),Pv (i+1),λdP σ' H' p'=>⟨xs.length-(i+1),by lia,rfl,bA,p'⟩,λx H' y=>?_⟩;obtain⟨T,z,hT,rfl,rfl,y⟩:=y;exact hs i z ys σ _ T (y xs q.1) p hT
 ·have e:i=xs.length:=by lia
  subst e;exact .inl ⟨⟨xs,q.1,aO _⟩,hd ys σ H p⟩
end L2
namespace OF
open PySem
def UN(h:g.testBit j=true):g-2^j=g^^^2^j:=by
 have h1:(g^^^2^j)/2^j%2=0:=by
  have:(g^^^2^j).testBit j=false:=by rw[Fn,h,Nat.testBit_two_pow_self];rfl
  rw[rS]at this
  have:=xW this
  lia
 have h2:=Cu h1;have h3:(g^^^2^j)|||2^j=g:=by
  apply o9;intro i;rw[mz,Fn,sU];by_cases e:j=i
  ·subst e;simp[h]
  ·simp[e]
 lia
def yg(h:g.testBit j=true)(i:Nat):(g-2^j).testBit i=(g.testBit i&&decide (i≠j)):=by
 rw[UN h,Fn,sU];by_cases e:j=i
 ·subst e;simp[h]
 ·have e':¬i=j:=λz=>e z.symm
  simp[e,e']
open Classical in
def JF(h:IsForm f):(f.map (·.1)).Nodup:=by
 rw[List.Nodup,zN];exact h.rise.imp λh=>by lia
noncomputable def pc(n:Nat):Nat:=if h:n=0 then 0 else n%2+pc (n/2)
termination_by n
decreasing_by lia
def uq:pc 0=0:=by rw[pc];rfl
def GX(h:n≠0):pc n=n%2+pc (n/2):=by rw[pc,dif_neg h]
def AX(b e:Nat)(he:e<2):pc (2*b+e)=e+pc b:=by
 by_cases h:2*b+e=0
 ·have:b=0:=by lia
  have:e=0:=by lia
  subst b e;rw[uq]
 ·rw[GX h,show (2*b+e)%2=e by lia,show (2*b+e)/2=b by lia]
def Mo(b c e f:Nat)(he:e<2)(hf:f<2):(2*b+e)&&&(2*c+f)=2*(b&&&c)+e*f:=by
 apply o9;intro i;have hef:e*f<2:=by
  have:e=0\/e=1:=by lia
  have:f=0\/f=1:=by lia
  rcases ‹e=0\/e=1› with rfl|rfl<;>rcases ‹f=0\/f=1› with rfl|rfl<;>decide
 cases i with
 |zero =>
  rw[kW,zT,zT,zT,show (2*b+e)%2=e by lia,show (2*c+f)%2=f by lia,show (2*(b&&&c)+e*f)%2=e*f by lia]
  have:e=0\/e=1:=by omega
  have:f=0\/f=1:=by omega
  rcases ‹e=0\/e=1› with rfl|rfl<;>rcases ‹f=0\/f=1› with rfl|rfl<;>decide
 |succ i =>
  rw[kW,BS,BS,BS,show (2*b+e)/2=b by lia,show (2*c+f)/2=c by lia,show (2*(b&&&c)+e*f)/2=b&&&c by lia,kW]
theorem JO:∀(n a:Nat),a<=n->a≠0->(a&&&(a-1))<a/\pc (a&&&(a-1))+1=pc a
 |0,a,h,h0=>by lia
 |n+1,a,h,h0=>by
  obtain⟨b,e,he,rfl⟩:∃b e,e<2/\a=2*b+e:=⟨a/2,a%2,by lia,by lia⟩
  have:e=0\/e=1:=by lia
  rcases this with rfl|rfl
  ·have hb:b≠0:=by lia
   obtain⟨h1,h2⟩:=JO n b (by lia) hb;rw[show 2*b+0-1=2*(b-1)+1 by lia,Mo b (b-1) 0 1 (by decide) (by decide),AX b 0 (by decide)]
   have:=AX (b&&&(b-1)) 0 (by decide)
   simp only[Nat.zero_mul,zv,Nat.zero_add]at *;lia
  ·have e1:=Mo b b 1 0 (by decide) (by decide);rw[Nat.and_self]at e1;rw[show 2*b+1-1=2*b+0 by lia,e1,AX b 1 (by decide)]
   have:=AX b 0 (by decide)
   simp only[BI,zv]at *;lia
theorem FL:∀(m a:Nat),a<2^m->pc a<=m
 |0,a,h=>by
  have:a=0:=by simpa using h
  subst this;rw[uq];exact aO _
 |m+1,a,h=>by
  by_cases h0:a=0
  ·subst h0;rw[uq];lia
  ·rw[GX h0]
   have:=FL m (a/2) (by rw[jU]at h;lia)
   lia
noncomputable def sA(m:Nat)(l:ar):Int:=(l.map λt=>t.2*2^(m-pc t.1.toNat)).sum
def RB(i j:Nat):i&&&2^j=if i.testBit j then 2^j else 0:=by
 apply o9;intro k;rw[kW,sU];by_cases e:j=k
 ·subst e;cases h:i.testBit j<;>simp
 ·cases h:i.testBit j<;>simp[e]
end OF
namespace My
open PySem L2 OF
def tt{σ:St}{H:Hp}{F G:Hp->Prop}(h:F H):Hd σ H λb H3=>if b=true then F H3 else G H3:=by
 show (if true=true then F H else G H);rw[aB rfl];exact h
end My
namespace L2
open PySem OF
def BR(f o:ar)(g:Int):cR (f++o) g=cR f g+cR o g:=by rw[iD,iD,iD,xQ]
def GA(hf:∀t∈f,0<=t.1)(ho:∀t∈o,0<=t.1)(hg:0<=g):cR (bC f o) g=cR f g*cR o g:=by
 rw[iD,iD,iD];exact O2 f o λt ht u hu=>To (hf t ht) (ho u hu) hg
end L2
namespace My
open PySem L2 OF
def wK{K:Frag}{a:Addr}{l:ar}{H:Hp}{tc:TT}{te:TE}{R:List V->Hp->Addr->Prop}(p:Int×Int->Bool)(f:Int×Int->Int×Int)(hT:TL K H a l)(hl:l.length<=1000000)(rest:List (Option V)){σ:St}(hσ:σ=none::none::rest)
  (hc:∀t∈l,∀(H2:Hp) (R:Bool->Hp->Prop),af H H2->R (p t) H2->tc (some (.int t.1)::some (.int t.2)::rest) H2 R)
  (he:∀t∈l,p t=true->∀(H2:Hp) (R:V->Hp->Prop),af H H2->(∀w,H2 w=none->R (.ref w) (upd H2 w (.tup [.int (f t).1,.int (f t).2])))->te (some (.int t.1)::some (.int t.2)::rest) H2 R)
  (q:∀(D:Addr) (ys:List V) (H2:Hp),H D=none->aI (upd H2 D (.lst ys)) D ((l.filter p).map f)->af H (upd H2 D (.lst ys))->R ys H2 D) :
  ∃W:Nat->Nat->List V->St->Hp->Prop,(∃m,W 0 m [] σ H)/\∀i m ys σ H,W i m ys σ H ->
   ((je K a).stop i H/\∀D,H D=none->R ys H D) \/
   ((je K a).go i H/\ys.length<sizeLine/\∃ N:List V->St->Hp->Prop,(∀ dP σ' H',N dP σ' H'->∃ m',m'<m/\W (i+1) m' dP σ' H') /\ ∀x H',(je K a).yld i H x H'->fT K 2 (cn (a8 0) (cn (a8 1) f7)) x σ H' λσ2 H2=>tc σ2 H2 λb H3=>if b=true then te σ2 H3 λy H4=>N (ys++[y]) σ2 H4 else N ys σ2 H3):=by
 obtain⟨ps,hS,hP⟩:=hT;subst hσ;refine jj (K:=K) (a:=a) (xs:=ps.map V.ref) (R:=R) (λi ys σ H2=>∃(v0 v1:Option V) (qs:List Addr),σ=v0::v1::rest/\ys=qs.map V.ref/\cS H2 qs (((l.take i).filter p).map f)/\af H H2)
  ⟨none,none,[],rfl,rfl,.nil,af.refl _⟩ (λi ys σ H2 hi ⟨_,_,qs,_,e1,e2,e3⟩=>⟨e3.seq hS,by
   rw[e1,av,e2.length,av];exact aW (jR _ _) (by rw[dY];lia)⟩) (by rw[av,hP.length];exact cj (bH hl)) ?_ ?_
 ·rintro i z ys σ H2 hi ⟨v0,v1,qs,rfl,rfl,g2,g4⟩;obtain⟨b,sQ,rfl⟩:=fY hi;obtain⟨t,bg,cK⟩:=hP.at' sQ;have iT:=dr bg;have bP:l.take (i+1)=l.take i++[t]:=by rw[dU,bg];rfl
  exists b,_,rfl,ay.of (g4 _ _ cK),rfl,_,_,rfl,_,_,rfl,rfl,?_;show tc (some (.int t.1)::some (.int t.2)::rest) H2 _;refine hc t iT H2 _ g4 ?_;by_cases hp:p t=true
  ·rw[hp];refine aY rfl ?_;refine he t iT hp H2 _ g4 λw hw=>?_
   have lN:af H2 (upd H2 w (.tup [.int (f t).1,.int (f t).2])):=af.upd hw;exists _,_,qs++[w],rfl,(by rw[aT];rfl),?_,g4.trans lN;rw[bP,fV,aT];simp only[mW,hp,List.filter_nil,j9,bU,nR];exact cS.snoc (g2.keep λb xs z=>lN b _ z) aq
  ·refine aK hp ⟨_,_,qs,rfl,rfl,?_,g4⟩;rw[bP,fV,aT];simp only[mW,hp,List.filter_nil,nR,iM];simpa using g2
 ·rintro ys σ H2 ⟨v0,v1,qs,rfl,rfl,g2,g4⟩ w hw;have GW:l.take (ps.map V.ref).length=l:=by rw[av,hP.length,dO]
  rw[GW]at g2;have lN:af H2 (upd H2 w (.lst (qs.map V.ref))):=af.upd hw;exact q w _ _ (g4.free hw) ⟨qs,aq,g2.keep λb xs z=>lN b _ z⟩ (g4.trans lN)
def _root_.OF.IsForm.filter(h:IsForm f)(p:Int×Int->Bool):IsForm (f.filter p):=⟨h.rise.filter _,λt ht=>h.nz t (jd.mp ht).1⟩
noncomputable def fG(k:Nat)(t:Int×Int):Bool:=t.1.toNat.testBit k
noncomputable def iW(k:Nat)(l:ar):ar:=l.filter λt => !fG k t
noncomputable def gh(k:Nat)(l:ar):ar:=(l.filter λt=>fG k t).map λt=>(t.1-2^k,t.2)
noncomputable def nE(k:Nat)(b:Int)(l:ar):ar:=iW k l++if b=0 then []else gh k l
def A9(k:Nat)(l:ar):(iW k l).length<=l.length:=jR _ _
def Ep(k:Nat)(l:ar):(gh k l).length<=l.length:=by unfold gh;rw[av];exact jR _ _
theorem Nv(k:Nat):∀l:ar,(iW k l).length+(gh k l).length=l.length
 |[]=>rfl
 |t::l=>by
  have ih:=Nv k l;unfold iW gh at *;by_cases h:fG k t=true<;>simp_all<;>lia
def Pe(h:0<=t.1)(k:Nat):Builtin.bitAnd t.1 (2^k)=if fG k t then 2^k else 0:=by
 have e:((t.1.toNat:Nat):Int)=t.1:=gF h;have pw:((2:Int)^k)=((2^k:Nat):Int):=by norm_cast
 unfold fG;rw[<-e,pw,pG,RB,ph];split<;>rfl
def Ye(k:Nat):(2:Int)^k≠0:=by
 have pw:((2:Int)^k)=((2^k:Nat):Int):=by norm_cast
 have:=pf k
 lia
def Hr(h:0<=t.1)(k:Nat):decide (V.int (Builtin.bitAnd t.1 (2^k))=V.int 0) = !fG k t:=by
 rw[Pe h];cases fG k t
 ·simp
 ·have:=Ye k
  simp[this]
def UH(h:0<=t.1)(hb:fG k t=true):2^k<=t.1:=by
 have e:((t.1.toNat:Nat):Int)=t.1:=gF h;have pw:((2:Int)^k)=((2^k:Nat):Int):=by norm_cast
 have:=we hb
 lia
noncomputable def mi(g k:Nat)(b:Bool):Nat:=if b then (if g.testBit k then g else g+2^k)else (if g.testBit k then g-2^k else g)
def tR(g k:Nat)(b:Bool)(i:Nat):(mi g k b).testBit i=if i=k then b else g.testBit i:=by
 unfold mi;by_cases h:g.testBit k=true
 ·cases b
  ·simp only[h,j9,Bx,p9];rw[yg h];by_cases e:i=k<;>simp[e]
  ·simp only[h,j9];by_cases e:i=k<;>simp[e,h]
 ·have h':g.testBit k=false:=by simpa using h
  cases b
  ·simp only[h',Bx,p9];by_cases e:i=k<;>simp[e,h']
  ·simp only[h',j9,Bx,p9];have hd:g/2^k%2=0:=by
    rw[rS]at h'
    have:=xW h'
    lia
   rw[Cu hd,mz,sU];by_cases e:i=k
   ·simp[e]
   ·have:¬k=i:=λz=>e z.symm
    simp[e,this]
def Cd(a g:Nat):a&&&g=a↔∀i,a.testBit i=true->g.testBit i=true:=by
 constructor
 ·intro h i hi;rw[<-h,kW]at hi;exact (gz _ _ ▸ hi).2
 ·intro h;refine o9 λi=>?_
  rw[kW];cases e:a.testBit i
  ·rfl
  ·rw[h i e];rfl
def YM(a g k:Nat)(b:Bool):(a&&&mi g k b=a)↔(if a.testBit k then b=true/\(a-2^k)&&&g=a-2^k else a&&&g=a):=by
 rw[Cd];by_cases h:a.testBit k=true
 ·rw[aB h,Cd];constructor
  ·intro H;exists by have:=H k h;rw[tR,aB rfl]at this;exact this,λi hi=>?_;rw[yg h]at hi;have ir:a.testBit i=true/\i≠k:=by simpa using hi
   have:=H i ir.1
   rw[tR,ax ir.2]at this;exact this
  ·rintro⟨hb,H⟩ i hi;rw[tR];by_cases e:i=k
   ·rw[aB e];exact hb
   ·rw[ax e];exact H i (by rw[yg h];simp[hi,e])
 ·rw[ax h,Cd];constructor
  ·intro H i hi;have e:i≠k:=λz=>h (z ▸ hi)
   have:=H i hi
   rw[tR,ax e]at this;exact this
  ·intro H i hi;have e:i≠k:=λz=>h (z ▸ hi)
   rw[tR,ax e];exact H i hi
def Bd{g a:Nat}:gK (g:Int) (a:Int)=if a&&&g=a then 1 else 0:=by
 unfold gK;rw[pG];by_cases h:a&&&g=a
 ·rw[aB h,aB (by rw[h])]
 ·rw[ax h,ax (by intro z;exact h (by exact_mod_cast z))]
def ZQ{t:Int×Int}(h:0<=t.1)(g k:Nat)(b:Bool):gK ((mi g k b:Nat):Int) t.1=if fG k t then (if b then gK (g:Int) (t.1-2^k)else 0)else gK (g:Int) t.1:=by
 have e:((t.1.toNat:Nat):Int)=t.1:=gF h;have pw:((2:Int)^k)=((2^k:Nat):Int):=by norm_cast
 have hs:=YM t.1.toNat g k b;by_cases hb:fG k t=true
 ·have K8:=we hb;have iL:t.1.toNat.testBit k=true:=hb;rw[aB iL]at hs;rw[aB hb,<-e,pw,Bd,show ((t.1.toNat:Nat):Int)-((2^k:Nat):Int)=((t.1.toNat-2^k:Nat):Int) by omega,Bd];cases b
  ·rw[ax (by rw[hs];simp)];rfl
  ·by_cases h2:(t.1.toNat-2^k)&&&g=t.1.toNat-2^k
   ·rw[aB (hs.mpr ⟨rfl,h2⟩),aB rfl,aB h2]
   ·rw[ax (λz=>h2 (hs.mp z).2),aB rfl,ax h2]
 ·have iL:¬t.1.toNat.testBit k=true:=hb;rw[ax iL]at hs;rw[ax hb,<-e,Bd,Bd];by_cases h2:t.1.toNat&&&g=t.1.toNat
  ·rw[aB (hs.mpr h2),aB h2]
  ·rw[ax (λz=>h2 (hs.mp z)),ax h2]
theorem DI(g k:Nat)(b:Bool):∀{l:ar},(∀t∈l,0<=t.1)->bR (gK ((mi g k b:Nat):Int)) l=bR (gK (g:Int)) (iW k l)+if b then bR (gK (g:Int)) (gh k l)else 0
 |[],_=>by unfold iW gh;cases b<;>rfl
 |t::l,h=>by
  have ih:=DI g k b (l:=l) λt ht=>h t (eJ _ ht)
  have h0:=ZQ (h t (ng ..)) g k b;unfold iW gh at *;rw[bR,h0,ih];by_cases hb:fG k t=true<;>cases b<;>simp[hb,bR]<;>lia
def Yk{g k:Nat}{b:Int}(hb:b=0\/b=1){l:ar}(h:∀t∈l,0<=t.1):cR (nE k b l) (g:Int)=cR l ((mi g k (decide (b=1)):Nat):Int):=by
 rw[iD,iD,DI g k _ h];unfold nE;rw[xQ];rcases hb with rfl|rfl<;>simp[bR]
open PySem L2 OF
noncomputable def u6(a i:Nat):Nat:=((List.range i).filter λk => !a.testBit k).length
def UT(a i:Nat):u6 a (i+1)=(if a.testBit 0 then 0 else 1)+u6 (a/2) i:=by
 unfold u6;rw[List.range_succ_eq_map,mW,List.filter_map];have e:((λk => !a.testBit k) ∘ Nat.succ)=λk => !(a/2).testBit k:=by
  funext k
  show (!a.testBit (k+1))=_;rw[BS]
 rw[e];cases h:a.testBit 0<;>simp[h]<;>lia
theorem Mi:∀(m a:Nat),a<2^m->u6 a m+pc a=m
 |0,a,h=>by
  have:a=0:=by simpa using h
  subst this;rw[uq];rfl
 |m+1,a,h=>by
  have h2:a/2<2^m:=by rw[jU]at h;lia
  have ih:=Mi m (a/2) h2;rw[UT,zT];by_cases h0:a=0
  ·subst h0;rw[uq]at ih ⊢;simp at ih ⊢;lia
  ·rw[GX h0];by_cases h1:a%2=1
   ·simp[h1];lia
   ·have:a%2=0:=by lia
    simp[this];lia
end My
namespace L2
open PySem PySem.Spec PyProof.Rows
section
variable{X:Cx}
def X0:V->List V->Hp->VK->Prop:=λx vs H Q=>∃n:Int,x=.int n/\vs=[]/\Q (.int (intBits n)) H
def Ba:ip X "int.bit_length" X0:=by
 intro ae s σ H x xs v us Q I rx rv h;obtain⟨n,rfl,rfl,q⟩:=h;obtain⟨t,rfl⟩:=rx;obtain rfl:=rv.zero;exact call_int_bit_length ⟨.int _,H,I.tok _,⟨_,rfl⟩,q⟩
end
end L2
namespace My
open PySem L2 OF
def Pn(n:Nat):intBits (n:Int)=if n=0 then 0 else n.log2+1:=by
 unfold intBits;by_cases h:n=0
 ·subst h;rfl
 ·rw[ax h,ax (by simp;assumption)];rfl
def C3(n:Nat):n<2^intBits (n:Int):=by
 rw[Pn];by_cases h:n=0
 ·subst h;decide
 ·rw[ax h];exact Nat.lt_log2_self
def FR{n m:Nat}(h:n<2^m):intBits (n:Int)<=m:=by
 rw[Pn];by_cases h0:n=0
 ·subst h0;simp
 ·rw[ax h0];exact (tU h0).mpr h
theorem Hz:∀(l:ar) (s j:Nat),(cy l s).testBit j=true↔s.testBit j=true\/∃t∈l,t.1.toNat.testBit j=true
 |[],s,j=>by simp[cy]
 |t::l,s,j=>by
  rw[cy,Hz l,mz,FP];constructor
  ·rintro ((h|h)|⟨u,h1,h2⟩)
   ·exact .inl h
   ·exact .inr ⟨t,ng ..,h⟩
   ·exact .inr ⟨u,eJ _ h1,h2⟩
  ·rintro (h|⟨u,h1,h2⟩)
   ·exact .inl (.inl h)
   ·rcases aZ.mp h1 with z|z
    ·subst z;exact .inl (.inr h2)
    ·exact .inr ⟨u,z,h2⟩
def F5(h:∀t∈l,0<=t.1/\t.1<2^m):cy l 0<2^m:=by
 refine AO _ λj hj=>?_
 cases e:(cy l 0).testBit j
 ·rfl
 ·rcases (Hz l 0 j).mp e with z|⟨t,h1,h2⟩
  ·simp at z
  ·have:=h t h1
   have pw:((2:Int)^m)=((2^m:Nat):Int):=by norm_cast
   have h3:t.1.toNat<2^j:=dH (by lia:t.1.toNat<2^m) (dX (by decide) hj);rw[uX h3]at h2;cases h2
noncomputable def lst(a:Nat):List Nat:=(List.range (intBits (a:Int))).filter λk=>a.testBit k
def Fp:k∈lst a↔a.testBit k=true:=by
 unfold lst;rw[jd,pL];constructor
 ·exact λh=>h.2
 ·intro h;exists ?_,h;rcases uo k (intBits (a:Int))with z|z
  ·exact z
  ·have:=uX (dH (C3 a) (dX (by decide) z))
   rw[this]at h;cases h
end My
namespace L2
open PySem PySem.Spec PyProof.Rows
def Inv.turnedN(ch:List Addr)(I:Inv X ae σ H s)(k:∀b u,b∉ch->s.heap.get? b=some u->h'.get? b=some u)
  (f:∀b∈ch,iK X ae H b):Inv X ae σ H {s with heap:=h',toks:=t'}:=by
 have out:∀b u,H b=some u->b∉ch:=λb u q z=>by rw[(f b z).1]at q;cases q
 refine I.step (g':=s.gens) (d':=s.drawn) (ch:=ch) (λb hb=>⟨(f b hb).2.2.2.1,(f b hb).2.1,(f b hb).2.2.2.2.1,(f b hb).2.2.2.2.2⟩) (λb u _ _ hc q _=>k b u hc q) (λb u _ _ hc q _=>⟨u.slots,k b u hc q⟩) (λ_ _ _ _ n=>n)
  (λb u hc q=>⟨u,k b u hc q⟩) (λ_ _ e=>e) (λ_ _ _ e=>e) (λb ps e=>⟨#[],by rw[e];simp⟩) (λm hm=>?_) (λb u e=>?_) I.bare
 ·obtain⟨u,es,ep,ho,r⟩:=hm;nomatch u,es,ep,k _ u (λz=>(f _ z).2.1 rfl) ho,r
 ·refine (I.hok b u e).stay (λc v hc q=>k c v ?_ q) (λ_ q=>q) λ_ _ q=>q
  rcases hc with z|z
  ·rw[z];exact out b u e
  ·exact out c _ z
def Inv.turnedL(ch:List Addr)(I:Inv X ae σ H s)(k:∀b u,b∉ch->s.heap.get? b=some u->h'.get? b=some u)
  (f:∀b∈ch,iK X ae H b) (hT:s.heap.objs.size<=T) (new:dQ X.prog X.w (upd H T o) h' T o):Inv X ae σ (upd H T o) {s with heap:=h',toks:=t'}:=by
 have hn:H T=none:=I.hok.fresh hT;have out:∀b u,H b=some u->b∉ch:=λb u q z=>by rw[(f b z).1]at q;cases q
 have lt:∀b u,s.heap.get? b=some u->b≠T:=λb u q=>d5 (dH (bB q) hT)
 have up:∀{b:Addr}{u:HO},H b=some u->upd H T o b=some u:=λq=>by rw[aJ (cP q hn)];exact q
 refine I.step (g':=s.gens) (d':=s.drawn) (ch:=ch) (λb hb=>⟨(f b hb).2.2.2.1,(f b hb).2.1,(f b hb).2.2.2.2.1,(f b hb).2.2.2.2.2⟩) (λb u _ _ hc q _=>k b u hc q) (λb u _ _ hc q _=>⟨u.slots,k b u hc q⟩) (λb u _ q n=>by rw[aJ (lt b u q)];exact n)
  (λb u hc q=>⟨u,k b u hc q⟩) (λb xs q=>up q) (λb u xs q=>up q) (λb ps q=>⟨#[],by rw[up q];simp⟩) (λm hm=>?_) (λb u q=>?_) I.bare
 ·obtain⟨u,es,ep,ho,r⟩:=hm;nomatch u,es,ep,k _ u (λz=>(f _ z).2.1 rfl) ho,r
 ·by_cases hb:b=T
  ·subst hb;rw[aq]at q;cases q;exact new
  ·rw[aJ hb]at q;refine (I.hok b u q).stay (λc v hc z=>?_) (λc z=>up z) λc xs z=>up z
   rcases hc with w|w
   ·rw[w]at z ⊢;exact k b v (out b u q) z
   ·exact k c v (out c _ w) z
noncomputable def u9(K:Frag)(a b:Addr):It :=
 ⟨λi H=>∃xs ys x y,aj K H a xs/\aj K H b ys/\xs[i]?=some x/\ys[i]?=some y,λi H v H'=>∃T x y,H T=none/\v=.ref T/\H'=upd H T (.tup [x,y])/\(∀xs,aj K H a xs->xs[i]?=some x)/\∀ys,aj K H b ys->ys[i]?=some y,λi H=>∃xs ys,aj K H a xs/\aj K H b ys/\(xs.length<=i\/ys.length<=i)⟩
def R9{P:Program}{w:World}{K:Frag}{elts:List Expr}{x1:Nat}{pos:Pos}(a b z TI TO i1 i2:Addr)(D:ZipApart z TI TO i1 i2 a b) :
  nG P w K (.Tuple elts x1 pos) (u9 K a b) [z,TI,TO,i1,i2] z (λi h=>IsZip h z TI TO .none/\IsPair h TI (.ref i1) (.ref i2)/\(∃u v,IsPair h TO u v)/\h.IsListIter i1 a i/\h.IsListIter i2 b i) where
 mem:=by simp
 obj:=λi h st c hc=>by
  obtain⟨hz,fB,⟨u,v,fP⟩,⟨o1,e1,c1,d1⟩,⟨o2,e2,c2,d2⟩⟩:=st;simp only[aZ,jT,jS]at hc;rcases hc with rfl|rfl|rfl|rfl|rfl
  ·exact⟨_,hz,λv z=>by cases z⟩
  ·exact⟨_,fB,λv z=>by cases z⟩
  ·exact⟨_,fP,λv z=>by cases z⟩
  ·exact⟨o1,e1,λv z=>by rw[d1]at z;cases z⟩
  ·exact⟨o2,e2,λv z=>by rw[d2]at z;cases z⟩
 keep:=λi h h' st k=>by
  obtain⟨hz,fB,⟨u,v,fP⟩,h1,h2⟩:=st;nomatch k z (by simp) _ hz,k TI (by simp) _ fB,⟨u,v,k TO (by simp) _ fP⟩,h1.at λo q=>k i1 (by simp) o q,h2.at λo q=>k i2 (by simp) o q
 item:=by
  intro X hP hw hK hc i ae s σ H E I hf st hg;subst hP hw hK;obtain⟨hz,fB,⟨u,v,fP⟩,h1,h2⟩:=st;obtain⟨xs,ys,x,y,hq,d9,hx,hy⟩:=hg;obtain⟨ah,rv,p,hsz⟩:=I.list hq;obtain⟨its',qH,p',IM⟩:=I.list d9;obtain⟨ux,hu,ru⟩:=rv.get hx;obtain⟨uy,vK,wM⟩:=qH.get hy;refine wpAny_pyNext_zip_item D hz fB fP h1 h2 p.isList p'.isList (x:=ux) (y:=uy) (by simpa using hu) (by simpa using vK) λbT iH Ew Fm oX hT uI k1=>⟨_,rfl,?_⟩
  refine Nd iH λdh mv sb=>?_
  have lz:z<s.heap.objs.size:=bB hz;have EN:s.heap.objs.size≠z:=uN lz;have kk:∀c o,c∉[z,TI,TO,i1,i2]->s.heap.get? c=some o->dh.get? c=some o:=λc o hc q=>by
   simp only[aZ,jT,jS,not_or]at hc;exact (sb.2 c hc.1).trans (k1 c o hc.1 hc.2.2.1 hc.2.2.2.1 hc.2.2.2.2 q)
  have bE:IsPair dh s.heap.objs.size ux uy:=(sb.2 _ EN).trans hT;have EI:IsPair dh TI (.ref i1) (.ref i2):=(sb.2 _ D.TIz).trans (k1 _ _ D.TIz D.TITO D.TIi1 D.TIi2 fB);exists .ref s.heap.objs.size,upd H s.heap.objs.size (.tup [x,y]),I.turnedL (t':=s.toks) _ kk hf (aO _) ⟨by show 2<=sizeLine;decide,[ux,uy],.cons ru (.cons wM .nil),?_⟩,rfl,⟨_,x,y,I.hok.fresh (aO _),rfl,rfl,λzs h=>by rw[I.list_inj h hq];exact hx,λzs h=>by rw[I.list_inj h d9];exact hy⟩,⟨mv,EI,⟨ux,uy,(sb.2 _ D.TOz).trans Ew⟩,?_,?_⟩,λc hc=>?_
  ·nomatch _,bE,rfl,0,rfl
  ·exact Fm.at λo q=>(sb.2 _ D.i1z).trans q
  ·exact oX.at λo q=>(sb.2 _ D.i2z).trans q
  ·have gP:c<s.heap.objs.size:=by
    simp only[aZ,jT,jS]at hc;rcases hc with rfl|rfl|rfl|rfl|rfl
    ·exact lz
    ·exact bB fB
    ·exact bB fP
    ·obtain⟨o,q,_⟩:=h1;exact bB q
    ·obtain⟨o,q,_⟩:=h2;exact bB q
   rw[aJ (d5 gP)];exact (hf c hc).1
 done:=by
  intro X hP hw hK hc i ae s σ H E I hf st hg;subst hP hw hK;obtain⟨hz,fB,⟨u,v,fP⟩,h1,h2⟩:=st;obtain⟨xs,ys,hq,d9,hx⟩:=hg;obtain⟨ah,rv,p,hsz⟩:=I.list hq;obtain⟨its',qH,p',IM⟩:=I.list d9;have hl:=rv.length;have vp:=qH.length;refine wpAny_pyNext_zip_end (I.ok.hd hc) D hz fB fP h1 h2 p.isList p'.isList ?_ λh' kk=>⟨rfl,I.turnedN (t':=s.toks) [z,TI,TO,i1,i2] (λc o hc q=>?_) hf⟩
  ·rcases hx with z|z
   ·left;simp;lia
   ·right;simp;lia
  ·simp only[aZ,jT,jS,not_or]at hc;exact kk c o hc.1 hc.2.2.1 hc.2.2.2.1 hc.2.2.2.2 q
 self:=λ_ _ _ _ _ st h=>Au st.1 h
def za4(K:Frag)(ta:TA):TI:=λσ H R=>ta σ H λvs H1=>∃a b,vs=[.ref a,.ref b]/\(∃xs,aj K H1 a xs)/\(∃ys,aj K H1 b ys)/\R (u9 K a b) H1
def MC:bootBuiltins "zip" = some (.type "zip"):=by decide+kernel
def WO{X:Cx}{elts:List Expr}{x1:Nat}{p0 p pos:Pos}{a b:Expr}{ta:TA}(hg:Gl X "zip")(hm:X.mg "zip" = none)(ha:PA X [a,b] ta)(hs:starEach [a,b] X.env=(false,eval a X.env)::starEach [b] X.env:=by rfl)(pD:(backTo pos (starEach [b] X.env)).any (·.1)=false:=by rfl) :
  PI X (.Tuple elts x1 p0) (.Call (.Name "zip" p) [a,b] [] pos) (za4 X.K ta):=by
 intro ae s σ H R I h;refine Call_ (pZ I hg hm MC (uu (aL (ha pos ae s σ H _ I h) λus s1 ⟨vs,H1,I1,r1,q1⟩=>?_) hs pD));obtain⟨l1,l2,rfl,⟨xs,hq⟩,⟨ys,d9⟩,q⟩:=q1;obtain⟨u,v,rfl,ru,rv⟩:=AW r1;cases (show u=Value.ref l1 from ru);cases (show v=Value.ref l2 from rv);obtain⟨ah,rx,p,hz⟩:=I1.list hq;obtain⟨its',Q7,p',CT⟩:=I1.list d9;have n1:l1<s1.heap.objs.size:=by obtain⟨o,q,_⟩:=p.isList;exact bB q
 have n2:l2<s1.heap.objs.size:=by obtain⟨o,q,_⟩:=p'.isList;exact bB q
 refine call_zip_2 p.isList p'.isList λh' hz fB fP h1 h2 hsz k=>Au hz ?_
 have I2:Inv X ae σ H1 {s1 with heap:=h'}:=I1.kept (t':=s1.toks) k;exists _,_,_,_,H1,rfl,I2,R9 l1 l2 _ _ _ _ _ (zipApart_new n1 n2),⟨hz,fB,⟨_,_,fP⟩,h1,h2⟩,λc hc=>?_,q;have fr:∀c,s1.heap.objs.size<=c->iK X ae H1 c:=λc hc=>I1.fpOk hc (I1.hok.fresh hc)
 simp only[aZ,jT,jS]at hc;rcases hc with rfl|rfl|rfl|rfl|rfl<;>exact fr _ (by lia)
def Yj{K:Frag}{a b:Addr}{xs ys:List V}{g:TG}{tc:TT}{te:TE}{σ:St}{H:Hp}{R:List V->Hp->Addr->Prop}(GS:xs.length=ys.length)(Pv:Nat->List V->St->Hp->Prop)(h0:Pv 0 [] σ H)
  (hl:∀i zs σ H,i<=xs.length->Pv i zs σ H->aj K H a xs/\aj K H b ys/\zs.length<=i) (hz:xs.length<=sizeLine)
  (hs:∀i x y zs σ H T,xs[i]?=some x->ys[i]?=some y->Pv i zs σ H->H T=none->g (.ref T) σ (upd H T (.tup [x,y])) λσ2 H2=>tc σ2 H2 λb H3=>if b=true then te σ2 H3 λy H4=>Pv (i+1) (zs++[y]) σ2 H4 else Pv (i+1) zs σ2 H3)
  (hd:∀zs σ H,Pv xs.length zs σ H->∀D,H D=none->R zs H D) :
  ∃W:Nat->Nat->List V->St->Hp->Prop,(∃m,W 0 m [] σ H)/\∀i m zs σ H,W i m zs σ H ->
   ((u9 K a b).stop i H/\∀D,H D=none->R zs H D) \/
   ((u9 K a b).go i H/\zs.length<sizeLine/\∃ N:List V->St->Hp->Prop,(∀ xv σ' H',N xv σ' H'->∃ m',m'<m/\W (i+1) m' xv σ' H') /\ ∀x H',(u9 K a b).yld i H x H'->g x σ H' λσ2 H2=>tc σ2 H2 λb H3=>if b=true then te σ2 H3 λy H4=>N (zs++[y]) σ2 H4 else N zs σ2 H3):=by
 exists λi m zs σ H=>m=xs.length-i/\i<=xs.length/\Pv i zs σ H,⟨xs.length,by simp,bS _,h0⟩,?_;rintro i m zs σ H ⟨rfl,hi,p⟩;obtain⟨q1,q2,q3⟩:=hl i zs σ H hi p;by_cases bA:i<xs.length
 ·have GL:i<ys.length:=by lia
  refine .inr ⟨⟨xs,ys,xs[i],ys[i],q1,q2,by simp[bA],by simp[GL]⟩,(by lia),Pv (i+1),λdP σ' H' p'=>⟨xs.length-(i+1),by lia,rfl,bA,p'⟩,λx H' y=>?_⟩;obtain⟨T,u,v,hT,rfl,rfl,y1,y2⟩:=y;exact hs i u v zs σ _ T (y1 xs q1) (y2 ys q2) p hT
 ·have e:i=xs.length:=by lia
  subst e;exact .inl ⟨⟨xs,ys,q1,q2,.inl (aO _)⟩,hd zs σ H p⟩
end L2
namespace My
open PySem L2 OF
noncomputable def wd:Nat->Str
 |0 => "and"
 |1 => "or"
 |_ => "xor"
end My
namespace L2
open PySem PySem.Spec PyProof.Rows
section
variable{X:Cx}{e st lo:Expr}{te:TE}{tl to:TO}{p2 pos:Pos}
noncomputable def nq{α:Type}(c n:Nat)(xs:List α):List α:=(List.range n).filterMap λk=>xs[c+2*k]?
theorem LA(r:Vals xs us)(f:Nat->Nat):∀ks:List Nat,Vals (ks.filterMap λk=>xs[f k]?) (ks.filterMap λk=>us[f k]?)
 |[]=>.nil
 |k::ks=>by
  have ih:=LA r f ks;have hl:=r.length;cases h:xs[f k]? with
  |none =>
   have h2:us[f k]?=none:=by rw[List.getElem?_eq_none_iff]at h ⊢;lia
   rw[JK (f:=λk=>xs[f k]?) h,JK (f:=λk=>us[f k]?) h2];exact ih
  |some x =>
   obtain⟨u,hu,ru⟩:=r.get h;rw[OR (f:=λk=>xs[f k]?) h,OR (f:=λk=>us[f k]?) hu];exact .cons ru ih
def W3(c n:Nat)(hc:c<=n):sliceRange (c:Int) (n:Int) 2=(List.range ((n-c+1)/2)).map λk=>c+2*k:=by
 unfold sliceRange;have e:(if (2:Int)>0 then (if (c:Int)<(n:Int)then ((n:Int)-(c:Int)+2-1)/2 else 0)else (if (c:Int)>(n:Int)then ((c:Int)-(n:Int)-2-1)/(-2)else 0)).toNat=(n-c+1)/2:=by
  rw[aB (by decide)];split<;>lia
 simp only[e];exact xU λk _=>by lia
def SS(items:Array Value)(c:Nat)(hc:c<=items.size):slicePick items (some (c:Int)) none (some 2)=(nq c ((items.size-c+1)/2) items.toList).toArray:=by
 unfold slicePick;have e:sliceBounds (some (c:Int)) none (some 2) items.size=((c:Int),(items.size:Int),2):=by
  show ((if (2:Int)>0 then max 0 (min (if (c:Int)<0 then (c:Int)+items.size else (c:Int)) items.size)else _),(if (2:Int)>0 then (items.size:Int)else -1),(2:Int))=_;have h1:max 0 (min (if (c:Int)<0 then (c:Int)+items.size else (c:Int)) items.size)=(c:Int):=by
   rw[ax (by lia)];lia
  rw[h1];rfl
 rw[e,W3 c items.size hc,List.filterMap_map];congr 1;unfold nq;congr 1
 funext k
 simp
def Y4(K:Frag)(te:TE)(tl to:TO):TE:=λσ H Q=>te σ H λx H1=>tl σ H1 λo1 H2=>to σ H2 λo H3=>o=some 2/\∃(c:Nat) (a:Addr) (xs:List V),o1=some (c:Int)/\x=.ref a/\aj K H3 a xs/\c<=xs.length /\
 ∀p,H3 p=none->Q (.ref p) (upd H3 p (.lst (nq c ((xs.length-c+1)/2) xs)))
def QO(he:PE X e te)(tY:PO X (some lo) tl)(bc:PO X (some st) to):PE X (.Subscript e (.Slice (some lo) none (some st) p2) pos) (Y4 X.K te tl to):=by
 intro ae s σ H Q I h;refine yI (aL (he ae s σ H _ I h) λv s1 ⟨x,H1,I1,r1,q1⟩=>?_);refine wpAny_Slice (aL (tY ae s1 σ H1 _ I1 q1) λvl s2 ⟨o1,H2,I2,pl,q2⟩=>?_);rw[FX];refine bL (aL (bc ae s2 σ H2 _ I2 q2) λvk s3 ⟨o,H3,I3,pk,q3⟩=>?_);obtain⟨rfl,c,a,xs,rfl,rfl,hx,hc,q⟩:=q3;cases r1;have I4:Inv X ae σ H3 {s3 with heap:=s3.heap.push {cls:=.type "slice",data:=.fields #[vl,.none,vk]}}:=I3.kept (t':=s3.toks) λb ob q=>dG _ q
 obtain⟨ah,r,ht,hz⟩:=I4.list hx;have aH:=r.length;show wpAny (model X.prog X.w) X.A (subscriptTail e (.Slice (some lo) none (some st) p2) (.ref a) (.ref s3.heap.objs.size)) (EP X ae σ Q) X.xe {s3 with heap:=s3.heap.push {cls:=.type "slice",data:=.fields #[vl,.none,vk]}};refine tail_any (ops:=[.ref a,.ref s3.heap.objs.size]) ht.isList.typeIs slot_list_getitem.lookup ?_ (by with_unfolding_all rfl);refine Qo ht.isList (Heap.IsSliceOf.new ..) pl .none pk (by simp) ?_ (by rw[cf];lia);rw[SS _ c (by rw[cf];lia)];exists .ref _,_,I4.laid (o:=.lst (nq c ((xs.length-c+1)/2) xs)) (t':=s3.toks) (λb ob q=>dG _ q) (aO _) ?_,rfl,q _ (I4.hok.fresh (aO _));exists ?_,nq c ((xs.length-c+1)/2) ah,0,LA r (λk=>c+2*k) _,?_
 ·unfold nq;refine aW (List.length_filterMap_le _ _) ?_;rw[oh];exact aW ((show ∀n c:Nat,(n-c+1)/2<=n by lia) _ _) hz
 ·rw[eI _ rfl,cf,<-aH]
end
end L2
namespace My
open PySem L2 OF
noncomputable def oJ(k:Nat)(o l:ar):ar:=iW k l++bC (gh k l) o
def vP(h0:∀t∈l,0<=t.1)(h:t∈gh k l):0<=t.1/\∃u∈l,t.2=u.2/\t.1=u.1-2^k/\fG k u=true:=by
 obtain⟨u,hu,rfl⟩:=bW.mp h;obtain⟨h1,h2⟩:=jd.mp hu
 have:=UH (h0 u h1) h2
 nomatch by show 0<=u.1-2^k;lia,u,h1,rfl,rfl,h2
def R6(h:t∈iW k l):t∈l/\fG k t=false:=by
 obtain⟨h1,h2⟩:=jd.mp h;exact⟨h1,by simpa using h2⟩
def R8{g k:Nat}{b:Bool}{l o:ar}(h:∀t∈l,0<=t.1)(ho:∀t∈o,0<=t.1)(hb:cR o (g:Int)=if b then 1 else 0):cR (oJ k o l) (g:Int)=cR l ((mi g k b:Nat):Int):=by
 unfold oJ;rw[BR,GA (λt ht=>(vP h ht).1) ho (gD _),hb,iD,iD,iD _ l,DI g k b h];cases b<;>simp
open PySem L2 OF
noncomputable def sf(m:Int)(f:ar):ar:=f.filter λt=>decide (t.2%m≠0)
noncomputable def zH:ar->V
 |[]=>.non
 |t::_=>.int t.1
open PySem L2 OF
def d8(H:Hp):List Addr->List ar->Prop:=Paired λp f=>aI H p f
def d8.length(h:d8 H ps l):ps.length=l.length:=er h
def d8.keep(h:d8 H ps l)(k:af H H'):d8 H' ps l:=Paired.mapP h λp t e=>e.keep k
theorem d8.snoc:∀{H:Hp}{ps:List Addr}{l:List ar}{p:Addr}{t:ar},d8 H ps l->aI H p t->d8 H (ps++[p]) (l++[t])
 |_,_,_,_,_,.nil,e=>.cons e .nil
 |_,_,_,_,_,.cons x r,e=>.cons x (d8.snoc r e)
def RA(H:Hp)(a:Addr)(l:List ar):Prop:=∃ps:List Addr,H a=some (.lst (ps.map V.ref))/\d8 H ps l
noncomputable def gi(w:Nat)(l o:ar):ar:=if w=0 then bC l o else (l++o)++(bC l o).map λt=>(t.1,t.2*(if w=1 then -1 else -2))
noncomputable def vh(l:ar):ar:=[(0,1)]++l.map λt=>(t.1,-t.2)
theorem CD(t:Int×Int)(j:Int):∀m:ar,aQ (d4 t m) j=t.2*bR (λi=>if Builtin.bitOr t.1 i=j then 1 else 0) m
 |[]=>by simp[d4,aQ,bR]
 |u::m=>by
  have ih:=CD t j m;unfold d4 at *;rw[bU];simp only[aQ,bR];rw[ih,za];by_cases h:Builtin.bitOr t.1 u.1=j
  ·rw[aB h,aB h];simp
  ·rw[ax h,ax h];simp
theorem C2(h:∀j,aQ m j=aQ m' j)(j:Int):∀l:ar,aQ (bC l m) j=aQ (bC l m') j
 |[]=>rfl
 |t::l=>by
  have ih:=C2 h j l;show aQ (d4 t m++bC l m) j=aQ (d4 t m'++bC l m') j;rw[cO,cO,ih,CD,CD,ND _ h]
def LO(hf:IsForm f)(hk:∀t∈f,0<=t.1/\t.1<2^M):f.length<=2^M:=by
 have pw:((2:Int)^M)=((2^M:Nat):Int):=by norm_cast
 have h1:=sZ (JF hf) (B:=(List.range (2^M)).map λk:Nat=>(k:Int)) λx hx=>by
  obtain⟨t,ht,rfl⟩:=bW.mp hx
  have:=hk t ht
  exact bW.mpr ⟨t.1.toNat,pL.mpr (by lia),gF this.1⟩
 simpa using h1
theorem d8.keepU{H:Hp}{D:Addr}{xs:List V}{o:HO}(hD:H D=some (.lst xs)):∀{ps:List Addr}{l:List ar},d8 H ps l->D∉ps->d8 (upd H D o) ps l
 |_,_,.nil,_=>.nil
 |_,_,.cons e r,h=>by
  refine .cons ?_ (d8.keepU hD r λz=>h (eJ _ z));obtain⟨qs,h1,h2⟩:=e;exact⟨qs,by rw[aJ (λz=>h (by rw[z];exact ng ..))];exact h1,h2.keep λb zs z=>by rw[aJ (QB z hD (by intro w;cases w))];exact z⟩
open PySem L2 OF
def Cn{l:ar}{U:Nat}(h0:∀t∈l,0<=t.1)(hU:∀j,(cy l 0).testBit j=true->U.testBit j=true):∀t∈l,0<=t.1/\t.1<2^intBits (U:Int):=λt ht=>by
 exists h0 t ht,?_;have h1:t.1.toNat<2^intBits (U:Int):=by
  refine AO _ λj hj=>?_
  cases e:t.1.toNat.testBit j
  ·rfl
  ·have h2:=hU j ((Hz l 0 j).mpr (.inr ⟨t,ht,e⟩));rw[uX (dH (C3 U) (dX (by decide) hj))]at h2;cases h2
 have pw:((2:Int)^intBits (U:Int))=((2^intBits (U:Int):Nat):Int):=by norm_cast
 have:=h0 t ht
 lia
open PySem L2 OF
def zcu(K:Frag):Sp:=λvs H Q _=>∃(a:Addr) (ns:List Int) (k:Nat),vs=[.ref a,.int (k:Int)]/\aj K H a (ns.map V.int)/\Q (.int (ns.getD k 0)) H
def Wz:Sp:=λvs H Q _=>∃c k:Int,vs=[.int c,.int k] /\ -(2^64)<k/\k<2^64/\∀r,0<=r->r<2147483587->Q (.int r) H
end My
namespace L2
open PySem PySem.Spec PyProof.Rows
section
variable{X:Cx}{e st lo hi:Expr}{te:TE}{tl th to:TO}{p2 pos:Pos}
theorem Hc:∀{bs:List Bool}{us:List Value},Vals (bs.map V.bl) us->∀(i:Nat) (v:Value),us[i]?=some v->∃b,bs[i]?=some b/\v=.bool b
 |[],us,r,i,v,h=>by rw[nR]at r;cases r;simp at h
 |b::bs,us,r,i,v,h=>by
  rw[bU]at r;cases r with
  |cons r1 r2 =>
   cases i with
   |zero =>
    have e:_=v:=dN h;subst e;nomatch b,rfl,r1
   |succ i=>exact Hc r2 i v h
def Ng(hc:X.calm=true):jq X (.builtin "all") (λxs H Q=>∃(a:Addr) (bs:List Bool),xs=[.ref a]/\aj X.K H a (bs.map V.bl)/\Q (.bl (bs.all id)) H):=by
 intro ae s σ H xs us Q I r h;obtain⟨a,bs,rfl,hq,q⟩:=h;obtain⟨u,rfl,ru⟩:=jz r;cases (show u=Value.ref a from ru);obtain⟨ah,rv,p,hz⟩:=I.list hq;have hl:=p.isList;have bA:a<s.heap.objs.size:=by obtain⟨_,e,_⟩:=hl;exact bB e
 have hh:=I.ok.hd hc;refine call_all_walk (Bt hl ?_);refine⟨s.heap.objs.size,[s.heap.objs.size,a],[s.heap.objs.size],ah.toArray.size,_,_,λi=>(bs[i]?).getD true,rfl,Walks.list (A:=X.A.in1) hh _ a (d5 bA) ah.toArray,⟨⟨_,eI _ rfl,rfl,rfl⟩,hl.push _⟩,λi v s' Q' E' hP hQ=>?_,λh' tk hk=>?_⟩
 ·obtain⟨b,e,rfl⟩:=Hc rv i v (by simpa using hP);simp only[e,AD]at hQ;exact lq hQ
 ·have e:((List.range ah.toArray.size).all λi=>(bs[i]?).getD true)=bs.all id:=by
   have h1:=rv.length;rw[av]at h1;rw[cf,<-h1];rw[qD,jf,jf];constructor
   ·intro z b hb;obtain⟨i,hi,rfl⟩:=List.getElem_of_mem hb
    have:=z i (pL.mpr hi)
    simpa [eC hi] using this
   ·intro z i hi;have ir:=pL.mp hi;simp only[eC ir,AD];exact z _ (jH ir)
  rw[e];exists .bl (bs.all id),H,I.kept (t':=tk) (λb o e=>hk b o (λhm=>?_) (dG _ e)),rfl,q;rw[bu.mp hm]at e;exact oH _ (bB e)
end
open PySem PySem.Spec PyProof.Rows
section
variable{X:Cx}
def RE (hc:X.calm=true):jq X (.builtin "sorted") (fun xs H Q=>∃ (a:Addr) (ns:List Int),xs=[.ref a]/\aj X.K H a (ns.map V.int)/\ns.length<64 /\ ∀(l:Addr) (iF:List Int),H l=none->iF.Perm ns->iF.Pairwise (· <= ·)->Q (.ref l) (upd H l (.lst (iF.map V.int)))):=by
 intro ae s σ H xs us Q I r h;obtain⟨a,ns,rfl,hq,CI,q⟩:=h;obtain⟨u,rfl,ru⟩:=jz r;cases (show u=Value.ref a from ru);obtain⟨ah,rv,p,hz⟩:=I.list hq;have hi:=BE rv;have aH:=rv.length;rw[av]at aH;refine sorted_ints p.isList hi (by lia) λout iF a1 a2 a3=>?_
 have hsz:((s.heap.push (seqObj "list" #[] 0)).update s.heap.objs.size (Obj.mapSeq (· ++ ah.toArray))).objs.size=s.heap.objs.size+1:=by
  rw[Heap.size_update,size_push']
 have qZ:(((s.heap.push (seqObj "list" #[] 0)).update s.heap.objs.size (Obj.mapSeq (· ++ ah.toArray))).push (seqObj "list" ah.toArray 0)).get? (s.heap.objs.size+1)=some (seqObj "list" ah.toArray 0):=by
  rw[<-hsz];exact eI _ rfl
 have keep:∀b o,s.heap.get? b=some o->(sortedAll s.heap ah out).get? b=some o:=λb o e=>by
  have bA:b<s.heap.objs.size:=bB e;unfold sortedAll;rw[sortedHeap_old (d5 (wQ bA)) (by rw[size_push',hsz];exact wQ (wQ bA))];rw[Heap.get?_push_ne _ _ _ (by rw[hsz];exact d5 (wQ bA)),Heap.get?_update_ne _ _ _ _ (d5 bA),Heap.get?_push_ne _ _ _ (d5 bA)];exact e
 have nD:s.heap.get? (s.heap.objs.size+1)=none:=ze (BY _);obtain⟨ee,CQ⟩:=sortedHeap_at (out:=out) qZ;have GU:H (s.heap.objs.size+1)=none:=by
  cases e:H (s.heap.objs.size+1)with
  |none=>rfl
  |some o=>obtain⟨ob,e'⟩:=(I.hok _ _ e).there;rw[nD]at e';cases e'
 have qH:Vals (iF.map V.int) out.toList:=zP a1;have jh:iF.length=ns.length:=a2.length_eq;nomatch .ref (s.heap.objs.size+1),_,I.laidN (o:=.lst (iF.map V.int)) (t':=s.toks) keep nD ⟨by rw[av,jh];exact cj (px CI (by decide)),out.toList,ee,qH,by simpa [sortedAll] using CQ⟩,rfl,q _ iF GU a2 a3
end
end L2
namespace My
open PySem L2 OF
noncomputable def cV(ls:List Nat):List V:=ls.map λy:Nat=>V.int (y:Int)
def mD(K:Nat):((2:Int)^K)=((2^K:Nat):Int):=by norm_cast
noncomputable def HV(l:ar):ar:=l.map λt=>(t.1,-t.2)
def Ry(g:Int)(l:ar):cR (HV l) g = - cR l g:=by
 rw[iD,iD];induction l with
 |nil=>rfl
 |cons t r ih =>
  show gK g t.1 * -t.2+bR (gK g) (HV r) = -(gK g t.1*t.2+bR (gK g) r);rw[ih,Int.mul_neg];lia
def Wx{x:Nat}{ls:List Nat}:gf (.int (x:Int)) (ls.map λy:Nat=>V.int (y:Int))=decide (x∈ls):=by
 unfold gf;rw[qD,xN,decide_eq_true_iff];constructor
 ·rintro⟨y,hy,e⟩;obtain⟨z,hz,rfl⟩:=bW.mp hy
  have:(z:Int)=(x:Int):=by simpa [jA] using e
  have:z=x:=by lia
  rw[<-this];exact hz
 ·intro h;exact⟨_,bW.mpr ⟨x,h,rfl⟩,by simp[jA]⟩
def Y7(ls:List Nat):(ls.map λy:Nat=>V.int (y:Int)).all l9=true:=by
 rw[jf];intro y hy;obtain⟨z,_,rfl⟩:=bW.mp hy;rfl
open PySem L2 OF
inductive Sm where
 |bit (k:Nat)|fix (b:Int)|no (s:Sm)|two (w:Nat) (s t:Sm)
noncomputable def Sm.d:Sm->D
 |.bit k=>.tup [.str "bit",.int (k:Int)]
 |.fix b=>.tup [.str "fix",.int b]
 |.no s=>.tup [.str "not",s.d]
 |.two w s t=>.tup [.str (wd w),s.d,t.d]
noncomputable def Sm.dp:Sm->Nat
 |.bit _=>0
 |.fix _=>0
 |.no s=>s.dp+1
 |.two _ s t=>max s.dp t.dp+1
def Sm.ok(P:Nat->Prop):Sm->Prop
 |.bit k=>P k
 |.fix b=>b=0\/b=1
 |.no s=>s.ok P
 |.two w s t=>w<3/\s.ok P/\t.ok P
theorem Sm.ok.imp(f:∀k,P k->R k):∀{s:Sm},s.ok P->s.ok R
 |.bit k,h=>f k h
 |.fix _,h=>h
 |.no s,h=>Sm.ok.imp (s:=s) f h
 |.two w s t,h=>⟨h.1,Sm.ok.imp f h.2.1,Sm.ok.imp f h.2.2⟩
def yR:Is H v (.tup [d,e])->∃p x y,v=.ref p/\H p=some (.tup [x,y])/\Is H x d/\Is H y e:=λh=>by
 unfold Is at h;obtain⟨p,xs,rfl,h1,h2⟩:=h;unfold ba at h2;obtain⟨x0,r0,rfl,h3,h4⟩:=h2;unfold ba at h4;obtain⟨x1,r1,rfl,h5,h6⟩:=h4;unfold ba at h6;subst h6;nomatch p,x0,x1,rfl,h1,h3,h5
def YT:Is H v (.tup [d,e,f])->∃p x y z,v=.ref p/\H p=some (.tup [x,y,z])/\Is H x d/\Is H y e/\Is H z f:=λh=>by
 unfold Is at h;obtain⟨p,xs,rfl,h1,h2⟩:=h;unfold ba at h2;obtain⟨x0,r0,rfl,h3,h4⟩:=h2;unfold ba at h4;obtain⟨x1,r1,rfl,h5,h6⟩:=h4;unfold ba at h6;obtain⟨x2,r2,rfl,h7,h8⟩:=h6;unfold ba at h8;subst h8;nomatch p,x0,x1,x2,rfl,h1,h3,h5,h7
def iG(h:H p=some (.tup [x,y]))(h1:Is H x d)(h2:Is H y e):Is H (.ref p) (.tup [d,e]):=by
 unfold Is;exists p,_,rfl,h,?_;unfold ba;exists _,_,rfl,h1,?_;unfold ba;exists _,_,rfl,h2,?_;unfold ba;rfl
def xh(h:H p=some (.tup [x,y,z]))(h1:Is H x d)(h2:Is H y e)(h3:Is H z f):Is H (.ref p) (.tup [d,e,f]):=by
 unfold Is;exists p,_,rfl,h,?_;unfold ba;exists _,_,rfl,h1,?_;unfold ba;exists _,_,rfl,h2,?_;unfold ba;exists _,_,rfl,h3,?_;unfold ba;rfl
def cC:Is H v (.str x)↔v=.str x:=by unfold Is;exact Iff.rfl
def kO:Is H v (.int x)↔v=.int x:=by unfold Is;exact Iff.rfl
def mr(h:Is H v (Sm.bit k).d):∃p,v=.ref p/\H p=some (.tup [.str "bit",.int (k:Int)]):=by
 obtain⟨p,x,y,rfl,h1,h2,h3⟩:=yR h;rw[cC]at h2;rw[kO]at h3;subst h2 h3;nomatch p,rfl,h1
def mO(h:Is H v (Sm.fix b).d):∃p,v=.ref p/\H p=some (.tup [.str "fix",.int b]):=by
 obtain⟨p,x,y,rfl,h1,h2,h3⟩:=yR h;rw[cC]at h2;rw[kO]at h3;subst h2 h3;nomatch p,rfl,h1
def lY(h:Is H v (Sm.no s).d):∃p x,v=.ref p/\H p=some (.tup [.str "not",x])/\Is H x s.d:=by
 obtain⟨p,x,y,rfl,h1,h2,h3⟩:=yR h;rw[cC]at h2;subst h2;nomatch p,y,rfl,h1,h3
def lU(h:Is H v (Sm.two w s t).d):∃p x y,v=.ref p/\H p=some (.tup [.str (wd w),x,y])/\Is H x s.d/\Is H y t.d:=by
 obtain⟨p,x,y,z,rfl,h1,h2,h3,h4⟩:=YT h;rw[cC]at h2;subst h2;nomatch p,y,z,rfl,h1,h3,h4
theorem gS(k:∀p xs,H p=some (.tup xs)->H' p=some (.tup xs)):∀{s:Sm}{v:V},Is H v s.d->Is H' v s.d
 |.bit j,v,h=>by obtain⟨p,rfl,h1⟩:=mr h;exact iG (k _ _ h1) (cC.mpr rfl) (kO.mpr rfl)
 |.fix j,v,h=>by obtain⟨p,rfl,h1⟩:=mO h;exact iG (k _ _ h1) (cC.mpr rfl) (kO.mpr rfl)
 |.no s,v,h=>by obtain⟨p,x,rfl,h1,h2⟩:=lY h;exact iG (k _ _ h1) (cC.mpr rfl) (gS k h2)
 |.two w s t,v,h=>by obtain⟨p,x,y,rfl,h1,h2,h3⟩:=lU h;exact xh (k _ _ h1) (cC.mpr rfl) (gS k h2) (gS k h3)
def zj{H:Hp}{l:Addr}{xs:List V}{o:HO}{s:Sm}{v:V}(h:Is H v s.d)(hl:H l=some (.lst xs)):Is (upd H l o) v s.d:=gS (λp ys e=>by
 have dZ:p≠l:=λz=>by rw[z,hl]at e;cases e
 rw[aJ dZ];exact e) h
theorem EO:∀(ls ks:List Nat),ks.Nodup->(∀k∈ks,∀j,k.testBit j=true->j∈ls)->ks.length<=2^ls.length
 |[],ks,hn,h=>by
  have h0:∀k∈ks,k=0:=λk hk=>o9 λj=>by
   cases e:k.testBit j
   ·simp
   ·exact absurd (h k hk j e) (by simp)
  match ks,hn,h0 with
  |[],_,_=>exact bS _
  |[_],_,_=>exact aO _
  |a::b::r,hn,h0 =>
   have h1:=h0 a (by simp);have h2:=h0 b (by simp);rw[jB]at hn;exact absurd (by rw[h1,h2];simp) hn.1
 |x::r,ks,hn,h=>by
  have hA:(ks.filter λk=>k.testBit x).length<=2^r.length:=by
   have:=EO r ((ks.filter λk=>k.testBit x).map λk=>k-2^x) (by
    rw[List.Nodup,zN];refine (hn.filter _).imp_of_mem fun {a b} ha hb j8 z=>j8 ?_
    have h1:=we (jd.mp ha).2;have h2:=we (jd.mp hb).2;omega) (λk hk j hj=>by
     obtain⟨k',nj,rfl⟩:=bW.mp hk;have eE:=jd.mp nj;rw[yg eE.2]at hj;have jm:k'.testBit j=true/\j≠x:=by simpa using hj
     rcases aZ.mp (h k' eE.1 j jm.1)with z|z
     ·exact absurd z jm.2
     ·exact z)
   rw[av]at this;exact this
  have hB:(ks.filter λk => !k.testBit x).length<=2^r.length:=EO r _ (hn.filter _) λk hk j hj=>by
   have eE:=jd.mp hk;rcases aZ.mp (h k eE.1 j hj)with z|z
   ·subst z;have:=eE.2;rw[hj]at this;cases this
   ·exact z
  have hs:∀l:List Nat,l.length=(l.filter λk=>k.testBit x).length+(l.filter λk => !k.testBit x).length:=λl=>by
   induction l with
   |nil=>rfl
   |cons a l ih =>
    rw[mW,mW,br,ih];cases a.testBit x<;>simp<;>lia
  rw[br,jU,hs ks];lia
def Yl{ls:List Nat}{x:Nat}(h:ls.length<16):∃m,(x+5*m)%16∉ls:=by
 by_cases z:∃m,(x+5*m)%16∉ls
 ·exact z
 ·exfalso;have iZ:∀m,(x+5*m)%16∈ls:=λm=>Classical.byContradiction λw=>z ⟨m,w⟩
  have Nx:∀y∈List.range 16,y∈ls:=λy hy=>by
   have Lg:=pL.mp hy;have h1:=iZ (13*(y+15*x));have e:(x+5*(13*(y+15*x)))%16=y:=by lia
   rw[e]at h1;exact h1
  have:=sZ (l:=(List.range 16).map λy:Nat=>(y:Int)) (B:=ls.map λy:Nat=>(y:Int)) (List.nodup_range.map (λy:Nat=>(y:Int)) (λa b h z=>h (Int.ofNat.inj z))) λx hx=>by
   obtain⟨y,hy,rfl⟩:=bW.mp hx;exact bW.mpr ⟨y,Nx y hy,rfl⟩
  rw[av,av,oh]at this;lia
def tG:(wd w ≠ "bit")/\(wd w ≠ "fix")/\(wd w ≠ "not"):=by
 match w with
 |0=>decide
 |1=>decide
 |n+2=>show ("xor" : Str) ≠ "bit" /\ ("xor" : Str) ≠ "fix" /\ ("xor" : Str) ≠ "not";decide
def NC{j:Nat}(h:j<3):di [V.str "and",V.str "or",V.str "xor"] (j:Int)=some (V.str (wd j)):=by
 obtain rfl|rfl|rfl:j=0\/j=1\/j=2:=by lia
 ·rfl
 ·rfl
 ·rfl
end My
namespace L2
open PySem PySem.Spec PyProof.Rows
noncomputable def xP(K:Frag)(a:Addr)(n:Nat):It :=
 ⟨λi H=>∃xs x,aj K H a xs/\i<n/\xs[n-1-i]?=some x,λi H x H'=>H'=H/\∀xs,aj K H a xs->xs[n-1-i]?=some x,λi _=>n<=i⟩
def zal{P:Program}{w:World}{K:Frag}{tg:Expr}(a it:Addr)(n:Nat) :
  nG P w K tg (xP K a n) [it] it (λi h=>i<=n/\h.IsRevIter it a ((n:Int)-1-(i:Int))) where
 mem:=bu.mpr rfl
 obj:=λi h st b hb=>by
  obtain⟨_,o,e,c,d⟩:=st;rw[bu.mp hb];exact⟨o,e,λv z=>by rw[d]at z;cases z⟩
 keep:=λi h h' st k=>⟨st.1,st.2.at (k it (bu.mpr rfl))⟩
 item:=by
  intro X hP hw hK hc i ae s σ H E I hf st hg;subst hP hw hK;obtain⟨xs,x,hq,hi,hx⟩:=hg;obtain⟨ah,rv,p,_⟩:=I.list hq;obtain⟨u,hu,ru⟩:=rv.get hx;have fo:=hf it (bu.mpr rfl);have hit:=st.2;rw[show (n:Int)-1-(i:Int)=((n-1-i:Nat):Int) by omega]at hit;refine wpAny_pyNext_rev_item hit p.isList (x:=u) (by simpa using hu) λh' cu sb=>?_
  have J:Inv X ae σ H {s with heap:=h'}:=I.turned (t':=s.toks) (λb o hb z=>(sb.2 b hb).trans z) fo.1 fo.2.1 fo.2.2.2.1 fo.2.2.2.2.1 fo.2.2.2.2.2;rw[show ((n-1-i:Nat):Int)-1=(n:Int)-1-((i+1:Nat):Int) by omega]at cu;have mf:=cu;obtain⟨o,z1,z2,z3⟩:=cu;nomatch u,rfl,xG (s:={s with heap:=h'}) z1 z2 z3 (by decide) ⟨x,H,J,ru,⟨rfl,λys hy=>by rw[I.list_inj hy hq];exact hx⟩,⟨hi,mf⟩,λb hb=>(hf b hb).1⟩
 done:=by
  intro X hP hw hK hc i ae s σ H E I hf st hg;subst hP hw hK;have fo:=hf it (bu.mpr rfl);have hn:n<=i:=hg;have hit:=st.2;have hle:=st.1;rw[show (n:Int)-1-(i:Int) = -1 by lia]at hit;exact wpAny_pyNext_rev_end (I.ok.hd hc) hit λh' eb=>⟨rfl,I.turned (t':=s.toks) (λb o hb z=>eb b o hb z) fo.1 fo.2.1 fo.2.2.2.1 fo.2.2.2.2.1 fo.2.2.2.2.2⟩
 self:=λ_ _ _ _ _ st h=>wpAny_pyIter_revIter st.2 h
def zbQ(K:Frag)(ta:TA):TI:=λσ H R=>ta σ H λvs H1=>∃a xs,vs=[.ref a]/\aj K H1 a xs/\R (xP K a xs.length) H1
def zaf{X:Cx}{tg a:Expr}{ta:TA}{p pos:Pos}(hg:Gl X "reversed")(hm:X.mg "reversed" = none)(ha:PA X [a] ta)(hs:starEach [a] X.env=[(false,eval a X.env)]:=by rfl) :
  PI X tg (.Call (.Name "reversed" p) [a] [] pos) (zbQ X.K ta):=by
 intro ae s σ H R I h;refine Call_ (pZ I hg hm boot_reversed (uu (aL (ha pos ae s σ H _ I h) λus s1 ⟨vs,H1,I1,r1,q1⟩=>?_) hs rfl));obtain⟨l,xs,rfl,hq,q⟩:=q1;obtain⟨u,rfl,ru⟩:=Vals.one r1;cases (show u=Value.ref l from ru);obtain⟨ah,rx,p,hz⟩:=I1.list hq;have gN:=rx.length;refine call_reversed_list p.isList (wpAny_pyIter_revIter (it:=s1.heap.objs.size) (l:=l) (i:=((ah.toArray.size:Nat):Int)-1) ⟨_,eI _ rfl,rfl,rfl⟩ ?_);exists s1.heap.objs.size,[s1.heap.objs.size],_,_,H1,rfl,I1.kept (t':=s1.toks) λb o e=>dG _ e,zal l _ xs.length,⟨bS _,?_⟩,λb hb=>?_,q
 ·rw[show ((xs.length:Nat):Int)-1-((0:Nat):Int)=((ah.toArray.size:Nat):Int)-1 by rw[cf,gN];simp];nomatch _,eI _ rfl,rfl,rfl
 ·rw[bu.mp hb];exact I1.fpOk (aO _) (I1.hok.fresh (aO _))
def YN{K:Frag}{a:Addr}{xs:List V}{g:TG}{tb:TS}{D:ky}{σ:St}{H:Hp}(Pv:Nat->St->Hp->Prop)(h0:Pv 0 σ H)(hl:∀i σ H,i<=xs.length->Pv i σ H->aj K H a xs)
  (hs:∀i x σ H,xs.reverse[i]?=some x->Pv i σ H->g x σ H λσ2 H2=>tb {D with nx:=Pv (i+1),ct:=Pv (i+1),bk:=D.nx} σ2 H2) (hd:∀σ H,Pv xs.length σ H->D.nx σ H) :
  ∃W:Nat->Nat->St->Hp->Prop,(∃m,W 0 m σ H)/\∀i m σ H,W i m σ H ->
   ((xP K a xs.length).stop i H/\D.nx σ H)\/((xP K a xs.length).go i H/\∃N:St->Hp->Prop,(∀σ' H',N σ' H'->∃m',m'<m/\W (i+1) m' σ' H')/\∀x H',(xP K a xs.length).yld i H x H'->g x σ H' λσ2 H2=>tb {D with nx:=N,ct:=N,bk:=D.nx} σ2 H2):=by
 exists λi m σ H=>m=xs.length-i/\i<=xs.length/\Pv i σ H,⟨xs.length,by simp,bS _,h0⟩,λi m σ H ⟨em,hi,p⟩=>?_;subst em;have q:=hl i σ H hi p;rcases uo i xs.length with bA|K8
 ·have hb:xs.length-1-i<xs.length:=by omega
  refine .inr ⟨⟨xs,xs[xs.length-1-i],q,bA,eC hb⟩,Pv (i+1),λσ' H' p'=>⟨xs.length-(i+1),by lia,rfl,bA,p'⟩,λx H' y=>?_⟩;rw[y.1];exact hs i x σ H (by rw[List.getElem?_reverse bA];exact y.2 xs q) p
 ·have e:i=xs.length:=by lia
  rw[e]at p;exact .inl ⟨K8,hd σ H p⟩
def Uw(K:Frag):V->List V->Hp->VK->Prop:=λx vs H Q=>∃l b xs zs,x=.ref l/\vs=[.ref b]/\H l=some (.lst xs)/\ay K H b zs/\xs.length+zs.length<=sizeLine/\Q .non (upd H l (.lst (xs++zs)))
def zcp{prog:Program}{w:World}{A:Around}{E:Value->Shared->Prop}{s:Shared}{l b:Addr}{ah fg:List Value}{n:Nat}{Q:Value->Shared->Prop}
  (e:s.heap.get? l=some {cls:=.type "list",data:=.seq ah.toArray n}) (hb:IsTup s.heap b fg.toArray) (hz:ah.length+fg.length<=sizeLine)
  (h:Q .none {s with heap:=s.heap.update l (Obj.mapSeq λx=>x++fg.toArray)}):wpAny (model prog w) A (call (.builtin "list.extend") [.ref l,.ref b]) Q E s:=by
 obtain⟨o,ho,hc,k,hd⟩:=hb;refine rV F.slot_list_extend ⟨_,e,rfl⟩ F.entry_list_extend ?_ (F.args_list_extend_2 _ _);unfold Builtin.«list.extend»;refine aF (wpAny_of_eq (a:=(Value.ref l,Value.ref b)) rfl ?_);dsimp only;unfold Builtin.List.listExtendWith;refine aF (wpAny_typeOf (T := "tuple") ⟨o,ho,hc⟩ ?_);rw[aB (by rw[show (Value.type "tuple" == Value.type "tuple")=true by decide+kernel,Bool.or_true])];refine aF (wpAny_listItems ho hd ?_);refine aF (wpAny_listItems e rfl ?_);have Wk:¬(!ah.toArray.isEmpty&&Builtin.List.listTooLong (ah.toArray.size+fg.toArray.size))=true:=by
  rw[Va (by rw[cf,cf];exact hz),tQ];exact dJ
 rw[ax Wk];refine aF ?_;show wpAny _ _ (updateSeq l _) _ _ _;refine wpAny_updateSeq e rfl ?_ (by rw[cf];lia) (by rw[Array.size_append,cf,cf];lia);exact bL ⟨_,rfl,h⟩
def zcm{X:Cx}:ip X "list.extend" (Uw X.K):=by
 intro ae s σ H x vs v us Q I rx rv h;obtain⟨l,b,xs,zs,rfl,rfl,hH,hB,hz,q⟩:=h;cases rx;obtain⟨u,rfl,ru⟩:=rv.one;cases ru;obtain⟨z,ah,n,r,hl,e⟩:=I.lstM hH;obtain⟨fg,r2,pl,_⟩:=I.tuple hB;have jL:=r2.length;refine zcp e pl (by lia) ⟨.non,_,I.lset (its':=ah++fg) hH e (by simp) (r.append r2) ?_,rfl,q⟩;rw[aS];exact hz
end L2
namespace My
open PySem L2 OF
noncomputable def Sm.sz:Sm->Nat
 |.bit _=>1
 |.fix _=>1
 |.no s=>s.sz+1
 |.two _ s t=>s.sz+t.sz+1
noncomputable def Sm.pre:Sm->List Sm
 |.bit k=>[.bit k]
 |.fix b=>[.fix b]
 |.no s=>.no s::s.pre
 |.two w s t=>.two w s t::(t.pre++s.pre)
theorem Sm.pre_len:∀s:Sm,s.pre.length=s.sz
 |.bit _=>rfl
 |.fix _=>rfl
 |.no s=>by show s.pre.length+1=s.sz+1;rw[pre_len s]
 |.two w s t=>by show (t.pre++s.pre).length+1=s.sz+t.sz+1;rw[aS,pre_len s,pre_len t];lia
theorem Sm.sz_pos:∀s:Sm,0<s.sz
 |.bit _=>Nat.one_pos
 |.fix _=>Nat.one_pos
 |.no s=>Nat.succ_pos _
 |.two w s t=>Nat.succ_pos _
theorem Sm.sz_dp:∀s:Sm,s.sz+1<=2^(s.dp+1)
 |.bit _=>aO _
 |.fix _=>aO _
 |.no s=>by
  have:=sz_dp s
  show s.sz+1+1<=2^(s.dp+1+1);rw[jU]
  have:=sz_pos s
  lia
 |.two w s t=>by
  have h1:=sz_dp s;have h2:=sz_dp t;have k1:2^(s.dp+1)<=2^(max s.dp t.dp+1):=dX (by decide) (by lia);have k2:2^(t.dp+1)<=2^(max s.dp t.dp+1):=dX (by decide) (by lia);show s.sz+t.sz+1+1<=2^(max s.dp t.dp+1+1);rw[jU];lia
def Ws(st:List Sm):Sm->List Sm->Prop
 |.bit k,cu=>cu=st++[.bit k]
 |.fix b,cu=>cu=st++[.fix b]
 |.no s,cu=>∃a,st=a++[s]/\cu=a++[.no s]
 |.two w s t,cu=>∃a,st=a++[s,t]/\cu=a++[.two w s t]
def rm(fin:List Sm):List Sm->List Sm->Prop
 |st,[]=>st=fin
 |st,p::L=>∃cu,Ws st p cu/\rm fin cu L
theorem yC:∀(s:Sm) (st L:List Sm),rm fin (st++[s]) L->rm fin st (s.pre.reverse++L)
 |.bit k,st,L,h=>⟨_,rfl,h⟩
 |.fix b,st,L,h=>⟨_,rfl,h⟩
 |.no s,st,L,h=>by
  show rm fin st ((Sm.no s::s.pre).reverse++L);rw[A0,fZ];exact yC s st _ ⟨_,⟨st,rfl,rfl⟩,h⟩
 |.two w s t,st,L,h=>by
  show rm fin st ((Sm.two w s t::(t.pre++s.pre)).reverse++L);rw[A0,qk,fZ,fZ];exact yC s st _ (yC t _ _ ⟨_,⟨st,by rw[fZ];rfl,rfl⟩,h⟩)
abbrev fm(G:Hp):List V->List Sm->Prop:=Paired λx s=>Is G x s.d
theorem fm.snoc:∀{G:Hp}{xs:List V}{l:List Sm}{x:V}{s:Sm},fm G xs l->Is G x s.d->fm G (xs++[x]) (l++[s])
 |_,_,_,_,_,.nil,h=>.cons h .nil
 |_,_,_,_,_,.cons e r,h=>.cons e (fm.snoc r h)
theorem fm.last:∀{G:Hp}{xs:List V}{l:List Sm},fm G xs l->xs≠[]->∃ys y m s,xs=ys++[y]/\l=m++[s]/\fm G ys m/\Is G y s.d
 |_,_,_,.nil,h=>absurd rfl h
 |_,_,_,.cons (l₁:=[]) e .nil,h=>⟨[],_,[],_,rfl,rfl,.nil,e⟩
 |G,x::y::xs,s::l,.cons e r,h=>by
  obtain⟨ys,z,m,t,e1,e2,h1,h2⟩:=fm.last r (by simp);rw[e1,e2];nomatch x::ys,z,s::m,t,rfl,rfl,.cons e h1,h2
theorem fm.rev:∀{G:Hp}{xs:List V}{l:List Sm},fm G xs l->fm G xs.reverse l.reverse
 |_,_,_,.nil=>.nil
 |_,_,_,.cons e r=>by rw[A0,A0];exact (fm.rev r).snoc e
theorem fm.at:∀{G:Hp}{xs:List V}{l:List Sm}{i:Nat}{x:V},fm G xs l->xs[i]?=some x->∃s,l[i]?=some s/\Is G x s.d
 |_,_,_,_,_,.nil,h=>by cases h
 |_,_,_,0,_,.cons e r,h=>by cases h;nomatch _,rfl,e
 |_,_,_,i+1,_,.cons e r,h=>fm.at (i:=i) r h
theorem Hq:∀{a b:List α}{m:List β},Paired R (a++b) m->∃m1 m2,m=m1++m2/\Paired R a m1/\Paired R b m2
 |[],b,m,h=>⟨[],m,rfl,.nil,h⟩
 |x::a,b,y::m,.cons e r=>by
  obtain⟨m1,m2,rfl,h1,h2⟩:=Hq (a:=a) r;nomatch y::m1,m2,rfl,.cons e h1,h2
theorem pK:∀{a:List α}{m:List β}{x:α}{y:β},Paired R a m->R x y->Paired R (a++[x]) (m++[y])
 |_,_,_,_,.nil,h=>.cons h .nil
 |_,_,_,_,.cons e r,h=>.cons e (pK r h)
open PySem L2 OF
theorem vz:∀{m a b:List β}{l:List α},Paired R l (a++b)->∃l1 l2,l=l1++l2/\Paired R l1 a/\Paired R l2 b
 |m,[],b,l,h=>⟨[],l,rfl,.nil,h⟩
 |m,y::a,b,x::l,.cons e r=>by
  obtain⟨l1,l2,rfl,h1,h2⟩:=vz (m:=m) (a:=a) r;nomatch x::l1,l2,rfl,.cons e h1,h2
theorem Sm.pre_ok:∀{s:Sm},s.ok P->∀p∈s.pre,p.ok P
 |.bit k,h,p,hp=>by rw[bu.mp hp];exact h
 |.fix b,h,p,hp=>by rw[bu.mp hp];exact h
 |.no s,h,p,hp=>by
  rcases aZ.mp hp with rfl|z
  ·exact h
  ·exact Sm.pre_ok (s:=s) h p z
 |.two w s t,h,p,hp=>by
  rcases aZ.mp hp with rfl|z
  ·exact h
  ·rcases bF.mp z with z|z
   ·exact Sm.pre_ok h.2.2 p z
   ·exact Sm.pre_ok h.2.1 p z
def TX(w:Nat):gf (V.str (wd w)) [.str "and",.str "or",.str "xor"]=true:=by
 match w with
 |0=>decide
 |1=>decide
 |n+2=>show gf (V.str "xor") [.str "and",.str "or",.str "xor"]=true;decide
def q9(h:n+1<=2^21):n<sizeLine:=dH (Nat.lt_of_succ_le h) (by decide)
def Qi{s:Sm}(h:s.dp<=20):s.sz+1<=2^21:=aW s.sz_dp (dX (by decide) (by lia))
open PySem L2 OF
theorem L5:∀(r l d:ar),DictOf d l->∃d',DictOf d' (l++r)
 |[],l,d,h=>⟨d,by rw[iM];exact h⟩
 |p::r,l,d,h=>by
  have:=L5 r (l++[p]) _ (h.snoc p)
  rw[fZ]at this;exact this
def L4(l:ar):∃f,bf f l:=by
 obtain⟨d,hd⟩:=L5 l [] [] AE;exists _,zt (ks:=(d.map (·.1)).mergeSort λa b=>decide (a<=b)) hd (List.mergeSort_perm _ _) ?_
 have:=List.pairwise_mergeSort (le:=λa b:Int=>decide (a<=b)) (λa b c h1 h2=>by simp at *;lia) (λa b=>by simp;lia) (d.map (·.1))
 exact this.imp λh=>by simpa using h
end My
namespace L2
open PySem PySem.Spec PyProof.Rows
section
variable{X:Cx}
def Gy (hc:X.calm=true):jq X (.builtin "sorted") (fun xs H Q=>∃ (a:Addr) (kvs:List (bJ × V)) (ks:List Int),xs=[.ref a]/\H a=some (.dK kvs)/\kvs.map (·.1)=ks.map Sum.inl/\ks.length<64 /\ ∀(l:Addr) (lH:List Int),H l=none->lH.Perm ks->lH.Pairwise (· <= ·)->Q (.ref l) (upd H l (.lst (lH.map V.int)))):=by
 intro ae s σ H xs us Q I r h;obtain⟨a,kvs,ks,rfl,hH,JW,CI,q⟩:=h;obtain⟨u,rfl,ru⟩:=jz r;cases (show u=Value.ref a from ru);obtain⟨z,hd,vs,rel,dd⟩:=D5 I.hok hH;obtain⟨ep,mT⟩:=dd.dictAt;have aH:vs.length=ks.length:=by
  have e1:=rel.length;have e2:=congrArg List.length JW;rw[av,av]at e2;lia
 refine Calls.call_function_entry kind_sorted plain_sorted entry_sorted (args_sorted1 _) ?_;unfold Builtin.«sorted»;refine aF (m:=checkCount "sorted" 1 1 _) (bL ?_);refine aF (PySem.W.kdu_collect (A:=X.A.in1) (PySem.W.kdl_dict (knd:=fO X.prog X.w) (kvs:=vs) (ep:=ep) hd) (I.ok.hd hc) mT (by rw[<-rel.length];exact z) λh' tk acc hk Ax=>?_);have wj:acc.toList.length=vs.length:=by rw[vF];exact Ax.1
 have Uk:vs.map (·.1)=ks.map Sum.inl:=rel.keys.symm.trans JW;have hI:IntsAre acc.toList ks:=by
  refine BE ?_;have iZ:∀(j:Nat) (v:Value),acc.toList[j]?=some v->∃k,ks[j]?=some k/\∃t,v=Value.int k t:=λj v e=>by
   obtain⟨k,x,hx,Xb⟩:=Ax.2 j v (by rw[<-Dp];exact e);have e1:(vs.map (·.1))[j]?=some k:=by rw[dE,hx];rfl
   rw[Uk,dE]at e1;cases e2:ks[j]? with
   |none=>rw[e2]at e1;cases e1
   |some k' =>
    rw[e2]at e1;have e3:Sum.inl k'=k:=dN e1;subst e3;nomatch k',rfl,Value.isInt_shape Xb
  have go:∀(zs:List Value) (ns:List Int),zs.length=ns.length->(∀(j:Nat) (v:Value),zs[j]?=some v->∃k,ns[j]?=some k/\∃t,v=Value.int k t)->Vals (ns.map V.int) zs:=by
   intro zs;induction zs with
   |nil=>intro ns hl _;cases ns with
    |nil=>exact .nil
    |cons _ _=>simp at hl
   |cons v r ih=>intro ns hl hv;cases ns with
    |nil=>simp at hl
    |cons n ns =>
     obtain⟨k,e1,e2⟩:=hv 0 v rfl;have e3:n=k:=by simpa using e1
     subst e3;exact .cons e2 (ih ns (by simpa using hl) λj w e=>by simpa using hv (j+1) w (by simpa using e))
  exact go acc.toList ks (by lia) iZ
 refine aF (wpAny_newList ?_ (by rw[wj,<-rel.length];exact z));have qZ:(h'.push (seqObj "list" acc.toList.toArray 0)).get? h'.objs.size=some (seqObj "list" acc.toList.toArray 0):=eI _ rfl;show wpAny _ _ _ _ _ {s with heap:=h'.push (seqObj "list" acc.toList.toArray 0),toks:=tk};refine aF (xg (rV slot_list_sort ⟨_,qZ,rfl⟩ entry_list_sort (list_sort_tree qZ hI (by rw[wj,aH];exact CI) λout iF a1 a2 a3=>⟨_,rfl,?_⟩) (args_list_sort _)));have nD:s.heap.get? h'.objs.size=none:=by
  cases e:s.heap.get? h'.objs.size with
  |none=>rfl
  |some o=>exact absurd (bB (hk _ _ e)) (oH _)
 have keep:∀b o,s.heap.get? b=some o->(sortedHeap (h'.push (seqObj "list" acc.toList.toArray 0)) h'.objs.size acc.toList out).get? b=some o:=λb o e=>by
  have bA:=bB (hk _ _ e);rw[sortedHeap_old (d5 bA) (by rw[size_push'];exact wQ bA)];exact dG _ (hk _ _ e)
 obtain⟨ee,CQ⟩:=sortedHeap_at (out:=out) qZ;have GU:H h'.objs.size=none:=by
  cases e:H h'.objs.size with
  |none=>rfl
  |some o=>obtain⟨ob,e'⟩:=(I.hok _ _ e).there;rw[nD]at e';cases e'
 have rv:Vals (iF.map V.int) out.toList:=zP a1;have jh:iF.length=ks.length:=a2.length_eq;exact bL ⟨_,rfl,⟨.ref h'.objs.size,_,I.laidN (o:=.lst (iF.map V.int)) (t':=tk) keep nD ⟨by rw[av,jh,<-aH,<-rel.length];exact z,out.toList,ee,rv,by simpa using CQ⟩,rfl,q _ iF GU a2 a3⟩⟩
end
open PySem PySem.Spec PyProof.Rows
section
variable{X:Cx}{tg:Expr}
def JM:ip X "str.startswith" (λx vs H Q=>∃i j,x=.str i/\vs=[.str j]/\Q (.bl (Txt.startswith i j)) H):=by
 intro ae s σ H x xs v us Q I rx rv h;obtain⟨i,j,rfl,rfl,q⟩:=h;obtain⟨t,rfl⟩:=rx;obtain⟨u,rfl,⟨t2,rfl⟩⟩:=rv.one;exact SC.startswith ⟨.bl _,H,I,rfl,q⟩
def Fj:ip X "str.find" (λx vs H Q=>∃i j,x=.str i/\vs=[.str j]/\Q (.int (Txt.find i j)) H):=by
 intro ae s σ H x xs v us Q I rx rv h;obtain⟨i,j,rfl,rfl,q⟩:=h;obtain⟨t,rfl⟩:=rx;obtain⟨u,rfl,⟨t2,rfl⟩⟩:=rv.one;exact SC.find ⟨.int _,H,I.tok _,⟨_,rfl⟩,q⟩
def zbk:ip X "str.lstrip" (λx vs H Q=>∃i j,x=.str i/\vs=[.str j]/\i.length<=sizeLine/\Q (.str (Txt.lstripChars i j)) H):=by
 intro ae s σ H x xs v us Q I rx rv h;obtain⟨i,j,rfl,rfl,hz,q⟩:=h;obtain⟨t,rfl⟩:=rx;obtain⟨u,rfl,⟨t2,rfl⟩⟩:=rv.one;exact call_gives F.slot_str_lstrip (pN _ _ _) F.entry_str_lstrip (F.args_str_lstrip_2 _ _) (gives_str_lstrip_chars i j t t2) (post_val_or_made (λ_=>fits_stripped _ _ _ hz) λt' k=>⟨.str _,H,I.tok _,⟨_,rfl⟩,q⟩)
theorem Qt:∀{ys:List Str}{ah:List Value},Vals (ys.map V.str) ah->StrsAre ah ys
 |[],_,h=>by cases h;exact .nil
 |y::r,_,h=>by
  cases h with
  |cons a b=>obtain⟨t,rfl⟩:=a;exact .cons _ _ (Qt b)
def lF:ip X "str.join" (λx vs H Q=>∃i l ys,x=.str i/\vs=[.ref l]/\aj X.K H l (ys.map V.str)/\(ys.map (·.length)).sum+ys.length*i.length<=16777216/\Q (.str (Txt.join i ys)) H):=by
 intro ae s σ H x xs v us Q I rx rv h;obtain⟨i,l,ys,rfl,rfl,hq,hz,q⟩:=h;obtain⟨t,rfl⟩:=rx;obtain⟨u,rfl,ru⟩:=rv.one;cases (show u=Value.ref l from ru);obtain⟨ah,r,p,hl⟩:=I.list hq;exact join_list p.isList (Qt r) hz λt' k=>⟨.str _,H,I.tok _,⟨_,rfl⟩,q⟩
theorem NW:∀{l:List (Str×Tok)},Vals ((l.map (·.1)).map V.str) (strValues l)
 |[]=>.nil
 |(x,t)::r=>.cons ⟨t,rfl⟩ (NW (l:=r))
def YO(I:Inv X ae σ H s)(e:l.map (·.1)=ys)(hz:ys.length<=sizeLine) :
  Inv X ae σ (upd H s.heap.objs.size (.lst (ys.map V.str))) {s with heap:=s.heap.push {cls:=.type "list",data:=.seq (strValues l).toArray},toks:=tk}:=by
 subst e;exact I.laid (o:=.lst _) (t':=tk) (λb o q=>dG _ q) (aO _) ⟨by rw[av];exact hz,strValues l,0,NW,eI _ rfl⟩
def Fs:ip X "str.split" (λx vs H Q=>∃i j,x=.str i/\vs=[.str j]/\(j.length == 0)=false/\i.length<sizeLine/\∀a,H a=none->Q (.ref a) (upd H a (.lst ((Txt.split i j).map V.str)))):=by
 intro ae s σ H x xs v us Q I rx rv h;obtain⟨i,j,rfl,rfl,hy,hz,q⟩:=h;obtain⟨t,rfl⟩:=rx;obtain⟨u,rfl,⟨t2,rfl⟩⟩:=rv.one;have hj:1<=j.length:=by
  have:j.length≠0:=by simpa using hy
  lia
 have hw:=split_weight i j hj;have hn:(Txt.split i j).length<=sizeLine:=by lia
 have fin:∀(l:List (Str×Tok)) (tk:Nat),l.map (·.1)=Txt.split i j->EP X ae σ Q (.ref s.heap.objs.size) {s with heap:=s.heap.push {cls:=.type "list",data:=.seq (strValues l).toArray},toks:=tk}:=λl tk e =>
  ⟨.ref s.heap.objs.size,_,YO I e hn,rfl,q _ (I.hok.fresh (aO _))⟩
 cases h1:(decide (i.length<j.length) || decide (Builtin.Str.strKind i<Builtin.Str.strKind j))
 ·cases hf:(Builtin.Str.occurrences i j 0 i.length (i.length+1)).isEmpty
  ·have e:Txt.split i j=Builtin.Str.partsBetween i (Builtin.Str.occurrences i j 0 i.length (i.length+1)) j.length:=(ax (Cg h1)).trans (ax (Cg hf));refine qz DE (pN _ _ _) Eo (Hl _ _) (meets_str_split_sep i j t t2 h1 hy hf (by lia) (by rw[<-e];exact hn)) ?_;show wants _ _ _ {s with toks:=_,heap:=s.heap.push {cls:=.type "list",data:=.seq (strsFrom s.toks (Builtin.Str.partsBetween i (Builtin.Str.occurrences i j 0 i.length (i.length+1)) j.length)).toArray}};rw[strsFrom_eq];exact fin _ _ ((numbered_texts _ _).trans e.symm)
  ·exact qz DE (pN _ _ _) Eo (Hl _ _) (meets_str_split_not_found i j t t2 h1 hy hf)
    (fin [(i,t)] s.toks ((ax (Cg h1)).trans (aB hf)).symm)
 ·exact qz DE (pN _ _ _) Eo (Hl _ _) (meets_str_split_cannot_occur i j t t2 h1)
   (fin [(i,t)] s.toks (aB h1).symm)
def yF:zf X (λx lo hi H Q=>∃z,x=.str z/\z.length<=sizeLine/\Q (.str (Txt.slice z lo hi)) H):=by
 intro ae s σ H x v vl vu lo hi sl Q I rx hs pl pu h;obtain⟨z,rfl,hz,q⟩:=h;obtain⟨t,rfl⟩:=rx;have part:∀{v:Value}{o:Option Int},IsPart v o->∃l:Option (Int×Tok),v=partValue l/\l.map (·.1)=o:=λp=>by
  cases p with
  |none=>nomatch none,rfl,rfl
  |int i t=>nomatch some (i,t),rfl,rfl
 obtain⟨l,rfl,rfl⟩:=part pl;obtain⟨u,rfl,rfl⟩:=part pu;exists "str",_,F.slot_str_getitem.lookup,pN _ _ _,?_;exact wpAny_getItem_str_slice (l:=l) (u:=u) (st:=none) hs rfl (post_val_or_str ⟨aW (Txt.slice_le z _ _) hz,λt' k=>⟨.str _,H,I.tok _,⟨_,rfl⟩,q⟩⟩)
def CN:jq X (.type "int") (λxs H Q=>∃x n,xs=[.str x]/\intText? x=some n/\x.length<=640/\Q (.int n) H):=by
 intro ae s σ H xs us Q I r h;obtain⟨x,n,rfl,hn,hl,q⟩:=h;obtain⟨u,rfl,⟨t,rfl⟩⟩:=jz r;exact PySem.W.KIN.call_text hn hl ⟨.int n,H,I.tok _,⟨_,rfl⟩,q⟩
noncomputable def qv(x:Str):It:=⟨λi _=>i<x.cps.size,λi H v H'=>H'=H/\∃c,x.cps[i]?=some c/\v=.str ⟨#[c]⟩,λi _=>x.cps.size<=i⟩
def Qv(te:TE):TI:=λσ H R=>te σ H λv H1=>∃x,v=.str x/\x.cps.all (· < 128)=true/\R (qv x) H1
def Sv{P:Program}{w:World}{K:Frag}{tg:Expr}(x:Str)(t:Tok)(it:Addr):nG P w K tg (qv x) [it] it (λi h=>h.IsStrIter it "str_ascii_iterator" x t i) where
 mem:=by simp
 obj:=λi h st b hb=>by
  have e:b=it:=by simpa using hb
  subst e;obtain⟨o,e,c,d⟩:=st;exact⟨o,e,λv z=>by rw[d]at z;cases z⟩
 keep:=λi h h' st k=>let ⟨o,e,c,d⟩:=st; ⟨o,k it (by simp) o e,c,d⟩
 item:=by
  intro X hP hw hK hc i ae s σ H E I hf st hg;subst hP hw hK;obtain⟨f0,f1,f2,f3,f4,f5⟩:=hf it (by simp);have hx:x.cps[i]?=some (x.cps[i]'hg):=by rw[MZ hg]
  refine wpAny_pyNext_ascii_item st hx λh' cu sb=>?_
  have I1:Inv X ae σ H {s with heap:=h',toks:=s.toks+1}:=I.turned (λb o hb e=>(sb.2 b hb).trans e) f0 f1 f3 f4 f5;obtain⟨o,e,c,d⟩:=id cu;nomatch _,rfl,xG (s:={s with heap:=h',toks:=s.toks+1}) e c d (by decide) ⟨.str ⟨#[x.cps[i]'hg]⟩,H,I1,⟨_,rfl⟩,⟨rfl,_,hx,rfl⟩,cu,λb hb=>(hf b hb).1⟩
 done:=by
  intro X hP hw hK hc i ae s σ H E I hf st hg;subst hP hw hK;obtain⟨f0,f1,f2,f3,f4,f5⟩:=hf it (by simp);exact wpAny_pyNext_ascii_end (I.ok.hd hc) st (Array.getElem?_eq_none hg) λh' eb=>⟨rfl,I.turned (t':=s.toks) (λb o hb e=>eb b o hb e) f0 f1 f3 f4 f5⟩
 self:=λ_ _ _ _ _ st h=>wpAny_pyIter_striter_ascii st h
def A5{l:Expr}{tl:TE}(hl:PE X l tl):PI X tg l (Qv tl):=by
 intro ae s σ H R I h;refine aL (hl ae s σ H _ I h) λv s1 ⟨x,H1,I1,r1,q1⟩=>?_
 obtain⟨z,e,ha,q⟩:=q1;subst e;obtain⟨t,rfl⟩:=r1;refine wpAny_pyIter_ascii ha ?_;exists s1.heap.objs.size,[s1.heap.objs.size],_,_,H1,rfl,I1.kept (t':=s1.toks) λb o e=>dG _ e,Sv z t _,⟨_,eI _ rfl,rfl,rfl⟩,λb hb=>?_,q;have e:b=s1.heap.objs.size:=by simpa using hb
 subst e;exact I1.fpOk (aO _) (I1.hok.fresh (aO _))
end
end L2
namespace My
open PySem L2 OF
noncomputable def S(l:List Nat):Str:=⟨l.toArray⟩
def gm(l:List Nat):(S l).cps.toList=l:=rfl
def aG(l:List Nat):(S l).length=l.length:=rfl
def XB(x:Str):x=S x.cps.toList:=rfl
def tX(h:x.cps.toList=l):x=S l:=by subst h;rfl
def eG(h:S a=S b):a=b:=congrArg (λx:Str=>x.cps.toList) h
def cG(a b:List Nat):S a++S b=S (a++b):=tX (by
 show (a.toArray++b.toArray).toList=_;rw[Array.toList_append])
noncomputable def aX(c:Nat):List (List Nat)->List Nat
 |[]=>[]
 |[x]=>x
 |x::y::r=>x++c::aX c (y::r)
theorem Gn(c:Nat):∀ws:List (List Nat),Str.join (S [c]) (ws.map S)=S (aX c ws)
 |[]=>rfl
 |[x]=>rfl
 |x::y::r=>by
  have ih:=Gn c (y::r);show S x++S [c]++Str.join (S [c]) ((y::r).map S)=_;rw[ih,cG,cG,aX];simp
theorem Mh:∀ws:List (List Nat),Str.join (S []) (ws.map S)=S ws.flatten
 |[]=>rfl
 |[x]=>by show S x=_;simp
 |x::y::r=>by
  have ih:=Mh (y::r);show S x++S []++Str.join (S []) ((y::r).map S)=_;rw[ih,cG,cG];simp
def rb(c:Nat)(ws:List (List Nat)):Txt.join (S [c]) (ws.map S)=S (aX c ws):=by
 unfold Txt.join;rw[StrLaws.glued_eq_join,Gn]
def Il(ws:List (List Nat)):Txt.join (S []) (ws.map S)=S ws.flatten:=by
 unfold Txt.join;rw[StrLaws.glued_eq_join,Mh]
theorem Nr:∀{x y A B:List Nat},c∉x->c∉y->x++c::A=y++c::B->x=y/\A=B
 |[],[],_,_,_,_,h=>⟨rfl,by simpa using h⟩
 |[],b::y,_,_,_,h2,h=>by
  have:c=b:=by simpa using (E9 h).1
  exact absurd (this ▸ ng) h2
 |a::x,[],_,_,h1,_,h=>by
  have:a=c:=by simpa using (E9 h).1
  exact absurd (this ▸ ng) h1
 |a::x,b::y,A,B,h1,h2,h=>by
  obtain⟨e1,e2⟩:=E9 h;obtain⟨e3,e4⟩:=Nr (λz=>h1 (eJ _ z)) (λz=>h2 (eJ _ z)) e2;nomatch by rw[e1,e3],e4
theorem Co:∀{ws vs:List (List Nat)},ws≠[]->vs≠[]->(∀w∈ws,c∉w)->(∀w∈vs,c∉w)->aX c ws=aX c vs->ws=vs
 |[],_,h,_,_,_,_=>absurd rfl h
 |_::_,[],_,h,_,_,_=>absurd rfl h
 |[x],[y],_,_,_,_,h=>by
  have:x=y:=h
  rw[this]
 |[x],y::z::r,_,_,h1,_,h=>by
  have h':x=y++c::aX c (z::r):=h;exact absurd (by rw[h'];simp) (h1 x (by simp))
 |x::z::r,[y],_,_,_,h2,h=>by
  have h':x++c::aX c (z::r)=y:=h;exact absurd (by rw[<-h'];simp) (h2 y (by simp))
 |x::x2::r,y::y2::r',_,_,h1,h2,h=>by
  have h':x++c::aX c (x2::r)=y++c::aX c (y2::r'):=h;obtain⟨e1,e2⟩:=Nr (h1 x (by simp)) (h2 y (by simp)) h';rw[e1,Co (by simp) (by simp) (λw hw=>h1 w (eJ _ hw)) (λw hw=>h2 w (eJ _ hw)) e2]
def EV(h0:ws≠[])(hf:∀w∈ws,c∉w):Txt.split (S (aX c ws)) (S [c])=ws.map S:=by
 have e1:=StrLaws.join_split (S (aX c ws)) (S [c]);have e2:(Txt.split (S (aX c ws)) (S [c]))=((Txt.split (S (aX c ws)) (S [c])).map λp=>p.cps.toList).map S:=by
  rw[fE];exact (Ao _).symm.trans (xU λp _=>XB p)
 have rM:=StrLaws.split_free (S (aX c ws)) c;have Ku:=PyProof.Rows.split_pos (S (aX c ws)) (S [c]);rw[e2,Gn]at e1;have e3:=eG e1;have e4:=Co (c:=c) (λz=>by
   rw[List.map_eq_nil_iff]at z;rw[z]at Ku;exact absurd Ku (by decide)) h0 (λw hw=>by
   obtain⟨p,hp,rfl⟩:=bW.mp hw;exact rM p hp) hf e3
 rw[e2,e4]
noncomputable def bX(n:Nat):List Nat:=(Nat.toDigits 10 n).map Char.toNat
def qS(n:Nat):ofString (toString ((n:Nat):Int))=S (bX n):=tX (PySem.W.KIN.signs_num n)
def vd(n:Nat):digitsVal (bX n)=n:=PySem.W.KIN.val_back n
def tm(h:c∈bX n):48<=c/\c<=57:=by
 obtain⟨ch,kP,e⟩:=bW.mp h;have r:=PyProof.Rows.digit_range (Nat.isDigit_of_mem_toDigits (by decide) (by decide) kP);rw[<-e];exact r
def OB(h:¬m<10):bX m=bX (m/10)++[48+m%10]:=by
 have hm:m%10<10:=ub m (by decide);have t:Nat.toDigits 10 (m/10)++Nat.toDigits 10 (m%10)=Nat.toDigits 10 (10*(m/10)+m%10):=Nat.toDigits_append_toDigits (by decide) (by lia) hm;rw[Nat.div_add_mod]at t;unfold bX;rw[<-t,aT,QM hm]
 have:∀d:Nat,d<10->(Nat.digitChar d).toNat=48+d:=by decide
 rw[bU,nR,this _ hm]
def AV(h:m<10):bX m=[48+m]:=by
 unfold bX;rw[QM h]
 have:∀d:Nat,d<10->(Nat.digitChar d).toNat=48+d:=by decide
 rw[bU,nR,this _ h]
def CW:∀{m:Nat},0<m->∃d r,bX m=(49+d)::r/\d<9:=by
 intro m;induction m using Nat.strongRecOn with
 |_ m ih =>
  intro h0;by_cases h:m<10
  ·rw[AV h];exact⟨m-1,[],by congr 1;lia,by omega⟩
  ·obtain⟨d,r,e,hd⟩:=ih (m/10) (by lia) (by lia);rw[OB h,e];nomatch d,r++[48+m%10],rfl,hd
theorem oA:∀{k m:Nat},m<10^(k+1)->(bX m).length<=k+1
 |0,m,h=>by rw[AV h];exact aO _
 |k+1,m,h=>by
  by_cases h1:m<10
  ·rw[AV h1];exact Nat.le_add_left _ _
  ·have h2:m/10<10^(k+1):=by rw[Nat.div_lt_iff_lt_mul (by decide)];rw[jU]at h;exact h
   rw[OB h1,aS]
   have:=oA h2
   simp;assumption
def Tv(h:bX m=[49]):m=1:=by
 have:=vd m
 rw[h]at this;exact this.symm
noncomputable def cz(m:Nat):List Nat:=(lst m).map λk=>97+k
def qV(hm:m<2^16)(h:c∈cz m):97<=c/\c<113:=by
 obtain⟨k,hk,rfl⟩:=bW.mp h;have hb:=Fp.mp hk
 have:k<16:=by
  rcases uo k 16 with y|y
  ·exact y
  ·rw[uX (dH hm (dX (by decide) y))]at hb;cases hb
 lia
def Mr(hm:m<2^16):(List.range 16).filter (λk=>m.testBit k)=lst m:=by
 have hb:intBits (m:Int)<=16:=FR hm;obtain⟨d,hd⟩:∃d,16=intBits (m:Int)+d:=⟨16-intBits (m:Int),by lia⟩;unfold lst;rw[hd,List.range_add,fV]
 have:List.filter (λk=>m.testBit k) (List.map (intBits (m:Int) + ·) (List.range d))=[]:=by
  rw[List.filter_eq_nil_iff];intro k hk;obtain⟨j,_,rfl⟩:=bW.mp hk
  have:=uX (dH (C3 m) (dX (by decide) (Nat.le_add_right _ j)):m<2^(intBits (m:Int)+j))
  rw[this];decide
 rw[this,iM]
noncomputable def gj(m n:Nat):List Nat:=if n=1/\m≠0 then []else bX n
noncomputable def lG(m n:Nat):List Nat:=(if n=1/\m≠0 then []else bX n)++cz m
def zaw(hn:n<10^63):(gj m n).length<=63:=by
 unfold gj;split
 ·exact bS _
 ·exact oA (k:=62) hn
def WA(h:c∈gj m n):48<=c/\c<=57:=by
 unfold gj at h;split at h
 ·cases h
 ·exact tm h
noncomputable def bx(t:Int×Int):List Nat:=lG t.1.toNat t.2.natAbs
noncomputable def bw(n:Int):Nat:=if n<0 then 45 else 43
noncomputable def cI(t:Int×Int):List Nat:=[32,bw t.2,32]++bx t
noncomputable def dk(n:Int):List Nat:=if n<0 then [45]else []
noncomputable def txt:ar->List Nat
 |[]=>[48]
 |t::r=>dk t.2++bx t++r.flatMap cI
noncomputable def jC:ar->List (List Nat)
 |[]=>[[48]]
 |t::r=>(dk t.2++bx t)::r.flatMap λu=>[[bw u.2],bx u]
theorem Jv(a:List Nat):∀r:ar,aX 32 (a::r.flatMap λu=>[[bw u.2],bx u])=a++r.flatMap cI
 |[]=>by show a=_;simp
 |u::r=>by
  have ih:=Jv (bx u) r;show a++32::([bw u.2]++32::aX 32 (bx u::r.flatMap λu=>[[bw u.2],bx u]))=_;rw[ih];unfold cI;simp
def FG(f:ar):aX 32 (jC f)=txt f:=by
 cases f with
 |nil=>rfl
 |cons t r=>exact Jv _ r
def gB(t:Int×Int):Prop:=0<=t.1/\t.1<2^16/\t.2≠0/\t.2.natAbs<10^63
def Nk(hm:m<2^16)(h:c∈lG m n):(48<=c/\c<=57)\/(97<=c/\c<113):=by
 unfold lG at h;rcases bF.mp h with z|z
 ·split at z
  ·cases z
  ·exact .inl (tm z)
 ·exact .inr (qV hm z)
def qd(hm:m<2^16):(cz m).length<=16:=by
 unfold cz;rw[av,<-Mr hm];exact aW (jR _ _) (by rw[oh];exact aO _)
def zR(hm:m<2^16)(hn:n<10^63):(lG m n).length<=79:=by
 unfold lG;rw[aS];have h1:=qd hm;have h2:(bX n).length<=63:=oA (k:=62) hn;split
 ·simp;lia
 ·lia
open PySem L2 OF
def ia:("" : Str)=S []:=by decide+kernel
def jW:("0" : Str)=S [48]:=by decide+kernel
def wg:("1" : Str)=S [49]:=by decide+kernel
def nF:(" " : Str)=S [32]:=by decide+kernel
def wV:("+" : Str)=S [43]:=by decide+kernel
def j6:("-" : Str)=S [45]:=by decide+kernel
def RI:(" + " : Str)=S [32,43,32]:=by decide+kernel
def Tn:(" - " : Str)=S [32,45,32]:=by decide+kernel
noncomputable def oa:List Nat:=[97,98,99,100,101,102,103,104,105,106,107,108,109,110,111,112]
noncomputable def kH:List Nat:=[48,49,50,51,52,53,54,55,56,57]
def kX:("abcdefghijklmnop" : Str)=S oa:=by decide+kernel
def ML:("0123456789" : Str)=S kH:=by decide+kernel
def A8:∀k:Nat,k<16->oa[k]?=some (97+k):=by decide
def Eu:∀k:Nat,k<16->Txt.find (S oa) (S [97+k])=(k:Int):=by decide+kernel
def HC:∀d:Nat,d<10->intText? (S [48+d])=some (d:Int):=by decide+kernel
def IW(c:Nat):(S kH).cps.contains c=decide (48<=c/\c<=57):=by
 have:(S kH).cps.contains c=kH.contains c:=by
  show kH.toArray.contains c=_;simp
 rw[this];unfold kH;by_cases h:48<=c/\c<=57
 ·rw[aR h];obtain⟨d,rfl⟩:∃d,c=48+d:=⟨c-48,by lia⟩
  have:∀d,d<10->([48,49,50,51,52,53,54,55,56,57]:List Nat).contains (48+d)=true:=by decide
  exact this d (by lia)
 ·rw[bj h];simp only[List.contains_eq_mem,aZ,jT,jS];exact bj (by omega)
theorem PD:∀{d l:List Nat},(∀c∈d,48<=c/\c<=57)->(∀c r,l=c::r->¬(48<=c/\c<=57))->((d++l).takeWhile (S kH).cps.contains).length=d.length
 |[],[],_,_=>rfl
 |[],c::r,_,h=>by
  rw[List.nil_append,Gr,IW,bj (h c r rfl)];rfl
 |c::d,l,h,h'=>by
  rw[Bw,Gr,IW,aR (h c (by simp))];simp only[j9,br];rw[PD (λx hx=>h x (eJ _ hx)) h']
def Vx(h:∀c∈d,48<=c/\c<=57)(h':∀c r,l=c::r->¬(48<=c/\c<=57)):Txt.lstripChars (S (d++l)) (S kH)=S l:=by
 have e:stripLo (S kH).cps.contains true (S (d++l))=d.length:=by
  unfold stripLo;rw[aB rfl,gm];exact PD h h'
 have e2:stripHi (S kH).cps.contains false (S (d++l)) d.length=(d++l).length:=rfl;unfold Txt.lstripChars Txt.stripBy stripSame stripped;rw[e,e2];by_cases hd:d=[]
 ·subst hd;rw[aB (by simp[aG])];rfl
 ·have:d.length≠0:=λz=>hd (qB z)
  rw[ax (by simp[this])];refine tX ?_;rw[StrLaws.strSub_toList,gm,List.drop_left,aS];exact nN (by lia)
def Uz:Txt.slice (S (a++b)) none (some (a.length:Int))=S a:=by
 have:=StrLaws.sliceText_to (x:=S (a++b)) (j:=(a.length:Int)) ⟨gD _,by rw[gm,aS];lia⟩
 refine (show Txt.slice (S (a++b)) none (some (a.length:Int))=_ from this).trans ?_;rw[gm];exact tX (by simp)
def PH:Txt.slice (S (a++b)) (some (a.length:Int)) none=S b:=by
 have:=StrLaws.sliceText_from (x:=S (a++b)) (i:=(a.length:Int)) ⟨gD _,by rw[gm,aS];omega⟩
 refine (show Txt.slice (S (a++b)) (some (a.length:Int)) none=_ from this).trans ?_;rw[gm];refine tX ?_;simp;exact nN (by lia)
def zaK(x:List Nat):Txt.startswith (S x) (S [45])=match x with|[]=>false|c::_=>c == 45:=by
 unfold Txt.startswith;rw[B1,gm,gm,aG,aG];cases x with
 |nil=>rfl
 |cons c r=>simp
open PySem L2 OF
theorem F7(A B:α->β):∀(f:List α) (k:Nat),(f.flatMap λt=>[A t,B t])[2*k]?=f[k]?.map A/\(f.flatMap λt=>[A t,B t])[2*k+1]?=f[k]?.map B
 |[],k=>by simp
 |t::f,0=>by simp
 |t::f,k+1=>by
  obtain⟨h1,h2⟩:=F7 A B f k;have e1:2*(k+1)=2*k+1+1:=by lia
  have e2:2*(k+1)+1=2*k+1+1+1:=by lia
  rw[jG];constructor
  ·rw[e1];simpa using h1
  ·rw[e2];simpa using h2
def ua(A B:α->β)(f:List α):(f.flatMap λt=>[A t,B t]).length=2*f.length:=by
 induction f with
 |nil=>rfl
 |cons t f ih=>rw[jG,aS,ih,br];simp;lia
def K6(A:α->β)(f:List α):(List.range f.length).filterMap (λk=>f[k]?.map A)=f.map A:=by
 apply List.ext_getElem?;intro i
 have:∀(n:Nat) (g:List α),n<=g.length->(List.range n).filterMap (λk=>g[k]?.map A)=(g.take n).map A:=λn g=>by
  induction n with
  |zero=>intro _;rfl
  |succ n ih =>
   intro h;rw[qC,List.filterMap_append,ih (by lia),dU,aT,eC (by assumption:n<g.length)];simp[eC (by assumption:n<g.length)]
 rw[this _ f (aO _),dO]
def Zo(A B:α->V)(f:List α):nq 0 (((f.flatMap λt=>[A t,B t]).length-0+1)/2) (f.flatMap λt=>[A t,B t])=f.map A:=by
 have e:((f.flatMap λt=>[A t,B t]).length-0+1)/2=f.length:=by rw[ua];lia
 unfold nq;rw[e,<-K6 A f];congr 1
 funext k
 rw[Nat.zero_add];exact (F7 A B f k).1
def zb5(A B:α->V)(f:List α):nq 1 (((f.flatMap λt=>[A t,B t]).length-1+1)/2) (f.flatMap λt=>[A t,B t])=f.map B:=by
 have e:((f.flatMap λt=>[A t,B t]).length-1+1)/2=f.length:=by rw[ua];lia
 unfold nq;rw[e,<-K6 B f];congr 1
 funext k
 rw[yu];exact (F7 A B f k).2
def Dy(h:gB t):(cI t).length<=82:=by
 unfold cI
 have:(bx t).length<=79:=zR (by have:=h.1;have:=h.2.1;lia) h.2.2.2
 simp;assumption
theorem FK:∀{r:ar},(∀t∈r,gB t)->(r.flatMap cI).length<=82*r.length
 |[],_=>by simp
 |t::r,h=>by
  rw[jG,aS,br];have h1:=Dy (h t (by simp));have h2:=FK (r:=r) λu hu=>h u (by simp[hu])
  lia
def Uh(h:∀t∈f,gB t):(txt f).length<=82*f.length+1:=by
 cases f with
 |nil=>decide
 |cons t r =>
  show (dk t.2++bx t++r.flatMap cI).length<=_;rw[aS,aS,br];have h1:(bx t).length<=79:=zR (by have:=(h t (by simp)).1;have:=(h t (by simp)).2.1;omega) (h t (by simp)).2.2.2;have h2:=FK (r:=r) λu hu=>h u (by simp[hu])
  have h3:(dk t.2).length<=1:=by unfold dk;split<;>simp
  lia
end My
namespace L2
open PySem PySem.Spec PyProof.Rows
def Lq{l:List Nat}{g:TG}{tb:TS}{D:ky}{σ:St}{H:Hp}(Pv:Nat->St->Hp->Prop)(h0:Pv 0 σ H)
  (hs:∀i c σ H,l[i]?=some c->Pv i σ H->g (.str (My.S [c])) σ H λσ2 H2=>tb {D with nx:=Pv (i+1),ct:=Pv (i+1),bk:=D.nx} σ2 H2) (hd:∀σ H,Pv l.length σ H->D.nx σ H) :
  ∃W:Nat->Nat->St->Hp->Prop,(∃m,W 0 m σ H)/\∀i m σ H,W i m σ H ->
   ((qv (My.S l)).stop i H/\D.nx σ H)\/((qv (My.S l)).go i H/\∃N:St->Hp->Prop,(∀σ' H',N σ' H'->∃m',m'<m/\W (i+1) m' σ' H')/\∀x H',(qv (My.S l)).yld i H x H'->g x σ H' λσ2 H2=>tb {D with nx:=N,ct:=N,bk:=D.nx} σ2 H2):=by
 exists λi m σ H=>m=l.length-i/\i<=l.length/\Pv i σ H,⟨l.length,by simp,bS _,h0⟩,?_;rintro i m σ H ⟨rfl,hi,p⟩;by_cases bA:i<l.length
 ·refine .inr ⟨bA,Pv (i+1),λσ' H' p'=>⟨l.length-(i+1),by omega,rfl,bA,p'⟩,λx H' y=>?_⟩;obtain⟨rfl,c,hc,rfl⟩:=y;exact hs i c σ _ (by simpa [My.S] using hc) p
 ·have e:i=l.length:=by lia
  subst e;exact .inl ⟨aO _,hd σ H p⟩
end L2
namespace My
open PySem L2 OF
def zy(h:∀c∈l,c<128):(S l).cps.all (· < 128)=true:=by
 show l.toArray.all _=true;simpa using h
def Vf(hm:m<2^16):∀c∈cz m,c<128:=λc hc=>by have:=qV hm hc;lia
end My
namespace L2
open PySem PySem.Spec PyProof.Rows
def cW.gone{P:Program}{w:World}{H:Hp}{h:Heap}{a:Addr}(x:cW P w H h)(e:h.get? a=none):H a=none:=by
 cases q:H a with
 |none=>rfl
 |some o=>obtain⟨ob,z⟩:=(x a o q).there;rw[e]at z;cases z
def vC(h:Heap)(a T:Addr)(C:Value):Prop :=
 ∃oe vs oT ts a0,h.get? a=some oe/\(oe.cls=C/\vs[0]?=some a0)/\oe.data=.fields vs/\vs[1]?=some (.ref T)/\T≠a/\h.get? T=some oT/\oT.data=.fields ts/\ts[3]?=some .none
def jx(P:Program)(w:World):lZ:=λouter H s E e s'=>∃(a T:Addr) (C:Value) (H':Hp),e=.ref a/\s'.os=s.os/\AllBare s'.gens/\Un (cx outer) [] H H' s.heap s'.heap/\cW P w H' s'.heap /\
 s.heap.get? a=none/\s.heap.get? T=none/\H' a=none/\H' T=none/\vC s'.heap a T C/\E C none H'
section
variable{X:Cx}{ae:List (Addr×Obj)}{σ:St}{H:Hp}{s:Shared}
def QK{env:Env}{l:List Env}{L:Addr}(h:env.frame=some L):cx (env::l)=L::cx l:=by
 unfold cx;rw[BJ,h]
structure i9(X:Cx):Prop where
 stk:X.stack=X.env::X.outer
 fr:X.env.frame=some X.env.locals
 ex:X.ex=[]
def wZ(X:Cx)(H:Hp)(h:Heap)(xs:List Addr):Prop:=∀b∈xs,X.s₀.heap.get? b=none/\H b=none/\∃o vs,h.get? b=some o/\o.data=.fields vs
def Inv.over(O:i9 X)(J:Inv X ae σ H s){xs:List Addr}(j1:wZ X H s.heap xs){h3:Heap}(st:(PySem.W.hideAll s.heap (cx X.stack++xs)).StaysIn h3)(ups:∀b o,b∈cx X.stack->s.heap.get? b=some o->∃sl,h3.get? b=some {o with slots:=sl}) :
  cW X.prog X.w H h3/\Un (cx X.stack) xs H H s.heap h3:=by
 have stays:∀b o,s.heap.get? b=some o->b∉cx X.stack->b∉xs->h3.get? b=some o:=λb o e h1 h2=>st b o (DK _ e λz=>(bF.mp z).elim h1 h2)
 have tP:∀b o,H b=some o->b∉cx X.stack/\b∉xs:=λb o e=>⟨λz=>(by rw[J.stkFree b z]at e;cases e),λz=>(by rw[(j1 b z).2.1]at e;cases e)⟩
 exists λb o e=>(J.hok b o e).stay (λc u hc q=>?_) (λ_ q=>q) λ_ _ q=>q,λb o e n hb hx=>stays b o e hb hx,λb o e n hb hx=>ups b o hb e,λ_ _ _ n _=>n,λb o e hx=>?_,λ_ _ q=>q,λ_ _ _ q=>q,λ_ ps q=>⟨#[],by rw[q];simp⟩
 ·have lK:∃o',H c=some o':=by
   rcases hc with rfl|hc
   ·nomatch _,e
   ·nomatch _,hc
  obtain⟨o',e'⟩:=lK;obtain⟨h1,h2⟩:=tP c o' e';exact stays c u q h1 h2
 ·by_cases hb:b∈cx X.stack
  ·obtain⟨sl,z⟩:=ups b o hb e;nomatch _,z
  ·nomatch o,stays b o e hb hx
def PM(O:i9 X)(J:Inv X ae σ H s){xs:List Addr}(j1:wZ X H s.heap xs){a:Addr}{C a0:Value}{h3:Heap}
  (ups:∀b o,b∈cx X.stack->s.heap.get? b=some o->∃sl,h3.get? b=some {o with slots:=sl}) (fl:Heap.FlyingW (PySem.W.hideAll s.heap (cx X.stack++xs)) X.outer a C a0 h3) (ha:s.heap.get? a=none\/a∈xs) {E:XK} (hE:E C none H) :
  jx X.prog X.w X.outer X.H₀ X.s₀ E (.ref a) {s with heap:=h3}:=by
 obtain⟨st,hn,hfun,oe,vs,T,oT,ts,he,hc,hd,h1,U3,iw,hT,tI,mR⟩:=fl;have fresh:∀b,s.heap.get? b=none->X.s₀.heap.get? b=none:=λb e=>by
  cases q:X.s₀.heap.get? b with
  |none=>rfl
  |some o=>obtain⟨o',z⟩:=J.base.there b o q (by rw[O.ex];simp);rw[e]at z;cases z
 have rJ:cx X.stack=X.env.locals::X.fs:=by rw[O.stk,QK O.fr]
 obtain⟨hok,un⟩:=Inv.over O J j1 st ups;have young:∀b o,X.s₀.heap.get? b=some o->b∉xs:=λb o e z=>by rw[(j1 b z).1]at e;cases e
 have old:∀b o,X.s₀.heap.get? b=some o->b≠X.env.locals:=λb o e=>d5 (dH (bB e) J.ok.above)
 have nx:∀b:Addr,b∉X.ex:=λb=>by rw[O.ex];simp
 have bE:s.heap.get? T=none\/T∈xs:=by
  by_cases hx:T∈xs
  ·exact .inr hx
  ·refine .inl ?_;cases q:s.heap.get? T with
   |none=>rfl
   |some o =>
    by_cases hf:T∈cx X.stack
    ·obtain⟨_,o2,kT,rT⟩:=J.stack.mem hf;obtain⟨sl,z⟩:=ups T o2 hf kT;rw[hT]at z;cases z;exact absurd tI (rT ts)
    ·have:=DK (cx X.stack++xs) q λz=>(bF.mp z).elim hf hx
     rw[U3]at this;cases this
 have both:∀b,(s.heap.get? b=none\/b∈xs)->X.s₀.heap.get? b=none/\H b=none:=λb hb=>by
  rcases hb with e|e
  ·nomatch fresh b e,J.hok.gone e
  ·nomatch (j1 b e).1,(j1 b e).2.1
 exists a,T,C,H,rfl,J.os,J.bare,⟨λb o e n hb hx=>?_,λb o e n hb hx=>?_,λb o e n _=>J.base.free b o e n (nx b),λb o e hx=>?_,J.base.tups,J.base.frzs,J.base.tbls⟩,hok,(both a ha).1,(both T bE).1,(both a ha).2,(both T bE).2,⟨oe,vs,oT,ts,a0,he,hc,hd,h1,iw,hT,tI,mR⟩,hE
 ·have e1:=J.base.keep b o e n hb (nx b);exact un.keep b o e1 (J.base.free b o e n (nx b)) (by rw[rJ];exact λz=>(aZ.mp z).elim (old b o e) hb) (young b o e)
 ·obtain⟨sl,e1⟩:=J.base.slot b o e n hb (nx b);obtain⟨uV,e2⟩:=un.slot b _ e1 (J.base.free b o e n (nx b)) (by rw[rJ];exact eJ _ hb) (young b o e);nomatch uV,e2
 ·obtain⟨o1,e1⟩:=J.base.there b o e (nx b);exact un.there b o1 e1 (young b o e)
def W5(O:i9 X)(J:Inv X ae σ H s){h':Heap}{a:Addr}{C:Value}{vs:List Value}(hx:Heap.MadeExcOf s.heap h' a C vs){E:XK}(hE:E C none H){E':Value->Shared->Prop} :
  wpAny (model X.prog X.w) X.A (leaving X.env (.ref a)) (λ_ pb=>jx X.prog X.w X.outer X.H₀ X.s₀ E (.ref a) pb) E' {s with heap:=h'}:=by
 have pe:X.A.frames=some (X.env::X.outer):=by rw[<-O.stk];exact J.ok.frames
 have hl:s.heap.FunFrames (PySem.W.hideAll s.heap (cx X.stack++[])) (X.env::X.outer):=by
  rw[<-O.stk];exact PySem.W.funFrames_hide J.stack λenv he b hb=>mS _ (Bn.mpr ⟨env,he,hb⟩)
 refine wpAny_leaves_madeW (base:=PySem.W.hideAll s.heap (cx X.stack++[])) (h:=s.heap) (s:={s with heap:=h'}) pe O.fr (λb o e=>FF _ e) hl hx λh3 t fl _ _ ups=>?_
 exact PM O J (xs:=[]) (λb hb=>by cases hb) (λb o hb e=>ups b o (hx.keeps b o e) (by
  obtain⟨_,o2,kT,rT⟩:=J.stack.mem hb;rw[e]at kT;cases kT;exact rT)) fl (.inl hx.new) hE
def LB(J:Inv X ae σ H s){E:XK}{e:Value}{s':Shared}(h:jx X.prog X.w X.stack H s E e s') :
  ∃(a T:Addr) (C:Value) (H':Hp),e=.ref a/\Inv X ae σ H' s'/\s.heap.get? a=none/\s.heap.get? T=none/\H' a=none/\H' T=none/\vC s'.heap a T C/\E C none H':=by
 obtain⟨a,T,C,H',rfl,ho,hg,un,hok,h1,h2,h3,h4,h5,h6⟩:=h;nomatch a,T,C,H',rfl,J.call' ho un hok hg (λb hb=>by cases hb),h1,h2,h3,h4,h5,h6
def J4(O:i9 X)(J:Inv X ae σ H s){s1:Shared}{H1:Hp}{a T:Addr}{C:Value}(h1:s.heap.get? a=none)(h2:s.heap.get? T=none)(h3:H1 a=none)(h4:H1 T=none)(h5:vC s1.heap a T C):wZ X H1 s1.heap [a,T]:=by
 obtain⟨oe,vs,oT,ts,a0,he,hc,hd,_,_,hT,tI,_⟩:=h5;have fresh:∀b,s.heap.get? b=none->X.s₀.heap.get? b=none:=λb e=>by
  cases q:X.s₀.heap.get? b with
  |none=>rfl
  |some o=>obtain⟨o',z⟩:=J.base.there b o q (by rw[O.ex];simp);rw[e]at z;cases z
 intro b hb;rcases aZ.mp hb with rfl|hb
 ·nomatch fresh _ h1,h3,oe,vs,he,hd
 ·have e:b=T:=by simpa using hb
  subst e;nomatch fresh _ h2,h4,oT,ts,hT,tI
def Om(J:Inv X ae σ H s){a T:Addr}{C:Value}(h5:vC s.heap a T C):∃a0,Heap.FlyingW (PySem.W.hideAll s.heap (cx X.stack++[a,T])) X.stack a C a0 s.heap:=by
 obtain⟨oe,vs,oT,ts,a0,he,hc,hd,hv1,dZ,hT,tI,h3⟩:=h5;have m1:a∈cx X.stack++[a,T]:=fX _ (by simp);have m2:T∈cx X.stack++[a,T]:=fX _ (by simp);nomatch a0,λb o e=>FF _ e,Ft _ m1,PySem.W.funFrames_hide J.stack λenv he b hb=>mS _ (Bn.mpr ⟨env,he,hb⟩),oe,vs,T,oT,ts,he,hc,hd,hv1,Ft _ m2,dZ,hT,tI,h3
def E5(J:Inv X ae σ H s){h3:Heap}(ups:s.heap.UpToSlots h3):∀b o,b∈cx X.stack->s.heap.get? b=some o->∃sl,h3.get? b=some {o with slots:=sl}:=λb o hb e=>ups b o e (by
 obtain⟨_,o2,kT,rT⟩:=J.stack.mem hb;rw[e]at kT;cases kT;exact rT)
def XZ(O:i9 X)(J:Inv X ae σ H s){E:XK}{e:Value}{s':Shared}(h:jx X.prog X.w X.stack H s E e s'){E':Value->Shared->Prop} :
  wpAny (model X.prog X.w) X.A (leaving X.env e) (λ_ pb=>jx X.prog X.w X.outer X.H₀ X.s₀ E e pb) E' s':=by
 obtain⟨a,T,C,H',rfl,J',h1,h2,h3,h4,h5,h6⟩:=LB J h;have ap:=J4 O J h1 h2 h3 h4 h5;obtain⟨a0,fl⟩:=Om J' h5;have pe:X.A.frames=some (X.env::X.outer):=by rw[<-O.stk];exact J.ok.frames
 have fl2:=fl;rw[show X.stack=X.env::X.outer from O.stk]at fl;refine wpAny_leaves_onW (a0:=a0) (base:=PySem.W.hideAll s'.heap (cx (X.env::X.outer)++[a,T])) pe O.fr fl λmR NV ups=>?_
 rw[<-O.stk]at NV;exact PM O J' ap (E5 J' ups) NV (.inr (by simp)) h6
end
open PySem PySem.Spec PyProof.Rows
noncomputable def pB:List Str:=["__init__","__getattribute__","__getattr__","__class__"]
noncomputable abbrev vB:List Value:=[.type "ValueError",.type "Exception",.type "BaseException",.type "object"]
inductive Tl (h:Heap):List Value->Prop
 |base:Tl h vB
 |own {D:Addr}{o:Obj}{c:ClassData}{m:Str->Option Value}{l:List Value} (e:h.get? D=some o) (k:o.data=.cls c) (n:h.Ns c.ns m) (q:∀x∈pB,m x=none) (r:Tl h l):Tl h (.ref D::l)
def Tl.toOwn(T:Tl h l):OwnTail h vB l:=by
 induction T with
 |base=>exact .base
 |@own D o c m l e k n q r ih =>
  obtain⟨c0,dd,dt,sl⟩:=o;obtain rfl:dt=.cls c:=k;exact .own e n (q _ (by decide)) ih
structure fM(C:Addr)(bm:List Value)(h:Heap):Prop where
 ex:∃(nm q:Str) (N:Addr) (bs:List Value) (hd:Bool) (sn:List Str) (sub:List Value) (ab:Bool) (col:Option Bool) (dd:Option Addr) (k0 k1 k2 k3 k5:Option Value) (m:Str->Option Value),
  h.get? C=some (excClassObj nm q C N bs bm hd sn sub ab col dd k0 k1 k2 k3 k5 "ValueError.__new__")/\h.Ns N m/\(∀x∈pB,m x=none)/\Tl h bm
noncomputable def xY(K:Frag)(N:Addr):Bool:=PySem.W.nsOkIn K N&&pB.all λx=>PySem.W.nsIn K N x == some none
noncomputable def yO(K:Frag):List Value->Bool
 |[]=>false
 |v::l=>(v::l) == vB || match v with
  | .ref D=>(match K.lookup D with
   | some o=>(match o.data with
    |.cls c=>xY K c.ns&&yO K l
    |_=>false)
   |none=>false)
  |_=>false
noncomputable def jc(K:Frag)(C:Addr)(bm:List Value):Bool:=match K.lookup C with
 | some o=>(match o.data with
  |.cls c=>o.cls == .type "type" && o.slots.toList.length == 6&&o.slots.toList[4]? == some (some (.builtin "ValueError.__new__"))&&c.mro == .ref C::bm && !c.hasDel&&yO K bm&&xY K c.ns
  |_=>false)
 |none=>false
def NA{K:Frag}{h:Heap}{N:Addr}(X:K.In h)(e:xY K N=true):h.Ns N (h.nsMap N)/\∀x∈pB,h.nsMap N x=none:=by
 unfold xY at e;obtain⟨a,b⟩:=xC.mp e;nomatch .of_isNs (PySem.W.isNs_of_in X a),λx hx=>PySem.W.nsMap_none_of_in X a (mX.mp (jf.mp b x hx))
set_option tactic.hygienic true in
theorem NG{K:Frag}{h:Heap}(X:K.In h):∀{l:List Value},yO K l=true->Tl h l
 |[],e=>by cases e
 |v::l,e=>by
  unfold yO at e;rcases Bool.or_eq_true_iff.mp e with z|z
  ·rw[mX.mp z];exact .base
  ·split at z
   ·split at z
    ·rename_i o ho;split at z
     ·rename_i c hc;obtain⟨z1,z2⟩:=xC.mp z;obtain⟨y1,y2⟩:=NA X z1;exact .own (X _ _ ho) hc y1 y2 (NG X z2)
     ·cases z
    ·cases z
   ·cases z
def uA(h:l.length=n+1):∃a v,l=a::v/\v.length=n:=by
 cases l with
 |nil=>cases h
 |cons a v=>nomatch a,v,rfl,Nat.succ.inj h
set_option tactic.hygienic true in
def sx{K:Frag}{h:Heap}{C:Addr}{bm:List Value}(X:K.In h)(e:jc K C bm=true):fM C bm h:=by
 unfold jc at e;split at e
 ·rename_i o ho;split at e
  ·rename_i c hc;simp only[gz,mX,Bool.not_eq_true']at e;obtain⟨⟨⟨⟨⟨⟨e0,e6⟩,e2⟩,e1⟩,e3⟩,e4⟩,e5⟩:=e;obtain⟨cl,dd,dt,⟨sl⟩⟩:=o;dsimp only at hc e0 e6 e2;subst hc e0;obtain⟨k0,l1,rfl,f1⟩:=uA e6;obtain⟨k1,l2,rfl,f2⟩:=uA f1;obtain⟨k2,l3,rfl,f3⟩:=uA f2;obtain⟨k3,l4,rfl,f4⟩:=uA f3;obtain⟨k4,l5,rfl,f5⟩:=uA f4;obtain⟨k5,l6,rfl,f6⟩:=uA f5;cases qB f6;cases e2;obtain⟨nm,bs,mro,ns,qn,hd,sn,sub,ab,col,del⟩:=c;dsimp only at e1 e3 e5;subst e1 e3;obtain⟨y1,y2⟩:=NA X e5;nomatch nm,qn,ns,bs,hd,sn,sub,ab,col,dd,k0,k1,k2,k3,k5,_,X _ _ ho,y1,y2,NG X e4
  ·cases e
 ·cases e
section
variable{M:Model}{A:Around}{E:Value->Shared->Prop}{h:Heap}{g:Array GenState}{d:Drawn}{t:Nat}{os:OsState}{C a:Addr}{bm:List Value}{o:Obj}{prog:Program}{w:World}
def Tl.along(T:Tl h l)(hn:n∈pB)(hr:lookupAlong vB n=pure y)(hq:Q y ⟨h,g,d,t,os⟩):wpAny M A (lookupAlong l n) Q E ⟨h,g,d,t,os⟩:=by
 induction T with
 |base=>rw[hr];exact bL hq
 |@own D ob c m l e k ns q r ih =>
  obtain⟨c0,dd,dt,sl⟩:=ob;obtain rfl:dt=.cls c:=k;rw[lookupAlong_cons];exact aF (wpAny_classOwn_cls e ns (by rw[q n hn];exact ih))
def fM.look(Z:fM C bm h)(hn:n∈pB)(hB:typeLookup (.type "ValueError") n=pure y)(hq:Q y ⟨h,g,d,t,os⟩):wpAny M A (typeLookup (.ref C) n) Q E ⟨h,g,d,t,os⟩:=by
 obtain⟨nm,q,N,bs,hd,sn,sub,ab,col,dd,k0,k1,k2,k3,k5,m,hC,hN,hm,T⟩:=Z.ex;have hr:lookupAlong vB n=pure y:=by rw[typeLookup_eq,PySem.F.excBase_ValueError.mroIs]at hB;exact hB
 rw[typeLookup_eq];refine aF (wpAny_mroOf_exc hC ?_);rw[lookupAlong_cons];exact aF (wpAny_classOwn_exc hC hN (by rw[hm n hn];exact T.along hn hr hq))
def fM.sub(Z:fM C bm h)(hq:Q ((Value.ref C::bm).contains c) ⟨h,g,d,t,os⟩):wpAny M A (isSubtype (.ref C) c) Q E ⟨h,g,d,t,os⟩:=by
 obtain⟨nm,q,N,bs,hd,sn,sub,ab,col,dd,k0,k1,k2,k3,k5,m,hC,_⟩:=Z.ex;exact wpAny_isSubtype_exc hC hq
def fM.has(Z:fM C bm h)(hb:vB.contains (.type T)=b):(Value.ref C::bm).contains (.type T)=b:=by
 obtain⟨nm,q,N,bs,hd,sn,sub,ab,col,dd,k0,k1,k2,k3,k5,m,hC,hN,hm,T⟩:=Z.ex;rw[List.contains_cons,T.toOwn.hasType hb];rfl
def Wl:typeLookup (.type "ValueError") "__class__" = pure (some (.builtin "object.__class__")):=by rw[typeLookup_type,builtinLookup_eq_fast];kernel_rfl
def R0(Z:fM C bm h)(hx:h.get? a=some o)(hc:o.cls=.ref C)(hq:R (.ok (.ret (.ref C))) ⟨h,g,d,t,os⟩) :
  codeAny (model prog w) A (.call (.builtin "getset_descriptor.__get__") ⟨[.builtin "object.__class__",.ref a,.ref C],[]⟩) R ⟨h,g,d,t,os⟩:=by
 have z1:(⟨h,g,d,t,os⟩:Shared).TypeIs (.builtin "object.__class__") "getset_descriptor" := Dk;have z2:(Value.ref C::bm).contains (.type (".".intercalate ("object.__class__".cutAt '.').dropLast))=true:=by rw[F.owner_object_class];exact Z.has (by decide+kernel)
 refine codeAny_call_builtin F.slot_gs_get.plain F.entry_gs_get (F.slot_gs_get.check _ _ _ _ _ _ _ _ z1 (F.args_gs_get _ _ _) ?_);repeat (any_goals (first|assumption|(with_reducible refine qY hx ?_;rw[hc])|(with_reducible refine fM.sub Z ?_;rw[z2])|wp_step))
 exists Code.quiet_builtin _ (by decide+kernel),codeAny_builtin F.entry_object_class ?_;repeat (any_goals (first|assumption|(with_reducible refine qY hx ?_;rw[hc])|wp_step))
def Tz(Z:fM C bm h)(hx:h.get? a=some o)(hc:o.cls=.ref C)(hq:Q (.done (.ret (.ref C))) ⟨h,g,d,t,os⟩) :
  wpAny (model prog w) A (Builtin.«object.__getattribute__» ⟨[.ref a,.str "__class__" tk],[]⟩) Q E ⟨h,g,d,t,os⟩:=by
 have z1:(⟨h,g,d,t,os⟩:Shared).TypeIs (.builtin "object.__class__") "getset_descriptor" := Dk;have y5:=Dk;have y6:=F.slot_gs_get.lookup;have y7:=F.slot_gs_set.lookup;have zn:("__class__" : Str)∈pB:=by decide
 repeat (any_goals (first|assumption|(with_reducible refine qY hx ?_;rw[hc])|with_reducible refine fM.look Z zn Wl ?_|wp_step))
 refine R0 Z hx hc ?_;repeat (any_goals (first|assumption|wp_step))
def R3(Z:fM C bm h)(hx:h.get? a=some o)(hc:o.cls=.ref C)(hq:Q () ⟨h,g,d,t,os⟩):wpAny M A (checkBuiltinCall "BaseException.__getattribute__" ⟨[.ref a,nv],[]⟩) Q E ⟨h,g,d,t,os⟩:=by
 have e1:builtinKind "BaseException.__getattribute__" = some .slot:=by decide+kernel
 have e2:splitId "BaseException.__getattribute__" = some ("BaseException","__getattribute__"):=by decide+kernel
 have e3:(Value.ref C::bm).contains (.type "BaseException")=true:=Z.has (by decide+kernel);have ha:=F.args_bexc_ga (.ref a) nv;simp only[checkBuiltinCall,e1,e2];refine aF ?_;unfold isInstance;repeat (first|(with_reducible refine qY hx ?_;rw[hc])|(with_reducible refine fM.sub Z ?_;rw[e3])|wp_step)
 exact hq
def TJ(Z:fM C bm h)(hx:h.get? a=some o)(hc:o.cls=.ref C){tk:Tok}{fill expr:Bool}{Q:Value->Shared->Prop}(hq:Q (.ref C) ⟨h,g,d,t,os⟩) :
  wpAny (model prog w) A (getAttrBy (.ref a) (.str "__class__" tk) fill expr) Q E ⟨h,g,d,t,os⟩:=by
 have FB:=PySem.F.attrBase_ValueError;have y3:=FB.ga.bind (.ref a);have x0:(expr&&onTheHeap (Value.builtin "BaseException.__getattribute__"))=false:=by cases expr<;>rfl
 have x2:(Value.builtin "BaseException.__getattribute__" == Value.builtin "object.__getattribute__")=false:=by decide+kernel
 have x1:(onTheHeap (Value.ref C)&&Value.builtin "BaseException.__getattribute__" == Value.builtin "object.__getattribute__")=false:=by rw[x2];rfl
 have n1:("__getattribute__" : Str)∈pB:=by decide
 have n2:("__getattr__" : Str)∈pB:=by decide
 repeat (any_goals (first|assumption|(with_reducible refine qY hx ?_;rw[hc])|with_reducible refine fM.look Z n1 FB.ga.lookup ?_|with_reducible refine fM.look Z n2 FB.noGetattr ?_|wp_step))
 refine codeAny_call_builtin FB.ga.plain F.entry_bexc_ga (R3 Z hx hc (Tz Z hx hc ?_));repeat (any_goals (first|assumption|wp_step))
def zau(Z:fM C bm h)(hx:h.get? a=some o)(hc:o.cls=.ref C){Q:Option Value->Shared->Prop}(hq:Q (some (.ref C)) ⟨h,g,d,t+1,os⟩):wpAny (model prog w) A (getAttr? (.ref a) "__class__") Q E ⟨h,g,d,t,os⟩:=by
 unfold getAttr? getAttrBy?;repeat (any_goals (first|assumption|with_reducible apply TJ Z hx hc|wp_step))
def Oo(a C:Addr)(h:Heap):Prop:=∃o,h.get? a=some o/\o.cls=.ref C
def KZ{K:Frag}(e:jc K C bm=true):PySem.W.KitX K (.ref a) (.ref C) (Oo a C) where
 ty:=λM h _ ⟨o,h1,h2⟩=>h2 ▸ (PySem.W.Looks.ld h1).andThen .now
 it:=λM h X _=>by
  obtain⟨nm,q,N,bs,hd,sn,sub,ab,col,dd,k0,k1,k2,k3,k5,m,hC,_⟩:=(sx X e).ex;intro A' Q' E' s' k q;unfold isType loadHead;exact aF (wpAny_loadPart (k _ _ hC) (bL q))
 ne:=λh tp dd ah n sl X yn=>by
  obtain⟨nm,q,N,bs,hd,sn,sub,ab,col,qe,k0,k1,k2,k3,k5,m,hC,_⟩:=(sx X e).ex;refine xJ.mpr λz=>?_
  have z':C=tp:=Value.ref.inj (mX.mp z);subst z';have y:Value.type "type" = Value.type "tuple" := congrArg (λo:Option Obj=>match o with|some o=>o.cls|none=>.none) (hC.symm.trans yn);exact absurd y (by decide)
 ca:=fun {prog w A E Q s} X p k=>by
  obtain⟨h,g,d,t,os⟩:=s;obtain⟨o,h1,h2⟩:=p;exact zau (sx X e) h1 h2 k
end
noncomputable abbrev oU(a C:Addr):HO:=.ext (Oo a C)
section
variable{X:Cx}
def pS:jq X (.builtin "isinstance") (fun xs H Q=>∃ (a C:Addr) (bm:List Value) (b:Bool),H a=some (oU a C)/\jc X.K C bm=true /\ ((∃D,xs=[.ref a,.ref D]/\kitOne X.K (.ref C) (.ref D)=some b)\/∃n,xs=[.ref a,.ty n]/\kitOne X.K (.ref C) (.type n)=some b)/\Q (.bl b) H):=by
 intro ae s σ H xs us Q I r h;obtain⟨a,C,bm,b,hH,he,hk,q⟩:=h;obtain⟨p,_,_⟩:=(show dQ X.prog X.w H s.heap a (oU a C) from I.hok a _ hH);rcases hk with ⟨D,rfl,hk⟩|⟨n,rfl,hk⟩
 ·obtain⟨u,w',rfl,ru,hZ⟩:=AW r;cases (show u=Value.ref a from ru);cases (show w'=Value.ref D from hZ);exact PySem.W.kia_one (KZ he) I.kIn p hk (λz=>nomatch z) λtk=>⟨.bl b,H,I.tok _,rfl,q⟩
 ·obtain⟨u,w',rfl,ru,hZ⟩:=AW r;cases (show u=Value.ref a from ru);cases (show w'=Value.type n from hZ);exact PySem.W.kia_one (KZ he) I.kIn p hk (λz=>nomatch z) λtk=>⟨.bl b,H,I.tok _,rfl,q⟩
end
def Z2:bootBuiltins "ValueError" = some (.type "ValueError"):=by kernel_rfl
open PySem PySem.Spec PyProof.Rows
structure HY(X:Cx)(E:XK):Prop where
 own:i9 X
 xe:∀e s',wpAny (model X.prog X.w) X.A (leaving X.env e) (λ_ pb=>jx X.prog X.w X.outer X.H₀ X.s₀ E e pb) (λ_ _=>False) s'->X.xe e s'
section
variable{P:Program}{w:World}{K:Frag}{mg:Str->Option Value}{base:Heap}
def LM:i9 (lC CX P w K mg base N qual scope f cd A outer s H E):=⟨rfl,rfl,rfl⟩
def XD(O:i9 X):i9 X.nox:=⟨O.stk,O.fr,O.ex⟩
def gg:HY (lC (jx P w) P w K mg base N qual scope f cd A outer s H E) E :=
 ⟨LM,λ_ _ h=>eA h (λ_ _ z=>z) λ_ _ z=>False.elim z⟩
def mM.okE{x qual:Str}{st:Stmt}{f:Addr}{fd:FuncData}{N ps:List Str}{k:Nat}{sp:Sp}(F:mM K x qual st f fd)(S:oF N ps (dy st))(len:∀vs H Q E,sp vs H Q E->vs.length=ps.length)
  (hb:∀ (cJ:Value) (A:Around) (outer:List Env) (s:Shared) (H:Hp) (vs:List V) (Q:VK) (E:XK),cX k (A.deeper (envOfC qual (dy st) s.heap.objs.size f cJ))->sp vs H Q E -> ∃t,f9 (lC (jx P w) P w K mg base N qual (dy st) f cJ A outer s H E) (ou st) t/\t {nx:=λ_ H'=>Q .non H',rt:=Q} (lr N vs) H):jo P w K mg base (jx P w) (k+1) f fd ps sp:=by
 obtain⟨oc,od,kV,doc,pm,an,cJ,ct,qt,rfl,lk,j5⟩:=F.ex;exact Ig lk j5 S len λA outer s H vs Q E hr iV=>hb cJ A outer s H vs Q E hr iV
end
section
variable{X:Cx}{E:XK}
def iS(L:HY X E):rq (jx X.prog X.w) X E:=λ_ _ _ _ _ _ I h=>L.xe _ _ (XZ L.own I h)
def zbn(C:Addr)(E:XK):TS:=λ_ _ H=>E (.ref C) none H
def zG{j}(L:HY X E)(hc:X.calm=true)(hg:Gl X x)(hm:X.mg x=some (.ref C))(ex:jc X.K C bm=true)(hd:(x == ("__debug__" : Str))=false:=by decide) :
  PS X (.Raise (some (.Call (.Name x np) [.Constant (.str msg) j cp] [] cw)) none pos) (zbn C E):=by
 intro ae s σ H D I h;obtain⟨nm,q,N,bs,cq,sn,sub,ab,col,dd,k0,k1,k2,k3,k5,m,hC,hN,hq,T⟩:=(sx I.ok.mod.kin ex).ex;have hb:bm.contains (.type "BaseException")=true:=T.toOwn.hasType (by decide+kernel);refine wpAny_Raise_call_subT (C:=C) (nm:=nm) (q:=q) (N:=N) (bs:=bs) (bm:=bm) (hdct:=cq) (sn:=sn) (sub:=sub) (ab:=ab) (col:=col) (dd:=dd) (k0:=k0) (k1:=k1) (k2:=k2) (k3:=k3) (k5:=k5)
  PySem.F.excBase_ValueError (mN:=m) hb (I.ok.hd hc) rfl (hq _ (by decide)) (wb I hg hm ⟨rfl,?_⟩ hd)
 have ha:PA X [.Constant (.str msg) j cp] (ql (tC (.str msg)) sj):=aa au ag;refine AJ (eA (ha cw ae s σ H (λvs H1=>vs=[.str msg]/\H1=H) I ⟨rfl,rfl⟩) (λus s1 h1=>?_) λ_ _ z=>z);obtain⟨vs,H1,I1,rv,rfl,rfl⟩:=h1;have rl:=rv.length;exists rfl,?_,I1.bk _ _ hC,hN.keeps I1.bk,T.toOwn.keeps I1.bk,λh' e hx=>L.xe _ _ (W5 L.own I1 hx h);show us.length<=sizeLine;rw[<-rl];show 1<=sizeLine;decide
end
def PS.nox{X:Cx}{st:Stmt}{t:TS}(h:PS X.nox st t):PS X st t:=λae s σ H D I hw =>
 eA (h ae s σ H D (I.wish _) hw) (λ_ _ q=>q.unwish) λ_ _ z=>False.elim z
section
variable{X:Cx}{ae:List (Addr×Obj)}{σ:St}{H:Hp}{s:Shared}
def yo(X:Cx)(ae:List (Addr×Obj))(xs:List Addr):Prop:=∀b∈xs,b≠X.env.locals/\∀p∈X.pn++ae,p.1≠b
def Inv.turn(O:i9 X)(nc:∀x,X.env.cells.lookup x=none)(J:Inv X ae σ H s)(j1:wZ X H s.heap xs)(aw:yo X ae xs)(st:(PySem.W.hideAll s.heap (cx X.stack++xs)).StaysIn h3)
  (ups:∀b o,b∈cx X.stack->s.heap.get? b=some o->∃sl,h3.get? b=some {o with slots:=sl}):Inv X ae σ H {s with heap:=h3,toks:=t'}:=by
 obtain⟨hok,un⟩:=Inv.over O J j1 st ups;have rJ:cx X.stack=X.env.locals::X.fs:=by rw[O.stk,QK O.fr]
 have young:∀b o,X.s₀.heap.get? b=some o->b∉xs:=λb o e z=>by rw[(j1 b z).1]at e;cases e
 have old:∀b o,X.s₀.heap.get? b=some o->b≠X.env.locals:=λb o e=>d5 (dH (bB e) J.ok.above)
 have nx:∀b:Addr,b∉X.ex:=λb=>by rw[O.ex];simp
 exists J.ok,J.os,J.bare,⟨λb o e n hb hx=>?_,λb o e n hb hx=>?_,J.base.free,λb o e hx=>?_,J.base.tups,J.base.frzs,J.base.tbls⟩,?_,λx c e=>(by rw[nc x]at e;cases e),J.free,J.freeC,λp hp=>?_,hok,J.len
 ·have e1:=J.base.keep b o e n hb (nx b);exact un.keep b o e1 (J.base.free b o e n (nx b)) (by rw[rJ];exact λz=>(aZ.mp z).elim (old b o e) hb) (young b o e)
 ·obtain⟨sl,e1⟩:=J.base.slot b o e n hb (nx b);obtain⟨uV,e2⟩:=un.slot b _ e1 (J.base.free b o e n (nx b)) (by rw[rJ];exact eJ _ hb) (young b o e);nomatch uV,e2
 ·obtain⟨o1,e1⟩:=J.base.there b o e (nx b);exact un.there b o1 e1 (young b o e)
 ·obtain⟨m,⟨o,es,ep,ho,hd,r⟩,hl⟩:=J.loc;obtain⟨sl,e⟩:=ups X.env.locals o (by rw[rJ];exact ng) ho;exists m,⟨_,es,ep,e,hd,r⟩,λi x v h1 h2 h3=>?_;obtain⟨u,ru,z⟩:=hl i x v h1 h2 h3;exists u,ru,?_;rcases z with z|⟨_,c,z,_⟩
  ·exact .inl z
  ·rw[nc x]at z;cases z
 ·obtain⟨e,n,ne,nf,d⟩:=J.pin p hp;have hx:p.1∉xs:=λz=>(aw p.1 z).2 p hp rfl
  nomatch un.keep p.1 p.2 e n (by rw[rJ];exact λz=>(aZ.mp z).elim ne nf) hx,n,ne,nf,d
def Inv.takeUp(O:i9 X)(nc:∀x,X.env.cells.lookup x=none)(J:Inv X ae σ H s)(hn:H a=none)(h0:X.s₀.heap.get? a=none)(aw:yo X ae [a])(ho:dQ X.prog X.w (upd H a o) s.heap a o):Inv X ae σ (upd H a o) s:=by
 have ne:∀b u,H b=some u->b≠a:=λb u e z=>by rw[z,hn]at e;cases e
 exists J.ok,J.os,J.bare,⟨J.base.keep,J.base.slot,λb ob e n hx=>?_,J.base.there,λb xs q=>?_,λb ob u q=>?_,λb ps q=>?_⟩,J.loc,J.cell,?_,λx c e=>(by rw[nc x]at e;cases e),λp hp=>?_,λb u e=>?_,J.len
 ·rw[aJ (λz=>by rw[z,h0]at e;cases e)];exact J.base.free b ob e n hx
 ·have:=J.base.tups b xs q;rw[aJ (ne b _ this)];exact this
 ·have:=J.base.frzs b ob u q;rw[aJ (ne b _ this)];exact this
 ·obtain⟨more,this⟩:=J.base.tbls b ps q;exact⟨more,by rw[aJ (ne b _ this)];exact this⟩
 ·rw[aJ (Ne.symm (aw a (by simp)).1)];exact J.free
 ·obtain⟨e,n,h1,h2,h3⟩:=J.pin p hp;nomatch e,by rw[aJ ((aw a (by simp)).2 p hp)];exact n,h1,h2,h3
 ·by_cases hb:b=a
  ·subst hb;rw[aq]at e;cases e;exact ho
  ·rw[aJ hb]at e;exact (J.hok b u e).stay (λ_ _ _ q=>q) (λc q=>by rw[aJ (ne c _ q)];exact q) λc xs q=>by rw[aJ (ne c _ q)];exact q
def Inv.unbound(nc:∀x,X.env.cells.lookup x=none)(J:Inv X ae σ H s)(hN:X.N.Nodup)(hi:X.N[i]?=some n)(hm:∀(j:Nat) (x:Str) (v:V),X.N[j]?=some x->σ[j]?=some (some v)->wJ X.env.scope x->∃u,RelV v u/\IQ X.env s.heap m x u)
  (hn:h'.Ns X.env.locals (λx=>if x=n then u else m x)) (hs:Heap.SameBut X.env.locals s.heap h'):Inv X ae (σ.set i none) H {s with heap:=h'}:=by
 have old:∀b o,X.s₀.heap.get? b=some o->b≠X.env.locals:=λb o e=>d5 (dH (bB e) J.ok.above)
 refine⟨J.ok,J.os,J.bare,⟨λb o e q hb hx=>(hs.2 b (old b o e)).trans (J.base.keep b o e q hb hx),λb o e q hb hx=>?_,J.base.free,λb o e hx=>?_,J.base.tups,J.base.frzs,J.base.tbls⟩,⟨_,hn,λj x v h1 h2 h3=>?_⟩,λx c e=>(by rw[nc x]at e;cases e),J.free,J.freeC,λp hp=>?_,λb ob e=>?_,by rw[sE];exact J.len⟩
 ·obtain⟨sl,z⟩:=J.base.slot b o e q hb hx;nomatch sl,(hs.2 b (old b o e)).trans z
 ·obtain⟨o',z⟩:=J.base.there b o e hx;nomatch o',(hs.2 b (old b o e)).trans z
 ·by_cases hj:j=i
  ·subst hj;by_cases hl:j<σ.length
   ·rw[xy hl]at h2;cases h2
   ·rw[Dq (by rw[sE];lia)]at h2;cases h2
  ·rw[Fx (Ne.symm hj)]at h2;obtain⟨u',ru,z⟩:=hm j x v h1 h2 h3;have hx:x≠n:=λe=>hj (FD hN h1 (e ▸ hi))
   exists u',ru,?_;rcases z with ⟨k,z⟩|⟨_,c,z,_⟩
   ·exact .inl ⟨k,by show (if x=n then u else m x)=_;rw[ax hx];exact z⟩
   ·rw[nc x]at z;cases z
 ·obtain⟨e,q,h1,h2,h3⟩:=J.pin p hp;nomatch (hs.2 p.1 h1).trans e,q,h1,h2,h3
 ·refine (J.hok b ob e).stay (λc v hc q=>(hs.2 c ?_).trans q) (λ_ q=>q) λ_ _ q=>q
  intro z;rcases hc with rfl|hc
  ·rw[z,J.free]at e;cases e
  ·rw[z,J.free]at hc;cases hc
def Q5{M:Model}{A:Around}{E:Value->Shared->Prop}{h:Heap}{g:Array GenState}{d:Drawn}{t:Nat}{os:OsState}{a B C:Addr}{bm uG:List Value}{o:Obj}{Q:Bool->Shared->Prop}(Z:fM C bm h)(ZB:fM B uG h)
  (hx:h.get? a=some o) (hc:o.cls=.ref C) (hb:(Value.ref C::bm).contains (.ref B)=true) (hq:Q true ⟨h,g,d,t,os⟩):wpAny M A (excMatches (.ref a) (.ref B)) Q E ⟨h,g,d,t,os⟩:=by
 have e1:(Value.ref B::uG).contains (.type "BaseException")=true:=ZB.has (by decide+kernel);have e2:=tc_notTuple;obtain⟨nm,q,N,bs,hd,sn,sub,ab,col,dd,k0,k1,k2,k3,k5,m,hB,_⟩:=ZB.ex;unfold excMatches;repeat (first|(with_reducible refine qY hx ?_;rw[hc])|with_reducible refine qY hB ?_|(with_reducible refine fM.sub ZB ?_;rw[e1])|(with_reducible refine fM.sub Z ?_;rw[hb])|wp_step)
 exact hq
noncomputable abbrev Cx.held(X:Cx)(a:Addr):Cx:={X with A:=X.A.mark (some (.ref a)),calm:=false,xe:=λ_ _=>False}
def Inv.held(I:Inv X ae σ H s)(a:Addr):Inv (X.held a) ae σ H s :=
 ⟨⟨I.ok.mod,I.ok.kind,I.ok.glob,I.ok.blt,I.ok.above,I.ok.inj,I.ok.has,I.ok.cab,(λz=>by cases z),I.ok.frames,I.ok.stk,I.ok.exf,I.ok.bs,I.ok.bsz,I.ok.noex,I.ok.exfs,I.ok.funs,I.ok.frf⟩,I.os,I.bare,I.base,I.loc,I.cell,I.free,I.freeC,I.pin,I.hok,I.len⟩
def Inv.unheld(O:X.Ok)(I:Inv (X.held a) ae σ H s):Inv X ae σ H s:=⟨O,I.os,I.bare,I.base,I.loc,I.cell,I.free,I.freeC,I.pin,I.hok,I.len⟩
def XP(X:Cx)(ae:List (Addr×Obj))(σ:St)(E:XK)(e:Value)(s':Shared):Prop :=
 ∃(a T:Addr) (C:Value) (H':Hp),e=.ref a/\Inv X ae σ H' s'/\wZ X H' s'.heap [a,T]/\yo X ae [a,T]/\vC s'.heap a T C/\E C none H'
def XP.of(O:i9 X)(J:Inv X ae σ H s)(h:jx X.prog X.w X.stack H s E e s'):XP X ae σ E e s':=by
 obtain⟨a,T,C,H',rfl,J',h1,h2,h3,h4,h5,h6⟩:=LB J h;exists a,T,C,H',rfl,J',J4 O J h1 h2 h3 h4 h5,λb hb=>?_,h5,h6;have iL:s.heap.get? b=none:=by
  rcases aZ.mp hb with rfl|hb
  ·exact h1
  ·have e:b=T:=by simpa using hb
   rw[e];exact h2
 exists λz=>?_,λp hp z=>?_
 ·obtain⟨m,⟨o,es,ep,ho,_⟩,_⟩:=J.loc;rw[<-z,iL]at ho;cases ho
 ·obtain⟨e,_⟩:=J.pin p hp;rw[z,iL]at e;cases e
set_option tactic.hygienic true in
def RG{B:Addr}{uG:List Value}{x n y:Str}{i j:Nat}{np py pn pa hp:Pos}(O:i9 X)(nc:∀x,X.env.cells.lookup x=none)(hN:X.N.Nodup)(hi:X.N[i]?=some n)(hj:X.N[j]?=some y)(sI:i≠j)
    (hn:X.env.scope.names.lookup n=some .local) (hy:X.env.scope.names.lookup y=some .local) (hg:Gl X x) (hm:X.mg x=some (.ref B)) (eB:jc X.K B uG=true) (hd:(x == ("__debug__" : Str))=false) (hd2:(n == ("__debug__" : Str))=false) (DY:(n == ("__classdict__" : Str))=false)
    (wW:swapsWith (.Name n pn) (some (.Name y py)) pa.line X.env=pure false) {E:XK}{D:ky}{e:Value}
    (hE:∀C H',E C none H'->∃(c:Addr) (bm:List Value),C=.ref c/\jc X.K c bm=true/\(Value.ref c::bm).contains (.ref B)=true/\∀a,H' a=none->D.nx ((σ.set j (some (.ref a))).set i none) (upd H' a (oU a c))) (h:XP X ae σ E e s) :
    wpAny (model X.prog X.w) X.A (noteFrame e X.env) (λ_ s₂=>wpAny (model X.prog X.w) X.A (setFlight e none) (λ_ s₃ =>
      wpAny (model X.prog X.w) X.A (handleBy e X.env [.ExceptHandler (some (.Name x np)) (some n) [.Assign [.Name y py] (.Name n pn) pa] hp]) (SP X ae D) X.xe s₃) X.xe s₂) X.xe s:=by
  obtain ⟨a,T,C,H,rfl,J,ap,aw,Yy,YZ⟩:=h;obtain ⟨c,bm,rfl,ec,SR,ZG⟩:=hE C H YZ;obtain ⟨a0,fl⟩:=Om J Yy;have Qm:=fl;rw [show X.stack=X.env::X.outer from O.stk]at Qm;have pe:X.A.frames=some (X.env::X.outer):=by rw [<-O.stk];exact J.ok.frames
  refine wpAny_looks_onW (a0:=a0) pe O.fr Qm λh4 held4 YX=>?_
  refine wpAny_landsW held4 λh5 Bm ZP=>?_
  have sm:=YX.trans ZP;rw [<-O.stk]at Bm;have J5:Inv X ae σ H {s with heap:=h5}:=Inv.turn O nc J ap aw Bm.1 (E5 J sm) (t':=s.toks);refine wpAny_handleBy_cons (codeAny_handlers_test (wb (X:=X.held a) (J5.held a) hg hm ?_ hd)) (by intro q;cases q);obtain ⟨ob,XS,Q9⟩:=Bm.there;refine Q5 (sx J5.kIn ec) (sx J5.kIn eB) XS Q9 SR (codeAny_handlers_suite_as ?_);refine lands_againW Bm λh6 MO sm6=>?_
  have J6:Inv X ae σ H {s with heap:=h6}:=Inv.turn O nc J ap aw MO.1 (E5 J (sm.trans sm6)) (t':=s.toks);obtain ⟨Kb,Pm,UA⟩:=MO.there
  have aw1 : yo   X ae   [a] := fun b hb => aw b (by have e : b = a := by simpa using hb
                                                     rw [e]; simp)
  have Ja:Inv X ae σ (upd H a (oU a c)) {s with heap:=h6}:=Inv.takeUp O nc J6 (ap a (by simp)).2.1 (ap a (by simp)).1 aw1 ⟨⟨Kb,Pm,UA⟩,⟨Kb,Pm⟩,λh1 h2 ⟨o,z1,z2⟩ k=>⟨o,k o z1,z2⟩⟩;refine xa (X:=X.held a) (Ja.held a) hN hi (.inl hn) (v:=.ref a) rfl (λs7 J7=>?_) (.inr hn);have hσ:i<σ.length:=by rw [J.len];exact (dS.mp hi).1
  have hσj:j<σ.length:=by rw [J.len];exact (dS.mp hj).1
  have YJ:f9 (X.held a) [.Assign [.Name y py] (.Name n pn) pa] (rZ (kx i) (a8 j)):=ao (Jm (X:=X.held a) hN hj (.inl hy) (Oe hi (.inl hn) hd2 DY) wW (.inr hy));refine eA (YJ ae s7 _ _ {nx:=λσ' H'=>σ'=(σ.set i (some (.ref a))).set j (some (.ref a))/\H'=upd H a (oU a c),rt:=λ_ _=>False} J7 ⟨.ref a,by rw [xy hσ],rfl,rfl⟩) (λf s8 h8=>?_) λ_ _ z=>False.elim z
  cases f with
  |next =>
    obtain ⟨σ8,H8,J8,rfl,rfl⟩:=h8;have Vr:=Inv.unheld J.ok J8;refine aF (wpAny_bindName (xa Vr hN hi (.inl hn) (v:=.non) rfl (λs9 J9=>?_) (.inr hn)));unfold unbindBehindTheSuite;refine Ah ?_;obtain ⟨m,kr,hl⟩:=id J9.loc;have mT:(((σ.set i (some (.ref a))).set j (some (.ref a))).set i (some V.non))[i]?=some (some .non):=by rw [xy (by rw [sE,sE];exact hσ)]
    obtain ⟨u,_,z⟩:=hl i n .non hi mT (.inl hn);have Yg:m n=some u:=by
      rcases z with ⟨_,z⟩|⟨_,c',z,_⟩
      · exact z
      · rw [nc n]at z;cases z
    refine wpAny_unbindName_local hn kr Yg (by rw [J.ok.kind];rfl) λh' u' qw hs'=>?_
    have RP:=Inv.unbound nc J9 hN hi hl qw hs';refine ⟨_,_,RP,?_⟩;have e:((((σ.set i (some (.ref a))).set j (some (.ref a))).set i (some V.non)).set i none)=(σ.set j (some (.ref a))).set i none:=by
      rw [List.set_set,List.set_comm _ _ sI,List.set_set]
    rw [e];exact ZG a (ap a (by simp)).2.1
  |ret v=>obtain ⟨_,_,_,_,_,z⟩:=h8;exact False.elim z
  |brk=>obtain ⟨_,_,_,z⟩:=h8;exact False.elim z
  |cont=>obtain ⟨_,_,_,z⟩:=h8;exact False.elim z
def zco(K:Frag)(B:Addr)(i j:Nat)(D:ky)(σ:St):XK:=λC _ H'=>∃(c:Addr) (bm:List Value),C=.ref c/\jc K c bm=true/\(Value.ref c::bm).contains (.ref B)=true/\∀a,H' a=none->D.nx ((σ.set j (some (.ref a))).set i none) (upd H' a (oU a c))
end
open PySem PySem.Spec PyProof.Rows
section
variable{X:Cx}
def W2(n k:Nat):fromIndex n (k:Int)=k:=by
 unfold fromIndex;rw[ax (by lia),Ez (gD _),ph]
def Yd:ip X "str.startswith" (λx vs H Q=>∃(i j:Str) (k:Nat),x=.str i/\vs=[.str j,.int (k:Int)]/\Q (.bl (decide (k+j.length<=i.length)&&Builtin.Str.subAt i j k)) H):=by
 intro ae s σ H x xs v us Q I rx rv h;obtain⟨i,j,k,rfl,rfl,q⟩:=h;obtain⟨t,rfl⟩:=rx;obtain⟨u,u',rfl,⟨t2,rfl⟩,⟨t3,rfl⟩⟩:=rv.two;have g:=gives_str_startswith_from i j (k:Int) t t2 t3;rw[W2]at g;exact call_gives F.slot_str_startswith (pN _ _ _) F.entry_str_startswith (F.args_str_startswith_3 _ _ _) g ⟨.bl _,H,I,rfl,q⟩
def Kc:ip X "str.strip" (λx vs H Q=>∃i,x=.str i/\vs=[]/\i.length<=sizeLine/\Q (.str (Txt.strip i)) H):=by
 intro ae s σ H x xs v us Q I rx rv h;obtain⟨i,rfl,rfl,hz,q⟩:=h;obtain⟨t,rfl⟩:=rx;obtain rfl:=rv.zero;exact SC.strip (λt' k=>⟨.str _,H,I.tok _,⟨_,rfl⟩,q⟩) hz
end
end L2
namespace My
open PySem L2 OF
noncomputable def jZ(w:Nat):List Nat:=if w=0 then [97,110,100]else if w=1 then [111,114]else [120,111,114]
noncomputable def mZ:Sm->Bool
 |.two _ _ _=>true
 |_=>false
noncomputable def cQ:Sm->List (List Nat)
 |.bit k=>[[97+k]]
 |.fix b=>[[48+b.toNat]]
 |.no s=>[110,111,116,32]::(if mZ s then [40]::(cQ s++[[41]])else cQ s)
 |.two w s t=>(if mZ s then [40]::(cQ s++[[41]])else cQ s)++(([32]++jZ w++[32])::(if mZ t then [40]::(cQ t++[[41]])else cQ t))
noncomputable def p6(s:Sm):List (List Nat):=if mZ s then [40]::(cQ s++[[41]])else cQ s
def DW(s:Sm):cQ (.no s)=[110,111,116,32]::p6 s:=by unfold p6;rw[cQ]
def Ck(w:Nat)(s t:Sm):cQ (.two w s t)=p6 s++(([32]++jZ w++[32])::p6 t):=by unfold p6;rw[cQ]
noncomputable def kQ(l:List Nat):List Nat :=
 if [110,111,116,32] <+: l then [110,111,116,32]else if [32,97,110,100,32] <+: l then [32,97,110,100,32]else if [32,111,114,32] <+: l then [32,111,114,32]else if [32,120,111,114,32] <+: l then [32,120,111,114,32]else l.take 1
def qG(l:List Nat):Prop:=l=[]\/(∃r,l=32::r)\/∃r,l=41::r
def Cuts:List (List Nat)->List Nat->Prop
 |[],_=>True
 |t::ts,r=>t≠[]/\kQ (t++(ts.flatten++r))=t/\Cuts ts r
theorem Cuts.app:∀{a b:List (List Nat)}{r:List Nat},Cuts a (b.flatten++r)->Cuts b r->Cuts (a++b) r
 |[],b,r,_,h=>h
 |t::a,b,r,h,h'=>by
  obtain⟨h1,h2,h3⟩:=h;exists h1,?_,Cuts.app h3 h';show kQ (t++((a++b).flatten++r))=t;rw[vG,fZ];exact h2
def WW(r:List Nat):kQ ([110,111,116,32]++r)=[110,111,116,32]:=aB (List.prefix_append _ _)
def y8(xb:c≠32)(hn:c≠110\/qG r):kQ ([c]++r)=[c]:=by
 unfold kQ;have e1:¬ [110,111,116,32] <+: [c]++r:=λz=>by
  obtain⟨t,ht⟩:=z;simp at ht;rcases hn with y|y
  ·exact y ht.1.symm
  ·rcases y with y|⟨r',y⟩|⟨r',y⟩
   ·rw[y]at ht;simp at ht
   ·rw[y]at ht;simp at ht
   ·rw[y]at ht;simp at ht
 have e2:∀l:List Nat,¬(32::l) <+: [c]++r:=λl z=>by
  obtain⟨t,ht⟩:=z;simp at ht;exact xb ht.1.symm
 rw[ax e1,ax (e2 _),ax (e2 _),ax (e2 _)];rfl
def YE(hw:w<3)(r:List Nat):kQ (([32]++jZ w++[32])++r)=[32]++jZ w++[32]:=by
 rcases (show w=0\/w=1\/w=2 by lia)with rfl|rfl|rfl
 ·rfl
 ·rfl
 ·rfl
theorem zW{r:List Nat}:∀{s:Sm},s.ok (λk=>k<16)->(∀r,qG r->Cuts (cQ s) r)/\(∀r,qG r->Cuts (p6 s) r)
 |.bit k,h=>by
  have hk:k<16:=h
  have:∀r,qG r->Cuts (cQ (.bit k)) r:=λr hr=>⟨by simp,y8 (by lia) (.inr hr),trivial⟩
  nomatch this,this
 |.fix b,h=>by
  have hb:b=0\/b=1:=h
  have:∀r,qG r->Cuts (cQ (.fix b)) r:=λr hr=>⟨by simp,y8 (by lia) (.inr hr),trivial⟩
  nomatch this,this
 |.no s,h=>by
  have ih:=(zW (r:=r) (s:=s) h).2
  have:∀r,qG r->Cuts (cQ (.no s)) r:=λr hr=>by
   rw[DW];nomatch by simp,WW _,ih r hr
  nomatch this,this
 |.two w s t,h=>by
  obtain⟨hw,h1,h2⟩:=h;have i1:=(zW (r:=r) (s:=s) h1).2;have i2:=(zW (r:=r) (s:=t) h2).2;have go:∀r,qG r->Cuts (cQ (.two w s t)) r:=λr hr=>by
   rw[Ck];refine Cuts.app (i1 _ (.inr (.inl ⟨_,rfl⟩))) ⟨by simp,?_,i2 r hr⟩;exact YE hw _
  exists go,λr hr=>?_;show Cuts ([40]::(cQ (.two w s t)++[[41]])) r;exists by simp,y8 (by decide) (.inl (by decide)),?_;exact Cuts.app (go _ (.inr (.inr ⟨_,rfl⟩))) ⟨by simp,y8 (by decide) (.inl (by decide)),trivial⟩
noncomputable def bZ:Sm->List Nat
 |.bit k=>[97+k]
 |.fix b=>bX b.natAbs
 |.no s=>[110,111,116,32]++(if mZ s then [40]++bZ s++[41]else bZ s)
 |.two w s t=>(if mZ s then [40]++bZ s++[41]else bZ s)++[32]++jZ w++[32]++(if mZ t then [40]++bZ t++[41]else bZ t)
noncomputable def gr(s:Sm):List Nat:=if mZ s then [40]++bZ s++[41]else bZ s
def C0(s:Sm):(gr s).length<=(bZ s).length+2:=by unfold gr;split<;>simp<;>omega
def Ee(s:Sm):(bZ s).length<=(gr s).length:=by
 unfold gr;split
 ·simp;lia
 ·exact aO _
def zaX:("and" : Str)=S [97,110,100]:=by decide+kernel
def VE:("or" : Str)=S [111,114]:=by decide+kernel
def Ue:("xor" : Str)=S [120,111,114]:=by decide+kernel
def r6:("not " : Str)=S [110,111,116,32]:=by decide+kernel
def xi:("(" : Str)=S [40]:=by decide+kernel
def HR:(")" : Str)=S [41]:=by decide+kernel
def Tc(h:w<3):wd w=S (jZ w):=by
 rcases (show w=0\/w=1\/w=2 by omega)with rfl|rfl|rfl
 ·exact zaX
 ·exact VE
 ·exact Ue
def GP(w:Nat):(jZ w).length<=3:=by unfold jZ;split<;>(try split)<;>simp
def Zb(h:w<3):decide (V.str (wd w)=V.str "bit")=false/\decide (V.str (wd w)=V.str "fix")=false/\decide (V.str (wd w)=V.str "not")=false:=by
 rcases (show w=0\/w=1\/w=2 by omega)with rfl|rfl|rfl<;>decide
def ve(s:Sm):bZ (.no s)=[110,111,116,32]++gr s:=by unfold gr;rw[bZ]
def vb(w:Nat)(s t:Sm):bZ (.two w s t)=gr s++[32]++jZ w++[32]++gr t:=by unfold gr;rw[bZ]
def U4(h:w<3):gf (V.str (wd w)) [V.str "and",V.str "or",V.str "xor"]=true:=by
 rcases (show w=0\/w=1\/w=2 by omega)with rfl|rfl|rfl<;>decide
def zab{n:Nat}(h:n<=1):(n:Int).natAbs.log2<1920:=by
 rcases (show n=0\/n=1 by lia)with rfl|rfl<;>decide
def ix(h:n<=40000):n<=sizeLine:=aW h (by decide)
theorem BQ:∀{s:Sm},s.ok (λk=>k<16)->(cQ s).flatten=bZ s/\(p6 s).flatten=gr s
 |.bit k,_=>⟨rfl,rfl⟩
 |.fix b,h=>by
  have hb:b=0\/b=1:=h;rcases hb with rfl|rfl
  ·nomatch rfl,rfl
  ·nomatch rfl,rfl
 |.no s,h=>by
  have ih:=(BQ (s:=s) h).2
  have:(cQ (.no s)).flatten=bZ (.no s):=by rw[DW,ve,nW,ih]
  nomatch this,this
 |.two w s t,h=>by
  obtain⟨hw,h1,h2⟩:=h;have i1:=(BQ (s:=s) h1).2;have i2:=(BQ (s:=t) h2).2;have go:(cQ (.two w s t)).flatten=bZ (.two w s t):=by
   rw[Ck,vb,vG,nW,i1,i2];simp
  exists go,?_;show ([40]::(cQ (.two w s t)++[[41]])).flatten=[40]++bZ (.two w s t)++[41];rw[nW,vG,go];simp
open PySem L2 OF
def VX(l t:List Nat)(k:Nat)(h:k<=l.length):(decide (k+(S t).length<=(S l).length)&&Builtin.Str.subAt (S l) (S t) k)=decide (t <+: l.drop k):=by
 rw[B1,gm,gm,aG,aG];by_cases z:t <+: l.drop k
 ·rw[aR z];obtain⟨r,hr⟩:=z;have hl:t.length<=(l.drop k).length:=by rw[<-hr,aS];lia
  rw[ml]at hl;rw[aR (by lia),uC,<-hr,List.take_left];simp
 ·rw[bj z]
  have:((l.drop k).take t.length == t)=false:=by
   refine rD.mpr λy=>z ⟨(l.drop k).drop t.length,?_⟩
   conv=>lhs;rw[<-y]
   have e:((l.drop k).take t.length).length=t.length:=by rw[y]
   rw[e];exact Gx _ _
  rw[this,tQ]
def zbA:(" and " : Str)=S [32,97,110,100,32]:=by decide+kernel
def Sk:(" or " : Str)=S [32,111,114,32]:=by decide+kernel
def zcc:(" xor " : Str)=S [32,120,111,114,32]:=by decide+kernel
noncomputable def m7:List (List Nat):=[[110,111,116,32],[32,97,110,100,32],[32,111,114,32],[32,120,111,114,32]]
def U9:[V.str "not ",V.str " and ",V.str " or ",V.str " xor "]=m7.map λt=>V.str (S t):=by
 rw[r6,zbA,Sk,zcc];rfl
def Tr{l t:List Nat}{i:Nat}(ht:m7[i]?=some t)(hb:∀j t',j<i->m7[j]?=some t'->¬t' <+: l)(h:t <+: l):kQ l=t:=by
 unfold kQ
 match i,ht with
 |0,ht=>cases ht;exact aB h
 |1,ht=>cases ht;rw[ax (hb 0 _ (by decide) rfl)];exact aB h
 |2,ht=>cases ht;rw[ax (hb 0 _ (by decide) rfl),ax (hb 1 _ (by decide) rfl)];exact aB h
 |3,ht=>cases ht;rw[ax (hb 0 _ (by decide) rfl),ax (hb 1 _ (by decide) rfl),ax (hb 2 _ (by decide) rfl)];exact aB h
 |i+4,ht=>simp[m7]at ht
def Vw(hb:∀j t',j<4->m7[j]?=some t'->¬t' <+: l):kQ l=l.take 1:=by
 unfold kQ;rw[ax (hb 0 _ (by decide) rfl),ax (hb 1 _ (by decide) rfl),ax (hb 2 _ (by decide) rfl),ax (hb 3 _ (by decide) rfl)]
theorem Mp:∀{ts:List (List Nat)}{r:List Nat}{i:Nat}{t:List Nat},Cuts ts r->ts[i]?=some t->t≠[]/\kQ ((ts.drop i).flatten++r)=t
 |[],_,_,_,_,e=>by simp at e
 |u::ts,r,0,t,h,e=>by
  have:u=t:=by simpa using e
  subst this;exists h.1,?_;rw[tD,nW,fZ];exact h.2.1
 |u::ts,r,i+1,t,h,e=>by
  rw[List.drop_succ_cons];exact Mp h.2.2 (by simpa using e)
theorem JA:∀(ts:List (List Nat)) (i:Nat),ts.flatten.drop (ts.take i).flatten.length=(ts.drop i).flatten
 |[],i=>by simp
 |t::ts,0=>rfl
 |t::ts,i+1=>by
  rw[List.take_succ_cons,nW,nW,aS,List.drop_succ_cons,<-JA ts i,<-List.drop_drop,List.drop_left]
theorem CG:∀{ts:List (List Nat)}{r:List Nat},Cuts ts r->ts.length<=ts.flatten.length
 |[],_,_=>aO _
 |t::ts,r,h=>by
  have h1:=CG h.2.2;have h2:0<t.length:=List.length_pos_iff.mpr h.1;rw[nW,aS,br];lia
theorem Qz:∀w:Nat,gf (V.str (wd w)) [V.str "and",V.str "or",V.str "xor"]=true
 |0=>by decide
 |1=>by decide
 |_+2=>by show gf (V.str "xor") _=true;decide
open PySem L2 OF
inductive Itm where
 |nt|op|jn (w:Nat) (s:Sm)
noncomputable def Itm.d:Itm->D
 |.nt=>.tup [.str "not"]
 |.op=>.tup [.str "("]
 |.jn w s=>.tup [.str (wd w),s.d]
noncomputable def jI:Nat->Sm->Sm
 |0,s=>s
 |k+1,s=>jI k (.no s)
def iE(p:Itm->Prop)(ah:List Itm):Prop:=∀it,ah.getLast?=some it->¬p it
def j2:Itm->Prop
 |.nt=>True
 |_=>False
def A7:Itm->Prop
 |.jn _ _=>True
 |_=>False
abbrev oW:=Option Sm×List Itm
inductive Step:oW->List Nat->oW->Prop
 |no (ah:List Itm):Step (none,ah) [110,111,116,32] (none,ah++[.nt])
 |op (ah:List Itm):Step (none,ah) [40] (none,ah++[.op])
 |bit (ah:List Itm) (k j:Nat) (h:iE j2 ah) (hj:j<16):Step (none,ah++List.replicate k .nt) [97+j] (some (jI k (.bit j)),ah)
 |fix (ah:List Itm) (k:Nat) (b:Int) (h:iE j2 ah) (hb:b=0\/b=1):Step (none,ah++List.replicate k .nt) [48+b.toNat] (some (jI k (.fix b)),ah)
 |jn (ah:List Itm) (s:Sm) (w:Nat) (h:iE A7 ah) (hw:w<3):Step (some s,ah) ([32]++jZ w++[32]) (none,ah++[.jn w s])
 |cl (ah:List Itm) (k w:Nat) (s t:Sm) (h:iE j2 ah) (hw:w<3):Step (some t,ah++List.replicate k .nt++[.op,.jn w s]) [41] (some (jI k (.two w s t)),ah)
inductive gV:oW->List (List Nat)->oW->Prop
 |nil (a:oW):gV a [] a
 |cons {a b c:oW}{t:List Nat}{ts:List (List Nat)}:Step a t b->gV b ts c->gV a (t::ts) c
def gV.app(h:gV a ts b)(h':gV b us c):gV a (ts++us) c:=by
 induction h with
 |nil=>exact h'
 |cons s _ ih=>exact .cons s (ih h')
def BW(ah:List Itm)(it:Itm):(ah++[it]).getLast?=some it:=by simp
def Fv(h:¬p it):iE p (ah++[it]):=λx hx=>by
 rw[BW]at hx;cases hx;exact h
def Qg(ah:List Itm)(k:Nat):ah++List.replicate k Itm.nt++[.nt]=ah++List.replicate (k+1) .nt:=by
 rw[fZ,<-List.replicate_succ']
theorem AU:∀{s:Sm},s.ok (λk=>k<16) ->
  (∀ah k,iE j2 ah->mZ s=false->gV (none,ah++List.replicate k .nt) (cQ s) (some (jI k s),ah)) /\
  (∀ah k,iE j2 ah->gV (none,ah++List.replicate k .nt) (p6 s) (some (jI k s),ah)) /\
  (∀w a b,s=.two w a b->∀ah,iE j2 ah->iE A7 ah->gV (none,ah) (cQ s) (some b,ah++[.jn w a]))
 |.bit j,h=>by
  have go:∀ah k,iE j2 ah->gV (none,ah++List.replicate k .nt) (cQ (.bit j)) (some (jI k (.bit j)),ah):=λah k hn=>.cons (.bit ah k j hn h) (.nil _)
  exact⟨λah k hn _=>go ah k hn,go,λw a b e=>by cases e⟩
 |.fix b,h=>by
  have go:∀ah k,iE j2 ah->gV (none,ah++List.replicate k .nt) (cQ (.fix b)) (some (jI k (.fix b)),ah):=λah k hn=>.cons (.fix ah k b hn h) (.nil _)
  exact⟨λah k hn _=>go ah k hn,go,λw a b e=>by cases e⟩
 |.no s,h=>by
  have ih:=(AU (s:=s) h).2.1;have go:∀ah k,iE j2 ah->gV (none,ah++List.replicate k .nt) (cQ (.no s)) (some (jI k (.no s)),ah):=λah k hn=>by
   rw[DW];refine .cons (.no _) ?_;rw[Qg];exact ih ah (k+1) hn
  exact⟨λah k hn _=>go ah k hn,go,λw a b e=>by cases e⟩
 |.two w s t,h=>by
  obtain⟨hw,h1,h2⟩:=h;have i1:=(AU (s:=s) h1).2.1;have i2:=(AU (s:=t) h2).2.1;have go:∀ah,iE j2 ah->iE A7 ah->gV (none,ah) (cQ (.two w s t)) (some t,ah++[.jn w s]):=λah hn hj=>by
   rw[Ck];have a1:=i1 ah 0 hn;rw[CF,iM]at a1;refine a1.app (.cons (.jn ah s w hj hw) ?_);have a2:=i2 (ah++[.jn w s]) 0 (Fv (p:=j2) (it:=.jn w s) (λz=>nomatch z));rw[CF,iM]at a2;exact a2
  exists (λah k _ z=>by cases z),(λah k hn=>?_),(λw' a b e=>by cases e;exact go);show gV _ ([40]::(cQ (.two w s t)++[[41]])) _;refine .cons (.op _) ?_;refine (go _ (Fv (p:=j2) (it:=.op) λz=>nomatch z) (Fv (p:=A7) (it:=.op) λz=>nomatch z)).app (.cons ?_ (.nil _))
  have:=Step.cl ah k w s t hn hw
  rw[fZ (ah++List.replicate k Itm.nt) [Itm.op] [Itm.jn w s]];exact this
def gV.path(h:gV a ts c):∃f:Nat->oW,f 0=a/\f ts.length=c/\∀i t,ts[i]?=some t->Step (f i) t (f (i+1)):=by
 induction h with
 |nil a=>exact⟨λ_=>a,rfl,rfl,λi t e=>by simp at e⟩
 |@cons a b c t ts s _ ih =>
  obtain⟨f,f0,f1,f2⟩:=ih;exists λi=>match i with|0=>a|i+1=>f i,rfl,f1,λi u e=>?_;cases i with
  |zero =>
   have:t=u:=by simpa using e
   subst this;show Step a t (f 0);rw[f0];exact s
  |succ i=>exact f2 i u (by simpa using e)
def nk(H:Hp)(v:V)(it:Itm):Prop:=Is H v it.d
def gZ(H:Hp)(b:Addr)(ah:List Itm):Prop:=∃xs:List V,H b=some (.lst xs)/\Paired (nk H) xs ah
def Po(h:Is H v (.tup [d])):∃p x,v=.ref p/\H p=some (.tup [x])/\Is H x d:=by
 unfold Is at h;obtain⟨p,xs,rfl,h1,h2⟩:=h;unfold ba at h2;obtain⟨x,r,rfl,h3,h4⟩:=h2;unfold ba at h4;subst h4;nomatch p,x,rfl,h1,h3
def A3(h:H p=some (.tup [x]))(h1:Is H x d):Is H (.ref p) (.tup [d]):=by
 unfold Is;exists p,_,rfl,h,?_;unfold ba;exists _,_,rfl,h1,?_;unfold ba;rfl
def AZ(h:nk H v .nt):∃p,v=.ref p/\H p=some (.tup [.str "not"]):=by
 obtain⟨p,x,rfl,h1,h2⟩:=Po (show Is H v (.tup [.str "not"]) from h);rw[cC]at h2;subst h2;nomatch p,rfl,h1
def Av(h:nk H v .op):∃p,v=.ref p/\H p=some (.tup [.str "("]):=by
 obtain⟨p,x,rfl,h1,h2⟩:=Po (show Is H v (.tup [.str "("]) from h);rw[cC]at h2;subst h2;nomatch p,rfl,h1
def FO(h:nk H v (.jn w s)):∃p x,v=.ref p/\H p=some (.tup [.str (wd w),x])/\Is H x s.d:=by
 obtain⟨p,x,y,rfl,h1,h2,h3⟩:=yR (show Is H v (.tup [.str (wd w),s.d]) from h);rw[cC]at h2;subst h2;nomatch p,y,rfl,h1,h3
def R7(k:∀p xs,H p=some (.tup xs)->H' p=some (.tup xs)):∀{it:Itm}{v:V},nk H v it->nk H' v it
 |.nt,v,h=>by obtain⟨p,rfl,h1⟩:=AZ h;exact A3 (k _ _ h1) (cC.mpr rfl)
 |.op,v,h=>by obtain⟨p,rfl,h1⟩:=Av h;exact A3 (k _ _ h1) (cC.mpr rfl)
 |.jn w s,v,h=>by obtain⟨p,x,rfl,h1,h2⟩:=FO h;exact iG (k _ _ h1) (cC.mpr rfl) (gS k h2)
def bI(b:Addr)(H H':Hp):Prop:=∀p o,p≠b->H p=some o->H' p=some o
def bI.refl(b:Addr)(H:Hp):bI b H H:=λ_ _ _ e=>e
def bI.trans(h:bI b H H')(h':bI b H' H''):bI b H H'':=λp o n e=>h' p o n (h p o n e)
def bI.of(h:af H H'):bI b H H':=λp o _ e=>h p o e
def bI.upd:bI b H (L2.upd H b o):=λp o' n e=>by rw[aJ n];exact e
def bI.tups(h:bI b H H')(hb:H b=some (.lst ys)):∀p xs,H p=some (.tup xs)->H' p=some (.tup xs):=λp xs e=>h p _ (λz=>by rw[z,hb]at e;cases e) e
open PySem L2 OF
def qj(xs:List α)(y:α):di (xs++[y]) (-1)=some y:=by
 have e:j7 (xs++[y]).length (-1)=some xs.length:=by
  unfold j7;rw[aS];simp;lia
 unfold di;rw[e];simp
theorem GB:∀{zs:List α}{ah:List β}{it:β},Paired R zs (ah++[it])->∃xs y,zs=xs++[y]/\Paired R xs ah/\R y it
 |_,[],it,h=>by
  cases h with
  |cons r q=>cases q;nomatch [],_,rfl,.nil,r
 |_,i::ah,it,h=>by
  cases h with
  |cons r q =>
   obtain⟨xs,y,e,p,r'⟩:=GB q;nomatch _::xs,y,by rw[e];rfl,.cons r p,r'
def gZ.last(h:gZ H b (ah++[it])):∃xs y,H b=some (.lst (xs++[y]))/\Paired (nk H) xs ah/\nk H y it:=by
 obtain⟨zs,h1,h2⟩:=h;obtain⟨xs,y,rfl,p,r⟩:=GB h2;nomatch xs,y,h1,p,r
def rP(k:∀p xs,H p=some (.tup xs)->H' p=some (.tup xs))(h:Paired (nk H) xs ah):Paired (nk H') xs ah:=Paired.mapP h λ_ _ e=>R7 k e
def gZ.nil(h:gZ H b []):H b=some (.lst []):=by
 obtain⟨xs,h1,h2⟩:=h;cases h2;exact h1
def zB(l:List α):l=[]\/∃r x,l=r++[x]:=by
 rcases List.eq_nil_or_concat l with h|⟨r,x,h⟩
 ·exact .inl h
 ·exact .inr ⟨r,x,by rw[h,List.concat_eq_append]⟩
def gZ.keep(h:gZ H b ah)(s:af H H'):gZ H' b ah:=by
 obtain⟨xs,h1,h2⟩:=h;nomatch xs,s _ _ h1,rP (λp ys e=>s p _ e) h2
open PySem L2 OF
def Ys(h:Step a t b):b.2.length<=a.2.length+1:=by
 cases h<;>simp<;>lia
def SN(h:s.ok (λk=>k<16)):∃(e:Sm) (ah:List Itm),gV (none,[]) (cQ s) (some e,ah)/\((ah=[]/\e=s)\/∃w a,ah=[.jn w a]/\s=.two w a e):=by
 obtain⟨r1,r2,r3⟩:=AU h;have hn:∀p,iE p ([]:List Itm):=λp it z=>by simp at z
 cases hj:mZ s with
 |false =>
  have:=r1 [] 0 (hn _) hj
  nomatch s,[],this,.inl ⟨rfl,rfl⟩
 |true =>
  cases s with
  |two w a b=>nomatch b,[.jn w a],r3 w a b rfl [] (hn _) (hn _),.inr ⟨w,a,rfl,rfl⟩
  |_=>cases hj
def bI.same(h:af H H')(k:bI b H' H'')(hb:H b=none):af H H'':=λp o e=>k p o (λz=>by rw[z,hb]at e;cases e) (h p o e)
open PySem L2 OF
def JT:∀{s:Sm},Is H v s.d->v≠.non
 |.bit _,h=>by obtain⟨p,rfl,_⟩:=mr h;exact λz=>nomatch z
 |.fix _,h=>by obtain⟨p,rfl,_⟩:=mO h;exact λz=>nomatch z
 |.no _,h=>by obtain⟨p,x,rfl,_⟩:=lY h;exact λz=>nomatch z
 |.two _ _ _,h=>by obtain⟨p,x,y,rfl,_⟩:=lU h;exact λz=>nomatch z
end My
namespace L2
open PySem PySem.Spec PyProof.Rows
def JS{l:List Nat}{g:TG}{tc:TT}{te:TE}{σ:St}{H:Hp}{R:List V->Hp->Addr->Prop}(Pv:Nat->List V->St->Hp->Prop)(h0:Pv 0 [] σ H)(hl:∀i ys σ H,Pv i ys σ H->ys.length<=i)(hz:l.length<=sizeLine)
  (hs:∀i c ys σ H,l[i]?=some c->Pv i ys σ H->g (.str (My.S [c])) σ H λσ2 H2=>tc σ2 H2 λb H3=>if b=true then te σ2 H3 λy H4=>Pv (i+1) (ys++[y]) σ2 H4 else Pv (i+1) ys σ2 H3)
  (hd:∀ys σ H,Pv l.length ys σ H->∀D,H D=none->R ys H D) :
  ∃W:Nat->Nat->List V->St->Hp->Prop,(∃m,W 0 m [] σ H)/\∀i m ys σ H,W i m ys σ H ->
   ((qv (My.S l)).stop i H/\∀D,H D=none->R ys H D) \/
   ((qv (My.S l)).go i H/\ys.length<sizeLine/\∃ N:List V->St->Hp->Prop,(∀ dP σ' H',N dP σ' H'->∃ m',m'<m/\W (i+1) m' dP σ' H') /\ ∀x H',(qv (My.S l)).yld i H x H'->g x σ H' λσ2 H2=>tc σ2 H2 λb H3=>if b=true then te σ2 H3 λy H4=>N (ys++[y]) σ2 H4 else N ys σ2 H3):=by
 exists λi m ys σ H=>m=l.length-i/\i<=l.length/\Pv i ys σ H,⟨l.length,by simp,bS _,h0⟩,?_;rintro i m ys σ H ⟨rfl,hi,p⟩;have q:=hl i ys σ H p;by_cases bA:i<l.length
 ·refine .inr ⟨bA,(by lia),Pv (i+1),λdP σ' H' p'=>⟨l.length-(i+1),by lia,rfl,bA,p'⟩,λx H' y=>?_⟩;obtain⟨rfl,c,hc,rfl⟩:=y;exact hs i c ys σ _ (by simpa [My.S] using hc) p
 ·have e:i=l.length:=by lia
  subst e;exact .inl ⟨aO _,hd ys σ H p⟩
end L2
namespace My
open PySem L2 OF
noncomputable def ny(c:Nat):Bool:=decide (48<=c/\c<=57)
noncomputable def nZ(c:Nat):Int:=if 97<=c/\c<113 then (c:Int)-97 else -1
def Wb:∀c:Nat,c<128->Txt.find (S oa) (S [c])=nZ c:=by decide+kernel
noncomputable def kz:List Nat->Int->Nat->Option Nat
 |[],_,m=>some m
 |c::r,la,m=>if nZ c<=la then none else kz r (nZ c) (m+2^(nZ c).toNat)
noncomputable def k9(fs ls:List Nat):Option Nat :=
 if fs=[]/\ls≠[]then some 1 else if fs=[]\/fs.head?=some 48\/(fs=[49]/\ls≠[])then none else some (digitsVal fs)
noncomputable def kZ(w:List Nat):List Nat:=w.takeWhile ny
noncomputable def fS(w:List Nat):List Nat:=w.dropWhile ny
def Td(w:List Nat):w=kZ w++fS w:=(List.takeWhile_append_dropWhile).symm
def HK(w:List Nat):∀c∈kZ w,48<=c/\c<=57:=λc hc=>by
 have:=List.all_takeWhile (p:=ny) (l:=w)
 exact bG (jf.mp this c hc)
def zbM:∀c r,fS w=c::r->¬(48<=c/\c<=57):=λc r e=>by
 have h:(w.dropWhile ny).head?=some c:=by show (fS w).head?=_;rw[e];rfl
 have:=List.head?_dropWhile_not ny w
 rw[h]at this;simpa [ny] using this
noncomputable def nX(sg w:List Nat):Option (Int×Int) :=
 if sg=[43]\/sg=[45]then
  match k9 (kZ w) (fS w),kz (fS w) (-1) 0 with
  |some n,some m=>some ((m:Int),if sg=[45]then -(n:Int)else (n:Int))
  |_,_=>none
 else none
noncomputable def jg:ar->Int->Bool
 |[],_=>true
 |t::r,la=>if t.1<=la\/t.2=0 then false else jg r t.1
noncomputable def aU:List Nat->List (List Nat)
 |[]=>[[]]
 |c::r=>if c=32 then []::aU r else match aU r with
  |[]=>[[c]]
  |w::ws=>(c::w)::ws
theorem ma:∀l,aU l≠[]
 |[]=>by unfold aU;simp
 |c::r=>by
  unfold aU;split
  ·simp
  ·split<;>simp
set_option tactic.hygienic true in
theorem uT:∀l,∀w∈aU l,32∉w
 |[],w,h=>by unfold aU at h;rw[bu.mp h];simp
 |c::r,w,h=>by
  have ih:=uT r;unfold aU at h;split at h
  ·rcases aZ.mp h with z|z
   ·rw[z];simp
   ·exact ih w z
  ·rename_i hc;split at h
   ·rw[bu.mp h];simpa using λz=>hc z.symm
   ·rename_i w0 ws e;rcases aZ.mp h with z|z
    ·rw[z];intro y;rcases aZ.mp y with y|y
     ·exact hc y.symm
     ·exact ih w0 (by rw[e];simp) y
    ·exact ih w (by rw[e];simp[z])
set_option tactic.hygienic true in
theorem xF:∀l,aX 32 (aU l)=l
 |[]=>rfl
 |c::r=>by
  have ih:=xF r;unfold aU;split
  ·rename_i hc;cases e:aU r with
   |nil=>exact absurd e (ma r)
   |cons w ws =>
    rw[e]at ih;show []++32::aX 32 (w::ws)=c::r;rw[ih,hc];rfl
  ·split
   ·rename_i e;exact absurd e (ma r)
   ·rename_i w ws e;rw[e]at ih;cases ws with
    |nil=>show c::w=c::r;rw[show w=r from ih]
    |cons x xs=>show (c::w)++32::aX 32 (x::xs)=c::r;rw[<-ih];rfl
set_option tactic.hygienic true in
theorem xk:∀l,∀w∈aU l,∀c∈w,c∈l
 |[],w,h,c,hc=>by unfold aU at h;rw[bu.mp h]at hc;cases hc
 |a::r,w,h,c,hc=>by
  have ih:=xk r;unfold aU at h;split at h
  ·rcases aZ.mp h with z|z
   ·rw[z]at hc;cases hc
   ·exact eJ _ (ih w z c hc)
  ·split at h
   ·rw[bu.mp h]at hc;rw[bu.mp hc];simp
   ·rename_i w0 ws e;rcases aZ.mp h with z|z
    ·rw[z]at hc;rcases aZ.mp hc with y|y
     ·rw[y];simp
     ·exact eJ _ (ih w0 (by rw[e];simp) c y)
    ·exact eJ _ (ih w (by rw[e];simp[z]) c hc)
set_option tactic.hygienic true in
theorem vQ:∀l,(aU l).length<=l.length+1/\∀w∈aU l,w.length<=l.length
 |[]=>by unfold aU;exact⟨by decide,λw h=>by rw[bu.mp h];exact aO _⟩
 |a::r=>by
  obtain⟨h1,h2⟩:=vQ r;unfold aU;split
  ·exact⟨by rw[br,br];lia,λw h=>by
    rcases aZ.mp h with z|z
    ·rw[z];simp
    ·have:=h2 w z;rw[br];lia⟩
  ·split
   ·exact⟨by simp,λw h=>by rw[bu.mp h];simp⟩
   ·rename_i w0 ws e;rw[e]at h1 h2;exists by rw[br]at h1 ⊢;rw[br];lia,λw h=>?_;rcases aZ.mp h with z|z
    ·rw[z,br,br];have:=h2 w0 (by simp);lia
    ·have:=h2 w (by simp[z]);rw[br];lia
noncomputable def gJ(l:List Nat):List (List Nat):=if l.head?=some 45 then [45]::(match aU l with|[]=>[]|w::r=>w.drop 1::r)else [43]::aU l
noncomputable def oy:List (List Nat)->Option ar
 |[]=>some []
 |[_]=>none
 |sg::w::r=>match nX sg w,oy r with
  |some t,some f=>some (t::f)
  |_,_=>none
noncomputable def mL(l:List Nat):Option ar:=if l=[48]then some []else match oy (gJ l)with
 |some f=>if jg f (-1)=true then some f else none
 |none=>none
def WT(h:l.head?=some c)(hc:c≠32)(e:aU l=w0::wr):∃w',w0=c::w':=by
 cases l with
 |nil=>cases h
 |cons a r =>
  have:a=c:=by simpa using h
  subst this;unfold aU at e;rw[ax hc]at e;split at e
  ·cases e;nomatch [],rfl
  ·cases e;nomatch _,rfl
set_option tactic.hygienic true in
def Vg(l:List Nat):2<=(gJ l).length/\(gJ l).length<=l.length+2/\∀w∈gJ l,(∀c∈w,c∈l\/c=43)/\w.length<=l.length+1:=by
 obtain⟨w0,wr,ew⟩:∃w0 wr,aU l=w0::wr:=by
  cases e:aU l with
  |nil=>exact absurd e (ma l)
  |cons a b=>nomatch a,b,rfl
 obtain⟨h1,h2⟩:=vQ l;have h3:=xk l;rw[ew]at h1 h2 h3;rw[br]at h1;unfold gJ;rw[ew];split
 ·rename_i rA;have Z5:45∈l:=List.mem_of_mem_head? (by rw[rA];rfl);exists by simp,by simp;lia,λw hw=>?_;rcases aZ.mp hw with z|z
  ·rw[z];exact⟨λc hc=>.inl (by rw[bu.mp hc];exact Z5),by simp⟩
  ·rcases aZ.mp z with z|z
   ·rw[z];exact⟨λc hc=>.inl (h3 w0 (by simp) c (zx hc)),by rw[ml];have:=h2 w0 (by simp);lia⟩
   ·exact⟨λc hc=>.inl (h3 w (by simp[z]) c hc),by have:=h2 w (by simp[z]);lia⟩
 ·exists by simp,by simp;omega,λw hw=>?_;rcases aZ.mp hw with z|z
  ·rw[z];exact⟨λc hc=>.inr (bu.mp hc),by simp⟩
  ·exact⟨λc hc=>.inl (h3 w z c hc),by have:=h2 w z;omega⟩
theorem Lh:∀{ws:List (List Nat)},¬ws.length%2=0->oy ws=none
 |[],h=>absurd rfl h
 |[_],_=>rfl
 |a::b::r,h=>by
  have ih:=Lh (ws:=r) (by rw[br,br]at h;lia);unfold oy;rw[ih];cases nX a b<;>rfl
theorem MN:∀{ws:List (List Nat)},ws.length%2=0->∃pp:List (List Nat×List Nat),ws=pp.flatMap λt=>[t.1,t.2]
 |[],_=>⟨[],rfl⟩
 |[_],h=>by simp at h
 |a::b::r,h=>by
  obtain⟨pp,hp⟩:=MN (ws:=r) (by rw[br,br]at h;lia);exact⟨(a,b)::pp,by rw[jG,<-hp];rfl⟩
def Q0(pp:List (List Nat×List Nat)):(pp.flatMap λt=>[t.1,t.2]).length=2*pp.length:=by
 induction pp with
 |nil=>rfl
 |cons t r ih=>rw[jG,aS,ih];show 2+_=2*(r.length+1);lia
noncomputable def jD:List (List Nat×List Nat)->Option ar
 |[]=>some []
 |p::r=>match nX p.1 p.2,jD r with
  |some t,some f=>some (t::f)
  |_,_=>none
theorem Fg:∀pp:List (List Nat×List Nat),oy (pp.flatMap λt=>[t.1,t.2])=jD pp
 |[]=>rfl
 |p::r=>by
  have ih:=Fg r;show oy (p.1::p.2::r.flatMap λt=>[t.1,t.2])=jD (p::r);unfold oy jD;rw[ih]
def ME(l:List Nat):Txt.startswith (S l) (S [45])=decide (l.head?=some 45):=by
 rw[zaK];cases l with
 |nil=>rfl
 |cons c r =>
  show (c == 45)=decide (some c=some 45);by_cases h:c=45
  ·subst h;rfl
  ·rw[bj (λz=>h (dN z))];simpa using h
structure NJ(la:Int)(ls:List Nat):Prop where
 ok:∀c∈ls,97<=c/\c<113
 up:ls.Pairwise (· < ·)
 ab:∀c∈ls,la<(c:Int)-97
noncomputable def vc(ls:List Nat):Nat:=(ls.map λc=>2^(c-97)).sum
theorem Md:∀{ls:List Nat}{la:Int} (m:Nat),NJ la ls->kz ls la m=some (m+vc ls)
 |[],la,m,_=>by show some m=some (m+0);rfl
 |c::r,la,m,h=>by
  have hc:=h.ok c (by simp);have hi:nZ c=(c:Int)-97:=aB hc;obtain⟨u1,u2⟩:=nS.mp h.up;unfold kz;rw[hi,ax (by have:=h.ab c (by simp);lia)];rw[Md (ls:=r) _ ⟨λx hx=>h.ok x (by simp[hx]),u2,λx hx=>by have:=u1 x hx;lia⟩];have e:((c:Int)-97).toNat=c-97:=by lia
  rw[e];show some (m+2^(c-97)+vc r)=some (m+(2^(c-97)+vc r));congr 1;lia
def pU(l:List Nat):(V.str (S l)=V.str (ofString ""))↔l=[]:=⟨λz=>by
 injection z with z
 rw[ia]at z;exact eG z,λz=>by rw[z,ia]⟩
def OI(x:V)(r:List V):gq (x::r) (some 1) none=r:=by
 unfold gq;rw[HT.sIx_none,show (1:Int)=((1:Nat):Int) from rfl,HT.sIx_nat];have e:min 1 (x::r).length=1:=by rw[br];lia
 rw[e];show (r.take ((x::r).length-1))=r;rw[br,Nat.add_sub_cancel,dO]
theorem zY:∀l:List Nat,((l.map λc=>S [c]).map (·.length)).sum=l.length
 |[]=>rfl
 |c::l=>by rw[bU,bU,jV,zY l,br,aG];simp;lia
def Zp(l:List Nat):(l.map λc=>[c]).flatten=l:=by
 induction l with
 |nil=>rfl
 |cons c l ih=>rw[bU,nW,ih];rfl
def EF(l:List Nat):Txt.join (S []) (l.map λc=>S [c])=S l:=by
 have:=Il (l.map λc=>[c])
 rw[fE,Zp]at this;exact this
def O5(K:Frag):Sp:=λvs H Q _=>∃(a:Addr) (f:ar),vs=[.ref a]/\aI H a f/\(∀t∈f,gB t)/\f.length<=64/\∀H',af H H'->Q (.str (S (txt f))) H'
def BK{n:Nat}(h:n<10^63):(n:Int).natAbs.log2<1920:=by
 rw[tM];by_cases h0:n=0
 ·subst h0;decide
 ·exact (tU h0).mpr (dH h (by decide+kernel))
def Jf(h:gB t)(h4:t.2.natAbs<10^4):(bx t).length<=20/\∀c∈bx t,c<128:=by
 have hm:t.1.toNat<2^16:=by have:=h.1;have:=h.2.1;lia
 have e:bx t=gj t.1.toNat t.2.natAbs++cz t.1.toNat:=rfl;have h1:=qd hm;have h2:(gj t.1.toNat t.2.natAbs).length<=4:=by
  unfold gj;split
  ·exact bS _
  ·exact oA (k:=3) h4
 rw[e];exists by rw[aS];lia,λc hc=>?_;rcases bF.mp hc with z|z
 ·have:=WA z;lia
 ·exact Vf hm c z
theorem P9:∀{r:ar},(∀t∈r,gB t/\t.2.natAbs<10^4)->(r.flatMap cI).length<=23*r.length/\∀c∈r.flatMap cI,c<128
 |[],_=>⟨by simp,λc h=>by cases h⟩
 |t::r,h=>by
  obtain⟨i1,i2⟩:=P9 (r:=r) λu hu=>h u (by simp[hu])
  obtain⟨w1,w2⟩:=Jf (h t (by simp)).1 (h t (by simp)).2;rw[jG];exists ?_,λc hc=>?_
  ·rw[aS,br];show ([32,bw t.2,32]++bx t).length+_<=_;rw[aS];show 3+_+_<=_;lia
  ·rcases bF.mp hc with z|z
   ·have z':c∈[32,bw t.2,32]++bx t:=z;rcases bF.mp z' with y|y
    ·have hs:bw t.2=43\/bw t.2=45:=by unfold bw;split<;>simp
     simp only[aZ,jT,jS]at y;lia
    ·exact w2 c y
   ·exact i2 c z
def Dj(hl:f.length<=5)(h:∀t∈f,gB t/\t.2.natAbs<10^4):(txt f).length<=240/\∀c∈txt f,c<128:=by
 cases f with
 |nil=>exact⟨by decide,by decide⟩
 |cons t r =>
  obtain⟨i1,i2⟩:=P9 (r:=r) λu hu=>h u (by simp[hu])
  obtain⟨w1,w2⟩:=Jf (h t (by simp)).1 (h t (by simp)).2;rw[br]at hl;have ha:(dk t.2).length<=1/\∀c∈dk t.2,c<128:=by unfold dk;split<;>simp
  show (dk t.2++bx t++r.flatMap cI).length<=240/\∀c∈dk t.2++bx t++r.flatMap cI,c<128;exists by rw[aS,aS];have:=ha.1;lia,λc hc=>?_;rcases bF.mp hc with z|z
  ·rcases bF.mp z with y|y
   ·exact ha.2 c y
   ·exact w2 c y
  ·exact i2 c z
open PySem L2 OF
noncomputable def jb:Sm->Nat
 |.bit _=>1
 |.fix _=>1
 |.no s=>jb s+1
 |.two _ s t=>jb s+jb t+1
theorem sV:∀s:Sm,s.dp+1<=jb s
 |.bit _=>aO _
 |.fix _=>aO _
 |.no s=>by have:=sV s;show s.dp+1+1<=jb s+1;lia
 |.two _ s t=>by have:=sV s;have:=sV t;show max s.dp t.dp+1+1<=jb s+jb t+1;lia
theorem sO:∀{s:Sm},s.ok p->(bZ s).length<=9*jb s
 |.bit _,_=>by show 1<=9*1;decide
 |.fix b,h=>by
  have hb:b=0\/b=1:=h;rcases hb with rfl|rfl<;>decide
 |.no s,h=>by
  have i1:=sO (s:=s) h
  have:=C0 s
  rw[ve,aS];show 4+_<=9*(jb s+1);lia
 |.two w s t,h=>by
  have i1:=sO (s:=s) h.2.1;have i2:=sO (s:=t) h.2.2
  have:=C0 s
  have:=C0 t
  have:=GP w
  rw[vb];simp only[aS,br,mj];show _<=9*(jb s+jb t+1);lia
theorem Af:∀{s:Sm},s.ok (λk=>k<16)->(∀c∈bZ s,c<128)/\∀c∈gr s,c<128
 |.bit k,h=>by
  have hk:k<16:=h
  have:∀c∈bZ (.bit k),c<128:=λc hc=>by rw[bu.mp hc];lia
  nomatch this,this
 |.fix b,h=>by
  have hb:b=0\/b=1:=h;rcases hb with rfl|rfl
  ·exact⟨by decide,by decide⟩
  ·exact⟨by decide,by decide⟩
 |.no s,h=>by
  have ih:=(Af (s:=s) h).2
  have:∀c∈bZ (.no s),c<128:=λc hc=>by
   rw[ve]at hc;rcases bF.mp hc with y|y
   ·exact (show ∀c∈[110,111,116,32],c<128 by decide) c y
   ·exact ih c y
  nomatch this,this
 |.two w s t,h=>by
  have i1:=(Af (s:=s) h.2.1).2;have i2:=(Af (s:=t) h.2.2).2;have hw:∀c∈jZ w,c<128:=by
   unfold jZ;split
   ·decide
   split
   ·decide
   ·decide
  have go:∀c∈bZ (.two w s t),c<128:=λc hc=>by
   rw[vb]at hc;simp only[bF]at hc;rcases hc with (((y|y)|y)|y)|y
   ·exact i1 c y
   ·rw[bu.mp y];decide
   ·exact hw c y
   ·rw[bu.mp y];decide
   ·exact i2 c y
  exists go,λc hc=>?_;have lK:c∈[40]++bZ (.two w s t)++[41]:=hc;simp only[bF]at lK;rcases lK with (y|y)|y
  ·rw[bu.mp y];decide
  ·exact go c y
  ·rw[bu.mp y];decide
def PX(a b n:Nat):Builtin.Str.strSliceIndices (some (a:Int)) (some (b:Int)) 1 n=Builtin.Str.strSliceIndices (some ((min a n:Nat):Int)) (some ((min b n:Nat):Int)) 1 n:=by
 have h:∀c:Nat,¬((c:Int)<0):=λc=>by lia
 have e:∀c:Nat,max (0:Int) (min (c:Int) (n:Int))=max 0 (min ((min c n:Nat):Int) (n:Int)):=λc=>by lia
 simp only[Builtin.Str.strSliceIndices,h,p9];rw[aB (show (1:Int)>0 by decide),aB (show (1:Int)>0 by decide),aB (show (1:Int)>0 by decide),aB (show (1:Int)>0 by decide),e a,e b]
def OE(l:List Nat){a b:Nat}(h:a<=b):Txt.slice (S l) (some (a:Int)) (some (b:Int))=S ((l.drop a).take (b-a)):=by
 have e:Txt.slice (S l) (some (a:Int)) (some (b:Int))=StrLaws.sliceText (S l) (some ((min a l.length:Nat):Int)) (some ((min b l.length:Nat):Int)):=by
  show StrLaws.sliceText (S l) _ _=_;unfold StrLaws.sliceText;rw[aG,PX a b]
 rw[e,StrLaws.sliceText_nat (S l) (show min a l.length<=min b l.length by lia) (by rw[aG];lia)];refine tX ?_;show (l.drop (min a l.length)).take (min b l.length-min a l.length)=(l.drop a).take (b-a);by_cases h1:a<=l.length
 ·rw[oK h1];by_cases h2:b<=l.length
  ·rw[oK h2]
  ·rw[wN (by lia),nN (by rw[ml];lia),nN (by rw[ml];omega)]
 ·rw[wN (show l.length<=a by lia),wN (show l.length<=b by lia),Dw (aO _),Dw (show l.length<=a by omega)];simp
def X2(l:List Nat)(a:Nat):Txt.slice (S l) (some (a:Int)) none=S (l.drop a):=by
 have e:Txt.slice (S l) (some (a:Int)) none=Txt.slice (S l) (some (a:Int)) (some (l.length:Int)):=by
  show StrLaws.sliceText (S l) _ _=StrLaws.sliceText (S l) _ _;unfold StrLaws.sliceText;rw[aG,StrLaws.sliceIdx_none_hi]
 rw[e];by_cases h:a<=l.length
 ·rw[OE l h,nN (by rw[ml];lia)]
 ·have e2:Txt.slice (S l) (some (a:Int)) (some (l.length:Int))=Txt.slice (S l) (some (l.length:Int)) (some (l.length:Int)):=by
   show StrLaws.sliceText (S l) _ _=StrLaws.sliceText (S l) _ _;unfold StrLaws.sliceText;rw[aG,PX a l.length,wN (show l.length<=a by lia),Nat.min_self]
  rw[e2,OE l (aO _),Dw (show l.length<=a by omega)];simp
def Wo:∀c:Nat,c<128->(!(Builtin.Str.occurrences (S oa) (S [c]) 0 (S oa).length 1).isEmpty)=decide (97<=c/\c<113):=by decide+kernel
def Oh(K:Frag)(d:Nat):Sp:=λvs H Q _=>∃(v:V) (s:Sm),vs=[v]/\Is H v s.d/\s.ok (λk=>k<16)/\2*s.dp+1<d/\(bZ s).length<=10000/\∀H',af H H'->Q (.str (S (bZ s))) H'
def Zn(K:Frag)(d:Nat):Sp:=λvs H Q _=>∃(v:V) (s:Sm),vs=[v]/\Is H v s.d/\s.ok (λk=>k<16)/\2*s.dp+2<d/\(bZ s).length<=10000/\∀H',af H H'->Q (.str (S (gr s))) H'
end My
namespace L2
open PySem PySem.Spec PyProof.Rows
def pA(w:World)(K:Frag)(a:Addr)(kvs:List (Str×Addr)):Prop :=
 (a == sysModules)=false/\∀(P:Program) (h:Heap),K.In h->h.DictOf (fO P w) a (kvs.map λp=>(Sum.inr p.1,Value.ref p.2))
def pA.of{w:World}{K:Frag}{a:Addr}{kvs:List (Str×Addr)}{ts:List Tok}{n:Nat}(hs:(a == sysModules)=false)(hl:kvs.length=ts.length)(hn:(kvs.map (·.1)).Nodup)
  (e:K.lookup a=some ⟨.type "dict",none,.dict ((kvs.zip ts).map λp=>⟨PyData.keyHash w.params p.1.1,.str p.1.1 p.2,.ref p.1.2⟩).toArray n,#[]⟩):pA w K a kvs:=by
 exists hs,λP h X=>⟨_,_,_,X _ _ e,⟨rfl,rfl,rfl⟩,rfl,λx hx=>?_,?_,?_⟩
 ·obtain⟨p,_,rfl⟩:=bW.mp (List.mem_toArray.mp hx);nomatch Sum.inr p.1.1,sr P w p.1.1 p.2,rfl
 ·clear e hn;show Pairs _ ((kvs.zip ts).map _) _;induction kvs generalizing ts with
  |nil=>exact .nil
  |cons p r ih =>
   cases ts with
   |nil=>cases hl
   |cons t ts=>exact .cons (sr P w p.1 t) rfl (ih (by simpa using hl))
 ·rw[fE]
  have:((λx:bJ×Value=>x.1) ∘ λp:Str×Addr=>(Sum.inr p.1,Value.ref p.2))=(λx:Str=>(Sum.inr x:bJ)) ∘ (λp:Str×Addr=>p.1):=rfl
  rw[this,<-fE];exact D7 _ (λx y h z=>h (BD z)) hn
noncomputable def mE(kvs:List (Str×Addr))(x:Str):Option Addr:=(kvs.find? λp=>decide (p.1=x)).map (·.2)
def Ca(kvs:List (Str×Addr))(x:Str):valueAt (kvs.map λp=>((Sum.inr p.1:bJ),Value.ref p.2)) (Sum.inr x)=(mE kvs x).map Value.ref:=by
 unfold valueAt mE;induction kvs with
 |nil=>rfl
 |cons p r ih =>
  rw[bU,dm,dm];by_cases z:p.1=x
  ·rw[aR z,aR (show (Sum.inr p.1:bJ)=Sum.inr x by rw[z])];rfl
  ·rw[bj z,bj (λy=>z (BD y))];exact ih
def zaG(w:World)(K:Frag)(ty td:TE):TE:=λσ H Q=>ty σ H λy H1=>td σ H1 λx H2=>∃a kvs k,x=.ref a/\pA w K a kvs/\y=.str k/\Q (.bl (mE kvs k).isSome) H2
def YH(w:World)(K:Frag)(td ty:TE):TE:=λσ H Q=>td σ H λx H1=>ty σ H1 λy H2=>∃a kvs k b,x=.ref a/\pA w K a kvs/\y=.str k/\mE kvs k=some b/\Q (.ref b) H2
def zar(w:World)(K:Frag)(td ty:TE):TE:=λσ H Q=>td σ H λx H1=>∃a kvs,x=.ref a/\pA w K a kvs/\ty σ H1 λy H2=>∃k,y=.str k/\Q (match mE kvs k with|some b=>.ref b|none=>.non) H2
section
variable{X:Cx}{o i e:Expr}{td ty:TE}{pos eM cw:Pos}
def UR(hu:X.A.units+1<cLine)(hi:PE X i ty)(ho:PE X o td):PC X .In i o (zaG X.w X.K ty td):=by
 intro ae s σ H Q I h;refine aL (hi ae s σ H _ I h) λiv s1 ⟨y,H1,I1,ry,q1⟩=>aL (ho ae s1 σ H1 _ I1 q1) λu s2 ⟨x,H2,I2,rx,a,kvs,k,ex,D,ey,q2⟩=>?_
 subst ex ey;obtain rfl:u=Value.ref a:=rx;obtain⟨t,rfl⟩:=ry;have dd:=D.2 X.prog _ I2.kIn;refine wpAny_in_of (sr X.prog X.w k t) D.1 dd.mapOf ?_;rw[Ca,AI];nomatch .bl _,H2,I2.tok _,rfl,q2
def zbm(hu:X.A.units+1<cLine)(ho:PE X o td)(hi:PE X i ty)(hs:yh i):PE X (.Subscript o i pos) (YH X.w X.K td ty):=by
 intro ae s σ H Q I h;refine Jy PySem.F.slot_dict_getitem.lookup hs (aL (ho ae s σ H _ I h) λu s1 ⟨x,H1,I1,rx,q1⟩=>aL (hi ae s1 σ H1 _ I1 q1) λiv s2 ⟨y,H2,I2,ry,a,kvs,k,b,ex,D,ey,hk,q2⟩=>?_);subst ex ey;obtain rfl:u=Value.ref a:=rx;obtain⟨t,rfl⟩:=ry;have dd:=D.2 X.prog _ I2.kIn;exists dd.typeIs,wpAny_getItem_of (sr X.prog X.w k t) dd.mapOf (by rw[Ca,hk];rfl) ⟨.ref b,H2,I2.tok _,rfl,q2⟩
def zbh(hu:X.A.units+1<cLine)(ho:PE X o td)(he:PE X e ty)(m:M1 X o "get" eM e cw):PE X (.Call (.Attribute o "get" eM) [e] [] cw) (zar X.w X.K td ty):=by
 intro ae s σ H Q I h;refine wpAny_Call_method m.base m.few m.line LU vH PySem.F.type_dict_get (aL (ho ae s σ H _ I h) λu s1 ⟨x,H1,I1,rx,a,kvs,ex,D,q1⟩=>?_);subst ex;obtain rfl:u=Value.ref a:=rx;have dd:=D.2 X.prog _ I1.kIn;exists dd.typeIs,λb q=>?_,?_
 ·cases q;obtain⟨ob,_,_,h1,h2,_⟩:=dd;nomatch ob,h1,h2.2.1
 rw[m.trees];refine Ab rfl (AJ (yS (aL (he ae s1 σ H1 _ I1 q1) λiv s2 ⟨y,H2,I2,ry,k,ey,q2⟩=>Cf ?_)));subst ey;obtain⟨t,rfl⟩:=ry;have xS:=D.2 X.prog _ I2.kIn;refine call_meetsIn vH xS.typeIs CO (PySem.F.args_dict_get_2 _ _) (meets_dict_get (fO X.prog X.w) a (sr X.prog X.w k t) D.1) ⟨_,xS.mapOf,?_⟩;rw[Ca];cases hk:mE kvs k with
 |none=>rw[hk]at q2;nomatch .non,H2,I2.tok _,rfl,q2
 |some b=>rw[hk]at q2;nomatch .ref b,H2,I2.tok _,rfl,q2
end
section
variable{X:Cx}{ae:List (Addr×Obj)}{σ:St}{H:Hp}{s:Shared}
set_option tactic.hygienic true in
def zbD(O:i9 X)(ho:PE X.nox o ta)(c:lM X.K C)(hm:xD X.K C m f)(F:jo X.prog X.w X.K X.mg X.base (jx X.prog X.w) k f fd ps sp)(hr:cX k X.A)
  (hb:Binds X.K fd ps []) (ha:PA X.nox (e::es) t) (he:starEach (e::es) X.env=(false,eval e X.env)::starEach es X.env) (cD:(backTo pos (starEach es X.env)).any (·.1)=false)
  (ht:eval (.Call (.Attribute o m eM) (e :: es) [] pos) X.env=(do
   let ov <-eval o X.env
   standAt eM.atName
   let (f,first) <-holding [ov] (getMethod ov m pl)
   callWith pos f first (backTo pos (starEach (e::es) X.env)) (backToKw pos (keywordEach [] X.env))))
  (I:Inv X ae σ H s) (h:ta σ H λx H1=>∃a dx fs,x=.ref a/\H1 a=some (.ins C dx fs)/\fs.lookup m=none/\t σ H1 λvs H2=>sp (x::vs) H2 Q E) :
  wpAny (model X.prog X.w) X.A (eval (.Call (.Attribute o m eM) (e::es) [] pos) X.env) (EP X ae σ Q) (XP X ae σ E) s:=by
 refine PySem.W.methodCall_KW (pl:=pl) (eA (ho ae s σ H _ (I.wish _) h) (λu s1 ⟨x,H1,I1,rx,a,dx,fs,ex,ea,l,q⟩=>?_) λ_ _ z=>False.elim z) ht;subst ex;obtain rfl:u=Value.ref a:=rx;refine QS I1.unwish ea c hm l ?_;refine HM (first:=[.ref a]) (h₀:=X.base) I.ok.mod.kin hm.kp (eA (ha pos ae s1 σ H1 _ I1 q) (λus s2 ⟨vs,H2,I2,r,q2⟩=>⟨I2.kIn,?_⟩) λ_ _ z=>False.elim z) he cD;have J:=I2.unwish;have r2:Vals (.ref a::vs) (.ref a::us):=.cons rfl r;have hl:(Value.ref a::us).length=ps.length:=by rw[<-r2.length];exact F.len _ _ _ _ q2
 have iL:BindsTo s2 fd ⟨Value.ref a::us,[]⟩ (ps.zip (Value.ref a::us)):=by
  have:=hb s2 (Value.ref a::us) J.kIn (by rw[iM];exact hl)
  rw[iM]at this;exact this
 refine wpAny_call (xM (F.run X.A X.stack s2 H2 ⟨Value.ref a::us,[]⟩ (Value.ref a::us) (.ref a::vs) Q E hr J.env0 iL r2 q2) λr s' hq=>?_);cases r with
 |error e=>exact XP.of O J hq
 |ok fl =>
  cases fl with
  |ret u=>exact J.after hq
  |next=>exact False.elim hq
  |brk=>exact False.elim hq
  |cont=>exact False.elim hq
def Sh(K:Frag)(B C:Addr)(m:Str)(i j l:Nat)(sp:Sp)(ta:TE)(t:TA):TS:=λD σ H=>ta σ H λx H1=>∃a dx fs,x=.ref a/\H1 a=some (.ins C dx fs)/\fs.lookup m=none/\t σ H1 λvs H2=>sp (x::vs) H2 (λv H3=>D.nx (σ.set l (some v)) H3) (zco K B i j D σ)
def Ss{pl:Sem Bool}{k:Nat}{f C:Addr}{fd:FuncData}{ps:List Str}{sp:Sp}{m:Str}{o:Expr}{ta:TE}{eM cw ep pos:Pos}{e:Expr}{es:List Expr}{t:TA}{B:Addr}{uG:List Value}{x n y v:Str}{i j l:Nat}{np py pn pa hp pv:Pos}
  (O:i9 X) (ho:PE X.nox o ta) (c:lM X.K C) (hm:xD X.K C m f) (F:jo X.prog X.w X.K X.mg X.base (jx X.prog X.w) k f fd ps sp) (hr:cX k X.A) (hb:Binds X.K fd ps []) (ha:PA X.nox (e::es) t)
  (hN:X.N.Nodup) (hi:X.N[i]?=some n) (hj:X.N[j]?=some y) (hl:X.N[l]?=some v) (sI:i≠j) (Ru:X.mg x=some (.ref B)) (eB:jc X.K B uG=true)
  (nc:∀x,X.env.cells.lookup x=none:=by exact λ_=>rfl) (hn:X.env.scope.names.lookup n=some .local:=by rfl) (hy:X.env.scope.names.lookup y=some .local:=by rfl) (hv:X.env.scope.names.lookup v=some .local:=by rfl) (Vq:Gl X x:=by rfl) (hd:(x == ("__debug__" : Str))=false:=by decide)
  (hd2:(n == ("__debug__" : Str))=false:=by decide) (DY:(n == ("__classdict__" : Str))=false:=by decide) (wW:swapsWith (.Name n pn) (some (.Name y py)) pa.line X.env=pure false:=by rfl) (hs:swapsWith (.Call (.Attribute o m eM) (e::es) [] cw) (some (.Name v pv)) ep.line X.env=pure false:=by rfl)
  (he:starEach (e::es) X.env=(false,eval e X.env)::starEach es X.env:=by rfl) (cD:(backTo cw (starEach es X.env)).any (·.1)=false:=by rfl)
  (ht:eval (.Call (.Attribute o m eM) (e :: es) [] cw) X.env=(do
   let ov <-eval o X.env
   standAt eM.atName
   let (f,first) <-holding [ov] (getMethod ov m pl)
   callWith cw f first (backTo cw (starEach (e::es) X.env)) (backToKw cw (keywordEach [] X.env))):=by rfl) :
  PS X (.Try [.Assign [.Name v pv] (.Call (.Attribute o m eM) (e::es) [] cw) ep] [.ExceptHandler (some (.Name x np)) (some n) [.Assign [.Name y py] (.Name n pn) pa] hp] [] [] pos) (Sh X.K B C m i j l sp ta t):=by
 intro ae s σ H D I h;refine wpAny_Try_except (Gw (wpAny_Assign_Name (eA (zbD O ho c hm F hr hb ha he cD ht I h) (λu s1 ⟨v',H1,I1,r,q⟩=>?_) λe' s1 z=>?_) hs))
 ·exact xa I1 hN hl (.inl hv) r (λs2 I2=>tS (tS ⟨_,H1,I2,q⟩)) (.inr hv)
 ·exact RG O nc hN hi hj sI hn hy Vq Ru eB hd hd2 DY wW (λC H' z=>z) z
end
open PySem PySem.Spec PyProof.Rows
section
variable{prog:Program}{w:World}{A:Around}{E:Value->Shared->Prop}{s:Shared}
def KC(t:Addr):¬(Value.ref t == Value.none)=true:=dJ
def YW(hp:s.heap.IsTupleIter p t k)(ht:s.heap.IsTuple t ah)(hx:ah[k]?=some x)
  (q:∀g,g.IsTupleIter p t (k+1)->Heap.SameBut p s.heap g->Q x {s with heap:=g}):wpAny (model prog w) A (Builtin.SmallTypes.nextOf (.ref p)) Q E s:=by
 obtain⟨op,e1,e2,e3⟩:=id hp;obtain⟨ot,e4,_,nt,e5⟩:=ht;unfold Builtin.SmallTypes.nextOf;refine aF (xw (name:=ofString "__next__") hp.typeIs A2 (rV A2 hp.typeIs Ip ?_ (Ll _)));show wpAny _ _ (field (.ref p) 0 >>= _) _ _ s;refine aF (jr e1 e3 (x:=.ref t) rfl ?_);show wpAny _ _ (if (Value.ref t == Value.none)=true then _ else _) _ _ s;rw[ax (KC t)];show wpAny _ _ (field (.ref p) 1 >>= _) _ _ s;refine aF (jr e1 e3 (x:=.int k 0) rfl ?_);show wpAny _ _ (seqItems? (.ref t) >>= _) _ _ s;refine aF (qO e4 e5 ?_);simp only[ph,hx];refine aF (wpAny_setField e1 e3 (by simp) (bL ⟨x,rfl,bL (q _ ⟨_,Heap.get?_update_self _ e1 (Obj.isFreed_of_fields (Obj.data_mapFields e3 _)),(Obj.cls_mapFields ..).trans e2,?_⟩ (Heap.SameBut.update ..))⟩));rw[Obj.data_mapFields e3];simp[rawInt]
def VJ(hh:A.handled=none)(hp:s.heap.IsTupleIter p t k)(ht:s.heap.IsTuple t ah)(hx:ah[k]?=none)
  (q:∀g e,Heap.ExtBut p s.heap g->(∃o,g.get? e=some o/\o.cls=.type "StopIteration")->E (.ref e) {s with heap:=g}):wpAny (model prog w) A (Builtin.SmallTypes.nextOf (.ref p)) Q E s:=by
 obtain⟨op,e1,e2,e3⟩:=id hp;obtain⟨ot,e4,_,nt,e5⟩:=ht;unfold Builtin.SmallTypes.nextOf;refine aF (xw (name:=ofString "__next__") hp.typeIs A2 (rV A2 hp.typeIs Ip ?_ (Ll _)));show wpAny _ _ (field (.ref p) 0 >>= _) _ _ s;refine aF (jr e1 e3 (x:=.ref t) rfl ?_);show wpAny _ _ (if (Value.ref t == Value.none)=true then _ else _) _ _ s;rw[ax (KC t)];show wpAny _ _ (field (.ref p) 1 >>= _) _ _ s;refine aF (jr e1 e3 (x:=.int k 0) rfl ?_);show wpAny _ _ (seqItems? (.ref t) >>= _) _ _ s;refine aF (qO e4 e5 ?_);simp only[ph,hx];refine aF (wpAny_rule (aF (wpAny_setField e1 e3 (by simp) ?_)));show wpAny _ _ (newExc (.type "StopIteration") [] >>= _) _ _ _;refine aF ?_;simp only[newExc,newTuple];refine aF (rQ ?_ (by size_fits));refine aF (m:=firstArgMember _ _) (wpAny_of_eq (a:=Value.none) (by first|rfl|(simp only[firstArgMember];rfl)) ?_);refine rQ ?_ (by size_fits);simp only[raiseNew];refine aF (wpAny_handled ?_);first|rw[show A.in1.handled=none from hh]|rw[hh]
 exact aF (bL (wpAny_throw (q _ _ (((Heap.SameBut.update ..).extBut.push _).push _) ⟨_,eI _ rfl,rfl⟩)))
def Z4{z TI TO p r t l:Addr}{k:Nat}{xs ys:Array Value}{x y a b:Value}{Q:Value->Shared->Prop}(D:ZipApart z TI TO p r t l)
  (hz:IsZip s.heap z TI TO .none) (hI:IsPair s.heap TI (.ref p) (.ref r)) (hO:IsPair s.heap TO a b) (h1:s.heap.IsTupleIter p t k) (h2:s.heap.IsListIter r l k) (ht:s.heap.IsTuple t xs) (hl:s.heap.IsList l ys) (hx:xs[k]?=some x) (hy:ys[k]?=some y)
  (q:∀ g,IsZip g z TI TO (rawInt s.heap.objs.size)->IsPair g TO x y->g.IsTupleIter p t (k+1)->g.IsListIter r l (k+1)->IsPair g s.heap.objs.size x y -> (∀c o,c≠z->c≠TO->c≠p->c≠r->s.heap.get? c=some o->g.get? c=some o)->Q (.ref s.heap.objs.size) {s with heap:=g}) :
  wpAny (model prog w) A (Builtin.«zip.__next__» ⟨[.ref z],[]⟩) (λfin s'=>∃v,fin=.done (.ret v)/\Q v s') E s:=by
 show wpAny _ _ (field (.ref z) 2 >>= _) _ _ _;refine aF (jr hz rfl (x:=.bool false) rfl ?_);show wpAny _ _ (field (.ref z) 3 >>= _) _ _ _;refine aF (jr hz rfl (x:=.ref TI) rfl (aF (qO hI rfl ?_)));show wpAny _ _ (Builtin.SmallTypes.ownedTupleIsFree (.ref z) >>= _) _ _ _;refine aF ?_;unfold Builtin.SmallTypes.ownedTupleIsFree;refine aF (jr hz rfl (x:=.none) rfl (bL ?_));simp only[j9];refine aF (wpAny_rule (aF (jr hz rfl (x:=.ref TO) rfl (aF (vq hz (by simp) λg1 iH b1=>?_)))))
 replace iH:IsZip g1 z TI TO .ellipsis:=iH
 refine aF ?_;simp only[List.zipIdx_cons,List.zipIdx_nil,BM,List.forIn_nil];refine aF (aF (Ah ?_));show wpAny _ _ (Builtin.SmallTypes.nextOf (.ref p) >>= _) _ _ _;refine aF (YW (h1.extBut b1.extBut D.i1z) (ht.extBut b1.extBut D.l1z) hx λg2 p2 b2=>bL ?_);have o2:IsPair g2 TO a b:=b2.extBut _ _ D.TOi1 (b1.extBut _ _ D.TOz hO);refine aF (qO o2 rfl (aF (wpAny_updateSeq_pair o2 λg3 o3 b3=>?_)))
 replace o3:IsPair g3 TO x b:=o3
 refine aF (wpAny_letGo (bL (aF (aF (Ah ?_)))));show wpAny _ _ (Builtin.SmallTypes.nextOf (.ref r) >>= _) _ _ _;refine aF (wpAny_nextOf_list_item (((h2.extBut b1.extBut D.i2z).extBut b2.extBut D.i12.symm).extBut b3.extBut D.TOi2.symm) (((hl.extBut b1.extBut D.l2z).extBut b2.extBut D.l2i1).extBut b3.extBut D.l2TO) hy λg4 r4 b4=>bL ?_);have o4:IsPair g4 TO x b:=b4.extBut _ _ D.TOi2 o3;refine aF (qO o4 rfl (aF (wpAny_updateSeq_pair o4 λg5 o5 b5=>?_)))
 replace o5:IsPair g5 TO x y:=o5
 refine aF (wpAny_letGo (bL (bL (aF (qO o5 rfl (aF (wpAny_newTuple ?_)))))));have n5:g5.objs.size=s.heap.objs.size:=by rw[b5.1,b4.1,b3.1,b2.1,b1.1]
 have z5:IsZip g5 z TI TO .ellipsis:=b5.extBut _ _ D.TOz.symm (b4.extBut _ _ D.i2z.symm (b3.extBut _ _ D.TOz.symm (b2.extBut _ _ D.i1z.symm iH)));have k5:∀c o,c≠z->c≠TO->c≠p->c≠r->s.heap.get? c=some o->g5.get? c=some o:=λc o c1 c2 c3 c4 e=>b5.extBut _ _ c2 (b4.extBut _ _ c4 (b3.extBut _ _ c2 (b2.extBut _ _ c3 (b1.extBut _ _ c1 e))))
 have p5:g5.IsTupleIter p t (k+1):=((p2.extBut b3.extBut D.TOi1.symm).extBut b4.extBut D.i12).extBut b5.extBut D.TOi1.symm;have r5:g5.IsListIter r l (k+1):=r4.extBut b5.extBut D.TOi2.symm;have lz:z<g5.objs.size:=bB z5;show wpAny _ _ (Builtin.SmallTypes.ownedTupleHandOut (.ref z) (.ref g5.objs.size) >>= _) _ _ _;refine aF ?_;unfold Builtin.SmallTypes.ownedTupleHandOut;have z6:IsZip (g5.push {cls:=.type "tuple",data:=.seq #[x,y]}) z TI TO .ellipsis:=dG _ z5;refine aF (vq z6 (by simp) λg7 z7 b7=>?_)
 replace z7:IsZip g7 z TI TO (rawInt g5.objs.size):=z7
 refine vq z7 (by simp) λg8 z8 b8=>?_
 replace z8:IsZip g8 z TI TO (rawInt g5.objs.size):=z8
 have up:∀c o,c≠z->g5.get? c=some o->g8.get? c=some o:=λc o c1 e=>b8.extBut _ _ c1 (b7.extBut _ _ c1 (dG _ e))
 have T8:IsPair g8 g5.objs.size x y:=b8.extBut _ _ (uN lz) (b7.extBut _ _ (uN lz) (eI _ rfl));rw[n5]at z8 T8;refine bL ⟨_,rfl,?_⟩;show Q (.ref g5.objs.size) _;rw[n5];refine q g8 z8 (up _ _ D.TOz o5) ?_ (r5.at λo e=>up _ o D.i2z e) T8 λc o c1 c2 c3 c4 e=>up c o c1 (k5 c o c1 c2 c3 c4 e)
 obtain⟨o,e,rest⟩:=p5;nomatch o,up _ o D.i1z e,rest
def Uy{z TI TO p r t l:Addr}{k:Nat}{xs:Array Value}{a b:Value}{Q:Fin->Shared->Prop}(hh:A.handled=none)(D:ZipApart z TI TO p r t l)
  (hz:IsZip s.heap z TI TO .none) (hI:IsPair s.heap TI (.ref p) (.ref r)) (hO:IsPair s.heap TO a b) (h1:s.heap.IsTupleIter p t k) (ht:s.heap.IsTuple t xs) (hx:xs[k]?=none)
  (q:∀g e,(∀c o,c≠z->c≠TO->c≠p->c≠r->s.heap.get? c=some o->g.get? c=some o)->(∃o,g.get? e=some o/\o.cls=.type "StopIteration")->E (.ref e) {s with heap:=g}) :
  wpAny (model prog w) A (Builtin.«zip.__next__» ⟨[.ref z],[]⟩) Q E s:=by
 show wpAny _ _ (field (.ref z) 2 >>= _) _ _ _;refine aF (jr hz rfl (x:=.bool false) rfl ?_);show wpAny _ _ (field (.ref z) 3 >>= _) _ _ _;refine aF (jr hz rfl (x:=.ref TI) rfl (aF (qO hI rfl ?_)));show wpAny _ _ (Builtin.SmallTypes.ownedTupleIsFree (.ref z) >>= _) _ _ _;refine aF ?_;unfold Builtin.SmallTypes.ownedTupleIsFree;refine aF (jr hz rfl (x:=.none) rfl (bL ?_));simp only[j9];refine aF (wpAny_rule (aF (jr hz rfl (x:=.ref TO) rfl (aF (vq hz (by simp) λg1 iH b1=>?_)))))
 replace iH:IsZip g1 z TI TO .ellipsis:=iH
 refine aF ?_;simp only[List.zipIdx_cons,List.zipIdx_nil,BM,List.forIn_nil];refine aF (aF (Ah ?_));show wpAny _ _ (Builtin.SmallTypes.nextOf (.ref p) >>= _) _ _ _;refine aF (VJ hh (h1.extBut b1.extBut D.i1z) (ht.extBut b1.extBut D.l1z) hx λg2 e b2 he=>?_);obtain⟨oe,e1,e2⟩:=he;have z2:IsZip g2 z TI TO .ellipsis:=b2 _ _ D.i1z.symm iH;have ne:e≠z:=λw=>by subst w;rw[z2]at e1;cases e1;simp at e2
 exact vq z2 (by simp) λg3 _ b3=>q g3 e (λc o c1 _ c3 _ w=>b3.extBut _ _ c1 (b2 _ _ c3 (b1.extBut _ _ c1 w))) ⟨oe,b3.extBut _ _ ne e1,e2⟩
noncomputable abbrev zr(h:Heap)(t:Addr):Heap:=h.push {cls:=.type "tuple_iterator",data:=.fields #[.ref t,.int 0 0]}
noncomputable abbrev ym(h:Heap)(t l:Addr):Heap:=(zr h t).push {cls:=.type "list_iterator",data:=.fields #[.ref l,.int 0 0]}
noncomputable abbrev Be(h:Heap)(t l:Addr):Heap:=(ym h t l).push {cls:=.type "tuple",data:=.seq #[.ref h.objs.size,.ref (zr h t).objs.size]}
noncomputable abbrev As(h:Heap)(t l:Addr):Heap:=(Be h t l).push {cls:=.type "tuple",data:=.seq #[.none,.none]}
noncomputable abbrev uv(h:Heap)(t l:Addr):Heap:=(As h t l).push {cls:=.type "zip",data:=.fields #[.none,.bool false,.bool false,.ref (ym h t l).objs.size,.ref (Be h t l).objs.size]}
def RX(t l:Addr)(xs ys:Array Value):Meets (Builtin.«zip.__new__» ⟨[.type "zip",.ref t,.ref l],[]⟩) (λ_ R s=>s.heap.IsTuple t xs/\s.heap.IsList l ys/\R (.ok (.ret (.ref (As s.heap t l).objs.size))) {s with heap:=uv s.heap t l}) :=
 .of_wp λprog w A R s h=>by
  obtain⟨hp,g,d,tk,os⟩:=s;obtain⟨h1,h2,h3⟩:=h;have Nx:=sub_zip;have a1:Heap.IsTuple (Shared.heap ⟨hp,g,d,tk,os⟩) t xs:=h1;have a2:Heap.IsList (Shared.heap ⟨hp.push {cls:=.type "tuple_iterator",data:=.fields #[.ref t,.int 0 0]},g,d,tk,os⟩) l ys:=Heap.IsList.push h2 _
  wp_walk using wpAny_pyIter_tuple a1,Bt a2
  nomatch _,rfl,h3
def Rc(h1:s.heap.IsTuple t xs)(h2:s.heap.IsList l ys)
  (q:∀ g,IsZip g (s.heap.objs.size+4) (s.heap.objs.size+2) (s.heap.objs.size+3) .none->IsPair g (s.heap.objs.size+2) (.ref s.heap.objs.size) (.ref (s.heap.objs.size+1))->IsPair g (s.heap.objs.size+3) .none .none->g.IsTupleIter s.heap.objs.size t 0->g.IsListIter (s.heap.objs.size+1) l 0 -> (∀c o,s.heap.get? c=some o->g.get? c=some o)->Q (.ref (s.heap.objs.size+4)) {s with heap:=g}):wpAny (model prog w) A (call (.type "zip") [.ref t,.ref l]) Q E s:=by
 refine callType_new F.called_zip (by decide) (F.typeCall_zip_2 _ _) (F.newCall_zip_2 _ _) (λobj=>F.args_object_init_3 obj _ _) F.entry_zip_new (RX t l xs ys) ⟨h1,h2,?_⟩;have n1:(zr s.heap t).objs.size=s.heap.objs.size+1:=rK ..;have n2:(ym s.heap t l).objs.size=s.heap.objs.size+2:=by rw[rK,n1]
 have n3:(Be s.heap t l).objs.size=s.heap.objs.size+3:=by rw[rK,n2]
 have n4:(As s.heap t l).objs.size=s.heap.objs.size+4:=by rw[rK,n3]
 have u:∀{h:Heap}{o:Obj}{c:Addr}{v:Obj},h.get? c=some v->(h.push o).get? c=some v:=λe=>dG _ e
 have m5:(uv s.heap t l).get? (As s.heap t l).objs.size=some _:=eI _ rfl;have m4:(uv s.heap t l).get? (Be s.heap t l).objs.size=some _:=u (eI _ rfl);have m3:(uv s.heap t l).get? (ym s.heap t l).objs.size=some _:=u (u (eI _ rfl));have m2:(uv s.heap t l).get? (zr s.heap t).objs.size=some _:=u (u (u (eI _ rfl)));have m1:(uv s.heap t l).get? s.heap.objs.size=some _:=u (u (u (u (eI _ rfl))));show _/\_;rw[n2,n3,n4]at m5;rw[n1,n2]at m3;rw[n3]at m4;rw[n1]at m2;rw[n4];nomatch ⟨_,m5,rfl⟩,q _ m5 m3 m4 ⟨_,m1,rfl,rfl⟩ ⟨_,m2,rfl,rfl⟩ λc o e=>u (u (u (u (u e))))
def Vt{z TI TO p r t l:Addr}{k:Nat}{xs ys:Array Value}{x y a b:Value}{Q:Option Value->Shared->Prop}(D:ZipApart z TI TO p r t l)
  (hz:IsZip s.heap z TI TO .none) (hI:IsPair s.heap TI (.ref p) (.ref r)) (hO:IsPair s.heap TO a b) (h1:s.heap.IsTupleIter p t k) (h2:s.heap.IsListIter r l k) (ht:s.heap.IsTuple t xs) (hl:s.heap.IsList l ys) (hx:xs[k]?=some x) (hy:ys[k]?=some y)
  (q:∀ g,IsZip g z TI TO (rawInt s.heap.objs.size)->IsPair g TO x y->g.IsTupleIter p t (k+1)->g.IsListIter r l (k+1)->IsPair g s.heap.objs.size x y -> (∀c o,c≠z->c≠TO->c≠p->c≠r->s.heap.get? c=some o->g.get? c=some o)->Q (some (.ref s.heap.objs.size)) {s with heap:=g}):wpAny (model prog w) A (pyNext (.ref z)) Q E s:=by
 have hT:s.TypeIs (.ref z) "zip" := ⟨_,hz,rfl⟩;unfold pyNext;exact aF (wpAny_attempt (xw (name:=ofString "__next__") hT Bk (rV Bk hT F.entry_zip_next (Z4 D hz hI hO h1 h2 ht hl hx hy λg a1 a2 a3 a4 a5 a6=>bL (q g a1 a2 a3 a4 a5 a6)) (F.args_zip_next_1 _))))
def U7{z TI TO p r t l:Addr}{k:Nat}{xs:Array Value}{a b:Value}{Q:Option Value->Shared->Prop}(hh:A.handled=none)(D:ZipApart z TI TO p r t l)
  (hz:IsZip s.heap z TI TO .none) (hI:IsPair s.heap TI (.ref p) (.ref r)) (hO:IsPair s.heap TO a b) (h1:s.heap.IsTupleIter p t k) (ht:s.heap.IsTuple t xs) (hx:xs[k]?=none)
  (q:∀g,(∀c o,c≠z->c≠TO->c≠p->c≠r->s.heap.get? c=some o->g.get? c=some o)->Q none {s with heap:=g}):wpAny (model prog w) A (pyNext (.ref z)) Q E s:=by
 have hT:s.TypeIs (.ref z) "zip" := ⟨_,hz,rfl⟩;unfold pyNext;refine aF (wpAny_attempt (xw (name:=ofString "__next__") hT Bk (rV Bk hT F.entry_zip_next (Uy hh D hz hI hO h1 ht hx λg e hk he=>?_) (F.args_zip_next_1 _))));obtain⟨o,ho,hc⟩:=he;exact aF (wpAny_isInstance (T := "StopIteration") (b:=true) ⟨o,ho,hc⟩ isSubtype_stop (bL (q _ hk)))
end
noncomputable def vm(K:Frag)(a b:Addr):It :=
 ⟨λi H=>∃xs ys x y,ay K H a xs/\aj K H b ys/\xs[i]?=some x/\ys[i]?=some y,λi H v H'=>∃T x y,H T=none/\v=.ref T/\H'=upd H T (.tup [x,y])/\(∀xs,ay K H a xs->xs[i]?=some x)/\∀ys,aj K H b ys->ys[i]?=some y,λi H=>∃xs,ay K H a xs/\xs.length<=i⟩
def Yb{P:Program}{w:World}{K:Frag}{elts:List Expr}{x1:Nat}{pos:Pos}(a b z TI TO i1 i2:Addr)(D:ZipApart z TI TO i1 i2 a b) :
  nG P w K (.Tuple elts x1 pos) (vm K a b) [z,TI,TO,i1,i2] z (λi h=>IsZip h z TI TO .none/\IsPair h TI (.ref i1) (.ref i2)/\(∃u v,IsPair h TO u v)/\h.IsTupleIter i1 a i/\h.IsListIter i2 b i) where
 mem:=by simp
 obj:=λi h st c hc=>by
  obtain⟨hz,fB,⟨u,v,fP⟩,⟨o1,e1,c1,d1⟩,⟨o2,e2,c2,d2⟩⟩:=st;simp only[aZ,jT,jS]at hc;rcases hc with rfl|rfl|rfl|rfl|rfl
  ·exact⟨_,hz,λv z=>by cases z⟩
  ·exact⟨_,fB,λv z=>by cases z⟩
  ·exact⟨_,fP,λv z=>by cases z⟩
  ·exact⟨o1,e1,λv z=>by rw[d1]at z;cases z⟩
  ·exact⟨o2,e2,λv z=>by rw[d2]at z;cases z⟩
 keep:=λi h h' st k=>by
  obtain⟨hz,fB,⟨u,v,fP⟩,h1,h2⟩:=st;nomatch k z (by simp) _ hz,k TI (by simp) _ fB,⟨u,v,k TO (by simp) _ fP⟩,h1.at λo q=>k i1 (by simp) o q,h2.at λo q=>k i2 (by simp) o q
 item:=by
  intro X hP hw hK hc i ae s σ H E I hf st hg;subst hP hw hK;obtain⟨hz,fB,⟨u,v,fP⟩,h1,h2⟩:=st;obtain⟨xs,ys,x,y,hq,d9,hx,hy⟩:=hg;obtain⟨ah,rv,p,hsz⟩:=I.tuple hq;obtain⟨its',qH,p',IM⟩:=I.list d9;obtain⟨ux,hu,ru⟩:=rv.get hx;obtain⟨uy,vK,wM⟩:=qH.get hy;refine Vt D hz fB fP h1 h2 (show s.heap.IsTuple a ah.toArray from p) p'.isList (x:=ux) (y:=uy) (by simpa using hu) (by simpa using vK) λbT iH Ew Fm oX hT k1=>⟨_,rfl,?_⟩
  refine Nd iH λdh mv sb=>?_
  have lz:z<s.heap.objs.size:=bB hz;have EN:s.heap.objs.size≠z:=uN lz;have kk:∀c o,c∉[z,TI,TO,i1,i2]->s.heap.get? c=some o->dh.get? c=some o:=λc o hc q=>by
   simp only[aZ,jT,jS,not_or]at hc;exact (sb.2 c hc.1).trans (k1 c o hc.1 hc.2.2.1 hc.2.2.2.1 hc.2.2.2.2 q)
  have bE:IsPair dh s.heap.objs.size ux uy:=(sb.2 _ EN).trans hT;have EI:IsPair dh TI (.ref i1) (.ref i2):=(sb.2 _ D.TIz).trans (k1 _ _ D.TIz D.TITO D.TIi1 D.TIi2 fB);exists .ref s.heap.objs.size,upd H s.heap.objs.size (.tup [x,y]),I.turnedL (t':=s.toks) _ kk hf (aO _) ⟨by show 2<=sizeLine;decide,[ux,uy],.cons ru (.cons wM .nil),?_⟩,rfl,⟨_,x,y,I.hok.fresh (aO _),rfl,rfl,λzs h=>by rw[I.tuple_inj h hq];exact hx,λzs h=>by rw[I.list_inj h d9];exact hy⟩,⟨mv,EI,⟨ux,uy,(sb.2 _ D.TOz).trans Ew⟩,?_,?_⟩,λc hc=>?_
  ·nomatch _,bE,rfl,0,rfl
  ·exact Fm.at λo q=>(sb.2 _ D.i1z).trans q
  ·exact oX.at λo q=>(sb.2 _ D.i2z).trans q
  ·have gP:c<s.heap.objs.size:=by
    simp only[aZ,jT,jS]at hc;rcases hc with rfl|rfl|rfl|rfl|rfl
    ·exact lz
    ·exact bB fB
    ·exact bB fP
    ·obtain⟨o,q,_⟩:=h1;exact bB q
    ·obtain⟨o,q,_⟩:=h2;exact bB q
   rw[aJ (d5 gP)];exact (hf c hc).1
 done:=by
  intro X hP hw hK hc i ae s σ H E I hf st hg;subst hP hw hK;obtain⟨hz,fB,⟨u,v,fP⟩,h1,h2⟩:=st;obtain⟨xs,hq,hx⟩:=hg;obtain⟨ah,rv,p,hsz⟩:=I.tuple hq;have hl:=rv.length;refine U7 (I.ok.hd hc) D hz fB fP h1 (show s.heap.IsTuple a ah.toArray from p) (by simp;lia) λh' kk=>⟨rfl,I.turnedN (t':=s.toks) [z,TI,TO,i1,i2] (λc o hc q=>?_) hf⟩
  simp only[aZ,jT,jS,not_or]at hc;exact kk c o hc.1 hc.2.2.1 hc.2.2.2.1 hc.2.2.2.2 q
 self:=λ_ _ _ _ _ st h=>Au st.1 h
def UQ(K:Frag)(ta:TA):TI:=λσ H R=>ta σ H λvs H1=>∃a b,vs=[.ref a,.ref b]/\(∃xs,ay K H1 a xs)/\(∃ys,aj K H1 b ys)/\R (vm K a b) H1
def XQ{X:Cx}{elts:List Expr}{x1:Nat}{p0 p pos:Pos}{a b:Expr}{ta:TA}(hg:Gl X "zip")(hm:X.mg "zip" = none)(ha:PA X [a,b] ta)(hs:starEach [a,b] X.env=(false,eval a X.env)::starEach [b] X.env:=by rfl)(pD:(backTo pos (starEach [b] X.env)).any (·.1)=false:=by rfl) :
  PI X (.Tuple elts x1 p0) (.Call (.Name "zip" p) [a,b] [] pos) (UQ X.K ta):=by
 intro ae s σ H R I h;refine Call_ (pZ I hg hm MC (uu (aL (ha pos ae s σ H _ I h) λus s1 ⟨vs,H1,I1,r1,q1⟩=>?_) hs pD));obtain⟨l1,l2,rfl,⟨xs,hq⟩,⟨ys,d9⟩,q⟩:=q1;obtain⟨u,v,rfl,ru,rv⟩:=AW r1;cases (show u=Value.ref l1 from ru);cases (show v=Value.ref l2 from rv);obtain⟨ah,rx,p,hz⟩:=I1.tuple hq;obtain⟨its',Q7,p',CT⟩:=I1.list d9;have n1:l1<s1.heap.objs.size:=by obtain⟨o,q,_⟩:=p;exact bB q
 have n2:l2<s1.heap.objs.size:=by obtain⟨o,q,_⟩:=p'.isList;exact bB q
 refine Rc (show s1.heap.IsTuple l1 ah.toArray from p) p'.isList λh' hz fB fP h1 h2 k=>Au hz ?_
 have I2:Inv X ae σ H1 {s1 with heap:=h'}:=I1.kept (t':=s1.toks) k;exists _,_,_,_,H1,rfl,I2,Yb l1 l2 _ _ _ _ _ (zipApart_new n1 n2),⟨hz,fB,⟨_,_,fP⟩,h1,h2⟩,λc hc=>?_,q;have fr:∀c,s1.heap.objs.size<=c->iK X ae H1 c:=λc hc=>I1.fpOk hc (I1.hok.fresh hc)
 simp only[aZ,jT,jS]at hc;rcases hc with rfl|rfl|rfl|rfl|rfl<;>exact fr _ (by lia)
def WU{K:Frag}{a b:Addr}{xs ys:List V}{g:TG}{tc:TT}{te:TE}{σ:St}{H:Hp}{R:List V->Hp->Addr->Prop}(GS:xs.length=ys.length)(Pv:Nat->List V->St->Hp->Prop)(h0:Pv 0 [] σ H)
  (hl:∀i zs σ H,i<=xs.length->Pv i zs σ H->ay K H a xs/\aj K H b ys/\zs.length<=i) (hz:xs.length<=sizeLine)
  (hs:∀i x y zs σ H T,xs[i]?=some x->ys[i]?=some y->Pv i zs σ H->H T=none->g (.ref T) σ (upd H T (.tup [x,y])) λσ2 H2=>tc σ2 H2 λb H3=>if b=true then te σ2 H3 λy H4=>Pv (i+1) (zs++[y]) σ2 H4 else Pv (i+1) zs σ2 H3)
  (hd:∀zs σ H,Pv xs.length zs σ H->∀D,H D=none->R zs H D) :
  ∃W:Nat->Nat->List V->St->Hp->Prop,(∃m,W 0 m [] σ H)/\∀i m zs σ H,W i m zs σ H ->
   ((vm K a b).stop i H/\∀D,H D=none->R zs H D) \/
   ((vm K a b).go i H/\zs.length<sizeLine/\∃ N:List V->St->Hp->Prop,(∀ xv σ' H',N xv σ' H'->∃ m',m'<m/\W (i+1) m' xv σ' H') /\ ∀x H',(vm K a b).yld i H x H'->g x σ H' λσ2 H2=>tc σ2 H2 λb H3=>if b=true then te σ2 H3 λy H4=>N (zs++[y]) σ2 H4 else N zs σ2 H3):=by
 exists λi m zs σ H=>m=xs.length-i/\i<=xs.length/\Pv i zs σ H,⟨xs.length,by simp,bS _,h0⟩,?_;rintro i m zs σ H ⟨rfl,hi,p⟩;obtain⟨q1,q2,q3⟩:=hl i zs σ H hi p;by_cases bA:i<xs.length
 ·have GL:i<ys.length:=by lia
  refine .inr ⟨⟨xs,ys,xs[i],ys[i],q1,q2,by simp[bA],by simp[GL]⟩,(by lia),Pv (i+1),λdP σ' H' p'=>⟨xs.length-(i+1),by lia,rfl,bA,p'⟩,λx H' y=>?_⟩;obtain⟨T,u,v,hT,rfl,rfl,y1,y2⟩:=y;exact hs i u v zs σ _ T (y1 xs q1) (y2 ys q2) p hT
 ·have e:i=xs.length:=by lia
  subst e;exact .inl ⟨⟨xs,q1,aO _⟩,hd zs σ H p⟩
open PySem PySem.Spec PyProof.Rows
section
variable{X:Cx}
def Nz(m:Int)(ns:List Int):Prop:=m∈ns/\∀n∈ns,n<=m
def UI(hi:IntsAre us ns)(qh:us.toArray=intItems xs)(dZ:0<xs.size)(hP:(intItems xs)[argBest (λi j=>decide (numAt xs i>numAt xs j)) (xs.size-1)]?=some v) :
  ∃m t,v=.int m t/\Nz m ns:=by
 obtain⟨t,rfl⟩:=intItems_at hP;exists _,t,rfl,?_,λn hn=>?_
 all_goals
  have hs:xs.toList.map (·.1)=ns:=by
   rw[<-nums_intItems,<-qh];exact (show numsOf us.toArray.toList=ns from hi.numsOf)
  obtain⟨b1,b2⟩:=argBest_gt (numAt xs) (xs.size-1);have mT:∀j,j<xs.size->ns[j]?=some (numAt xs j):=λj hj=>by
   rw[<-hs,dE];unfold numAt;rw[Dp,MZ hj];rfl
 ·exact dr (mT _ (by omega))
 ·obtain⟨j,hj⟩:=List.getElem?_of_mem hn;have mJ:j<xs.size:=by
   have:=(dS.mp hj).1
   rw[<-hs,av,vF]at this;exact this
  rw[mT j mJ]at hj;cases hj;exact b2 j (by lia)
def Ub(hc:X.calm=true):jq X (.builtin "max") (λxs H Q=>∃(a:Addr) (ns:List Int),xs=[.ref a]/\aj X.K H a (ns.map V.int)/\0<ns.length/\∀m,Nz m ns->Q (.int m) H):=by
 intro ae s σ H xs us Q I r h;obtain⟨a,ns,rfl,hq,dZ,q⟩:=h;obtain⟨u,rfl,ru⟩:=jz r;cases (show u=Value.ref a from ru);obtain⟨ah,rv,p,hz⟩:=I.list hq;have hi:=BE rv;obtain⟨zs,qh⟩:=hi.allInts.items;have hsz:0<zs.size:=by
  have h1:=rv.length;rw[av]at h1;have h2:ah.toArray.size=zs.size:=by rw[qh];simp[intItems]
  rw[cf]at h2;lia
 refine max_intList (I.ok.hd hc) (qh ▸ p.isList) hsz λv h' tk hP hk=>?_
 obtain⟨m,t,rfl,hm⟩:=UI hi qh hsz hP;nomatch .int m,H,I.kept (t':=tk) hk,⟨t,rfl⟩,q m hm
end
open PySem PySem.Spec PyProof.Rows
section
variable{X:Cx}
def zb1(i j:Int):Prop:=0<=j/\(intBits i:Int)*j<=2^27
def zaY:bV X (binaryOp .Pow) (rI zb1 λi j=>.int (i^j.toNat)):=uj λ_ _ _ _ _ _ _ hc q=>pow_int hc.1 hc.2 q
def Ze(hc:X.calm=true):jq X (.builtin "any") (λxs H Q=>∃(a:Addr) (bs:List Bool),xs=[.ref a]/\aj X.K H a (bs.map V.bl)/\Q (.bl (bs.any id)) H):=by
 intro ae s σ H xs us Q I r h;obtain⟨a,bs,rfl,hq,q⟩:=h;obtain⟨u,rfl,ru⟩:=jz r;cases (show u=Value.ref a from ru);obtain⟨ah,rv,p,hz⟩:=I.list hq;have hl:=p.isList;have bA:a<s.heap.objs.size:=by obtain⟨_,e,_⟩:=hl;exact bB e
 refine call_any_walk (Bt hl ?_);refine⟨s.heap.objs.size,[s.heap.objs.size,a],[s.heap.objs.size],ah.toArray.size,_,_,λi=>(bs[i]?).getD false,rfl,Walks.list (A:=X.A.in1) (I.ok.hd hc) _ a (d5 bA) ah.toArray,⟨⟨_,eI _ rfl,rfl,rfl⟩,hl.push _⟩,λi v s' Q' E' hP hQ=>?_,λh' tk hk=>?_⟩
 ·obtain⟨b,e,rfl⟩:=Hc rv i v (by simpa using hP);simp only[e,AD]at hQ;exact lq hQ
 ·have e:((List.range ah.toArray.size).any λi=>(bs[i]?).getD false)=bs.any id:=by
   have h1:=rv.length;rw[av]at h1;rw[cf,<-h1,qD,xN,xN];constructor
   ·rintro⟨i,hi,z⟩;have ir:=pL.mp hi;simp only[eC ir,AD]at z;nomatch _,jH ir,z
   ·rintro⟨b,hb,z⟩;obtain⟨i,hi,rfl⟩:=List.getElem_of_mem hb;exact⟨i,pL.mpr hi,by simpa [eC hi] using z⟩
  rw[e];exists .bl (bs.any id),H,I.kept (t':=tk) (λb o e=>hk b o (λhm=>?_) (dG _ e)),rfl,q;rw[bu.mp hm]at e;exact oH _ (bB e)
def XT:ip X "list.index" (λx vs H Q=>∃(l:Addr) (xs:List V) (y:V) (j:Nat),x=.ref l/\vs=[y]/\H l=some (.lst xs)/\l9 y=true/\xs.all l9=true/\(∃z,xs[j]?=some z/\jA z y=true)/\(∀m z,m<j->xs[m]?=some z->jA z y=false)/\Q (.int (j:Int)) H):=by
 intro ae s σ H x vs v us Q I rx rv h;obtain⟨l,xs,y,j,rfl,rfl,hH,fy,fs,⟨z,hz,ez⟩,nO,q⟩:=h;cases rx;obtain⟨u,rfl,ru⟩:=rv.one;obtain⟨sz,ah,n,r,e⟩:=(show dQ X.prog X.w H s.heap l (.lst xs) from I.hok l _ hH);have hn:=r.length;have hj:j<xs.length:=(dS.mp hz).1;have at_:∀m (hm:m<ah.length) w,xs[m]?=some w->gn y ah[m]=jA w y:=λm hm w hw=>by
  obtain⟨u',vK,wM⟩:=r.get hw
  have:ah[m]=u':=by
   have:=eC hm
   rw[vK]at this;exact (dN this).symm
  rw[this];exact Cm wM (jf.mp fs w (dr hw))
 have mJ:(j:Int)<2^63-1:=by
  have:j<sizeLine:=dH hj sz
  have h2:(sizeLine:Nat)<2^62:=by decide
  lia
 refine qz F.slot_list_index ⟨_,e,rfl⟩ F.entry_list_index (F.args_list_index_2 _ _)
  (SeqAt.list_indexAt l ah.toArray n none #[] u (gn y) j (by rw[cf];lia) mJ ?_ ?_) ⟨e,λw hw=>sL ru fy r fs w (by simpa using hw),⟨.int _,H,I.tok _,⟨_,rfl⟩,q⟩⟩
 ·show gn y ah[j]=true;rw[at_ j (by omega) z hz];exact ez
 ·intro m hm bA;have yL:m<xs.length:=by lia
  show gn y ah[m]=false;rw[at_ m (by assumption) _ (eC yL)];exact nO m _ bA (eC yL)
end
end L2
namespace My
open PySem L2 OF
noncomputable def oE:List Nat:=[97,98,99,100,101,102,103,104,105,106,107,108,109,110,111,112,113,114,115,116,117,118,119,120,121,122]
def Nj:("abcdefghijklmnopqrstuvwxyz" : Str)=S oE:=by decide+kernel
def VF:∀c:Nat,c<128->(!(Builtin.Str.occurrences (S oE) (S [c]) 0 (S oE).length 1).isEmpty)=decide (97<=c/\c<123):=by decide+kernel
def WM:∀c:Nat,c<128->(!(Builtin.Str.occurrences (S kH) (S [c]) 0 (S kH).length 1).isEmpty)=decide (48<=c/\c<58):=by decide+kernel
noncomputable def bb(w:List Nat):Bool:=decide (1<=w.length)&&(decide (w.length<=8)&&w.all λc=>decide (97<=c/\c<123))
noncomputable def fR(w:List Nat):Bool:=if w.head?=some 48 then decide (w=[48])else decide (1<=w.length)&&(decide (w.length<=18)&&w.all λc=>decide (48<=c/\c<58))
inductive Kd where
 |name|letter|bit|number|divisor
noncomputable def Kd.s:Kd->Str
 |.name => "name" |.letter => "letter" |.bit => "bit" |.number => "number" |.divisor => "divisor"
noncomputable def fc:Kd->List Nat->Bool
 |.name,w=>bb w
 |.letter,w=>decide (w.length=1)&&w.all λc=>decide (97<=c/\c<113)
 |.bit,w=>decide (w=[48]) || decide (w=[49])
 |.number,w=>fR w
 |.divisor,w=>fR w && !decide (w=[48])
noncomputable def sC:Kd->List Nat->V
 |.name,w=>.str (S w)
 |.letter,w=>.int (Txt.find (S oa) (S w))
 |_,w=>.int ((digitsVal w:Nat):Int)
noncomputable def qA(ks:List Kd)(ws:List (List Nat)):Option (List V) :=
 if ks.length=ws.length/\(ks.zip ws).all (λp=>fc p.1 p.2)=true then some ((ks.zip ws).map λp=>sC p.1 p.2)else none
noncomputable def j0(ks:Option (List Kd))(ws:List (List Nat)):Option (List V):=match ks with|none=>none|some l=>qA l ws
def Dm(K:Frag)(kv:V):Option (List Kd)->Prop
 |none=>kv=.non
 |some l=>∃a,kv=.ref a/\l.length<=100/\∀G:Hp,ay K G a (l.map λk=>V.str k.s)
def DJ(K:Frag)(p:Str×Addr)(q:Str×List Kd):Prop:=p.1=q.1/\q.2.length<=100/\∀G:Hp,ay K G p.2 (q.2.map λk=>V.str k.s)
noncomputable def cT(t:List (Str×List Kd))(w:List Nat):Option (List Kd):=(t.find? λp=>decide (p.1=S w)).map (·.2)
noncomputable def kE:List (Str×List Kd):=[("show",[.name]),("worth",[.name,.number]),("alike",[.name,.name]),("rest",[.name,.name,.divisor]),("least",[.name]),("ways",[.name]),("unknowns",[.name])]
noncomputable def fH:List (Str×List Kd):=[("plus",[.name,.name]),("less",[.name,.name]),("times",[.name,.name]),("fixed",[.name,.letter,.bit]),("put",[.name,.letter,.name])]
def MY{K:Frag}{kvs:List (Str×Addr)}{t:List (Str×List Kd)}(h:Paired (DJ K) kvs t)(w:List Nat) :
  (∃b l,mE kvs (S w)=some b/\cT t w=some l/\Dm K (.ref b) (some l))\/(mE kvs (S w)=none/\cT t w=none):=by
 induction h with
 |nil=>exact .inr ⟨rfl,rfl⟩
 |@cons p r ps rs ZJ _ ih =>
  obtain⟨e,e1,e2⟩:=ZJ;unfold mE cT;rw[dm,dm,<-e];by_cases z:p.1=S w
  ·rw[aR z];exact .inl ⟨_,_,rfl,rfl,_,rfl,e1,e2⟩
  ·rw[bj z];exact ih
noncomputable def FT:Option (List Nat)->V
 |none=>.non
 |some n=>.str (S n)
noncomputable def i8(n sg t:List Nat):Option (Option (List Nat)×List Nat×List V) :=
 if sg=[61]/\(cT fH ((aU t).headD [])).isSome=true then (j0 (cT fH ((aU t).headD [])) (aU t).tail).map λvs=>(some n,(aU t).headD [],vs)else some (some n,sg,[.str (S t)])
noncomputable def cE(l:List Nat):Option (Option (List Nat)×List Nat×List V) :=
 if 2<(aU l).length/\((aU l).getD 1 []=[61]\/(aU l).getD 1 []=[58,61])/\bb ((aU l).headD [])=true then i8 ((aU l).headD []) ((aU l).getD 1 []) (l.drop (((aU l).headD []).length+((aU l).getD 1 []).length+2))
 else (j0 (cT kE ((aU l).headD [])) (aU l).tail).map λvs=>(none,(aU l).headD [],vs)
open PySem L2 OF
def K5(ls:List Nat)(l:ar):Prop:=∀t∈l,0<=t.1/\∀j,t.1.toNat.testBit j=true->j∈ls
def fj(l:ar):Prop:=∃ls:List Nat,ls.length<=5/\K5 ls l
def K5.app(h:K5 ls a)(k:K5 ls b):K5 ls (a++b):=λt ht=>(bF.mp ht).elim (h t) (k t)
def K5.sub(h:K5 ls b)(k:∀t∈a,t.1∈b.map (·.1)):K5 ls a:=λt ht=>by
 obtain⟨u,hu,e⟩:=bW.mp (k t ht);rw[<-e];exact h u hu
def K5.of(h:K5 ls l)(k:bf f l):K5 ls f:=h.sub k.src
def K5.map(h:K5 ls l)(g:Int×Int->Int):K5 ls (l.map λt=>(t.1,g t)):=λt ht=>by
 obtain⟨u,hu,rfl⟩:=bW.mp ht;exact h u hu
def K5.prod(h:K5 ls a)(k:K5 ls b):K5 ls (bC a b):=λx hx=>by
 obtain⟨t,ht,u,hu,rfl⟩:=PF hx;obtain⟨t0,t1⟩:=h t ht;obtain⟨u0,u1⟩:=k u hu;obtain⟨m,hm⟩:=oO t0;obtain⟨n,hn⟩:=oO u0;rw[hm]at t1;rw[hn]at u1;have e:Builtin.bitOr t.1 u.1=((m|||n:Nat):Int):=by rw[hm,hn];exact uQ _ _
 exists by show 0<=Builtin.bitOr t.1 u.1;rw[e];exact gD _,λj hj=>?_;have jm:(m|||n).testBit j=true:=by
  have:(Builtin.bitOr t.1 u.1).toNat=m|||n:=by rw[e];rfl
  rw[<-this];exact hj
 rw[mz,FP]at jm;exact jm.elim (t1 j) (u1 j)
def K5.out(h:K5 ls l)(k:Nat):K5 ls (iW k l):=λt ht=>h t (R6 ht).1
def K5.off(h:K5 ls l)(k:Nat):K5 ls (gh k l):=λt ht=>by
 obtain⟨t0,u,hu,_,e,hb⟩:=vP (λt ht=>(h t ht).1) ht;exists t0,λj hj=>(h u hu).2 j ?_;obtain⟨m,hm⟩:=oO (h u hu).1;have iL:m.testBit k=true:=by
  have:u.1.toNat=m:=by rw[hm];rfl
  unfold fG at hb;rw[this]at hb;exact hb
 have hle:2^k<=m:=we iL;have et:t.1.toNat=m-2^k:=by
  rw[e,hm]
  have:((2:Int)^k)=((2^k:Nat):Int):=by norm_cast
  rw[this];lia
 rw[et]at hj;rw[hm];show m.testBit j=true;have hx:m-2^k=mi m k false:=by unfold mi;rw[ax (by decide),aB iL]
 rw[hx,tR]at hj;by_cases hjk:j=k
 ·rw[hjk];exact iL
 ·rw[ax hjk]at hj;exact hj
def K5.fix(h:K5 ls l)(k:Nat)(b:Int):K5 ls (nE k b l):=by
 unfold nE;split
 ·rw[iM];exact h.out k
 ·exact (h.out k).app (h.off k)
def K5.put(h:K5 ls l)(h':K5 ls o)(k:Nat):K5 ls (oJ k o l):=(h.out k).app ((h.off k).prod h')
def K5.keys{ls:List Nat}{ks:List Int}(hn:ks.Nodup)(h:∀k∈ks,0<=k/\∀j,k.toNat.testBit j=true->j∈ls):ks.length<=2^ls.length:=by
 have:=EO ls (ks.map Int.toNat) (D7 _ (λx y GS=>GS) ((K2.mpr fun {a b} j8=>?_))) λk hk j hj=>?_
 ·rw[av]at this;exact this
 ·have ha:=h a (j8.subset (by simp));have hb:=h b (j8.subset (by simp));have dZ:=(K2.mp hn) j8;exact λz=>dZ (by have:=ha.1;have:=hb.1;lia)
 ·obtain⟨x,hx,rfl⟩:=bW.mp hk;exact (h x hx).2 j hj
def Fc{d l:ar}(h:DictOf d l)(hf:fj l):d.length<64:=by
 obtain⟨ls,h5,k⟩:=hf
 have:=K5.keys (ls:=ls) h.nd λx hx=>by
  obtain⟨t,ht,rfl⟩:=bW.mp (h.src x hx);exact k t ht
 rw[av]at this;exact lB (aW this (dX (by decide:2>0) h5:2^ls.length<=2^5)) (by decide)
def K5.len{ls:List Nat}{f:ar}(hF:IsForm f)(k:K5 ls f)(h5:ls.length<=5):f.length<=32:=by
 have hn:(f.map (·.1)).Nodup:=D7 _ (λa b h=>Int.ne_of_lt h) hF.rise
 have:=K5.keys (ls:=ls) hn λx hx=>by
  obtain⟨t,ht,rfl⟩:=bW.mp hx;exact k t ht
 rw[av]at this;exact aW this (dX (by decide:2>0) h5:2^ls.length<=2^5)
def zaJ(h:fj (a++b)):fj b:=let ⟨ls,h5,k⟩:=h; ⟨ls,h5,λt ht=>k t (fX _ ht)⟩
def KP(h:fj b)(k:∀t∈a,t.1∈b.map (·.1)):fj a:=let ⟨ls,h5,z⟩:=h; ⟨ls,h5,z.sub k⟩
def zaq(h:fj l)(g:Int×Int->Int):fj (l.map λt=>(t.1,g t)):=let ⟨ls,h5,k⟩:=h; ⟨ls,h5,k.map g⟩
def Lb(K:Frag):Sp:=λvs H Q _=>∃(a:Addr) (l:ar),vs=[.ref a]/\TL K H a l/\l.length<=100000/\fj l /\
 ∀(b:Addr) (f:ar) (H':Hp),H b=none->aI H' b f->bf f l->f.length<=l.length->af H H'->Q (.ref b) H'
noncomputable def Sm.ln:Sm->Nat
 |.bit _=>1
 |.fix _=>1
 |.no s=>Sm.ln s+1
 |.two _ s t=>Sm.ln s+Sm.ln t
theorem Sm.ln_pre:∀{s p:Sm},p∈s.pre->p.ln<=s.ln
 |.bit k,p,hp=>by rw[bu.mp hp];exact aO _
 |.fix b,p,hp=>by rw[bu.mp hp];exact aO _
 |.no s,p,hp=>by
  rcases aZ.mp hp with rfl|z
  ·exact aO _
  ·exact Nat.le_succ_of_le (Sm.ln_pre (s:=s) z)
 |.two w s t,p,hp=>by
  rcases aZ.mp hp with rfl|z
  ·exact aO _
  ·show _<=s.ln+t.ln;rcases bF.mp z with z|z
   ·have:=Sm.ln_pre (s:=t) z;lia
   ·have:=Sm.ln_pre (s:=s) z;lia
theorem qN:∀s:Sm,jb s+1<=2*s.ln
 |.bit _=>aO _
 |.fix _=>aO _
 |.no s=>by have:=qN s;show jb s+1+1<=2*(s.ln+1);lia
 |.two _ s t=>by have:=qN s;have:=qN t;show jb s+jb t+1+1<=2*(s.ln+t.ln);lia
def U0(hx:x<2^a)(hy:y<2^c)(h5:a+c<=5)(Df:x<=2^n)(om:y<=2^n):x*y<=(n+1)*2^n:=by
 match n,Df,om with
 |0,h,k=>exact gC h k
 |1,h,k=>exact gC h k
 |2,h,k =>
  by_cases z:x<=3
  ·exact gC z k
  ·have ha:2<a:=by
    rcases uo 2 a with y|y
    ·exact y
    ·have:=dX (show 2>0 by decide) y;lia
   have hc:=dX (show 2>0 by decide) (show c<=2 by lia);rw[Nat.mul_comm];exact gC (show y<=3 by lia) h
 |n+3,_,_ =>
  have h1:x*y<=2^a*2^c:=gC (cj hx) (cj hy);rw[<-Nat.pow_add]at h1;have h2:=dX (show 2>0 by decide) h5;have h3:4*2^3<=(n+3+1)*2^(n+3):=gC (by lia) (dX (by decide) (by lia));exact aW h1 (aW h2 h3)
def QX(hx:x<2^a)(hy:y<2^c)(hm:m<=x+y+x*y):m<2^(a+c):=by
 have h:(x+1)*(y+1)<=2^a*2^c:=gC hx hy;rw[<-Nat.pow_add,Nat.add_mul,Nat.mul_add]at h;lia
def bf.cnt(h:bf f l):f.length<=l.length:=by
 have:=sZ (JF h.toIsForm) (B:=l.map (·.1)) λx hx=>by
  obtain⟨t,ht,rfl⟩:=bW.mp hx;exact h.src t ht
 simpa using this
def lL(hI:IsForm f)(h:∀k,aQ f k=aQ L k):bf f L:=⟨hI,h,λp hp=>by
 by_cases z:p.1∈L.map (·.1)
 ·exact z
 ·have h1:=CL hI p hp;rw[h,wF L p.1 λq hq e=>z (bW.mpr ⟨q,hq,e⟩)]at h1;exact absurd h1.symm (hI.nz p hp)⟩
noncomputable def Sm.tl:Sm->ar
 |.bit k=>[((2:Int)^k,1)]
 |.fix b=>[(0,b)]
 |.no s=>vh (Sm.tl s)
 |.two w s t=>gi w (Sm.tl s) (Sm.tl t)
def za5(w:Nat)(l o:ar):(gi w l o).length<=l.length+o.length+l.length*o.length:=by
 unfold gi;split
 ·rw[rW];lia
 ·rw[aS,aS,av,rW];lia
theorem uw:∀s:Sm,s.tl.length<2^s.ln
 |.bit _=>by show 1<2^1;decide
 |.fix _=>by show 1<2^1;decide
 |.no s=>by
  have:=uw s
  show (vh s.tl).length<2^(s.ln+1);unfold vh;rw[aS,av,jU];show 1+_<_;lia
 |.two w s t=>QX (uw s) (uw t) (za5 w s.tl t.tl)
def zZ(b:Int):K5 ls [(0,b)]:=λt ht=>by rw[bu.mp ht];exact⟨Int.le_refl _,λj hj=>by simp at hj⟩
def K5.word(w:Nat)(h:K5 ls l)(k:K5 ls o):K5 ls (gi w l o):=by
 unfold gi;split
 ·exact h.prod k
 ·exact (h.app k).app ((h.prod k).map _)
theorem qE:∀{s:Sm},s.ok (λk=>k∈ls)->K5 ls s.tl
 |.bit k,h=>λt ht=>by
  rw[bu.mp ht];exists by rw[mD];exact gD _,λj hj=>?_;rw[mD,ph,sU]at hj;rw[<-bG hj];exact h
 |.fix b,h=>zZ b
 |.no s,h=>(zZ 1).app ((qE (s:=s) h).map _)
 |.two w s t,h=>K5.word w (qE h.2.1) (qE h.2.2)
theorem xR:∀{s:Sm},s.ok p->∀t∈s.tl,4*t.2.natAbs<=4^s.ln
 |.bit k,h,t,ht=>by rw[bu.mp ht];exact aO _
 |.fix b,h,t,ht=>by
  rw[bu.mp ht];rcases (show b=0\/b=1 from h)with rfl|rfl<;>decide
 |.no s,h,t,ht=>by
  show _<=4^(s.ln+1);rw[jU];rcases bF.mp ht with z|z
  ·rw[bu.mp z]
   have:=Nat.pow_pos (n:=s.ln) (show 0<4 by decide)
   show 4*1<=_;lia
  ·obtain⟨u,hu,rfl⟩:=bW.mp z
   have:=xR (s:=s) h u hu
   rw[Int.natAbs_neg];lia
 |.two w s t,h,x,hx=>by
  show _<=4^(s.ln+t.ln);have p1:∀u∈s.tl,4*u.2.natAbs<=4^s.ln:=xR h.2.1;have p2:∀u∈t.tl,4*u.2.natAbs<=4^t.ln:=xR h.2.2;rw[Nat.pow_add];have q1:=Nat.pow_pos (n:=s.ln) (show 0<4 by decide);have q2:=Nat.pow_pos (n:=t.ln) (show 0<4 by decide);have pr:∀u∈bC s.tl t.tl,16*u.2.natAbs<=4^s.ln*4^t.ln:=λu hu=>by
   obtain⟨y,hy,v,hv,rfl⟩:=PF hu
   have:=gC (p1 y hy) (p2 v hv)
   show 16*(y.2*v.2).natAbs<=_;rw[zi];have e:4*y.2.natAbs*(4*v.2.natAbs)=16*(y.2.natAbs*v.2.natAbs):=by rw[Nat.mul_mul_mul_comm]
   lia
  have up:∀{a b c:Nat},a<=b->0<c->a<=b*c:=fun {a b c} h k=>aW h (Nat.le_mul_of_pos_right _ k)
  have gO:x∈gi w s.tl t.tl:=hx;unfold gi at gO;split at gO
  ·have:=pr x gO;lia
  ·rcases bF.mp gO with z|z
   ·rcases bF.mp z with y|y
    ·exact up (p1 x y) q2
    ·rw[Nat.mul_comm (4^s.ln)];exact up (p2 x y) q1
   ·obtain⟨u,hu,rfl⟩:=bW.mp z
    have:=pr u hu
    show 4*(u.2*_).natAbs<=_;rw[zi];split
    ·show 4*(u.2.natAbs*1)<=_;lia
    ·show 4*(u.2.natAbs*2)<=_;lia
def Lw(ha:bf l a)(hb:bf o b)(h:bf f (gi w l o)):bf f (gi w a b):=lL h.toIsForm λk=>by
 have e:∀k,aQ (bC l o) k=aQ (bC a b) k:=λk=>by rw[C2 hb.val,Kq,C2 ha.val,Kq]
 rw[h.val];unfold gi;split
 ·exact e k
 ·rw[cO,cO,cO,cO,ha.val,hb.val];congr 1;have m:∀(n:Int) (x:ar),aQ (x.map λt=>(t.1,t.2*n)) k=aQ x k*n:=λn x=>by rw[uE,uE,z9]
  rw[m,m,e]
def IK(ha:bf l a)(hi:IsForm f)(h:∀k,aQ f k=aQ [(0,1)] k-aQ l k):bf f (vh a):=lL hi λk=>by
 unfold vh;rw[h,cO,ow,ha.val];lia
def K5.low(h:K5 ls f)(bN:∀x∈ls,x<16):∀t∈f,0<=t.1/\t.1<2^16:=λt ht=>by
 obtain⟨h0,hb⟩:=h t ht;have h1:t.1.toNat<2^16:=AO _ λj hj=>by
  cases z:t.1.toNat.testBit j
  ·rfl
  ·have:=bN j (hb j z);lia
 lia
def zaA:Sm->Str->List ar->Prop
 |.no s,w,fs=>w = "not" /\ ∃f,fs=[f]/\bf f s.tl
 |.two j s t,w,fs=>w=wd j/\j<3/\∃f g,fs=[f,g]/\bf f s.tl/\bf g t.tl
 |_,_,_=>False
def zS(s:Sm)(f:ar):Prop:=bf f s.tl
def Dh(h:b≠0):bf [(a,b)] [(a,b)]:=bf.self ⟨List.pairwise_singleton ..,λp hp=>by rw[bu.mp hp];exact h⟩
open PySem L2 OF
abbrev cH:=List (List Nat×ar)
def lQ(H:Hp)(kv:bJ×V)(nf:List Nat×ar):Prop:=kv.1=Sum.inr (S nf.1)/\∃a,kv.2=.ref a/\aI H a nf.2
def pj(H:Hp)(d:Addr)(st:cH):Prop:=∃kvs,H d=some (.dK kvs)/\Paired (lQ H) kvs st
noncomputable def cb(st:cH)(n:List Nat):Option ar:=(st.find? λp=>decide (p.1=n)).map (·.2)
noncomputable def oj(st:cH)(n:List Nat)(f:ar):cH:=if (st.any λp=>decide (p.1=n))=true then st.map (λp=>if p.1=n then (p.1,f)else p)else st++[(n,f)]
def yJ:(Sum.inr (S a):bJ)=Sum.inr (S b)↔a=b:=⟨λz=>eG (BD z),λz=>by rw[z]⟩
def lJ(h:Paired (lQ H) kvs st)(n:List Nat) :
  (il kvs (Sum.inr (S n))=none/\cb st n=none)\/∃a f,il kvs (Sum.inr (S n))=some (.ref a)/\cb st n=some f/\aI H a f:=by
 induction h with
 |nil=>exact .inl ⟨rfl,rfl⟩
 |@cons p q ps qs lu _ ih =>
  obtain⟨e,a,ea,hT⟩:=lu;by_cases z:q.1=n
  ·refine .inr ⟨a,q.2,?_,?_,hT⟩
   ·rw[vv (by rw[e,z]),ea]
   ·unfold cb;rw[dm,aR z];rfl
  ·have e1:il (p::ps) (Sum.inr (S n))=il ps (Sum.inr (S n)):=wa (by rw[e];exact λy=>z (yJ.mp y));have e2:cb (q::qs) n=cb qs n:=by unfold cb;rw[dm,bj z]
   rw[e1,e2];exact ih
def XJ(h:Paired (lQ H) kvs st)(n:List Nat):(kvs.any λkv=>decide (kv.1=Sum.inr (S n)))=st.any λp=>decide (p.1=n):=by
 induction h with
 |nil=>rfl
 |@cons p q ps qs lu _ ih =>
  rw[md,md,ih,lu.1];congr 1;by_cases z:q.1=n
  ·rw[aR z,aR (yJ.mpr z)]
  ·rw[bj z,bj λy=>z (yJ.mp y)]
def WK(hT:aI H a f)(h:Paired (lQ H) kvs st):Paired (lQ H) (kvs.map λkv=>if kv.1=Sum.inr (S n)then (kv.1,V.ref a)else kv) (st.map λp=>if p.1=n then (p.1,f)else p):=by
 induction h with
 |nil=>exact .nil
 |@cons p q ps qs lu _ ih =>
  refine .cons ?_ ih;show lQ H (if p.1=Sum.inr (S n)then (p.1,V.ref a)else p) (if q.1=n then (q.1,f)else q);by_cases z:q.1=n
  ·rw[aB (by rw[lu.1,z]),aB z];nomatch lu.1,a,rfl,hT
  ·rw[ax (by rw[lu.1];exact λy=>z (yJ.mp y)),ax z];exact lu
def TK(h:Paired (lQ H) kvs st)(hT:aI H a f):Paired (lQ H) (dq kvs (Sum.inr (S n)) (.ref a)) (oj st n f):=by
 unfold dq oj;rw[XJ h n];split
 ·exact WK hT h
 ·exact pK h ⟨rfl,a,rfl,hT⟩
def pj.keep(h:pj H d st)(s:af H H'):pj H' d st :=
 let ⟨kvs,h1,h2⟩:=h; ⟨kvs,s _ _ h1,Paired.mapP h2 λp q ⟨e,a,ea,hT⟩=>⟨e,a,ea,hT.keep s⟩⟩
def VD(st:cH)(n:List Nat)(f:ar):(oj st n f).length<=st.length+1:=by
 unfold oj;split<;>simp
def RJ{P:ar->Prop}{st:cH}{n:List Nat}{f:ar}(h:∀p∈st,P p.2)(hf:P f):∀p∈oj st n f,P p.2:=λp hp=>by
 unfold oj at hp;split at hp
 ·obtain⟨q,hq,rfl⟩:=bW.mp hp;by_cases z:q.1=n
  ·rw[aB z];exact hf
  ·rw[ax z];exact h q hq
 ·rcases bF.mp hp with y|y
  ·exact h p y
  ·rw[bu.mp y];exact hf
def dz{P:ar->Prop}{st:cH}{n:List Nat}{f:ar}(h:∀p∈st,P p.2)(e:cb st n=some f):P f:=by
 unfold cb at e;obtain⟨p,hp,rfl⟩:=Bz.mp e;exact h p (List.mem_of_find?_eq_some hp)
structure lx(C:Addr)(H:Hp)(p d:Addr)(st:cH):Prop where
 ob:∃dx,H p=some (.ins C dx [("forms",.ref d)])
 dc:pj H d st
def lx.keep(h:lx C H p d st)(s:af H H'):lx C H' p d st :=
 ⟨let ⟨dx,e⟩:=h.ob; ⟨dx,s _ _ e⟩,h.dc.keep s⟩
def kJ(l:ar):Prop:=∃f,bf f (bC l l)/\f=l
noncomputable def gG(w:Nat):Str:=if w=0 then "plus" else if w=1 then "less" else "times"
noncomputable def C7(w:Nat)(l m:ar):ar:=if w=0 then l++m else if w=1 then l++m.map (λt=>(t.1,-t.2))else bC l m
def zcv(h:w<3):decide (V.str (gG w)=V.str "=")=false/\decide (V.str (gG w)=V.str ":=")=false/\decide (V.str (gG w)=V.str "fixed")=false/\decide (V.str (gG w)=V.str "put")=false:=by
 obtain rfl|rfl|rfl:w=0\/w=1\/w=2:=by lia
 ·exact⟨by decide,by decide,by decide,by decide⟩
 ·exact⟨by decide,by decide,by decide,by decide⟩
 ·exact⟨by decide,by decide,by decide,by decide⟩
inductive bh where
 |form (n t:List Nat)|stat (n:List Nat) (s:Sm)|fixd (n a:List Nat) (k:Nat) (b:Int)|put (n a:List Nat) (k:Nat) (b:List Nat)|two (w:Nat) (n a b:List Nat)
noncomputable def bh.nm:bh->List Nat
 |.form n _=>n|.stat n _=>n|.fixd n _ _ _=>n|.put n _ _ _=>n|.two _ n _ _=>n
noncomputable def bh.wd:bh->Str
 |.form _ _ => "=" |.stat _ _ => ":=" |.fixd _ _ _ _ => "fixed" |.put _ _ _ _ => "put" |.two w _ _ _=>gG w
noncomputable def bh.th:bh->List V
 |.form _ t=>[.str (S t)]
 |.stat _ s=>[.str (S (bZ s))]
 |.fixd _ a k b=>[.str (S a),.int (k:Int),.int b]
 |.put _ a k b=>[.str (S a),.int (k:Int),.str (S b)]
 |.two _ _ a b=>[.str (S a),.str (S b)]
inductive Rz where
 |name|yesno|form (f:ar)
def c7(ls:List Nat)(f:ar):Prop:=IsForm f/\K5 ls f/\∀t∈f,t.2.natAbs<10^60
def Bv(ls:List Nat):bh->Prop
 |.form _ t=>(∀c∈t,c<128)/\t.length<=900/\(mL t).isSome=true
 |.stat _ s=>s.ok (λk=>k∈ls)/\s.ln<=5
 |.fixd _ _ k b=>k<=100/\(b=0\/b=1)
 |.put _ _ k _=>k<=100
 |.two w _ _ _=>w<3
def eV(ls:List Nat)(st:cH):bh->Rz->Prop
 |.form _ t,r=>∃f,r=.form f/\mL t=some f
 |.stat _ s,r=>∃f,r=.form f/\bf f s.tl
 |.fixd _ a k b,r=>(cb st a=none/\r=.name)\/∃l f,cb st a=some l/\r=.form f/\bf f (nE k b l)
 |.put _ a k b,r=>(cb st a=none/\r=.name)\/(∃l,cb st a=some l/\cb st b=none/\r=.name)\/∃l o,cb st a=some l/\cb st b=some o/\((¬kJ o/\r=.yesno)\/(kJ o/\∃f,r=.form f/\bf f (oJ k o l)))
 |.two w _ a b,r=>(cb st a=none/\r=.name)\/(∃l,cb st a=some l/\cb st b=none/\r=.name)\/∃l o f,cb st a=some l/\cb st b=some o/\r=.form f/\bf f (C7 w l o)
set_option tactic.hygienic true in
def lO(ha:a.natAbs<10^60)(hb:b.natAbs<10^60):IntMulOk a b:=by
 have key:∀x:Int,x.natAbs<10^60->intBits x<=200:=λx hx=>by
  unfold intBits;split
  ·exact bS _
  ·rename_i h;have h0:x.natAbs≠0:=λz=>h (by simp;lia)
   have:x.natAbs.log2<200:=(tU h0).mpr (px hx (by decide+kernel))
   assumption
 have h1:=key a ha;have h2:=key b hb;unfold IntMulOk;intro z;rw[gz,gz]at z;have z2:=z.2;unfold Builtin.Int.intTooBig at z2
 have:(intBits a:Int)+(intBits b:Int)>bitsLine:=by simpa using z2
 have Ks:(400:Int)<=bitsLine:=by decide
 lia
noncomputable def gR(w:Nat):List Nat:=if w=0 then [112,108,117,115]else if w=1 then [108,101,115,115]else [116,105,109,101,115]
noncomputable def bh.wl:bh->List Nat
 |.form _ _=>[61]|.stat _ _=>[58,61]|.fixd _ _ _ _=>[102,105,120,101,100]|.put _ _ _ _=>[112,117,116]|.two w _ _ _=>gR w
def wl_S(c:bh):S c.wl=c.wd:=by
 cases c with
 |form _ _=>show S [61]=ofString "=";decide+kernel
 |stat _ _=>show S [58,61]=ofString ":=";decide+kernel
 |fixd _ _ _ _=>show S [102,105,120,101,100]=ofString "fixed";decide+kernel
 |put _ _ _ _=>show S [112,117,116]=ofString "put";decide+kernel
 |two w _ _ _ =>
  show S (gR w)=gG w;unfold gR gG;split
  ·decide+kernel
  split
  ·decide+kernel
  ·decide+kernel
noncomputable def BZ:List Nat:=[115,104,111,119]
def zcb:("show" : Str)=S BZ:=by decide+kernel
open PySem L2 OF
theorem zc:∀{zs:List Nat},zs.Nodup->∀j,((zs.map λx=>2^x).sum).testBit j=decide (j∈zs)
 |[],_,j=>by simp
 |x::r,hn,j=>by
  rw[jB]at hn;have h0:((r.map λx=>2^x).sum).testBit x=false:=by rw[zc hn.2];exact bj hn.1
  have h1:(r.map λx=>2^x).sum/2^x%2=0:=by
   rw[rS]at h0
   have:=xW h0
   lia
  rw[bU,jV,yu,Cu h1,mz,sU,zc hn.2];by_cases e:x=j
  ·subst e;simp
  ·have e':¬j=x:=λz=>e z.symm
   simp[e,e']
def Z7(m:Nat):((lst m).map λk=>2^k).sum=m:=o9 λj=>by
 have hn:(lst m).Nodup:=by unfold lst;exact List.nodup_range.filter _
 rw[zc hn];by_cases z:m.testBit j=true
 ·rw[z];exact aR (Fp.mpr z)
 ·rw[xJ.mpr z];exact bj λy=>z (Fp.mp y)
def JG(m:Nat):vc (cz m)=m:=by
 unfold vc cz;rw[fE]
 have:((λc=>2^(c-97)) ∘ λk=>97+k)=λk:Nat=>2^k:=by
  funext k;show 2^(97+k-97)=_;rw[Fe]
 rw[this,Z7]
def YB(hm:m<2^16):NJ (-1) (cz m):=⟨λc hc=>qV hm hc,by
 unfold cz;refine zN.mpr ?_;unfold lst;exact (List.pairwise_lt_range.filter _).imp λh=>by lia,λc hc=>by have:=qV hm hc;lia⟩
def VB(h1:∀c∈d,48<=c/\c<=57)(h2:∀c∈l,97<=c):kZ (d++l)=d/\fS (d++l)=l:=by
 have h3:∀c∈d,ny c=true:=λc hc=>aR (h1 c hc)
 have h4:l.takeWhile ny=[]/\l.dropWhile ny=l:=by
  cases l with
  |nil=>nomatch rfl,rfl
  |cons c r =>
   have:ny c=false:=bj λz=>by have:=h2 c (by simp);lia
   rw[Gr,List.dropWhile_cons,this];nomatch rfl,rfl
 unfold kZ fS;rw[List.takeWhile_append_of_pos h3,List.dropWhile_append_of_pos h3,h4.1,h4.2,iM];nomatch rfl,rfl
def Xc{t:Int×Int}:∀c∈gj t.1.toNat t.2.natAbs,48<=c/\c<=57:=λc hc=>by
 unfold gj at hc;split at hc
 ·cases hc
 ·exact tm hc
def AR:cz m=[]↔m=0:=by
 constructor
 ·intro h
  have:=JG m
  rw[h]at this;exact this.symm
 ·rintro rfl;rfl
def Vh(h:gB t):nX [bw t.2] (bx t)=some t:=by
 obtain⟨h0,h1,h2,h3⟩:=h;have hm:t.1.toNat<2^16:=by lia
 obtain⟨e1,e2⟩:=VB (Xc (t:=t)) (λc hc=>(qV hm hc).1);have ew:bx t=gj t.1.toNat t.2.natAbs++cz t.1.toNat:=rfl;have hn:0<t.2.natAbs:=by lia
 have eN:k9 (gj t.1.toNat t.2.natAbs) (cz t.1.toNat)=some t.2.natAbs:=by
  unfold k9 gj;by_cases z:t.2.natAbs=1/\t.1.toNat≠0
  ·rw[aB z,aB ⟨rfl,λy=>z.2 (AR.mp y)⟩,z.1]
  ·obtain⟨d,r,ed,hd⟩:=CW hn;rw[ax z,ax (λy=>by rw[ed]at y;cases y.1),ax,vd];rintro (y|y|⟨y,y2⟩)
   ·rw[ed]at y;cases y
   ·rw[ed]at y;simp at y;lia
   ·exact z ⟨Tv y,λx=>y2 (AR.mpr x)⟩
 unfold nX;rw[aB (by unfold bw;split<;>simp),ew,e1,e2,eN,Md 0 (YB hm),JG];show some (((0+t.1.toNat:Nat):Int),if [bw t.2]=[45]then -((t.2.natAbs:Nat):Int)else ((t.2.natAbs:Nat):Int))=some t;have a1:((0+t.1.toNat:Nat):Int)=t.1:=by lia
 have a2:(if [bw t.2]=[45]then -((t.2.natAbs:Nat):Int)else ((t.2.natAbs:Nat):Int))=t.2:=by
  unfold bw;by_cases z:t.2<0
  ·rw[aB z,aB rfl];lia
  ·rw[ax z,ax (by decide)];lia
 rw[a1,a2]
def wH(h0:ws≠[])(h:∀w∈ws,32∉w):aU (aX 32 ws)=ws:=Co (ma _) h0 (uT _) h (xF _)
theorem vw:∀{a b:List Nat},32∉a->aU (a++32::b)=a::aU b
 |[],b,_=>by show aU (32::b)=_;rw[aU,aB rfl]
 |c::r,b,h=>by
  have hc:¬c=32:=λz=>h (by rw[z];simp)
  show aU (c::(r++32::b))=_;rw[aU,ax hc,vw (a:=r) (b:=b) λz=>h (by simp[z])]
def Lp(h:gB t):32∉bx t:=λz=>by
 have:=Nk (by have:=h.1;have:=h.2.1;lia) z
 lia
def Y5(h:∀t∈f,gB t):∀w∈jC f,32∉w:=λw hw=>by
 cases f with
 |nil=>rw[bu.mp hw];decide
 |cons t r =>
  rcases aZ.mp hw with rfl|hw
  ·intro z;rcases bF.mp z with y|y
   ·unfold dk at y;split at y
    ·rw[bu]at y;cases y
    ·cases y
   ·exact Lp (h t (by simp)) y
  ·obtain⟨u,hu,hw⟩:=DA.mp hw;have Ra:w=[bw u.2]\/w=bx u:=by simpa using hw
   rcases Ra with rfl|rfl
   ·unfold bw;split<;>decide
   ·exact Lp (h u (by simp[hu]))
def W8(f:ar):jC f≠[]:=by cases f<;>simp[jC]
def PU(h:∀t∈f,gB t):aU (txt f)=jC f:=by
 rw[<-FG];exact wH (W8 f) (Y5 h)
def Mw(h:gB t):∃c r,bx t=c::r/\49<=c:=by
 obtain⟨h0,h1,h2,h3⟩:=h;have hm:t.1.toNat<2^16:=by omega
 have ew:bx t=gj t.1.toNat t.2.natAbs++cz t.1.toNat:=rfl;rw[ew];unfold gj;by_cases z:t.2.natAbs=1/\t.1.toNat≠0
 ·rw[aB z];cases hl:cz t.1.toNat with
  |nil=>exact absurd (AR.mp hl) z.2
  |cons c r=>exact⟨c,r,rfl,by have:=qV hm (c:=c) (by rw[hl];simp);lia⟩
 ·obtain⟨d,r,ed,hd⟩:=CW (m:=t.2.natAbs) (by lia);rw[ax z,ed];exact⟨49+d,_,rfl,by lia⟩
def zbR(h:∀u∈t::r,gB u):gJ (txt (t::r))=((t::r).map λu=>([bw u.2],bx u)).flatMap λp=>[p.1,p.2]:=by
 obtain⟨c,w',ew,hc⟩:=Mw (h t (by simp));have e0:((t::r).map λu=>([bw u.2],bx u)).flatMap (λp=>[p.1,p.2])=[bw t.2]::bx t::r.flatMap λu=>[[bw u.2],bx u]:=by
  rw[List.flatMap_map];rfl
 rw[e0];unfold gJ;rw[PU h];have et:txt (t::r)=dk t.2++bx t++r.flatMap cI:=rfl;by_cases z:t.2<0
 ·have ea:dk t.2=[45]:=aB z;have es:bw t.2=45:=aB z;rw[aB (by rw[et,ea];rfl),es];show [45]::(dk t.2++bx t).drop 1::_=_;rw[ea];rfl
 ·have ea:dk t.2=[]:=ax z;have es:bw t.2=43:=ax z;rw[ax (by rw[et,ea,ew];simp;lia),es];show [43]::(dk t.2++bx t)::_=_;rw[ea];rfl
theorem Nu:∀{f:ar},(∀t∈f,gB t)->jD (f.map λu=>([bw u.2],bx u))=some f
 |[],_=>rfl
 |t::r,h=>by
  rw[bU,jD,Vh (h t (by simp)),Nu (f:=r) λu hu=>h u (by simp[hu])]
theorem K3:∀{f:ar}{la:Int},IsForm f->(∀t∈f,la<t.1)->jg f la=true
 |[],_,_,_=>rfl
 |t::r,la,h,hl=>by
  have h1:=nS.mp h.rise;unfold jg;rw[ax (λz=>z.elim (λy=>by have:=hl t (by simp);lia) (h.nz t (by simp)))];exact K3 ⟨h1.2,λu hu=>h.nz u (by simp[hu])⟩ λu hu=>h1.1 u hu
def yp(hI:IsForm f)(h:∀t∈f,gB t):mL (txt f)=some f:=by
 cases f with
 |nil=>rfl
 |cons t r =>
  have dZ:¬txt (t::r)=[48]:=λz=>by
   obtain⟨c,w',ew,hc⟩:=Mw (h t (by simp));have et:txt (t::r)=dk t.2++bx t++r.flatMap cI:=rfl;rw[et,ew]at z;unfold dk at z;split at z
   ·simp at z
   ·simp at z;lia
  unfold mL;rw[ax dZ,zbR h,Fg,Nu h];show (if jg (t::r) (-1)=true then some (t::r)else none)=_;rw[aB (K3 hI λu hu=>by have:=(h u hu).1;assumption)]
def eh(h:bb n=true):32∉n:=λz=>by
 unfold bb at h;rw[gz,gz,jf]at h
 have:=bG (h.2.2 32 z)
 lia
def cZ(h:bb n=true):n.length<=8/\∀c∈n,c<128:=by
 unfold bb at h;rw[gz,gz,jf]at h;exact⟨bG h.2.1,λc hc=>by have:=bG (h.2.2 c hc);lia⟩
noncomputable def ji:List Nat:=[102,105,120,101,100]
noncomputable def jk:List Nat:=[112,117,116]
noncomputable def bh.line:bh->List Nat
 |.form n t=>n++([32,61,32]++t)
 |.stat n s=>n++([32,58,61,32]++bZ s)
 |.fixd n a k b=>aX 32 [n,[61],ji,a,[97+k],[48+b.toNat]]
 |.put n a k b=>aX 32 [n,[61],jk,a,[97+k],b]
 |.two w n a b=>aX 32 [n,[61],gR w,a,b]
def tH(hn:bb n=true)(hs:sg=[61]\/sg=[58,61]):cE (n++32::(sg++32::t))=i8 n sg t:=by
 have e:aU (n++32::(sg++32::t))=n::sg::aU t:=by
  rw[vw (eh hn),vw (by rcases hs with rfl|rfl<;>decide)]
 have hl:1<=(aU t).length:=by cases h:aU t with|nil=>exact absurd h (ma t)|cons _ _=>simp
 unfold cE;rw[e,aB ⟨by simp;assumption,hs,hn⟩];show i8 n sg _=_;congr 1;have e1:(n++32::(sg++32::t))=(n++[32]++sg++[32])++t:=by simp
 show (n++32::(sg++32::t)).drop (n.length+sg.length+2)=t;rw[e1];exact List.drop_left' (by simp;lia)
def yD:("plus" : Str)=S [112,108,117,115]/\("less" : Str)=S [108,101,115,115]/\("times" : Str)=S [116,105,109,101,115]/\("fixed" : Str)=S [102,105,120,101,100]/\("put" : Str)=S [112,117,116]:=by decide+kernel
def zbw(h:∀c∈w,c<113):cT fH w=none:=by
 obtain⟨e1,e2,e3,e4,e5⟩:=yD;have no:∀l:List Nat,(∃c∈l,113<=c)->¬(S l=S w):=λl ⟨c,hc,h1⟩ z=>by
  have:=eG z
  subst this
  have:=h c hc
  lia
 unfold cT fH;rw[e1,e2,e3,e4,e5];rw[dm,bj (no _ ⟨117,by decide,by decide⟩),dm,bj (no _ ⟨115,by decide,by decide⟩),dm,bj (no _ ⟨116,by decide,by decide⟩),dm,bj (no _ ⟨120,by decide,by decide⟩),dm,bj (no _ ⟨117,by decide,by decide⟩)];rfl
def ZZ(h:∀t∈f,gB t):∀c∈(aU (txt f)).headD [],c<113:=by
 rw[PU h];cases f with
 |nil=>decide
 |cons t r =>
  intro c hc;have lK:c∈dk t.2++bx t:=hc;rcases bF.mp lK with z|z
  ·unfold dk at z;split at z
   ·rw[bu]at z;lia
   ·cases z
  ·have ht:=h t (by simp)
   have:=Nk (by have:=ht.1;have:=ht.2.1;omega) z
   lia
def zb6(hn:bb n=true)(h:∀t∈f,gB t):cE (bh.form n (txt f)).line=some (some (bh.form n (txt f)).nm,(bh.form n (txt f)).wl,(bh.form n (txt f)).th):=by
 show cE (n++32::([61]++32::txt f))=_;rw[tH hn (.inl rfl)];unfold i8;rw[ax (λz=>by rw[zbw (ZZ h)]at z;cases z.2)];rfl
def za6(hn:bb n=true):cE (bh.stat n s).line=some (some (bh.stat n s).nm,(bh.stat n s).wl,(bh.stat n s).th):=by
 show cE (n++32::([58,61]++32::bZ s))=_;rw[tH hn (.inr rfl)];unfold i8;rw[ax (λz=>by cases z.1)];rfl
def Hs(hk:cT fH w=some ks)(hw:32∉w)(h0:ws≠[])(hs:∀v∈ws,32∉v)(hl:ks.length=ws.length)(iZ:(ks.zip ws).all (λp=>fc p.1 p.2)=true):i8 n [61] (aX 32 (w::ws))=some (some n,w,(ks.zip ws).map λp=>sC p.1 p.2):=by
 have e:aU (aX 32 (w::ws))=w::ws:=wH (by simp) λv hv=>by
  rcases aZ.mp hv with rfl|z
  ·exact hw
  ·exact hs v z
 unfold i8;have nj:cT fH ((w::ws).headD [])=some ks:=hk;rw[e,aB ⟨rfl,by rw[nj];rfl⟩,nj];show (qA ks ws).map _=_;unfold qA;rw[aB ⟨hl,iZ⟩];rfl
def Mb(h:w<3):cT fH (gR w)=some [.name,.name]:=by
 obtain⟨e1,e2,e3,e4,e5⟩:=yD;unfold cT fH;rw[e1,e2,e3,e4,e5];obtain rfl|rfl|rfl:w=0\/w=1\/w=2:=by lia
 ·rw[dm,aR (by rfl)];rfl
 ·rw[dm,bj (λz=>by have:=eG z;cases this),dm,aR (by rfl)];rfl
 ·rw[dm,bj (λz=>by have:=eG z;cases this),dm,bj (λz=>by have:=eG z;cases this),dm,aR (by rfl)];rfl
def Ke:cT fH ji=some [.name,.letter,.bit]:=by
 obtain⟨e1,e2,e3,e4,e5⟩:=yD;unfold cT fH;rw[e1,e2,e3,e4,e5];rw[dm,bj (λz=>by have:=eG z;cases this),dm,bj (λz=>by have:=eG z;cases this),dm,bj (λz=>by have:=eG z;cases this),dm,aR (by rfl)];rfl
def IP:cT fH jk=some [.name,.letter,.name]:=by
 obtain⟨e1,e2,e3,e4,e5⟩:=yD;unfold cT fH;rw[e1,e2,e3,e4,e5];rw[dm,bj (λz=>by have:=eG z;cases this),dm,bj (λz=>by have:=eG z;cases this),dm,bj (λz=>by have:=eG z;cases this),dm,bj (λz=>by have:=eG z;cases this),dm,aR (by rfl)];rfl
def L7(h:k<16):fc .letter [97+k]=true:=by
 show (decide (1=1)&&(List.all [97+k] λc=>decide (97<=c/\c<113)))=true;simp;lia
def zct(hw:w<3)(hn:bb n=true)(ha:bb a=true)(hb:bb b=true):cE (bh.two w n a b).line=some (some (bh.two w n a b).nm,(bh.two w n a b).wl,(bh.two w n a b).th):=by
  show cE (n++32::([61]++32::aX 32 [gR w,a,b]))=_
  rw [tH        hn (.inl rfl), Hs        (Mb      hw) (by obtain rfl | rfl | rfl : w = 0 ∨ w = 1 ∨ w = 2 := by omega
                                                          all_goals decide) (by simp) (fun v hv => by
    have:v=a\/v=b:=by simpa using hv
    rcases this with rfl|rfl
    · exact eh ha
    · exact eh hb) rfl (by show (bb a&&(bb b&&true))=true;rw [ha,hb];rfl)]
  rfl
def zaB(hn:bb n=true)(ha:bb a=true)(hk:k<16)(hb:b=0\/b=1):cE (bh.fixd n a k b).line=some (some (bh.fixd n a k b).nm,(bh.fixd n a k b).wl,(bh.fixd n a k b).th):=by
 show cE (n++32::([61]++32::aX 32 [ji,a,[97+k],[48+b.toNat]]))=_;have AN:fc .bit [48+b.toNat]=true:=by rcases hb with rfl|rfl<;>decide
 rw[tH hn (.inl rfl),Hs Ke (by decide) (by simp) (λv hv=>by
  have:v=a\/v=[97+k]\/v=[48+b.toNat]:=by simpa using hv
  rcases this with rfl|rfl|rfl
  ·exact eh ha
  ·simp;lia
  ·simp;lia) rfl (by show (bb a&&(fc .letter [97+k]&&(fc .bit [48+b.toNat]&&true)))=true;rw[ha,L7 hk,AN];rfl)]
 show some (some n,ji,[V.str (S a),V.int (Txt.find (S oa) (S [97+k])),V.int ((digitsVal [48+b.toNat]:Nat):Int)])=some (some n,ji,[V.str (S a),V.int (k:Int),V.int b]);rw[Eu k hk];rcases hb with rfl|rfl<;>rfl
def Vj(hn:bb n=true)(ha:bb a=true)(hb:bb b=true)(hk:k<16):cE (bh.put n a k b).line=some (some (bh.put n a k b).nm,(bh.put n a k b).wl,(bh.put n a k b).th):=by
 show cE (n++32::([61]++32::aX 32 [jk,a,[97+k],b]))=_;rw[tH hn (.inl rfl),Hs IP (by decide) (by simp) (λv hv=>by
  have:v=a\/v=[97+k]\/v=b:=by simpa using hv
  rcases this with rfl|rfl|rfl
  ·exact eh ha
  ·simp;omega
  ·exact eh hb) rfl (by show (bb a&&(fc .letter [97+k]&&(bb b&&true)))=true;rw[ha,L7 hk,hb];rfl)]
 show some (some n,jk,[V.str (S a),V.int (Txt.find (S oa) (S [97+k])),V.str (S b)])=some (some n,jk,[V.str (S a),V.int (k:Int),V.str (S b)]);rw[Eu k hk]
def qP(h:eV ls st c r)(h':eV ls st c r'):r=r':=by
 cases c with
 |form n t =>
  obtain⟨f,rfl,e⟩:=h;obtain⟨f',rfl,e'⟩:=h';rw[e]at e';rw[dN e']
 |stat n s =>
  obtain⟨f,rfl,h1⟩:=h;obtain⟨f',rfl,bT⟩:=h';rw[bf.unique h1 bT λk=>rfl]
 |fixd n a k b =>
  rcases h with ⟨h1,rfl⟩|⟨l,f,h1,rfl,h2⟩<;>rcases h' with ⟨bT,rfl⟩|⟨l',f',bT,rfl,dh⟩
  ·rfl
  ·rw[h1]at bT;cases bT
  ·rw[h1]at bT;cases bT
  ·rw[h1]at bT;cases bT;rw[bf.unique h2 dh λk=>rfl]
 |put n a k b =>
  rcases h with ⟨h1,rfl⟩|⟨l,h1,h2,rfl⟩|⟨l,o,h1,h2,h3⟩<;>rcases h' with ⟨bT,rfl⟩|⟨l',bT,dh,rfl⟩|⟨l',o',bT,dh,mR⟩
  ·rfl
  ·rfl
  ·rw[h1]at bT;cases bT
  ·rfl
  ·rfl
  ·rw[h2]at dh;cases dh
  ·rw[h1]at bT;cases bT
  ·rw[h2]at dh;cases dh
  ·rw[h1]at bT;cases bT;rw[h2]at dh;cases dh;rcases h3 with ⟨y,rfl⟩|⟨y,f,rfl,h4⟩<;>rcases mR with ⟨y',rfl⟩|⟨y',f',rfl,Z0⟩
   ·rfl
   ·exact absurd y' y
   ·exact absurd y y'
   ·rw[bf.unique h4 Z0 λk=>rfl]
 |two w n a b =>
  rcases h with ⟨h1,rfl⟩|⟨l,h1,h2,rfl⟩|⟨l,o,f,h1,h2,rfl,h3⟩<;>rcases h' with ⟨bT,rfl⟩|⟨l',bT,dh,rfl⟩|⟨l',o',f',bT,dh,rfl,mR⟩
  ·rfl
  ·rfl
  ·rw[h1]at bT;cases bT
  ·rfl
  ·rfl
  ·rw[h2]at dh;cases dh
  ·rw[h1]at bT;cases bT
  ·rw[h2]at dh;cases dh
  ·rw[h1]at bT;cases bT;rw[h2]at dh;cases dh;rw[bf.unique h3 mR λk=>rfl]
theorem QV:∀{l:ar},(∀t∈l,t.2.natAbs<=B)->∀k,(aQ l k).natAbs<=l.length*B
 |[],_,k=>by simp[aQ]
 |t::r,h,k=>by
  have ih:=QV (l:=r) (λu hu=>h u (by simp[hu])) k;have h1:=h t (by simp);rw[br,Nat.succ_mul];unfold aQ;split<;>lia
def DR(hF:bf f l)(hl:l.length<=n)(h:∀t∈l,t.2.natAbs<=B)(hC:n*B<C):∀t∈f,t.2.natAbs<C:=λt ht=>by
 have h1:=QV h t.1;rw[<-hF.val,CL hF.toIsForm t ht]at h1;exact lB (aW h1 (lS _ hl)) hC
def c7.len(h:c7 ls f)(h5:ls.length<=5):f.length<=32:=h.2.1.len h.1 h5
def c7.say(h:c7 ls f)(bN:∀x∈ls,x<16):∀t∈f,gB t:=λt ht=>by
 obtain⟨h0,hb⟩:=h.2.1 t ht;exists h0,?_,h.1.nz t ht,px (h.2.2 t ht) (by decide+kernel);have h1:t.1.toNat<2^16:=AO _ λj hj=>by
  cases z:t.1.toNat.testBit j
  ·rfl
  ·have:=bN j (hb j z);lia
 lia
def my(st:cH)(a:List Nat):Prop:=∀l,cb st a=some l->∀t∈l,t.2.natAbs<10^20
def jF(ls:List Nat)(st:cH):bh->Prop
 |.form n t=>bb n=true/\∃f,t=txt f/\c7 ls f/\f.length<=4/\∀u∈f,u.2.natAbs<10^4
 |.stat n s=>bb n=true/\s.ok (λk=>k∈ls)/\s.ln<=5
 |.fixd n a k b=>bb n=true/\bb a=true/\k<16/\(b=0\/b=1)/\my st a
 |.put n a k b=>bb n=true/\bb a=true/\bb b=true/\k<16/\my st a/\my st b
 |.two w n a b=>bb n=true/\bb a=true/\bb b=true/\w<3/\my st a/\my st b
theorem LI(c:Nat):∀ws:List (List Nat),(∀w∈ws,w.length<=8)->(aX c ws).length<=9*ws.length
 |[],_=>bS _
 |[w],h=>by have:=h w (by simp);show w.length<=9*1;lia
 |w::v::r,h=>by
  have ih:=LI c (v::r) λx hx=>h x (by simp[aZ.mp hx])
  have:=h w (by simp)
  show (w++c::aX c (v::r)).length<=_;rw[aS,br];rw[br]at ih ⊢;rw[br];lia
theorem E8:∀ws:List (List Nat),(∀w∈ws,∀c∈w,c<128)->∀c∈aX 32 ws,c<128
 |[],_,c,hc=>by cases hc
 |[w],h,c,hc=>h w (by simp) c hc
 |w::v::r,h,c,hc=>by
  have ih:=E8 (v::r) λx hx=>h x (by simp[aZ.mp hx])
  have lK:c∈w++32::aX 32 (v::r):=hc;rcases bF.mp lK with z|z
  ·exact h w (by simp) c z
  ·rcases aZ.mp z with rfl|z
   ·decide
   ·exact ih c z
def jF.line(h:jF ls st c)(bN:∀x∈ls,x<16):cE c.line=some (some c.nm,c.wl,c.th)/\Bv ls c/\c.line.length<=9000/\∀x∈c.line,x<128:=by
 have six:∀ws:List (List Nat),ws.length<=6->(∀w∈ws,w.length<=8/\∀c∈w,c<128)->(aX 32 ws).length<=9000/\∀x∈aX 32 ws,x<128:=λws hl hw =>
  ⟨aW (LI 32 ws λw z=>(hw w z).1) (by lia),E8 ws λw z=>(hw w z).2⟩
 cases c with
 |form n t =>
  obtain⟨hn,f,rfl,hf,hl,h4⟩:=h;have hs:=hf.say bN;obtain⟨t1,t2⟩:=Dj (f:=f) (by lia) λt ht=>⟨hs t ht,h4 t ht⟩
  obtain⟨n1,n2⟩:=cZ hn;exists zb6 hn hs,⟨t2,by lia,by rw[yp hf.1 hs];rfl⟩,?_,λx hx=>?_
  ·show (n++([32,61,32]++txt f)).length<=9000;rw[aS,aS];show n.length+(3+_)<=9000;lia
  ·have gO:x∈n++([32,61,32]++txt f):=hx;rcases bF.mp gO with z|z
   ·exact n2 x z
   ·rcases bF.mp z with y|y
    ·simp at y;lia
    ·exact t2 x y
 |stat n s =>
  obtain⟨hn,ho,hl⟩:=h;obtain⟨n1,n2⟩:=cZ hn;have t0:=sO ho;have t1:=qN s;have t2:=(Af (s:=s) (Sm.ok.imp (λk hk=>bN k hk) ho)).1;exists za6 hn,⟨ho,hl⟩,?_,λx hx=>?_
  ·show (n++([32,58,61,32]++bZ s)).length<=9000;rw[aS,aS];show n.length+(4+_)<=9000;lia
  ·have gO:x∈n++([32,58,61,32]++bZ s):=hx;rcases bF.mp gO with z|z
   ·exact n2 x z
   ·rcases bF.mp z with y|y
    ·simp at y;lia
    ·exact t2 x y
 |fixd n a k b =>
  obtain⟨hn,ha,hk,hb,_⟩:=h;exists zaB hn ha hk hb,⟨by lia,hb⟩,six [n,[61],ji,a,[97+k],[48+b.toNat]] (by simp) λw hw=>?_
  have:w=n\/w=[61]\/w=ji\/w=a\/w=[97+k]\/w=[48+b.toNat]:=by simpa using hw
  rcases this with rfl|rfl|rfl|rfl|rfl|rfl
  ·exact cZ hn
  ·decide
  ·decide
  ·exact cZ ha
  ·simp;lia
  ·rcases hb with rfl|rfl<;>decide
 |put n a k b =>
  obtain⟨hn,ha,hb,hk,_⟩:=h;exists Vj hn ha hb hk,(by show k<=100;omega),six [n,[61],jk,a,[97+k],b] (by simp) λw hw=>?_
  have:w=n\/w=[61]\/w=jk\/w=a\/w=[97+k]\/w=b:=by simpa using hw
  rcases this with rfl|rfl|rfl|rfl|rfl|rfl
  ·exact cZ hn
  ·decide
  ·decide
  ·exact cZ ha
  ·simp;omega
  ·exact cZ hb
 |two w n a b =>
  obtain⟨hn,ha,hb,hw,_⟩:=h;exists zct hw hn ha hb,hw,six [n,[61],gR w,a,b] (by simp) λv hv=>?_
  have:v=n\/v=[61]\/v=gR w\/v=a\/v=b:=by simpa using hv
  rcases this with rfl|rfl|rfl|rfl|rfl
  ·exact cZ hn
  ·decide
  ·obtain rfl|rfl|rfl:w=0\/w=1\/w=2:=by omega
   all_goals decide
  ·exact cZ ha
  ·exact cZ hb
def AB{p:Nat->Prop}{s:Sm}{f:ar}(ho:s.ok p)(hl:s.ln<=5)(hF:bf f s.tl):∀t∈f,t.2.natAbs<10^60:=by
 have h1:=uw s;have h2:=dX (show 2>0 by decide) hl;have h3:=dX (show 4>0 by decide) hl;refine DR (n:=32) (B:=1024) hF (by lia) (λt ht=>?_) (by decide+kernel)
 have:=xR ho t ht
 lia
noncomputable def bh.dw:bh->Str
 |.form _ _ => "form" |.stat _ _ => "statement" |.fixd _ _ _ _ => "fixed" |.put _ _ _ _ => "put" |.two w _ _ _=>gG w
def Part(H:Hp)(x:V):bh->Prop
 |.form _ t=>∃a f,x=.ref a/\aI H a f/\mL t=some f
 |.stat _ s=>Is H x s.d
 |.fixd _ a k b=>∃q,x=.ref q/\H q=some (.tup [.str (S a),.int (k:Int),.int b])
 |.put _ a k b=>∃q,x=.ref q/\H q=some (.tup [.str (S a),.str (S b),.int (k:Int)])
 |.two _ _ a b=>∃q,x=.ref q/\H q=some (.tup [.str (S a),.str (S b)])
def Part.keep(h:Part H x c)(s:af H H'):Part H' x c:=by
 cases c with
 |form n t=>obtain⟨a,f,e,h1,h2⟩:=h;nomatch a,f,e,h1.keep s,h2
 |stat n t=>exact (show Is H x t.d from h).keep s
 |fixd n a k b=>obtain⟨q,e,h1⟩:=h;nomatch q,e,s _ _ h1
 |put n a k b=>obtain⟨q,e,h1⟩:=h;nomatch q,e,s _ _ h1
 |two w n a b=>obtain⟨q,e,h1⟩:=h;nomatch q,e,s _ _ h1
def gW(H:Hp)(p:Addr)(c:bh):Prop:=∃x,H p=some (.tup [.str c.dw,x,.str (S c.line)])/\Part H x c
def gW.keep(h:gW H p c)(s:af H H'):gW H' p c:=let ⟨x,h1,h2⟩:=h; ⟨x,s _ _ h1,h2.keep s⟩
def qL(h:H e=some (.lst [.str x])):Is H (.ref e) (.lst [.str x]):=Vs h (by
 unfold ba;exact⟨_,[],rfl,cC.mpr rfl,by unfold ba;rfl⟩)
end My
namespace L2
open PySem PySem.Spec PyProof.Rows
def UW(ta tb:TE):TE:=λσ H Q=>ta σ H λx H1=>∃i:Str,x=.str i/\i.length<=sizeLine/\if i.length=0 then tb σ H1 Q else Q (.str i) H1
def Tt(ha:PE X a ta)(hb:PE X (.BoolOp .Or (b::rest) pos) tb):PE X (.BoolOp .Or (a::b::rest) pos) (UW ta tb):=by
 intro ae s σ H Q I h;refine BoolOp_or (aL (ha ae s σ H _ I h) λv s1 ⟨x,H1,I1,r1,q1⟩=>?_);obtain⟨i,rfl,hz,q1⟩:=q1;obtain⟨t,rfl⟩:=r1;have h2:(sizeLine:Int)<2^63:=by decide
 refine PySem.P.truthy_str (by lia) ?_;by_cases z:i.length=0
 ·rw[aB z]at q1;rw[show ((i.length:Int) != 0)=false by rw[z];rfl];exact hb ae _ σ H1 Q (I1.tok _) q1
 ·rw[ax z]at q1;rw[show ((i.length:Int) != 0)=true by simpa using z];nomatch .str i,H1,I1.tok _,⟨_,rfl⟩,q1
open PySem PySem.Spec PyProof PyProof.Rows OF My
section
variable{X:Cx}
open Classical in
noncomputable def rN(H:Hp)(e:D):Value->Bool
 |.ref a=>decide (∃d,Is H (.ref a) d/\dR d e=true)
 |_=>false
def Pp(h:Is H (.ref a) d):rN H e (.ref a)=dR d e:=by
 unfold rN;cases hd:dR d e
 ·refine @bj _ (_) λ⟨d',h1,h2⟩=>?_
  rw[Is.inj h1 h,hd]at h2;cases h2
 ·exact @aR _ (_) ⟨d,h,hd⟩
theorem JR(I:Inv X ae σ H s)(rx:RelV x v)(hx:Is H x e)(hu:X.A.units+60<cLine):∀(bs:List Addr) {ah:List Value}{es:List D},Vals (bs.map V.ref) ah->ba H (bs.map V.ref) es->(∀d∈es,jP d<=50)->(∀w∈ah,SeqAt.EqAt X.A.in1 s w v (rN H e w))/\ah.any (rN H e)=es.any λd=>dR d e
 |[],ah,es,r,h,_=>by
  cases es with
  |nil=>cases r;nomatch (λw hw=>by cases hw),rfl
  |cons d es=>unfold ba at h;obtain⟨_,_,z,_⟩:=h;cases z
 |a::bs,ah,es,r,h,hd=>by
  cases es with
  |nil=>unfold ba at h;cases h
  |cons d es =>
   unfold ba at h;obtain⟨_,_,z,h1,h2⟩:=h;cases z;cases r with
   |cons r1 r2 =>
    obtain⟨g1,g2⟩:=JR I rx hx hu bs r2 h2 λd vX=>hd d (by simp[vX])
    have k:=(ES I 50 d e X.A.in1 (hd d (by simp)) (by show X.A.units+1+50<cLine;lia) (mG I h1 r1) (mG I hx rx)).2;cases r1;rw[<-Pp (e:=e) h1]at k;refine⟨λw hw=>?_,by rw[md,md,g2,Pp h1]⟩;rcases aZ.mp hw with rfl|z
    ·exact k
    ·exact g1 w z
def WY(hu:X.A.units+60<cLine):bV X (compareOp .In) (λx y H Q=>∃(p:Addr) (as:List Addr) (ds:List D) (e:D),y=.ref p/\H p=some (.lst (as.map V.ref))/\ba H (as.map V.ref) ds/\Is H x e/\(∀d∈ds,jP d<=50)/\Q (.bl (ds.any λd=>dR d e)) H):=by
 intro ae s σ H x y v u Q I rx ry h;obtain⟨p,as,ds,e,rfl,hq,m9,hx,sJ,q⟩:=h;cases ry;obtain⟨ah,r,pl,hz⟩:=I.list (aj.of hq);obtain⟨g1,g2⟩:=JR I rx hx hu as r m9 sJ;refine SeqAt.in_listAt (rN H e) pl.isList (λw hw=>g1 w (by simpa using hw)) ⟨.bl _,H,I,rfl,?_⟩;rw[show ah.toArray.any (rN H e)=ah.any (rN H e) by simp,g2];exact q
end
end L2
namespace My
open PySem L2 OF
noncomputable def cF(l:ar):ar:=Classical.choose (L4 l)
def Pr(l:ar):bf (cF l) l:=Classical.choose_spec (L4 l)
def D1(h:bf f l):f=cF l:=bf.unique h (Pr l) λ_=>rfl
noncomputable def Txt.num(i:Int):Str:=ofString (toString i)
inductive Ask where
 |shw (a:List Nat)|wor (a:List Nat) (g:Nat)|ali (a b:List Nat)|rst (a b:List Nat) (m:Nat)|unk (a:List Nat)|way (a:List Nat)
inductive An where
 |name|yesno|many|txt (s:Str)
noncomputable def AL:ar->Str
 |[] => "yes"
 |t::_=>Txt.num t.1
noncomputable def nP(l o:ar):ar:=cF (l++o.map λt=>(t.1,-t.2))
noncomputable def fw(l:ar):Nat:=intBits ((cy l 0:Nat):Int)
open Classical in
noncomputable def Ask.tells(st:cH):Ask->An
 |.shw a=>match cb st a with
  |none=>.name
  |some l=>.txt (S (txt l))
 |.wor a g=>match cb st a with
  |none=>.name
  |some l=>.txt (Txt.num (cR l (g:Int)))
 |.ali a b=>match cb st a with
  |none=>.name
  |some l=>match cb st b with
   |none=>.name
   |some o=>.txt (AL (nP l o))
 |.rst a b m=>match cb st a with
  |none=>.name
  |some l=>match cb st b with
   |none=>.name
   |some o=>.txt (AL (sf (m:Int) (nP l o)))
 |.unk a=>match cb st a with
  |none=>.name
  |some l=>.txt (if cy l 0=0 then "none" else S (cz (cy l 0)))
 |.way a=>match cb st a with
  |none=>.name
  |some l=>if kJ l then (if 10<fw l then .many else .txt (Txt.num (sA (fw l) l)))else .yesno
noncomputable def Ask.wd:Ask->Str
 |.shw _ => "show" |.wor _ _ => "worth" |.ali _ _ => "alike" |.rst _ _ _ => "rest" |.unk _ => "unknowns" |.way _ => "ways"
noncomputable def Ask.wl:Ask->List Nat
 |.shw _=>BZ|.wor _ _=>[119,111,114,116,104]|.ali _ _=>[97,108,105,107,101]|.rst _ _ _=>[114,101,115,116]|.unk _=>[117,110,107,110,111,119,110,115]|.way _=>[119,97,121,115]
theorem Ask.wl_S:∀q:Ask,S q.wl=q.wd
 |.shw _=>zcb.symm
 |.wor _ _=>by show S [119,111,114,116,104]=ofString "worth";decide+kernel
 |.ali _ _=>by show S [97,108,105,107,101]=ofString "alike";decide+kernel
 |.rst _ _ _=>by show S [114,101,115,116]=ofString "rest";decide+kernel
 |.unk _=>by show S [117,110,107,110,111,119,110,115]=ofString "unknowns";decide+kernel
 |.way _=>by show S [119,97,121,115]=ofString "ways";decide+kernel
noncomputable def Ask.ws:Ask->List (List Nat)
 |.shw a=>[a]|.wor a g=>[a,bX g]|.ali a b=>[a,b]|.rst a b m=>[a,b,bX m]|.unk a=>[a]|.way a=>[a]
noncomputable def Ask.th:Ask->List V
 |.shw a=>[.str (S a)]|.wor a g=>[.str (S a),.int (g:Int)]|.ali a b=>[.str (S a),.str (S b)]|.rst a b m=>[.str (S a),.str (S b),.int (m:Int)]|.unk a=>[.str (S a)]|.way a=>[.str (S a)]
def Ask.ok:Ask->Prop
 |.shw a=>bb a=true
 |.wor a g=>bb a=true/\g<10^18
 |.ali a b=>bb a=true/\bb b=true
 |.rst a b m=>bb a=true/\bb b=true/\0<m/\m<10^18
 |.unk a=>bb a=true
 |.way a=>bb a=true
def Eb(h:n<10^18):fR (bX n)=true/\(0<n->bX n≠[48]):=by
 have hl:(bX n).length<=18:=oA (k:=17) h;have hv:=vd n;unfold fR;rcases Nat.eq_zero_or_pos n with rfl|z
 ·nomatch by decide,λz=>absurd z (by decide)
 ·obtain⟨d,r,e,hd⟩:=CW z;refine⟨?_,λ_ y=>by rw[e]at y;injection y with y;lia⟩;rw[ax (by rw[e];show ¬some (49+d)=some 48;intro y;injection y with y;omega)];rw[gz,gz,jf];nomatch aR (by rw[e];simp),aR hl,λc hc=>aR (by have:=tm hc;lia)
def zV(n:Nat):32∉bX n:=λh=>by have:=tm h;lia
def zE(hw:32∉w)(h0:ws≠[])(hs:∀v∈ws,32∉v)(hk:cT kE w=some ks)(hl:ks.length=ws.length)(hn:bb (ws.headD [])=true)
  (iZ:(ks.zip ws).all (λp=>fc p.1 p.2)=true):cE (aX 32 (w::ws))=some (none,w,(ks.zip ws).map λp=>sC p.1 p.2):=by
 have e:aU (aX 32 (w::ws))=w::ws:=wH (by simp) λv hv=>by
  rcases aZ.mp hv with rfl|z
  ·exact hw
  ·exact hs v z
 unfold cE;rw[e,ax (λz=>by
  obtain⟨_,z,_⟩:=z;cases ws with
  |nil=>exact h0 rfl
  |cons x r =>
   have hx:bb x=true:=hn;rcases (show x=[61]\/x=[58,61] from z)with rfl|rfl<;>exact absurd hx (by decide))]
 show (j0 (cT kE w) ws).map _=_;rw[hk];show (qA ks ws).map _=_;unfold qA;rw[aB ⟨hl,iZ⟩];rfl
def Ask.line{q:Ask}(h:q.ok):cE (aX 32 (q.wl::q.ws))=some (none,q.wl,q.th):=by
 have one:∀{w a:List Nat},32∉w->cT kE w=some [.name]->bb a=true->cE (aX 32 [w,a])=some (none,w,[.str (S a)]):=fun {w a} hw hk h =>
  (zE (ws:=[a]) hw (by simp) (λv hv=>by rw[bu.mp hv];exact eh h) hk rfl h (by show (bb a&&true)=true;rw[h];rfl)).trans rfl
 cases q with
 |shw a=>exact one (w:=BZ) (by decide) (by kernel_rfl) h
 |unk a=>exact one (w:=[117,110,107,110,111,119,110,115]) (by decide) (by kernel_rfl) h
 |way a=>exact one (w:=[119,97,121,115]) (by decide) (by kernel_rfl) h
 |wor a g =>
  obtain⟨h,hg⟩:=h;refine (zE (ks:=[.name,.number]) (w:=[119,111,114,116,104]) (ws:=[a,bX g]) (by decide) (by simp) (λv hv=>by
   rcases (show v=a\/v=bX g by simpa using hv)with rfl|rfl
   ·exact eh h
   ·exact zV g) (by kernel_rfl) rfl h (by show (bb a&&(fR (bX g)&&true))=true;rw[h,(Eb hg).1];rfl)).trans ?_
  show some (none,_,[V.str (S a),V.int ((digitsVal (bX g):Nat):Int)])=_;rw[vd];rfl
 |ali a b =>
  obtain⟨h,hb⟩:=h;exact (zE (ks:=[.name,.name]) (w:=[97,108,105,107,101]) (ws:=[a,b]) (by decide) (by simp) (λv hv=>by
   rcases (show v=a\/v=b by simpa using hv)with rfl|rfl
   ·exact eh h
   ·exact eh hb) (by kernel_rfl) rfl h (by show (bb a&&(bb b&&true))=true;rw[h,hb];rfl)).trans rfl
 |rst a b m =>
  obtain⟨h,hb,h0,hm⟩:=h;refine (zE (ks:=[.name,.name,.divisor]) (w:=[114,101,115,116]) (ws:=[a,b,bX m]) (by decide) (by simp) (λv hv=>by
   rcases (show v=a\/v=b\/v=bX m by simpa using hv)with rfl|rfl|rfl
   ·exact eh h
   ·exact eh hb
   ·exact zV m) (by kernel_rfl) rfl h (by show (bb a&&(bb b&&((fR (bX m) && !decide (bX m=[48]))&&true)))=true;rw[h,hb,(Eb hm).1,bj ((Eb hm).2 h0)];rfl)).trans ?_
  show some (none,_,[V.str (S a),V.str (S b),V.int ((digitsVal (bX m):Nat):Int)])=_;rw[vd];rfl
def vE{i:Int}{n:Nat}(h:i.natAbs<2^n)(hn:0<n):i.natAbs.log2<n:=by
 by_cases z:i.natAbs=0
 ·rw[z];exact hn
 ·exact (tU z).mpr h
theorem DX:∀{l:List Int},(∀x∈l,x.natAbs<=B)->l.sum.natAbs<=l.length*B
 |[],_=>bS _
 |x::r,h=>by
  have ih:=DX (l:=r) λu hu=>h u (eJ _ hu)
  have h1:=h x (by simp);rw[br,Nat.add_mul,Nat.one_mul,jV];omega
def QU(g:Int)(h:∀t∈l,t.2.natAbs<=B):(cR l g).natAbs<=l.length*B:=by
 unfold cR;refine aW (DX λx hx=>?_) (lS B ?_)
 ·obtain⟨t,ht,rfl⟩:=bW.mp hx;exact h t (jd.mp ht).1
 ·rw[av];exact jR _ _
def c7.worth(h:c7 ls f)(h5:ls.length<=5)(g:Int):(cR f g).natAbs.log2<1920:=by
 have h1:=QU g (λt ht=>cj (h.2.2 t ht));have h2:=lS (10^60) (h.len h5);have h3:32*10^60<2^1920:=by decide+kernel
 exact vE (by lia) (by decide)
def BB(h:K5 ls f)(bN:∀x∈ls,x<16):∀t∈f,t.1.natAbs.log2<1920:=λt ht=>by
 have:=h.low bN t ht
 have h3:2^16<2^1920:=by decide+kernel
 exact vE (by lia) (by decide)
def c7.minus(h:c7 ls l)(k:c7 ls o):K5 ls (nP l o):=(h.2.1.app (k.2.1.map λt => -t.2)).of (Pr _)
def c7.any(h:c7 ls f)(bN:∀x∈ls,x<16):cy f 0<2^16:=F5 (h.2.1.low bN)
def c7.keysM(h:c7 ls f):∀t∈f,0<=t.1/\t.1<2^fw f:=Cn (λt ht=>(h.2.1 t ht).1) λ_ z=>z
def c7.wsumF(h:c7 ls f)(h5:ls.length<=5)(hm:m<=10):(sA m f).natAbs.log2<1920:=by
 have h1:(sA m f).natAbs<=(f.map λt=>t.2*2^(m-pc t.1.toNat)).length*(10^60*2^10):=DX λx hx=>by
  obtain⟨t,ht,rfl⟩:=bW.mp hx;rw[zi,mD,tM];exact gC (cj (h.2.2 t ht)) (dX (by decide) (by lia))
 rw[av]at h1;have h2:=lS (10^60*2^10) (h.len h5);have h3:32*(10^60*2^10)<2^1920:=by decide+kernel
 exact vE (by lia) (by decide)
def sk(ks:Option (List Kd))(ws:List (List Nat)):Prop:=∀k,ks=some k->k.length=ws.length->j0 ks ws≠none
def JE(sg l:List Nat):Prop:=sg=[61]->sk (cT fH ((aU l).headD [])) (aU l).tail
def kM(l:List Nat):Prop:=(2<(aU l).length/\((aU l).getD 1 []=[61]\/(aU l).getD 1 []=[58,61])/\bb ((aU l).headD [])=true->JE ((aU l).getD 1 []) (l.drop (((aU l).headD []).length+((aU l).getD 1 []).length+2))) /\
 (¬(2<(aU l).length/\((aU l).getD 1 []=[61]\/(aU l).getD 1 []=[58,61])/\bb ((aU l).headD [])=true)->sk (cT kE ((aU l).headD [])) (aU l).tail)
def Ms(h:cE l=some r):kM l:=by
 exists λhc hs k hk _ nO=>?_,λhc k hk _ nO=>?_
 ·unfold cE at h;rw[aB hc]at h;unfold i8 at h;rw[aB ⟨hs,by rw[hk];rfl⟩,nO]at h;cases h
 ·unfold cE at h;rw[ax hc,nO]at h;cases h
def Xv(h:a<2^m):((List.range m).filter λk=>a.testBit k).length=pc a:=by
 have h1:=Mi m a h;unfold u6 at h1;have h2:=List.length_eq_countP_add_countP (l:=List.range m) λk=>a.testBit k
 rw[QC,QC,oh]at h2;have e:((List.range m).filter λk=>decide ¬a.testBit k=true)=(List.range m).filter λk => !a.testBit k:=List.filter_congr λk _=>by cases a.testBit k<;>rfl
 rw[e]at h2;lia
def ZU{n:Int}{m k:Nat}(h:k<=m):n*2^m/2^k=n*2^(m-k):=by
 obtain⟨j,rfl⟩:=Nat.exists_eq_add_of_le h;rw[Fe,Int.pow_add,<-xm,Int.mul_comm n,xm];exact Int.mul_ediv_cancel_left _ (by rw[mD];have:=pf k;lia)
noncomputable def Ask.n1:Ask->List Nat
 |.shw a=>a|.wor a _=>a|.ali a _=>a|.rst a _ _=>a|.unk a=>a|.way a=>a
noncomputable def Ask.p2:Ask->List V
 |.wor _ g=>[.int (g:Int)]|.ali _ b=>[.str (S b)]|.rst _ b m=>[.str (S b),.int (m:Int)]|_=>[]
noncomputable def Ask.n2:Ask->Option (List Nat)
 |.ali _ b=>some b|.rst _ b _=>some b|_=>none
def C6(H:Hp)(e:Addr)(q:Ask):Prop:=∃p,H e=some (.tup [.str q.wd,.ref p,.str (S (aX 32 (q.wl::q.ws)))])/\H p=some (.tup (.str (S q.n1)::q.p2))
def Ask.in2(q:Ask):gf (V.str q.wd) [.str "alike",.str "rest"]=q.n2.isSome:=by cases q<;>kernel_rfl
def Ask.p2_of{q:Ask}{b:List Nat}(e:q.n2=some b):∃r,q.p2=.str (S b)::r:=by cases q<;>first|(cases e;nomatch _,rfl)|cases e
theorem AF(n:Nat):∀ws:List (List Nat),(∀w∈ws,w.length<=n)->((ws.map S).map (·.length)).sum<=n*ws.length
 |[],_=>aO _
 |w::r,h=>by
  have ih:=AF n r λx hx=>h x (by simp[hx])
  have:=h w (by simp)
  rw[bU,bU,jV,aG,br,Nat.mul_succ,yu];exact yb ih this
theorem CK(c:Nat)(x:List Nat):∀{ws:List (List Nat)},ws≠[]->aX c (ws++[x])=aX c ws++c::x
 |[],h=>absurd rfl h
 |[w],_=>rfl
 |w::v::r,_=>by
  have ih:=CK c x (ws:=v::r) (by simp);show w++c::aX c (v::r++[x])=(w++c::aX c (v::r))++c::x;rw[ih,fZ];rfl
def Mu(h:ks.length≠ws.length):j0 (some ks) ws=none/\sk (some ks) ws :=
 ⟨ax λz=>h z.1,λk e hl=>by cases e;exact absurd hl h⟩
def uJ(hw:32∉w)(h0:ws≠[])(hs:∀v∈ws,32∉v)(hx:32∉x)(hk:cT kE w=some ks)(hl:ks.length=ws.length)(hn:bb (ws.headD [])=true) :
  cE (aX 32 (w::ws)++32::x)=none/\kM (aX 32 (w::ws)++32::x):=by
 rw[<-CK 32 x (by simp)];have e:aU (aX 32 (w::ws++[x]))=w::(ws++[x]):=wH (by simp) λv hv=>by
  rcases aZ.mp hv with rfl|z
  ·exact hw
  ·rcases bF.mp z with z|z
   ·exact hs v z
   ·rw[bu.mp z];exact hx
 have hc:¬(2<(w::(ws++[x])).length/\((w::(ws++[x])).getD 1 []=[61]\/(w::(ws++[x])).getD 1 []=[58,61])/\bb ((w::(ws++[x])).headD [])=true):=λz=>by
  obtain⟨_,z,_⟩:=z;cases ws with
  |nil=>exact h0 rfl
  |cons y r =>
   have hy:bb y=true:=hn;rcases (show y=[61]\/y=[58,61] from z)with rfl|rfl<;>exact absurd hy (by decide)
 obtain⟨r1,r2⟩:=Mu (ks:=ks) (ws:=ws++[x]) (by rw[aS];show _≠_+1;lia);exists ?_,?_
 ·unfold cE;rw[e,ax hc];show (j0 (cT kE w) (ws++[x])).map _=_;rw[hk,r1];rfl
 ·unfold kM;rw[e];exists λz=>absurd z hc,λ_=>?_;show sk (cT kE w) (ws++[x]);rw[hk];exact r2
def Ec(hn:bb n=true)(hw:32∉w)(hs:∀v∈ws,32∉v)(hx:32∉x)(hk:cT fH w=some ks)(hl:ks.length=ws.length) :
  cE (aX 32 (n::[61]::w::ws)++32::x)=none/\kM (aX 32 (n::[61]::w::ws)++32::x):=by
 have e0:aX 32 (n::[61]::w::ws)++32::x=n++32::([61]++32::aX 32 (w::ws++[x])):=by
  rw[CK 32 x (by simp)];show (n++32::([61]++32::aX 32 (w::ws)))++32::x=_;simp
 have e:aU (aX 32 (w::ws++[x]))=w::(ws++[x]):=wH (by simp) λv hv=>by
  rcases aZ.mp hv with rfl|z
  ·exact hw
  ·rcases bF.mp z with z|z
   ·exact hs v z
   ·rw[bu.mp z];exact hx
 obtain⟨r1,r2⟩:=Mu (ks:=ks) (ws:=ws++[x]) (by rw[aS];show _≠_+1;omega);rw[e0];exists ?_,?_
 ·rw[tH hn (.inl rfl)];unfold i8;have nj:cT fH ((w::(ws++[x])).headD [])=some ks:=hk;rw[e,aB ⟨rfl,by rw[nj];rfl⟩,nj];show (j0 (some ks) (ws++[x])).map _=_;rw[r1];rfl
 ·have es:aU (n++32::([61]++32::aX 32 (w::ws++[x])))=n::[61]::aU (aX 32 (w::ws++[x])):=by rw[vw (eh hn),vw (by decide)]
  unfold kM;rw[es,e];exists λ_ _=>?_,λz=>absurd ⟨by simp,.inl rfl,hn⟩ z;have ed:(n++32::([61]++32::aX 32 (w::ws++[x]))).drop (n.length+[61].length+2)=aX 32 (w::ws++[x]):=by
   rw[show n++32::([61]++32::aX 32 (w::ws++[x]))=(n++[32]++[61]++[32])++aX 32 (w::ws++[x]) by simp];exact List.drop_left' (by simp)
  show sk (cT fH ((aU ((n++32::([61]++32::aX 32 (w::ws++[x]))).drop (n.length+[61].length+2))).headD [])) (aU ((n++32::([61]++32::aX 32 (w::ws++[x]))).drop (n.length+[61].length+2))).tail;rw[ed,e];show sk (cT fH w) (ws++[x]);rw[hk];exact r2
def Ask.bad{q:Ask}(h:q.ok){x:List Nat}(hx:32∉x):cE (aX 32 (q.wl::q.ws)++32::x)=none/\kM (aX 32 (q.wl::q.ws)++32::x):=by
 have two:∀{a b:List Nat},32∉a->32∉b->∀v∈[a,b],32∉v:=λha hb v hv=>by
  rcases (show v=_\/v=_ by simpa using hv)with rfl|rfl
  ·exact ha
  ·exact hb
 cases q with
 |shw a=>exact uJ (ks:=[.name]) (ws:=[a]) (by show 32∉BZ;decide) (by simp) (λv hv=>by rw[bu.mp hv];exact eh h) hx (by kernel_rfl) rfl h
 |unk a=>exact uJ (ks:=[.name]) (w:=[117,110,107,110,111,119,110,115]) (ws:=[a]) (by decide) (by simp) (λv hv=>by rw[bu.mp hv];exact eh h) hx (by kernel_rfl) rfl h
 |way a=>exact uJ (ks:=[.name]) (w:=[119,97,121,115]) (ws:=[a]) (by decide) (by simp) (λv hv=>by rw[bu.mp hv];exact eh h) hx (by kernel_rfl) rfl h
 |wor a g=>exact uJ (ks:=[.name,.number]) (w:=[119,111,114,116,104]) (ws:=[a,bX g]) (by decide) (by simp) (two (eh h.1) (zV g)) hx (by kernel_rfl) rfl h.1
 |ali a b=>exact uJ (ks:=[.name,.name]) (w:=[97,108,105,107,101]) (ws:=[a,b]) (by decide) (by simp) (two (eh h.1) (eh h.2)) hx (by kernel_rfl) rfl h.1
 |rst a b m=>exact uJ (ks:=[.name,.name,.divisor]) (w:=[114,101,115,116]) (ws:=[a,b,bX m]) (by decide) (by simp) (λv hv=>by
   rcases (show v=a\/v=b\/v=bX m by simpa using hv)with rfl|rfl|rfl
   ·exact eh h.1
   ·exact eh h.2.1
   ·exact zV m) hx (by kernel_rfl) rfl h.1
def bh.some:bh->Prop
 |.form _ _=>False
 |.stat _ _=>False
 |_=>True
def bh.bad(h:jF ls st c)(hc:c.some)(hx:32∉x):cE (c.line++32::x)=none/\kM (c.line++32::x):=by
  cases c with
  |form n t=>exact hc.elim
  |stat n s=>exact hc.elim
  |fixd n a k b =>
    obtain ⟨hn,ha,hk,hb,_⟩:=h;exact Ec (ks:=[.name,.letter,.bit]) (w:=ji) (ws:=[a,[97+k],[48+b.toNat]]) hn (by decide) (λv hv=>by
      rcases (show v=a\/v=[97+k]\/v=[48+b.toNat] by simpa using hv)with rfl|rfl|rfl
      · exact eh ha
      · simp;lia
      · simp;lia) hx Ke rfl
  |put n a k b =>
    obtain ⟨hn,ha,hb,hk,_⟩:=h;exact Ec (ks:=[.name,.letter,.name]) (w:=jk) (ws:=[a,[97+k],b]) hn (by decide) (λv hv=>by
      rcases (show v=a\/v=[97+k]\/v=b by simpa using hv)with rfl|rfl|rfl
      · exact eh ha
      · simp;omega
      · exact eh hb) hx IP rfl
  |two w n a b =>
    obtain ⟨hn,ha,hb,hw,_⟩:=h
    exact Ec       (ks := [.name, .name]) (w := gR  w) (ws := [a, b]) hn (by obtain rfl | rfl | rfl : w = 0 ∨ w = 1 ∨ w = 2 := by lia
                                                                             all_goals decide) (fun v hv => by
      rcases (show v=a\/v=b by simpa using hv)with rfl|rfl
      · exact eh ha
      · exact eh hb) hx (Mb hw) rfl
def WJ(h:kJ o)(h0:∀t∈o,0<=t.1)(g:Nat):cR o (g:Int)=0\/cR o (g:Int)=1:=by
 obtain⟨f,hf,rfl⟩:=h;have e:=tW (g:Int) hf.val;rw[GA h0 h0 (gD g)]at e;by_cases z:cR f (g:Int)=0
 ·exact .inl z
 ·refine .inr (Int.eq_of_mul_eq_mul_left z ?_);rw[Int.mul_one];exact e.symm
def S4(g:Int)(l:ar):(cR l g).natAbs<=(l.map λt=>t.2.natAbs).sum:=by
 unfold cR;induction l with
 |nil=>exact bS _
 |cons t r ih =>
  rw[mW,bU,jV];split
  ·rw[bU,jV];omega
  ·lia
def pO(W:Nat)(f:ar):Prop:=∀g:Nat,(cR f (g:Int)).natAbs<=W
theorem Kz(hF:IsForm o)(h:pO W o)(h0:∀t∈o,0<=t.1):∀i,i<=o.length->((o.take i).map λt=>t.2.natAbs).sum+W<=W*2^i
 |0,_=>by simp
 |i+1,hi=>by
  have ih:=Kz hF h h0 i (by lia);have hit:i<o.length:=hi;have ht:=eC hit;have hm:=jH hit;generalize o[i]=t at ht hm;rw[dU,ht,aT,oV];show _+(t.2.natAbs+0)+W<=_;have es:o=o.take i++t::o.drop (i+1):=by
   have e1:o.drop i=t::o.drop (i+1):=by
    obtain⟨h1,h2⟩:=dS.mp ht;rw[tO h1,h2]
   rw[<-e1,Gx]
  obtain⟨n,hn⟩:=oO (h0 t hm);have hz:cR (o.drop (i+1)) (n:Int)=0:=by
   unfold cR;rw[List.filter_eq_nil_iff.mpr];rfl;intro u hu;have hr:=hF.rise;rw[es,List.pairwise_append]at hr;have h1:=(nS.mp hr.2.1).1 u hu;obtain⟨m,hmm⟩:=oO (h0 u (zx hu));intro z;have z':=bG z;rw[hmm]at z' h1;rw[hn]at h1
   have:(m:Int).toNat&&&n=m:=by
    have e:=pG m n;rw[show Builtin.bitAnd (m:Int) (n:Int)=(m:Int) from z']at e;exact_mod_cast e.symm
   have h2:m&&&n<=n:=Nat.and_le_right;have h3:m&&&n=m:=this;lia
  have hw:=h n;have e2:cR o (n:Int)=cR (o.take i) (n:Int)+t.2:=by
   conv=>lhs;rw[es]
   rw[BR]
   have:cR (t::o.drop (i+1)) (n:Int)=t.2+cR (o.drop (i+1)) (n:Int):=by
    unfold cR;rw[mW,aB (aR (by rw[hn];have:=pG n n;rw[Nat.and_self]at this;exact this)),bU,jV]
   rw[this,hz,Int.add_zero]
  have h4:=S4 (n:Int) (o.take i);rw[e2]at hw;rw[jU,<-Nat.mul_assoc];omega
theorem LN:∀{l:List Nat}{x:Nat},x∈l->x<=l.sum
 |y::r,x,h=>by
  rw[jV];rcases aZ.mp h with rfl|z
  ·lia
  ·have:=LN z;lia
def DD(hF:IsForm o)(hK:K5 ls o)(h5:ls.length<=5)(h:pO W o)(hw:W*2^32<10^60):c7 ls o:=⟨hF,hK,λt ht=>by
 have h1:=Kz hF h (λt ht=>(hK t ht).1) o.length (aO _);rw[dO]at h1;have h2:=B2 W (dX (show 2>0 by decide) (hK.len hF h5));have h3:t.2.natAbs<=(o.map λt=>t.2.natAbs).sum:=LN (bW.mpr ⟨t,ht,rfl⟩);lia⟩
def CU(hF:IsForm f)(hK:K5 ls f)(h5:ls.length<=5)(h:∀t∈f,t.2.natAbs<B)(hW:32*B<=W):pO W f:=λg=>by
 have h1:=QU (g:Int) (λt ht=>cj (h t ht));have h2:=lS B (hK.len hF h5);lia
noncomputable def bh.ops:bh->List (List Nat)
 |.form _ _=>[]|.stat _ _=>[]
 |.fixd _ a _ _=>[a]
 |.put _ a _ b=>[a,b]
 |.two _ _ a b=>[a,b]
def jF.low{ls:List Nat}{st:cH}{c:bh}{f:ar}{W V:Nat}(h:jF ls [] c)(bN:∀x∈ls,x<16)(h5:ls.length<=5)(bc:∀nf∈st,c7 ls nf.2)(hm:eV ls st c (.form f))(hW:∀a∈c.ops,∀l,cb st a=some l->pO W l)(h8:10^8<=V)(h2:2*W<=V)(h3:c.dw = "times" -> W*W<=V):IsForm f/\K5 ls f/\pO V f:=by
 cases c with
 |form n t =>
  obtain⟨_,f0,rfl,hf,_,hs⟩:=h;obtain⟨f',e,e'⟩:=hm;rw[yp hf.1 (hf.say bN)]at e';injection e with e
  injection e' with e'
  rw[e,<-e'];nomatch hf.1,hf.2.1,CU hf.1 hf.2.1 h5 hs (by lia)
 |stat n s =>
  obtain⟨_,ho,hl⟩:=h;obtain⟨f',e,hF⟩:=hm;injection e with e
  subst e;have hk:=(qE ho).of hF;exists hF.toIsForm,hk,CU hF.toIsForm hk h5 (B:=10^6) ?_ (by lia);have n1:=uw s;have n2:=dX (show 2>0 by decide) hl;have n3:=dX (show 4>0 by decide) hl;refine DR (n:=32) (B:=1024) hF (by lia) (λt ht=>?_) (by decide)
  have:=xR ho t ht
  lia
 |fixd n a k b =>
  obtain⟨_,_,hk,hb,_⟩:=h;rcases hm with ⟨_,e⟩|⟨l,f',h1,e,hF⟩
  ·cases e
  injection e with e
  subst e;have hl:=dz bc h1;exists hF.toIsForm,(hl.2.1.fix k b).of hF,λg=>?_;rw[tW _ hF.val,Yk hb λt ht=>(hl.2.1 t ht).1]
  have:=hW a (by simp[bh.ops]) l h1 (mi g k (decide (b=1)))
  lia
 |put n a k b =>
  rcases hm with ⟨_,e⟩|⟨l,_,_,e⟩|⟨l,o,h1,dh,⟨_,e⟩|⟨hy,f',e,hF⟩⟩
  ·cases e
  ·cases e
  ·cases e
  injection e with e
  subst e;have hl:=dz bc h1;have ho:=dz bc dh;exists hF.toIsForm,(hl.2.1.put ho.2.1 k).of hF,λg=>?_;have o0:∀t∈o,0<=t.1:=λt ht=>(ho.2.1 t ht).1
  obtain⟨x,hx⟩:∃x:Bool,cR o (g:Int)=if x then 1 else 0:=by
   rcases WJ hy o0 g with z|z
   ·nomatch false,z
   ·nomatch true,z
  rw[tW _ hF.val,R8 (λt ht=>(hl.2.1 t ht).1) o0 hx]
  have:=hW a (by simp[bh.ops]) l h1 (mi g k x)
  lia
 |two w n a b =>
  obtain⟨_,_,_,hw,_⟩:=h;rcases hm with ⟨_,e⟩|⟨l,_,_,e⟩|⟨l,o,f',h1,dh,e,hF⟩
  ·cases e
  ·cases e
  injection e with e
  subst e;have hl:=dz bc h1;have ho:=dz bc dh;have wl:=hW a (by simp[bh.ops]) l h1;have wo:=hW b (by simp[bh.ops]) o dh;obtain rfl|rfl|rfl:w=0\/w=1\/w=2:=by lia
  ·have pY:bf f (l++o):=hF;exists hF.toIsForm,(hl.2.1.app ho.2.1).of pY,λg=>?_;rw[tW _ pY.val,BR]
   have:=wl g
   have:=wo g
   omega
  ·have pY:bf f (l++HV o):=hF;exists hF.toIsForm,(hl.2.1.app (ho.2.1.map _)).of pY,λg=>?_;rw[tW _ pY.val,BR,Ry]
   have:=wl g
   have:=wo g
   omega
  ·have pY:bf f (bC l o):=hF;exists hF.toIsForm,(hl.2.1.prod ho.2.1).of pY,λg=>?_;rw[tW _ pY.val,GA (λt ht=>(hl.2.1 t ht).1) (λt ht=>(ho.2.1 t ht).1) (gD g),zi];exact aW (gC (wl g) (wo g)) (h3 rfl)
def jF.bare(h:jF ls st c):jF ls [] c:=by
 have z:∀a,my [] a:=λa l e=>by cases e
 cases c with
 |form n t=>exact h
 |stat n s=>exact h
 |fixd n a k b=>nomatch h.1,h.2.1,h.2.2.1,h.2.2.2.1,z a
 |put n a k b=>nomatch h.1,h.2.1,h.2.2.1,h.2.2.2.1,z a,z b
 |two w n a b=>nomatch h.1,h.2.1,h.2.2.1,h.2.2.2.1,z a,z b
def jF.lowM(h:jF ls st c)(bN:∀x∈ls,x<16)(h5:ls.length<=5)(bc:∀nf∈st,c7 ls nf.2)(hm:eV ls st c (.form f)):IsForm f/\K5 ls f/\pO (10^44) f:=by
 have z:∀{a},my st a->∀l,cb st a=some l->pO (10^22) l:=λha l e=>CU (dz bc e).1 (dz bc e).2.1 h5 (ha l e) (by decide)
 refine h.bare.low bN h5 bc hm (W:=10^22) (λa ha=>?_) (by decide) (by decide) λ_=>by decide
 cases c with
 |form n t=>cases ha
 |stat n s=>cases ha
 |fixd n b k x =>
  rw[show a=b from bu.mp ha];exact z h.2.2.2.2
 |put n b k o =>
  rcases (show a=b\/a=o by simpa [bh.ops] using ha)with rfl|rfl
  ·exact z h.2.2.2.2.1
  ·exact z h.2.2.2.2.2
 |two w n b o =>
  rcases (show a=b\/a=o by simpa [bh.ops] using ha)with rfl|rfl
  ·exact z h.2.2.2.2.1
  ·exact z h.2.2.2.2.2
def kj(s:af H H1)(h:H1 b=none):H b=none:=by
 cases z:H b with
 |none=>rfl
 |some o=>rw[s _ _ z]at h;cases h
open PySem L2 OF PyProof.Rows
def du:1<=sizeLine:=by decide
def bK:2<=sizeLine:=by decide
def cY:3<=sizeLine:=by decide
def AM:4<=sizeLine:=by decide
def EB:6<=sizeLine:=by decide
namespace Rw
noncomputable def scOk(r:Rw):Bool :=
 (match (dy r.s).kind with|.function=>true|_=>false) && !(dy r.s).isCoroutine && !(dy r.s).isGenerator&&decide r.N.Nodup&&decide (r.N.take r.ps.length=r.ps)&&decide (∀x∈r.ps,(dy r.s).names.lookup x=some .local\/(dy r.s).names.lookup x=some .cell)&&decide (∀y∈(dy r.s).names,y.2≠.free)
def sc{r:Rw}(h:r.scOk=true):oF r.N r.ps (dy r.s):=by
 unfold scOk at h;simp only[gz,yc,Bool.not_eq_true']at h;obtain⟨⟨⟨⟨⟨⟨h1,h2⟩,h3⟩,h4⟩,h5⟩,h6⟩,h7⟩:=h;exists ?_,h2,h3,h4,h5,h6,h7;cases e:(dy r.s).kind with
 |function=>rfl
 |_=>rw[e]at h1;cases h1
end Rw
section
variable{P:Program}{w:World}{K:Frag}{mg:Str->Option Value}{base:Heap}{r:Rw}{C:Addr}
structure Def(K:Frag)(mg:Str->Option Value)(r:Rw):Prop where
 F:mM K r.n r.q r.s r.a r.fd
 m:mg r.n=some (.ref r.a)
 b:Binds K r.fd r.ps []
 S:oF r.N r.ps (dy r.s)
structure qp(K:Frag)(C:Addr)(r:Rw):Prop where
 F:mM K r.n r.q r.s r.a r.fd
 m:xD K C r.n r.a
 b:Binds K r.fd r.ps []
 S:oF r.N r.ps (dy r.s)
def nr(h:us.length=n+1):∃a v,us=a::v/\v.length=n:=by
 cases us with
 |nil=>cases h
 |cons a v=>nomatch a,v,rfl,Nat.succ.inj h
def JH{fd:FuncData}{ps:List Str}(h:∀a,bindArgs fd ⟨[a],[]⟩=pure (ps.zip [a]))(us:List Value)(hl:us.length=1):bindArgs fd ⟨us,[]⟩=pure (ps.zip us):=by
 obtain⟨a,v0,rfl,h0⟩:=nr hl;cases qB h0;exact h a
def Pl{fd:FuncData}{ps:List Str}(h:∀a b,bindArgs fd ⟨[a,b],[]⟩=pure (ps.zip [a,b]))(us:List Value)(hl:us.length=2):bindArgs fd ⟨us,[]⟩=pure (ps.zip us):=by
 obtain⟨a,v0,rfl,h0⟩:=nr hl;obtain⟨b,v1,rfl,h1⟩:=nr h0;cases qB h1;exact h a b
def P1{fd:FuncData}{ps:List Str}(h:∀a b c,bindArgs fd ⟨[a,b,c],[]⟩=pure (ps.zip [a,b,c]))(us:List Value)(hl:us.length=3):bindArgs fd ⟨us,[]⟩=pure (ps.zip us):=by
 obtain⟨a,v0,rfl,h0⟩:=nr hl;obtain⟨b,v1,rfl,h1⟩:=nr h0;obtain⟨c,v2,rfl,h2⟩:=nr h1;cases qB h2;exact h a b c
def MH{fd:FuncData}{ps:List Str}(h:∀a b c d,bindArgs fd ⟨[a,b,c,d],[]⟩=pure (ps.zip [a,b,c,d]))(us:List Value)(hl:us.length=4):bindArgs fd ⟨us,[]⟩=pure (ps.zip us):=by
 obtain⟨a,v0,rfl,h0⟩:=nr hl;obtain⟨b,v1,rfl,h1⟩:=nr h0;obtain⟨c,v2,rfl,h2⟩:=nr h1;obtain⟨d,v3,rfl,h3⟩:=nr h2;cases qB h3;exact h a b c d
def Rw.fun(l:K.lookup r.a=some (⟨.type "function",none,.func r.fd,#[]⟩))(c:PySem.W.codeIn K (.ref (r.a-1)) r.q=true)(k:PySem.W.keepIn K (.ref r.a)=true):mM K r.n r.q r.s r.a r.fd:=UC l c k
def Def.of(X:K.In h)(G:h.Ns mainGlobals mg)(u:∀us:List Value,us.length=r.ps.length->bindArgs r.fd ⟨us,[]⟩=pure (r.ps.zip us))(a:PySem.W.nsIn K mainGlobals r.n=some (some (.ref r.a)))
  (l:K.lookup r.a=some (⟨.type "function",none,.func r.fd,#[]⟩)) (c:PySem.W.codeIn K (.ref (r.a-1)) r.q=true) (k:PySem.W.keepIn K (.ref r.a)=true) (s:r.scOk=true):Def K mg r :=
 ⟨Rw.fun l c k,PySem.W.mg_of X G a,.all u,Rw.sc s⟩
def qp.of(u:∀us:List Value,us.length=r.ps.length->bindArgs r.fd ⟨us,[]⟩=pure (r.ps.zip us))(a:PySem.W.findIn K (.ref C) r.n=some (some (.ref r.a)))
  (l:K.lookup r.a=some (⟨.type "function",none,.func r.fd,#[]⟩)) (c:PySem.W.codeIn K (.ref (r.a-1)) r.q=true) (k:PySem.W.keepIn K (.ref r.a)=true) (s:r.scOk=true) (y:PySem.W.isFn K (.ref r.a)=true):qp K C r :=
 ⟨Rw.fun l c k,⟨a,y,k⟩,.all u,Rw.sc s⟩
def jX(xs:List Str)(ts:List Tok)(hl:xs.length=ts.length)(hs:ts.length<=sizeLine)(h:K.lookup a=some ⟨.type "tuple",none,.seq ((xs.zip ts).map λp=>.str p.1 p.2).toArray 0,#[]⟩)(H:Hp):ay K H a (xs.map V.str):=by
 refine .inr ⟨_,_,_,h,rfl,rfl,?_,?_⟩
 ·rw[cf,av,List.length_zip,hl,Nat.min_self];exact hs
 ·show Vals _ ((xs.zip ts).map _);clear h hs;induction xs generalizing ts with
  |nil=>exact .nil
  |cons x xs ih =>
   cases ts with
   |nil=>cases hl
   |cons t ts=>exact .cons ⟨_,rfl⟩ (ih ts (Nat.succ.inj hl))
abbrev Rw.Ok(r:Rw)(P:Program)(w:World)(K:Frag)(mg:Str->Option Value)(base:Heap)(k:Nat)(sp:Sp):Prop:=jo P w K mg base qM k r.a r.fd r.ps sp
abbrev Rw.OkE(r:Rw)(P:Program)(w:World)(K:Frag)(mg:Str->Option Value)(base:Heap)(k:Nat)(sp:Sp):Prop:=jo P w K mg base (jx P w) k r.a r.fd r.ps sp
def Rw.ok{k:Nat}{sp:Sp}(F:mM K r.n r.q r.s r.a r.fd)(S:oF r.N r.ps (dy r.s))
  (h:∀ vs H Q E,sp vs H Q E->vs.length=r.ps.length/\∀ (cJ:Value) (A:Around) (outer:List Env) (s:Shared),cX k (A.deeper (envOfC r.q (dy r.s) s.heap.objs.size r.a cJ))->(A.deeper (envOfC r.q (dy r.s) s.heap.objs.size r.a cJ)).units+1<cLine->r.N.Nodup -> ∃t,f9 (lC qM P w K mg base r.N r.q (dy r.s) r.a cJ A outer s H E).nox (ou r.s) t/\t {nx:=λ_ H'=>Q .non H',rt:=Q} (lr r.N vs) H):r.Ok P w K mg base (k+1) sp :=
 F.ok S (λvs H Q E z=>(h vs H Q E z).1) λcJ A outer s H vs Q E hr z=>(h vs H Q E z).2 cJ A outer s hr (QI hr) S.nd
def Rw.okE{k:Nat}{sp:Sp}(F:mM K r.n r.q r.s r.a r.fd)(S:oF r.N r.ps (dy r.s))
  (h:∀ vs H Q E,sp vs H Q E->vs.length=r.ps.length/\∀ (cJ:Value) (A:Around) (outer:List Env) (s:Shared),cX k (A.deeper (envOfC r.q (dy r.s) s.heap.objs.size r.a cJ))->(A.deeper (envOfC r.q (dy r.s) s.heap.objs.size r.a cJ)).units+1<cLine->r.N.Nodup -> ∃t,f9 (lC (jx P w) P w K mg base r.N r.q (dy r.s) r.a cJ A outer s H E) (ou r.s) t/\t {nx:=λ_ H'=>Q .non H',rt:=Q} (lr r.N vs) H):r.OkE P w K mg base (k+1) sp :=
 F.okE S (λvs H Q E z=>(h vs H Q E z).1) λcJ A outer s H vs Q E hr z=>(h vs H Q E z).2 cJ A outer s hr (QI hr) S.nd
end
section
variable{X:Cx}{r:Rw}{k:Nat}{sp:Sp}{e:Expr}{es:List Expr}{t:TA}{p pos:Pos}{E:XK}
def aC(D:Def X.K X.mg r)(F:jo X.prog X.w X.K X.mg X.base qM k r.a r.fd r.ps sp)(hr:cX k X.A)(ha:PA X (e::es) t)(hx:r.n=x:=by rfl)(hg:Gl X x:=by rfl)(oM:(x == ("__debug__" : Str))=false:=by decide)
  (he:starEach (e::es) X.env=(false,eval e X.env)::starEach es X.env:=by rfl) (cD:(backTo pos (starEach es X.env)).any (·.1)=false:=by rfl):PE X (.Call (.Name x p) (e::es) [] pos) (Ic sp [] E0 t):=by
 subst hx;exact pd F hr hg D.m D.F.kp D.b .nil HN ha oM he cD
def aD(i:Nat)(hN:X.N.Nodup)(he:PE X e te)(hi:X.N[i]?=some x:=by rfl)(hx:rp X.env.scope x:=by first|exact Or.inl rfl|exact Or.inr rfl)(hs:swapsWith e (some (.Name x pos')) pos.line X.env=pure false:=by rfl)
  (hf:X.fn x=true\/X.env.scope.names.lookup x=some .local:=by first|exact .inl rfl|exact .inr rfl|assumption):PS X (.Assign [.Name x pos'] e pos) (rZ te (a8 i)):=Jm hN hi hx he hs hf
def aN(i:Nat)(hN:X.N.Nodup)(hi:X.N[i]?=some x:=by rfl)(hx:rp X.env.scope x:=by first|exact Or.inl rfl|exact Or.inr rfl)(hf:X.fn x=true\/X.env.scope.names.lookup x=some .local:=by first|exact .inl rfl|exact .inr rfl|assumption):PG X (.Name x pos) (a8 i):=O9 hN hi hx hf
def dC(r:Rw)(h1:X.env.scope=dy r.s:=by rfl)(h2:X.N=r.N:=by rfl)(hk:scope.kind=.function:=by rfl)
  (iZ:(scope.names.all λy=>y.2 != .cell&&(y.2 != .local || scope.names.lookup y.1 == some .local)&&(y.2 != .free || (dy r.s).names.lookup y.1 == some .cell))=true:=by decide+kernel)
  (aH:N'.length=nT+js.length:=by rfl) (hf:(js.map λj=>r.N[j]?)=(N'.drop nT).map some:=by decide+kernel) (hv:((N'.drop nT).all λx=>scope.names.lookup x == some .free)=true:=by decide+kernel):rL X scope N' nT js :=
 rL.of _ _ h1 h2 hk iZ aH hf hv
end
def sh{a b:TS}{D:ky}{σ:L2.St}{H:Hp}(h:∀N:L2.St->Hp->Prop,(∀σ H,b D σ H->N σ H)->a {D with nx:=N} σ H):Ae a b D σ H:=h (b D) λ_ _ z=>z
def nw(e:upd H p o=B)(h:H p=none):af H B/\B p=some o:=by subst e;nomatch af.upd h,aq
def nb(h:b=false):¬b=true:=by rw[h];exact dJ
end My
namespace L2
open PySem PySem.Spec PyProof.Rows
section
variable{X:Cx}
def PE.to(h:PE X e t)(m:∀σ H Q,u σ H Q->t σ H Q):PE X e u:=λae s σ H Q I q=>h ae s σ H Q I (m _ _ _ q)
def bV.to(h:bV X f r)(m:∀x y H Q,u x y H Q->r x y H Q):bV X f u:=λae s σ H x y v w Q I r1 r2 q=>h ae s σ H x y v w Q I r1 r2 (m _ _ _ _ q)
def kK.to(h:kK X r)(m:∀x y H Q,u x y H Q->r x y H Q):kK X u:=λa b ae s σ H x y v w Q I r1 r2 q=>h a b ae s σ H x y v w Q I r1 r2 (m _ _ _ _ q)
def tV(i:Nat):TE:=λσ H Q=>match σ[i]? with|some (some v)=>Q v H|_=>False
set_option tactic.hygienic true in
def XY:∀σ H Q,tV i σ H Q->kx i σ H Q:=λσ H Q h=>by
 unfold tV at h;split at h
 ·rename_i v e;nomatch v,e,h
 ·exact h.elim
def vI(x:V)(k:Int->Prop):Prop:=match x with|.int i=>k i|_=>False
def Jg(x:V)(k:Bool->Prop):Prop:=match x with|.bl i=>k i|_=>False
def vR(x:V)(k:Addr->Prop):Prop:=match x with|.ref i=>k i|_=>False
def rf(h:vI x k):∃i,x=.int i/\k i:=by cases x<;>first|exact h.elim|nomatch _,rfl,h
def WX(h:Jg x k):∃i,x=.bl i/\k i:=by cases x<;>first|exact h.elim|nomatch _,rfl,h
def sX(h:vR x k):∃i,x=.ref i/\k i:=by cases x<;>first|exact h.elim|nomatch _,rfl,h
def tT(t:TE):TT:=λσ H Q=>t σ H λx H1=>Jg x λc=>Q c H1
def SF(C:Int->Int->Prop)(g:Int->Int->V):R2:=λx y H Q=>vI x λi=>vI y λj=>C i j/\Q (g i j) H
def Xo(g:Int->Int->V):R2:=λx y H Q=>vI x λi=>vI y λj=>Q (g i j) H
def yQ(f:Bool->Bool):R2:=λx y H Q=>match xB x y with|true=>Q (.bl (f (decide (x=y)))) H|false=>False
inductive Ix (S:List V->Prop) (i:Int) (Q:V->Prop):Prop
 |mk {xs:List V} (v:V) (h:S xs) (e:di xs i=some v) (k:Q v)
def DT(K:Frag):R2:=λx y H Q=>vR x λp=>vI y λi=>Ix (aj K H p) i λv=>Q v H
def FA(K:Frag):R2:=λx y H Q=>vR x λp=>vI y λi=>Ix (ay K H p) i λv=>Q v H
def bV.c(h:bV X f (rI C g)):bV X f (SF C g):=h.to λx y H Q q=>by
 obtain⟨i,rfl,q1⟩:=rf q;obtain⟨j,rfl,q2⟩:=rf q1;nomatch i,j,rfl,rfl,q2
theorem bV.j(h:bV X f (kG g)):bV X f (Xo g):=h.to λx y H Q q=>by
 obtain⟨i,rfl,q1⟩:=rf q;obtain⟨j,rfl,q2⟩:=rf q1;nomatch i,j,rfl,rfl,q2
def KH(h:yQ f x y H Q):xB x y=true/\Q (.bl (f (decide (x=y)))) H:=by
 unfold yQ at h;cases e:xB x y<;>rw[e]at h
 ·exact h.elim
 ·nomatch rfl,h
def aV:bV X (compareOp .Eq) (yQ id):=oP.to λx y H Q q=>KH q
def jM:bV X (compareOp .NotEq) (yQ not):=Ad.to λx y H Q q=>KH q
def xl:kK X (DT X.K):=Ot.to λx y H Q q=>by
 obtain⟨p,rfl,q1⟩:=sX q;obtain⟨i,rfl,v,h1,h2,q2⟩:=rf q1;nomatch p,_,i,v,rfl,rfl,h1,h2,q2
def xt:kK X (FA X.K):=X5.to λx y H Q q=>by
 obtain⟨p,rfl,q1⟩:=sX q;obtain⟨i,rfl,v,h1,h2,q2⟩:=rf q1;nomatch p,_,i,v,rfl,rfl,h1,h2,q2
def XW(K:Frag)(h:X.K=K):kK X (DT K):=h ▸ xl
def Qe(K:Frag)(h:X.K=K):kK X (FA K):=h ▸ xt
variable{a b:Expr}{ta tb:TE}{pos:Pos}
def bM(ho:bV X (compareOp op) r)(ha:PE X a ta)(hb:PE X b tb)(g:op≠.In:=by decide)(g2:op≠.NotIn:=by decide):PT X (.Compare a [op] [b] pos) (tT (kc r ta tb)):=by
 intro ae s σ H Q I h;refine DS (aL (ha ae s σ H _ I h) λv s1 ⟨x,H1,I1,r1,q1⟩=>aL (hb ae s1 σ H1 _ I1 q1) λu s2 ⟨y,H2,I2,r2,q2⟩ =>
  aL (ho ae s2 σ H2 x y v u _ I2 r1 r2 q2) λc s3 ⟨z,H3,I3,r3,q3⟩=>?_) (En _ g g2)
 obtain⟨k,rfl,q3⟩:=WX q3;cases r3;exact lq ⟨H3,I3,q3⟩
def pV(i:Nat)(hN:X.N[i]?=some x:=by rfl)(hv:wJ X.env.scope x:=by first|exact Or.inl rfl|exact Or.inr (Or.inl rfl)|exact Or.inr (Or.inr rfl))(hd:(x == ("__debug__" : Str))=false:=by decide)
  (j5:(x == ("__classdict__" : Str))=false:=by decide):PE X (.Name x pos) (tV i):=(pv i hN hv hd j5).to XY
def xL(ha:PE X a ta)(hb:PE X b tb)(hs:xq b:=by exact λ_ _=>rfl):PE X (.Subscript a b pos) (kc (DT X.K) ta tb):=BL xl ha hb hs
def xT(ha:PE X a ta)(hb:PE X b tb)(hs:xq b:=by exact λ_ _=>rfl):PE X (.Subscript a b pos) (kc (FA X.K) ta tb):=BL xt ha hb hs
def PG.to(h:PG X e t)(m:∀v σ H Q,u v σ H Q->t v σ H Q):PG X e u:=λae s σ H v w Q I r q=>h ae s σ H v w Q I r (m _ _ _ _ q)
def l7.to(h:l7 X es t)(m:∀v σ H Q,u v σ H Q->t v σ H Q):l7 X es u:=λae s σ H v w Q I r q=>h ae s σ H v w Q I r (m _ _ _ _ q)
def Tx(K:Frag)(n:Nat)(t:oI):TG:=λv σ H Q=>vR v λa=>∃xs,ay K H a xs/\xs.length=n/\t xs σ H Q
def Th(t:TG)(u:oI):oI:=λvs σ H Q=>match vs with|v::r=>t v σ H λσ' H'=>u r σ' H' Q|[]=>False
def Sa:oI:=λvs σ H Q=>match vs with|[]=>Q σ H|_::_=>False
def ig(hc:X.calm=true)(h:l7 X es t)
  (hn:(assignEach es X.env).length=n:=by rfl) (bc:(assignEach es X.env).findIdx? (·.1)=none:=by rfl):PG X (.Tuple es k pos) (Tx X.K n t):=(gv hc h hn bc).to λv σ H Q q=>let ⟨a,e,xs,r⟩:=sX q; ⟨a,xs,e,r⟩
def cL(h1:PG X e t)(h2:l7 X es u)
  (hs:(assignEach (e::es) X.env).map (·.2)=assign e X.env::(assignEach es X.env).map (·.2):=by rfl):l7 X (e::es) (Th t u):=(cN h1 h2 hs).to λv σ H Q q=>by
 cases v with
 |nil=>exact q.elim
 |cons v r=>nomatch v,r,rfl,q
def ik:l7 X [] Sa:=gy.to λv σ H Q q=>by
 cases v with
 |nil=>nomatch rfl,q
 |cons v r=>exact q.elim
def ip.to{id:String}{r u:V->List V->Hp->VK->Prop}(h:ip X id r)(m:∀x v H Q,u x v H Q->r x v H Q):ip X id u:=λae s σ H x xs v us Q I r1 r2 q=>h ae s σ H x xs v us Q I r1 r2 (m _ _ _ _ q)
inductive Ap (o:Option HO) (Q:List V->Prop):Prop
 |mk (xs:List V) (h:o=some (.lst xs)) (e:xs.length<sizeLine) (k:Q xs)
def zaW:V->List V->Hp->VK->Prop:=λx vs H Q=>vR x λl=>match vs with|[y]=>Ap (H l) λxs=>Q .non (upd H l (.lst (xs++[y])))|_=>False
def fK:ip X "list.append" zaW:=Q6.to λx vs H Q q=>by
 obtain⟨l,rfl,q1⟩:=sX q;cases vs with
 |nil=>exact q1.elim
 |cons y r =>
  cases r with
  |nil=>obtain⟨xs,h1,h2,h3⟩:=q1;nomatch l,xs,y,rfl,rfl,h1,h2,h3
  |cons _ _=>exact q1.elim
def cl(t:TE):TE:=λσ H Q=>∃R:VK,(∀v H,R v H->Q v H)/\t σ H R
def PE.cl(h:PE X e t):PE X e (cl t):=λae s σ H Q I ⟨R,m,q⟩=>aL (h ae s σ H R I q) λv s1 ⟨x,H1,I1,r1,q1⟩=>⟨x,H1,I1,r1,m _ _ q1⟩
def TZ(t:TE):TO:=λσ H Q=>t σ H λx H1=>vI x λi=>Q (some i) H1
def QW(K:Frag)(tl:TE):TI:=λσ H R=>tl σ H λx H1=>vR x λa=>(∃xs,aj K H1 a xs)/\R (je K a) H1
inductive Dg (H:Hp) (a:Addr) (y:V) (Q:V->Prop):Prop
 |mk (v:V) (h:c8 H a y (some v)) (k:Q v)
def tDc(td ty:TE):TE:=λσ H Q=>td σ H λx H1=>ty σ H1 λy H2=>vR x λa=>Dg H2 a y λv=>Q v H2
def iu(h:PE X e te):PO X (some e) (TZ te):=λae s σ H Q I q=>Kt h.cl ae s σ H Q I ⟨_,λv H1 z=>rf z,q⟩
def dj(hl:PE X l tl):PI X tg l (QW X.K tl):=λae s σ H R I q=>Bl hl.cl ae s σ H R I ⟨_,λv H1 z=>sX z,q⟩
def gM(hu:X.A.units+1<cLine)(ho:PE X o td)(hi:PE X i ty)(hs:yh i:=by exact λ_ _=>rfl):PE X (.Subscript o i pos) (tDc td ty):=λae s σ H Q I q=>zaN hu ho.cl hi.cl hs ae s σ H Q I ⟨λx H1=>ty σ H1 λy H2=>vR x λa=>Dg H2 a y λv=>Q v H2,λx H1 z=>⟨λy H2=>vR x λa=>Dg H2 a y λv=>Q v H2,λy H2 w=>by obtain⟨a,e,v,g,q⟩:=sX w;exact⟨a,v,e,g,q⟩,z⟩,q⟩
def SX(t:TT):TT:=λσ H Q=>∃R:Bool->Hp->Prop,(∀v H,R v H->Q v H)/\t σ H R
def PT.cl(h:PT X e t):PT X e (SX t):=λae s σ H Q I ⟨R,m,q⟩=>aL (h ae s σ H R I q) λv s1 ⟨H1,I1,q1⟩=>⟨H1,I1,m _ _ q1⟩
inductive pX (b:Bool) (A B:Prop):Prop
 |t (h:b=true) (k:A)
 |f (h:b=false) (k:B)
def pX.ite{b:Bool}{A B:Prop}(h:pX b A B):if b=true then A else B:=by
 cases h with
 |t h k=>rw[aB h];exact k
 |f h k=>rw[ax (by rw[h];exact dJ)];exact k
def vN{b:Bool}{A B:Prop}(h:¬b=true)(k:B):pX b A B:=.f (xJ.mpr h) k
def vY{b:Bool}{A B:Prop}(h:b=true)(k:A):pX b A B:=.t h k
def vn{b:Bool}{A B:Prop}(k:B)(h:b=false:=by decide):pX b A B:=.f h k
def vy{b:Bool}{A B:Prop}(k:A)(h:b=true:=by decide):pX b A B:=.t h k
def v2{b:Bool}{A B:Prop}(h:b=true->A)(k:¬b=true->B):pX b A B:=by
 by_cases z:b=true
 ·exact .t z (h z)
 ·exact vN z (k z)
def X7(c:TT)(t u:TS):TS:=λD σ H=>c σ H λb H1=>pX b (t D σ H1) (u D σ H1)
def bO{c:Expr}{a b:List Stmt}{tc:TT}{t u:TS}(hc:PT X c tc)(ha:f9 X a t)(hb:f9 X b u):PS X (.If c a b pos) (X7 tc t u):=λae s σ H D I q=>bp hc.cl ha hb ae s σ H D I ⟨_,λb H1 z=>z.ite,q⟩
def cX.m(r:cX k A)(h:j<=k:=by decide):cX j A:=r.mono h
def mh(hr:kK X r)(ha:PE X a ta)(hb:PE X b tb)(hs:xq b:=by exact λ_ _=>rfl):PE X (.Subscript a b pos) (kc r ta tb):=BL hr ha hb hs
def Cz(ha:PE X a ta)(hb:PE X b tb)(hs:xq b:=by exact λ_ _=>rfl):PE X (.Subscript a b pos) (kc (Qa X.K) ta tb):=BL Ot ha hb hs
def a7(ho:bV X (compareOp op) r)(ha:PE X a ta)(hb:PE X b tb)(h:op≠.In:=by decide)(h2:op≠.NotIn:=by decide):PT X (.Compare a [op] [b] pos) (OZ (kc r ta tb)):=nJ ho ha hb (En _ h h2)
def km(ho:bV X (compareOp op) r)(ha:PE X a ta)(hb:PE X b tb)(h:op≠.In:=by decide)(h2:op≠.NotIn:=by decide):PE X (.Compare a [op] [b] pos) (kc r ta tb):=tL ho ha hb (En _ h h2)
end
def jN{b:Bool}{A B:Bool->Prop}(k:B b)(h:¬b=true:=by decide):∃k,V.bl b=V.bl k/\if k=true then A k else B k:=⟨b,rfl,by rw[ax h];exact k⟩
def jY{b:Bool}{A B:Bool->Prop}(k:A b)(h:b=true:=by decide):∃k,V.bl b=V.bl k/\if k=true then A k else B k:=⟨b,rfl,by rw[aB h];exact k⟩
end L2
namespace My
open PySem L2 OF
noncomputable abbrev A4:Addr:=435
noncomputable abbrev yH:Addr:=436
noncomputable abbrev A6:Addr:=437
noncomputable abbrev yv:Addr:=438
noncomputable abbrev BH:Addr:=439
noncomputable abbrev Bi:Addr:=440
noncomputable abbrev Ai:Addr:=441
noncomputable abbrev AA:Addr:=442
noncomputable abbrev d7:Addr:=543
noncomputable abbrev uz:Addr:=150
noncomputable abbrev iX:Addr:=313
noncomputable abbrev uB:Addr:=443
noncomputable abbrev Dx:Addr:=444
noncomputable abbrev Ge:Addr:=445
noncomputable abbrev Fz:Addr:=446
noncomputable abbrev Dz:Addr:=447
noncomputable abbrev Gq:Addr:=448
noncomputable abbrev pT:Addr:=187
noncomputable abbrev fF:Addr:=199
noncomputable abbrev fh:Addr:=211
noncomputable abbrev pH:Addr:=175
noncomputable abbrev qi:Addr:=163
noncomputable abbrev eY:Addr:=223
noncomputable abbrev ug:Addr:=314
noncomputable abbrev fu:Addr:=235
set_option genInjectivity false
structure Txt(w:World)(K:Frag)(mg:Str->Option Value):Prop where
 d_Z39:Def K mg Hx
 d_Z40:Def K mg wc
 d_Z27:Def K mg Dl
 d_Z35:Def K mg He
 d_Desk_init:qp K d7 zw
 d_Z55:Def K mg Hm
 d_Z50:Def K mg yE
 d_Z37:Def K mg yM
 d_Z58:Def K mg AS
 d_Z53:Def K mg FQ
 d_Z36:Def K mg zq
 d_Z48:Def K mg Gf
 d_Z56:Def K mg BU
 d_Z28:Def K mg FZ
 d_Z38:Def K mg Gh
 d_Z46:Def K mg Ho
 d_Z34:Def K mg Cb
 d_Z21:Def K mg Bs
 d_Z22:Def K mg Bq
 d_Z23:Def K mg DQ
 d_Z84:Def K mg Fh
 d_Z85:Def K mg BN
 d_Z26:Def K mg GZ
 d_Z64:Def K mg FI
 d_Desk_kept:qp K d7 Dc
 d_Z9:Def K mg yt
 d_Z86:Def K mg Fo
 d_Z66:Def K mg C5
 d_Z72:Def K mg F9
 d_Z79:Def K mg Bf
 d_Z63:Def K mg Hu
 d_Z3:Def K mg Fl
 d_Z75:Def K mg GQ
 d_Z4:Def K mg Gs
 d_Z76:Def K mg DH
 d_Z77:Def K mg HZ
 d_Z20:Def K mg HH
 d_Z14:Def K mg zu
 d_Z87:Def K mg DV
 d_Z88:Def K mg Cv
 d_Z96:Def K mg HD
 d_Z97:Def K mg F2
 d_Z70:Def K mg DP
 d_Z69:Def K mg GD
 d_Z74:Def K mg GK
 d_Z71:Def K mg EY
 d_Z91:Def K mg Ds
 d_Z67:Def K mg C9
 d_Z25:Def K mg FC
 d_Z13:Def K mg Ci
 d_Z11:Def K mg Gz
 d_Z1:Def K mg GC
 d_Z12:Def K mg Fu
 d_Z98:Def K mg yK
 d_Z16:Def K mg yW
 d_Z7:Def K mg Fy
 d_Z73:Def K mg HQ
 d_Z24:Def K mg DU
 d_Z100:Def K mg Fd
 d_Desk_form_for:qp K d7 Ei
 d_Z78:Def K mg Bg
 d_Z81:Def K mg ET
 d_Z2:Def K mg CY
 d_Z65:Def K mg BV
 d_Z80:Def K mg Aa
 d_Z82:Def K mg E3
 d_Z15:Def K mg Ac
 d_Z19:Def K mg Ek
 d_Z95:Def K mg AQ
 d_Z94:Def K mg Gm
 d_Z5:Def K mg Ex
 d_Z89:Def K mg De
 d_Z90:Def K mg HF
 d_Z99:Def K mg yl
 d_Z6:Def K mg HP
 d_Z92:Def K mg F1
 d_Z93:Def K mg zD
 d_Desk_answer:qp K d7 Hn
 d_Desk_say:qp K d7 E7
 d_Z47:Def K mg Aq
 d_Z42:Def K mg uW
 d_Z44:Def K mg xV
 d_Z57:Def K mg yG
 d_Z45:Def K mg Et
 d_Z52:Def K mg Ay
 d_Z32:Def K mg CM
 d_Z41:Def K mg E1
 d_Z61:Def K mg GH
 d_Z30:Def K mg GI
 d_Z31:Def K mg Gv
 d_Z49:Def K mg Bo
 d_Z59:Def K mg yP
 d_Z43:Def K mg Em
 d_Z60:Def K mg Bb
 d_Z29:Def K mg Hi
 d_Z54:Def K mg HI
 d_law:Def K mg oB
 g_Desk:mg "Desk" = some (.ref d7)
 cl_Desk:lM K d7
 nf_Desk_forms:qR K d7 "forms"
 mk_Desk:Mk K d7 zw.a
 n_ValueError:mg "ValueError" = none
 n_abs:mg "abs" = none
 n_all:mg "all" = none
 n_any:mg "any" = none
 n_enumerate:mg "enumerate" = none
 n_int:mg "int" = none
 n_isinstance:mg "isinstance" = none
 n_len:mg "len" = none
 n_max:mg "max" = none
 n_range:mg "range" = none
 n_reversed:mg "reversed" = none
 n_sorted:mg "sorted" = none
 n_str:mg "str" = none
 n_sum:mg "sum" = none
 n_zip:mg "zip" = none
 g_SMALL_LETTERS:mg "SMALL_LETTERS" = some (.str "abcdefghijklmnopqrstuvwxyz" 764)
 g_FIGURES:mg "FIGURES" = some (.str "0123456789" 696)
 g_LETTERS:mg "LETTERS" = some (.str "abcdefghijklmnop" 589)
 g_MADE:mg "MADE" = some (.ref uB)
 q_MADE_0:∀H:Hp,ay K H Dx [.str "name",.str "name"]
 q_MADE_1:∀H:Hp,ay K H Ge [.str "name",.str "name"]
 q_MADE_2:∀H:Hp,ay K H Fz [.str "name",.str "name"]
 q_MADE_3:∀H:Hp,ay K H Dz [.str "name",.str "letter",.str "bit"]
 q_MADE_4:∀H:Hp,ay K H Gq [.str "name",.str "letter",.str "name"]
 q_MADE:pA w K uB [("plus",Dx),("less",Ge),("times",Fz),("fixed",Dz),("put",Gq)]
 g_ASKED:mg "ASKED" = some (.ref A4)
 q_ASKED_0:∀H:Hp,ay K H yH [.str "name"]
 q_ASKED_1:∀H:Hp,ay K H A6 [.str "name",.str "number"]
 q_ASKED_2:∀H:Hp,ay K H yv [.str "name",.str "name"]
 q_ASKED_3:∀H:Hp,ay K H BH [.str "name",.str "name",.str "divisor"]
 q_ASKED_4:∀H:Hp,ay K H Bi [.str "name"]
 q_ASKED_5:∀H:Hp,ay K H Ai [.str "name"]
 q_ASKED_6:∀H:Hp,ay K H AA [.str "name"]
 q_ASKED:pA w K A4 [("show",yH),("worth",A6),("alike",yv),("rest",BH),("least",Bi),("ways",Ai),("unknowns",AA)]
 g_SPACED:mg "SPACED" = some (.ref ug)
 q_SPACED:∀H:Hp,ay K H ug [.str "not ",.str " and ",.str " or ",.str " xor "]
 g_JOINING:mg "JOINING" = some (.ref iX)
 q_JOINING:∀H:Hp,ay K H iX [.str "and",.str "or",.str "xor"]
 g_NoLine:mg "NoLine" = some (.ref fF)
 x_NoLine:jc K fF (.ref uz::vB)=true
 g_FormError:mg "FormError" = some (.ref uz)
 x_FormError:jc K uz vB=true
 g_NoName:mg "NoName" = some (.ref fh)
 x_NoName:jc K fh (.ref uz::vB)=true
 g_NoYesNo:mg "NoYesNo" = some (.ref eY)
 x_NoYesNo:jc K eY (.ref uz::vB)=true
 g_TooMany:mg "TooMany" = some (.ref fu)
 x_TooMany:jc K fu (.ref uz::vB)=true
 g_NoForm:mg "NoForm" = some (.ref pT)
 g_NoStatement:mg "NoStatement" = some (.ref qi)
 g_NoPull:mg "NoPull" = some (.ref pH)
 i_NoLine_NoLine:kitOne K (.ref fF) (.ref fF)=some true
 i_NoLine_NoName:kitOne K (.ref fF) (.ref fh)=some false
 i_NoLine_NoYesNo:kitOne K (.ref fF) (.ref eY)=some false
 i_NoLine_TooMany:kitOne K (.ref fF) (.ref fu)=some false
 i_NoLine_NoForm:kitOne K (.ref fF) (.ref pT)=some false
 i_NoLine_NoStatement:kitOne K (.ref fF) (.ref qi)=some false
 i_NoLine_NoPull:kitOne K (.ref fF) (.ref pH)=some false
 v_NoLine:kitOne K (.ref fF) (.type "ValueError")=some true
 i_NoName_NoLine:kitOne K (.ref fh) (.ref fF)=some false
 i_NoName_NoName:kitOne K (.ref fh) (.ref fh)=some true
 i_NoName_NoYesNo:kitOne K (.ref fh) (.ref eY)=some false
 i_NoName_TooMany:kitOne K (.ref fh) (.ref fu)=some false
 i_NoName_NoForm:kitOne K (.ref fh) (.ref pT)=some false
 i_NoName_NoStatement:kitOne K (.ref fh) (.ref qi)=some false
 i_NoName_NoPull:kitOne K (.ref fh) (.ref pH)=some false
 v_NoName:kitOne K (.ref fh) (.type "ValueError")=some true
 i_NoYesNo_NoLine:kitOne K (.ref eY) (.ref fF)=some false
 i_NoYesNo_NoName:kitOne K (.ref eY) (.ref fh)=some false
 i_NoYesNo_NoYesNo:kitOne K (.ref eY) (.ref eY)=some true
 i_NoYesNo_TooMany:kitOne K (.ref eY) (.ref fu)=some false
 i_NoYesNo_NoForm:kitOne K (.ref eY) (.ref pT)=some false
 i_NoYesNo_NoStatement:kitOne K (.ref eY) (.ref qi)=some false
 i_NoYesNo_NoPull:kitOne K (.ref eY) (.ref pH)=some false
 v_NoYesNo:kitOne K (.ref eY) (.type "ValueError")=some true
 i_TooMany_NoLine:kitOne K (.ref fu) (.ref fF)=some false
 i_TooMany_NoName:kitOne K (.ref fu) (.ref fh)=some false
 i_TooMany_NoYesNo:kitOne K (.ref fu) (.ref eY)=some false
 i_TooMany_TooMany:kitOne K (.ref fu) (.ref fu)=some true
 i_TooMany_NoForm:kitOne K (.ref fu) (.ref pT)=some false
 i_TooMany_NoStatement:kitOne K (.ref fu) (.ref qi)=some false
 i_TooMany_NoPull:kitOne K (.ref fu) (.ref pH)=some false
 v_TooMany:kitOne K (.ref fu) (.type "ValueError")=some true
set_option genInjectivity true
def gA:PS X st (λ_ _ _=>False):=λ_ _ _ _ _ _ h=>h.elim
seal L2.PS L2.f9 L2.PE L2.PT L2.PA L2.PI L2.PG L2.PW L2.PO L2.si
section
variable{P:Program}{w:World}{K:Frag}{mg:Str->Option Value}{base:Heap}
def Qw(T:Txt w K mg):Hx.Ok P w K mg base 1 Wz:=by
  refine Rw.ok T.d_Z39.F T.d_Z39.S ?_;rintro vs H Q E ⟨c,k,rfl,k1,k2,q⟩;refine⟨rfl,fun _ _ _ _ hr hu nd=>⟨_,(ak (aD 2 nd (az bQ.c (az fz.j (az fz.j (az fW.c (pV 0) ai) (az fW.c (az fW.c ai (pV 1)) (pV 1))) (pV 1)) ai)) (ak (aD 2 nd (az bQ.c (az fW.c (pV 2) (pV 2)) ai)) (ao (aA (az bQ.c (az fW.c (pV 2) ai) ai))))),?_⟩⟩
  exists kN (by decide) (by decide),gH (by decide) (by decide),kN k1 k2,(by show (0:Int)<2147483647;decide),?_;generalize hz:(c*1103515245+7919*k*k+k)%2147483647=z;have z1:0<=z:=by rw[<-hz];exact iC _ (by decide)
  have z2:z<2147483647:=by rw[<-hz];exact iz _ (by decide)
  exists gH (by lia) (by lia),(by show (0:Int)<2147483629;decide),?_;exists kN (by decide) (by decide),(by show (0:Int)<2147483587;decide),?_;exact q _ (iC _ (by decide)) (iz _ (by decide))
def Ua(K:Frag):Sp:=λvs H Q _=>∃n:Int,vs=[.int n]/\0<=n/\∀(D:Addr) (ns:List (List Nat)) (H':Hp),H' D=some (.lst (ns.map λx=>V.str (S x)))->ns.length=4->(∀x∈ns,bb x=true)->af H H'->Q (.ref D) H'
def zU:("show" : Str)=S [115,104,111,119]/\("plus" : Str)=S [112,108,117,115]/\("worth" : Str)=S [119,111,114,116,104]/\("fixed" : Str)=S [102,105,120,101,100]:=by decide+kernel
def Vk:∀k:Nat,k<26->oE[k]?=some (97+k):=by decide+kernel
def Qc:∃c,97<=c/\c<123/\di oE (z%26)=some c:=by
 have h0:=iC z (show (26:Int)≠0 by decide);have h1:=iz z (show (0:Int)<26 by decide);obtain⟨k,hk⟩:∃k:Nat,z%26=(k:Int):=⟨(z%26).toNat,by lia⟩;rw[hk]at h1 ⊢;nomatch 97+k,by lia,by lia,bo (Vk k (by lia))
def RN:(["_law_k","_law_letters_here","_law_number"]:List Str).Nodup:=by decide+kernel
def ZV:(["_law_j","_law_tail","_law_letters_here","_law_number"]:List Str).Nodup:=by decide+kernel
def Uj(T:Txt w K mg):wc.Ok P w K mg base 1 (Ua K):=by
  refine Rw.ok T.d_Z40.F T.d_Z40.S ?_;rintro vs H Q E ⟨n,rfl,hn,q⟩;refine⟨rfl,fun _ _ _ _ hr hu nd=>⟨_,(ak (aD 1 nd au) (ak (aD 2 nd (bY fq lT lD lF au (aa (eO (g:=(a8 0)) ["_law_k", "_law_letters_here", "_law_number"] 1 [1,0] rfl (dC wc) (kB rfl T.n_range (aa (az bQ.c (pV 0) ai) ag)) (λcl C s₀ H₀ fp=>(aN 0 RN)) (λcl C s₀ H₀ fp=>jO) (λcl C s₀ H₀ fp=>(mh pF (pV 1) (az bQ.c (az gU.c (pV 2) (az fz.j (pV 0) ai)) ai)))) ag))) (ak (yd (i:=3) (g:=(a8 0)) ["_law_j", "_law_tail", "_law_letters_here", "_law_number"] 1 [2,1,0] nd rfl (Or.inl rfl) rfl (dC wc) (kB rfl T.n_range (aa ai ag)) (λcl C s₀ H₀ fp=>(aN 0 ZV)) (λcl C s₀ H₀ fp=>jO) (λcl C s₀ H₀ fp=>(az gc (mh pF (pV 2) (az bQ.c (az fz.j (az gU.c (pV 3) ai) (az fW.c ai (pV 0))) ai)) (pV 1)))) (ak (ke (bp (a7 aV (az bQ.c (az gU.c (pV 0) ai) ai) ai) (ao (aD 3 nd (bq (aa au (aa au (aa au (aa au ag))))))) aM)) (ao (aA (pV 3))))))),?_⟩⟩
  have JL:(S oE).length<=sizeLine:=by rw[aG];decide
  have h80:=iC n (show (8:Int)≠0 by decide);have h81:=iz n (show (0:Int)<8 by decide);rw[Nj];exists rfl,?_;exists (by show (0:Int)<8;decide),n%8,rfl,by lia,by lia,?_;refine zC (lo:=0) (n:=(n%8).toNat) (λi ys σ G=>∃(v0:Option V) (cs:List Nat),σ=[v0,some (.str (S oE)),some (.int n)]/\ys=(cs.map λc=>S [c]).map V.str/\cs.length=i/\(∀c∈cs,97<=c/\c<123)/\H=G)
   ⟨none,[],rfl,rfl,rfl,(λc hc=>by cases hc),rfl⟩ (λi ys σ G ⟨_,cs,_,e,e2,_,_⟩=>by rw[e,av,av];lia) (cj (bH (by lia))) ?_ ?_
  ·rintro i ys σ G hi ⟨v0,cs,rfl,rfl,gP,jv,rfl⟩;unfold a8;refine tt ?_;obtain⟨c,c1,c2,hc⟩:=Qc (z:=n/((0+(i:Int))+1));exists iU (by lia) (by omega),(by show (0:Int)<26;decide),_,_,_,rfl,rfl,JL,(by rw[gm];exact hc),?_;exists _,cs++[c],rfl,(by rw[aT,aT];rfl),(by rw[aS,gP];rfl),(λx hx=>?_),rfl;rcases bF.mp hx with z|z
   ·exact jv x z
   ·rw[bu.mp z];nomatch c1,c2
  ·rintro ys σ G ⟨v0,cs,rfl,rfl,gP,jv,rfl⟩ E hE;exists _,E,cs.map λc=>S [c],rfl,rfl,aj.of aq,?_,?_
   ·rw[zY,ia];simp[aG];lia
   rw[ia,EF];generalize eU:upd H E _=H1;have s1:=(nw eU hE).1;exists _,rfl,by decide,by decide,?_;refine zC (lo:=0) (n:=(4:Int).toNat) (λi ys σ G=>∃(v0:Option V) (ns:List (List Nat)),σ=[v0,some (.str (S cs)),some (.str (S oE)),some (.int n)]/\ys=ns.map (λx=>V.str (S x))/\ns.length=i/\(∀x∈ns,bb x=true)/\H1=G)
    ⟨none,[],rfl,rfl,rfl,(λc hc=>by cases hc),rfl⟩ (λi ys σ G ⟨_,cs,_,e,e2,_,_⟩=>by rw[e,av];lia) (by decide) ?_ ?_
   ·rintro i ys σ G hi ⟨v0,ns,rfl,rfl,jh,kr,rfl⟩;unfold a8;refine tt ?_;obtain⟨c,c1,c2,hc⟩:=Qc (z:=n/8+5*(0+(i:Int)));exists iU (by decide) (by decide),gH (by decide) (by decide),(by show (0:Int)<26;decide),_,_,_,rfl,rfl,JL,(by rw[gm];exact hc),_,_,rfl,rfl,?_,?_
    ·rw[aG];show 1+cs.length<=sizeLine;exact cj (bH (by lia))
    ·exists _,ns++[[c]++cs],rfl,(by rw[aT];show _++[V.str (S [c]++S cs)]=_;rw[cG];rfl),(by rw[aS,jh];rfl),(λx hx=>?_),rfl;rcases bF.mp hx with z|z
     ·exact kr x z
     ·rw[bu.mp z];unfold bb;rw[gz,gz,jf];exists aR (by simp),aR (by rw[aS];show 1+cs.length<=8;lia),λy hy=>aR ?_;rcases bF.mp hy with w|w
      ·rw[bu.mp w];nomatch c1,c2
      ·exact jv y w
   ·rintro ys σ G ⟨v0,ns,rfl,rfl,jh,kr,rfl⟩ D hD;exists λσ' G'=>∃(D:Addr) (ns:List (List Nat)),σ'=[some (.int n),some (.str (S oE)),some (.str (S cs)),some (.ref D)]/\G' D=some (.lst (ns.map λx=>V.str (S x)))/\ns.length=4/\(∀x∈ns,bb x=true)/\af H G',?_,?_
    ·exists iU (by decide) (by decide),(by show (0:Int)<4;decide),_,rfl,?_;refine eR (λ_=>?_) (λ_=>?_)
     ·exists AM,λD2 J0=>?_;exists D2,[[115,104,111,119],[112,108,117,115],[119,111,114,116,104],[102,105,120,101,100]],rfl,(by rw[aq,zU.1,zU.2.1,zU.2.2.1,zU.2.2.2];rfl),rfl,(by decide),s1.trans ((af.upd hD).trans (af.upd J0))
     ·nomatch D,ns,rfl,aq,jh,kr,s1.trans (af.upd hD)
    ·rintro σ' G' ⟨D2,Tg,rfl,h1,h2,h3,h4⟩;exact q D2 Tg G' h1 h2 h3 h4
def Rl(T:Txt w K mg):Dl.Ok P w K mg base 1 (zcu K):=by
  refine Rw.ok T.d_Z27.F T.d_Z27.S ?_;rintro vs H Q E ⟨a,ns,k,rfl,hS,q⟩;refine⟨rfl,fun _ _ _ _ hr hu nd=>⟨_,(ak (bp (a7 pE.j (pV 1) (bD gd (by rfl) T.n_len dI (aa (pV 0) ag))) (ao (aA (xL (pV 0) (pV 1)))) aM)
   (ao (aA ai))),?_⟩⟩
  exists a,_,rfl,.inl hS,_,rfl,?_;refine eR (λh1=>?_) (λh1=>?_)
  ·have bT:k<ns.length:=by have:=bG h1;rw[av]at this;lia
   exists _,hS,bo (j:=k) (v:=V.int (ns.getD k 0)) ?_,q;rw[dE,eC bT,Ih,eC bT];rfl
  ·have bT:ns.length<=k:=by
    by_cases z:ns.length<=k
    ·exact z
    ·exact absurd (aR (by rw[av];lia)) h1
   rw[Ih,Dq bT]at q;exact q
def UO(K:Frag):Sp:=λvs H Q _=>∃(n:Int) (mo:Nat),vs=[.int n,.int (mo:Int)]/\mo<=8 /\
 ∀(b:Addr) (ls:List Nat) (H':Hp),H b=none->H' b=some (.lst (cV ls))->ls.Nodup->(∀x∈ls,x<16)->ls.length=mo->af H H'->Q (.ref b) H'
def Yw(T:Txt w K mg):He.Ok P w K mg base 1 (UO K):=by
  refine Rw.ok T.d_Z35.F T.d_Z35.S ?_;rintro vs H Q E ⟨n,mo,rfl,Vb,q⟩;refine⟨rfl,fun _ _ _ _ hr hu nd=>⟨_,(ak (aD 2 nd (bq ag)) (ak (eK df rfl (kB rfl T.n_range (aa (pV 1) ag)) (aN 3 nd) (ak (aD 4 nd (az bQ.c (az gU.c (pV 0) (az fz.j (pV 3) ai)) ai)) (ak (uM df (nJ nY (pV 4) (pV 2) rfl) (ao (aD 4 nd (az bQ.c (az fz.j (pV 4) ai) ai)))) (ao (d6 (bY cB fI fJ fK (pV 2) (aa (pV 4) ag))))))) (ao (aA (pV 2))))),?_⟩⟩
  exists bS _,λc hc=>?_;have s0:af H (upd H c (.lst [])):=af.upd hc;exists (mo:Int),rfl,by lia,by lia,?_;refine pI (n:=mo) (λi σ H2=>∃(ls:List Nat) (v4 v5:Option V),σ=[some (.int n),some (.int (mo:Int)),some (.ref c),v4,v5]/\H2 c=some (.lst (cV ls))/\ls.length=i/\ls.Nodup/\(∀x∈ls,x<16)/\af H H2)
   ⟨[],none,none,rfl,aq,rfl,Bu,(λx hx=>by cases hx),s0⟩ ?_ ?_
  ·rintro i σ H2 hi ⟨ls,v4,v5,rfl,h1,h2,h3,h4,h5⟩;exists iU (by lia) (by lia),(by show (0:Int)<16;decide),?_;have g1:=iC (n/(0+(i:Int)+1)) (show ((16:Int))≠0 by lia);have g2:=iz (n/(0+(i:Int)+1)) (show (0:Int)<16 by lia);obtain⟨x0,me⟩:∃x0:Nat,n/(0+(i:Int)+1)%16=(x0:Int):=⟨_,(gF g1).symm⟩;rw[me]at g2;dsimp only;rw[me];obtain⟨m0,HA⟩:=Yl (ls:=ls) (x:=x0) (by lia);exists λm σ H3=>∃x:Nat,σ=[some (.int n),some (.int (mo:Int)),some (.ref c),some (.int (0+(i:Int))),some (.int (x:Int))]/\x<16/\(x+5*m)%16∉ls/\H3=H2,⟨m0,x0,rfl,by omega,HA,rfl⟩,?_;rintro m σ H3 ⟨x,rfl,hx,hm,rfl⟩;exists c,_,rfl,.inl (aj.of h1),rfl,Y7 ls,_,rfl,?_;show if (gf (.int (x:Int)) (cV ls))=true then _ else _
   unfold cV;rw[Wx];by_cases hin:x∈ls
   ·refine aY (by simpa using hin) ?_;have hmp:m≠0:=by
     intro z;rw[z,BI,zv,Nat.mod_eq_of_lt hx]at hm;exact hm hin
    exists λσ' H'=>σ'=[some (.int n),some (.int (mo:Int)),some (.ref c),some (.int (0+(i:Int))),some (.int (((x+5)%16:Nat):Int))]/\H'=H3,λσ' H' ⟨e1,e2⟩=>⟨m-1,by lia,(x+5)%16,e1,ub _ (by lia),?_,e2⟩,?_
    ·have e:((x+5)%16+5*(m-1))%16=(x+5*m)%16:=by omega
     rw[e];exact hm
    ·exists (by show (0:Int)<16;decide),?_,rfl;have e:((((x+5)%16:Nat)):Int)=((x:Int)+5)%16:=by norm_cast
     rw[e];rfl
   ·refine aK (by simpa using hin) ?_;exists .inl ⟨rfl,_,aj.of h1⟩,_,h1,(by unfold cV;rw[av];exact bH (by lia)),ls++[x],_,_,rfl,(by rw[aq];unfold cV;rw[aT];rfl),by simp[h2],?_,?_,h5.write hc
    ·rw[List.nodup_append];exists h3,by simp,λa' Rj b' iL z=>?_
     have:b'=x:=by simpa using iL
     subst z this;exact hin Rj
    ·intro y hy;rcases bF.mp hy with z|z
     ·exact h4 y z
     ·have:y=x:=by simpa using z
      rw[this];exact hx
  ·rintro σ H2 ⟨ls,v4,v5,rfl,h1,h2,h3,h4,h5⟩;exact q c ls H2 hc h1 h3 h4 h2 h5
def ZL(C:Addr):Sp:=λvs H Q _=>∃p dx:Addr,vs=[.ref p]/\H p=some (.ins C dx [])/\∀(d:Addr) (H':Hp),H d=none->lx C H' p d []->(∀b o,H b=some o->b≠p->H' b=some o)->Q .non H'
def Pt(T:Txt w K mg):zw.Ok P w K mg base 1 (ZL d7):=by
  refine Rw.ok T.d_Desk_init.F T.d_Desk_init.S ?_;rintro vs H Q E ⟨p,dx,rfl,hp,q⟩;exists rfl,λ_ _ _ _ hr hu nd=>⟨_,(ao (UX (pV 0) qF rfl)),?_⟩;intro d hd;have Nh:p≠d:=cP hp hd;exists p,d7,dx,[],rfl,(by rw[aJ Nh];exact hp),T.cl_Desk,T.nf_Desk_forms,(by show 0<1000;decide),?_;refine q d _ hd ⟨⟨dx,aq⟩,[],by rw[aJ Nh.symm,aq],.nil⟩ λb o e hb=>?_
  rw[aJ hb,aJ (cP e hd)];exact e
def Xe(K:Frag):Sp:=λvs H Q _=>∃cell k:Int,vs=[.int cell,.int k]/\(0<=k/\k<2^20)/\∀(D:Addr) (xs:List Int) (H':Hp),H D=none->H' D=some (.lst (xs.map V.int))->(xs.length=12/\∀x∈xs,0<=x/\x<2^28)->af H H'->Q (.ref D) H'
def Rg(T:Txt w K mg):Hm.Ok P w K mg base 2 (Xe K):=by
  refine Rw.ok T.d_Z55.F T.d_Z55.S ?_;rintro vs H Q E ⟨cell,k,rfl,hm,q⟩;refine⟨rfl,fun _ _ _ _ hr hu nd=>⟨_,(ak (aD 2 nd (bq ag)) (ak (bO (bM Mt.j (pV 0) (az tN.c ai ai)) (ak (aD 3 nd (az ki.j (pV 0) (az tN.c ai ai))) (ak (eK df rfl (kB rfl T.n_range (aa ai ag)) (aN 4 nd) (ak (d6 (bY cB fI fJ fK (pV 2) (aa (az bQ.c (pV 3) ai) ag))) (ao (aD 3 nd (az gU.c (pV 3) ai))))) (ao (aA (pV 2))))) aM) (ak (aD 5 nd (aC T.d_Z39 (Qw T) hr (aa (pV 0) (aa (pV 1) ag)))) (ak (eK df rfl (kB rfl T.n_range (aa ai ag)) (aN 4 nd) (ak (aD 5 nd (az bQ.c (az fz.j (az fz.j (az fW.c (pV 5) (pV 5)) (az fW.c ai (pV 4))) ai) ai)) (ao (d6 (bY cB fI fJ fK (pV 2) (aa (az gU.c (az bQ.c (az fW.c (pV 5) ai) ai) ai) ag)))))) (ao (aA (pV 2))))))),?_⟩⟩
  exists bS _,λD hD=>?_;generalize eU:upd H D _=H0;have s0:=(nw eU hD).1;have w0:H0 D=some (.lst ([].map V.int)):=(nw eU hD).2;exists ⟨by decide,by decide,by decide⟩,v2 (λz=>?_) (λz=>?_)
  ·exists ⟨by decide,by decide,by decide⟩,?_;exists 12,rfl,by decide,by decide,?_;refine pI (n:=(12:Int).toNat) (λi σ G=>∃v4 v5 le xs,σ=[some (.int cell),some (.int k),some (.ref D),some (.int le),v4,v5]/\G D=some (.lst (xs.map V.int))/\xs.length=i/\(∀x∈xs,0<=x/\x<2^28)/\af H G)
    ⟨_,_,_,[],rfl,w0,rfl,(λx h=>by cases h),s0⟩ ?_ ?_
   ·rintro i σ G hi ⟨v4,v5,le,xs,rfl,g1,g2,g3,g4⟩;have ir:i<12:=hi;exists .inl ⟨rfl,_,aj.of g1⟩,(by show (0:Int)<134217728;decide),_,g1,(by rw[av,g2];exact bH (by lia)),?_;exists iU (by decide) (by decide),_,_,_,xs++[le%134217728],rfl,(by rw[aq,aT];rfl),by rw[aS,g2];rfl,λx hx=>?_,g4.write hD;rcases bF.mp hx with y|y
    ·exact g3 x y
    ·rw[bu.mp y];lia
   ·rintro σ G ⟨v4,v5,le,xs,rfl,g1,g2,g3,g4⟩;exact q D xs G hD g1 ⟨g2,g3⟩ g4
  exists cell,k,rfl,by lia,by lia,λr0 r1 r2=>?_;exists 12,rfl,by decide,by decide,?_;refine pI (n:=(12:Int).toNat) (λi σ G=>∃v3 v4 nu xs,σ=[some (.int cell),some (.int k),some (.ref D),v3,v4,some (.int nu)]/\0<=nu/\nu<2147483629/\G D=some (.lst (xs.map V.int))/\xs.length=i/\(∀x∈xs,0<=x/\x<2^28)/\af H G)
   ⟨_,_,_,[],rfl,r1,by lia,w0,rfl,(λx h=>by cases h),s0⟩ ?_ ?_
  ·rintro i σ G hi ⟨v3,v4,nu,xs,rfl,n1,n2,g1,g2,g3,g4⟩;have ir:i<12:=hi;exists kN (by lia) (by lia),kN (by lia) (by omega),(by show (0:Int)<2147483629;decide),?_;dsimp only;obtain⟨nv,B5⟩:∃nv,(nu*nu+7*(0+(i:Int))+1)%2147483629=nv:=⟨_,rfl⟩;have YK:0<=nv:=by rw[<-B5];exact iC _ (by decide)
   have tZ:nv<2147483629:=by rw[<-B5];exact iz _ (by decide)
   rw[B5];exists .inl ⟨rfl,_,aj.of g1⟩,kN (by decide) (by decide),(by show (0:Int)<2147483587;decide),iU (by decide) (by decide),_,g1,(by rw[av,g2];exact bH (by lia)),?_;exists _,_,nv,xs++[nv*69621%2147483587/16],rfl,YK,tZ,(by rw[aq,aT];rfl),by rw[aS,g2];rfl,λx hx=>?_,g4.write hD;rcases bF.mp hx with y|y
   ·exact g3 x y
   ·rw[bu.mp y];omega
  ·rintro σ G ⟨v3,v4,nu,xs,rfl,n1,n2,g1,g2,g3,g4⟩;exact q D xs G hD g1 ⟨g2,g3⟩ g4
def Ud(K:Frag):Sp:=λvs H Q _=>∃(a:Addr) (f:ar),vs=[.ref a]/\aI H a f/\f.length<=64/\∀(b:Bool) (H':Hp),(b=true->∀t∈f,t.2.natAbs<10^20)->af H H'->Q (.bl b) H'
def OG:(["_law_where","_law_number"]:List Str).Nodup:=by decide+kernel
def Nw(T:Txt w K mg):yE.Ok P w K mg base 1 (Ud K):=by
  refine Rw.ok T.d_Z50.F T.d_Z50.S ?_;rintro vs H Q E ⟨a,f,rfl,hT,aH,q⟩;refine⟨rfl,fun _ _ _ _ hr hu nd=>⟨_,(ao (aA (km pE.j (bD (Ub rfl) (by rfl) T.n_max PyProof.Rows.boot_max (aa (az tj (bq (aa ai ag)) (eO (g:=(fT K 2 (cn (a8 0) (cn (a8 1) f7)))) ["_law_where", "_law_number"] 2 [] rfl (dC yE) (dj (pV 0))
    (λcl C s₀ H₀ fp=>(gv (n:=2) rfl (cN (aN 0 OG) (cN (aN 1 OG) gy)))) (λcl C s₀ H₀ fp=>jO) (λcl C s₀ H₀ fp=>(bD wy (by rfl) T.n_abs vD (aa (pV 1) ag))))) ag)) (az tN.c ai ai)))),?_⟩⟩
  obtain⟨ps,hS,hP⟩:=id hT;have cD:=hP.length;exists du,λl1 ft=>?_;generalize eU:upd H l1 _=H1;obtain⟨s1,y1⟩:=nw eU ft;have sY:=s1 _ _ hS;exists ⟨_,aj.of sY⟩,?_;refine jj (K:=K) (a:=a) (xs:=ps.map V.ref) (λi ys σ G=>∃v0 v1,σ=[v0,v1]/\ys=((f.take i).map λt=>(t.2.natAbs:Int)).map V.int/\G=H1)
   ⟨none,none,rfl,rfl,rfl⟩ (λi ys σ G hi ⟨_,_,_,e1,e2⟩=>⟨by rw[e2];exact aj.of sY,by rw[e1,av,av,dY];lia⟩) (by rw[av];exact cj (bH (by lia))) ?_ ?_
  ·rintro i y ys σ G hi ⟨v0,v1,rfl,rfl,rfl⟩;obtain⟨p,c6,rfl⟩:=fY hi;obtain⟨t,bg,cK⟩:=hP.at' c6;have ea:(if t.2<0 then -t.2 else t.2)=((t.2.natAbs:Nat):Int):=by split<;>lia
   exists p,_,rfl,ay.of (s1 _ _ cK),rfl,_,_,rfl,_,_,rfl,rfl,?_;refine tt ?_;exists _,rfl,?_;exists _,_,rfl,?_,rfl;rw[dU,bg,ea,aT,aT];rfl
  ·rintro ys σ G ⟨v0,v1,rfl,rfl,rfl⟩ D hD;rw[av,cD,dO]at *;generalize eU:upd G D _=H2;obtain⟨s2,y2⟩:=nw eU hD;exists l1,D,_,_,rfl,rfl,s2 _ _ y1,y2,(by rw[av,av];exact cj (bH (by show 1+f.length<=_;lia))),λc hc=>?_;exists c,0::f.map (λt=>(t.2.natAbs:Int)),rfl,aj.of aq,Nat.succ_pos _,λm hm=>?_;exists ⟨by decide,by decide,by decide⟩,?_;refine q _ _ (λz t ht=>?_) (s1.trans (s2.trans (af.upd hc)));have h1:=hm.2 (t.2.natAbs:Int) (eJ _ (bW.mpr ⟨t,ht,rfl⟩));have h2:m<(10:Int)^Int.toNat 20:=bG z;have h3:(10:Int)^Int.toNat 20=((10^20:Nat):Int):=by decide
   rw[h3]at h2;lia
def Sr:(["_law_one","_law_numbers"]:List Str).Nodup:=by decide+kernel
def Hy(T:Txt w K mg):yM.Ok P w K mg base 1 (Lb K):=by
  refine Rw.ok T.d_Z37.F T.d_Z37.S ?_;rintro vs H Q E ⟨a,l,rfl,⟨ps,hS,hT⟩,aH,xo,q⟩;refine⟨rfl,fun _ _ _ _ hr hu nd=>⟨_,(ak (aD 1 nd qF) (ak (eK df rfl (dj (pV 0)) (ig (n:=2) rfl (cL (aN 2 nd) (cL (aN 3 nd) ik))) (ao (uh hu (pV 1) (pV 2) (az fz.j (xu hu (pV 1) (pV 2) ai ⟨rfl,rfl,rfl,rfl⟩) (pV 3)) rfl)))
   (ao (aA (eO (g:=(a8 0)) ["_law_one", "_law_numbers"] 1 [1] rfl (dC yM) (dj (bD (Gy rfl) (by rfl) T.n_sorted Am (aa (pV 1) ag)))
    (λcl C s₀ H₀ fp=>(aN 0 Sr)) (λcl C s₀ H₀ fp=>(iJ (a7 jM (gM hu (pV 1) (pV 0)) ai))) (λcl C s₀ H₀ fp=>(bz (aa (pV 0) (aa (gM hu (pV 1) (pV 0)) ag))))))))),?_⟩⟩
  intro d hd;have s0:af H (upd H d (.dK [])):=af.upd hd;exists ⟨_,s0.seq hS⟩,?_;refine jK (K:=K) (a:=a) (xs:=ps.map V.ref) (λi σ H2=>∃dd v2 v3,σ=[some (.ref a),some (.ref d),v2,v3]/\H2=upd H d (.dK (dd.map gQ))/\DictOf dd (l.take i))
   ⟨[],none,none,rfl,rfl,AE⟩ (λi σ H2 _ ⟨_,_,_,_,e,_⟩=>by rw[e];exact (af.upd hd).seq hS) ?_ ?_
  ·rintro i y σ H2 hi ⟨dd,v2,v3,rfl,rfl,cq⟩;obtain⟨p,c6,rfl⟩:=fY hi;obtain⟨t,bg,cK⟩:=hT.at' c6;have bP:l.take (i+1)=l.take i++[t]:=by rw[dU,bg];rfl
   have iR:i<l.length:=(dS.mp bg).1;have t6:dd.length<=i:=aW cq.len (by rw[dY];lia);have qq:=cq.snoc t;rw[<-bP]at qq;exists _,ay.of ((af.upd hd) _ _ cK),rfl,?_;exists d,rfl,.inl ⟨_,.inl aq⟩,_,c8.k (k:=Sum.inl t.1) aq,?_;rw[rj];have eg:((look dd t.1).map V.int).getD (V.int 0)=V.int (dW dd t.1):=by
    unfold dW;cases look dd t.1<;>rfl
   rw[eg];exists d,_,rfl,mI.k (k:=Sum.inl t.1) aq ?_,jE dd t.1 (dW dd t.1+t.2),_,_,rfl,?_,qq
   ·rw[av];exact bH (by lia)
   ·rw[Al,Es]
  ·rintro σ H2 ⟨dd,v2,v3,rfl,rfl,cq⟩;have iq:l.take (ps.map V.ref).length=l:=by rw[av,hT.length,dO]
   rw[iq]at cq;have hddl:dd.length<=100000:=aW cq.len aH;generalize eU:upd H d _=H1;obtain⟨s1,pW⟩:=nw eU hd;exists d,_,dd.map (·.1),rfl,pW,IF dd,(by rw[av];exact Fc cq xo),λe ks he iN qc=>?_;have DL:d≠e:=cP pW he;exists ⟨_,aj.of aq⟩,?_;have gT:ks.length<=100000:=by have:=iN.length_eq;rw[av]at this;lia
   refine jj (K:=K) (a:=e) (xs:=ks.map V.int) (λi ys σ H2=>∃v0 qs,σ=[v0,some (.ref d)]/\ys=qs.map V.ref/\cS H2 qs (dv dd (ks.take i))/\H2 d=some (.dK (dd.map gQ))/\H2 e=some (.lst (ks.map V.int))/\af H1 H2)
    ⟨none,[],rfl,rfl,.nil,(by rw[aJ DL];exact pW),aq,af.upd he⟩ (λi ys σ H2 hi ⟨_,qs,_,e1,e2,_,e4,_⟩=>⟨aj.of e4,by
     rw[e1,av,e2.length]
     have:=vU dd (ks.take i)
     rw[dY]at this;lia⟩) (by rw[av];exact cj (bH (by lia))) ?_ ?_
   ·rintro i y ys σ H2 hi ⟨v0,qs,rfl,rfl,g2,g3,g4,g5⟩;obtain⟨k,rG,rfl⟩:=vo hi;have Ey:k∈dd.map (·.1):=iN.mem_iff.mp (dr rG);obtain⟨v,hv⟩:∃v,look dd k=some v:=by
     cases e:look dd k with
     |none=>exact absurd e (yi.mpr Ey)
     |some v=>nomatch v,rfl
    have xn:dW dd k=v:=by unfold dW;rw[hv];rfl
    have bP:ks.take (i+1)=ks.take i++[k]:=by rw[dU,rG];rfl
    have vi:∀{H3:Hp},H3 d=some (.dK (dd.map gQ))->c8 H3 d (.int k) (some (.int v)):=fun {H3} z=>by
     have:=c8.k (k:=Sum.inl k) z
     rw[rj,hv]at this;exact this
    exists _,vi g3,_,rfl,?_;by_cases hv0:v=0
    ·subst hv0;refine JN rfl ⟨_,qs,rfl,rfl,?_,g3,g4,g5⟩
     have:dv dd (ks.take (i+1))=dv dd (ks.take i):=by
      rw[bP];unfold dv;rw[fV,aT];simp[xn]
     rw[this];exact g2
    ·have dZ:¬(V.int v=V.int 0):=λz=>hv0 (by injection z)
     rw[bj dZ];refine ff ?_;exists _,vi g3,bK,λt ht=>?_;have s3:af H2 (upd H2 t (.tup [.int k,.int v])):=af.upd ht;exists _,qs++[t],rfl,(by rw[aT];rfl),?_,s3 _ _ g3,s3 _ _ g4,g5.trans s3
     have:dv dd (ks.take (i+1))=dv dd (ks.take i)++[(k,v)]:=by
      rw[bP];unfold dv;rw[fV,aT];simp[xn,hv0]
     rw[this];exact cS.snoc (g2.keep λb xs z=>s3 b _ z) aq
   ·rintro ys σ H2 ⟨v0,qs,rfl,rfl,g2,g3,g4,g5⟩ D hD;rw[av,dO]at g2;have s3:af H2 (upd H2 D (.lst (qs.map V.ref))):=af.upd hD;refine q D (dv dd ks) _ ((s1.trans g5).free hD) ⟨qs,aq,g2.keep λb xs z=>s3 b _ z⟩ (zt cq iN qc) ?_ (s1.trans (g5.trans s3));have h1:=vU dd ks;have h2:=iN.length_eq;rw[av]at h2;have h3:=cq.len;lia
def Xj(K:Frag):Sp:=λvs H Q _=>∃(a b:Addr) (xs:List Int) (ls:List Nat),vs=[.ref a,.ref b]/\H a=some (.lst (xs.map V.int))/\(xs.length=12/\∀x∈xs,0<=x)/\H b=some (.lst (cV ls))/\ls.Nodup/\ls.length<=5/\(∀x∈ls,x<16) /\
 ∀(c:Addr) (f:ar) (H':Hp),H c=none->aI H' c f->c7 ls f->f.length<=4->(∀t∈f,t.2.natAbs<10^4)->af H H'->Q (.ref c) H'
def Tw:(["_law_letter","_law_xs","_law_j"]:List Str).Nodup:=by decide+kernel
def zam(T:Txt w K mg):AS.Ok P w K mg base 2 (Xj K):=by
  refine Rw.ok T.d_Z58.F T.d_Z58.S ?_;rintro vs H Q E ⟨a,b,xs,ls,rfl,hX,RC,hL,rE,bt,cM,q⟩;refine⟨rfl,fun _ _ _ _ hr hu nd=>⟨_,(ak (aD 2 nd (bq ag)) (ak (eK df rfl (kB rfl T.n_range (aa (az bQ.c (xL (pV 0) ai) ai) ag)) (aN 3 nd) (ak (aD 4 nd (bD (vj rfl) (by rfl) T.n_sum uY (aa (eO (g:=(a8 0)) ["_law_letter","_law_xs","_law_j"] 1 [0,3] rfl (dC AS) (dj (pV 1))
    (λcl C s₀ H₀ fp=>(aN 0 Tw)) (λcl C s₀ H₀ fp=>(iJ (a7 aV (az bQ.c (az gU.c (mh (XW K rfl) (pV 1) (az fz.j ai (pV 2))) (az pJ.c ai (pV 0))) ai) ai))) (λcl C s₀ H₀ fp=>(az pJ.c ai (pV 0)))) ag)))
   (ao (d6 (bY cB fI fJ fK (pV 2) (aa (bz (aa (pV 4) (aa (az ki.j (az bQ.c (xL (pV 0) (az fz.j ai (pV 3))) ai) ai) ag))) ag))))))
   (ao (aA (aC T.d_Z37 (Hy T) hr (aa (pV 2) ag)))))),?_⟩⟩
  obtain⟨oQ,me⟩:=RC;have eX:∀i:Nat,i<12->∃x,0<=x/\di (xs.map V.int) (i:Int)=some (V.int x):=λi hi=>⟨xs[i]'(by lia),me _ (jH _),bo (by rw[dE,eC (by omega)];rfl)⟩
  exists bS _,λe he=>?_;have s0:af H (upd H e (.lst [])):=af.upd he;have t0:aI (upd H e (.lst [])) e []:=⟨[],aq,.nil⟩;generalize upd H e (.lst [])=H1 at s0 t0;obtain⟨x2,x20,e2⟩:=eX 2 (by decide);have hm5:=iC x2 (show (5:Int)≠0 by decide);have hm5':=iz x2 (show (0:Int)<5 by decide);exists _,aj.of (s0 _ _ hX),e2,(by show (0:Int)<5;decide),x2%5,rfl,by lia,by lia,?_;refine pI (n:=(x2%5).toNat) (λi σ G=>∃e l v3 v4,σ=[some (.ref a),some (.ref b),some (.ref e),v3,v4]/\H e=none/\aI G e l/\l.length=i/\K5 ls l/\(∀t∈l,t.2.natAbs<=6)/\af H G)
   ⟨e,[],none,none,rfl,he,t0,rfl,(λt ht=>by cases ht),(λt ht=>by cases ht),s0⟩ ?_ ?_
  ·rintro i σ G hi ⟨e,l,v3,v4,rfl,he,hT,j3,AY,h6,sG⟩;have hi4:i<4:=by lia
   obtain⟨x3,Q4,e3⟩:=eX (3+i) (by lia);obtain⟨x4,x40,e4⟩:=eX (4+i) (by lia);exists ⟨_,aj.of (sG _ _ hL)⟩,?_;refine jj (K:=K) (a:=b) (xs:=cV ls) (λi' ys σ G'=>∃v0,σ=[v0,some (.ref a),some (.int (0+(i:Int)))]/\ys=(((ls.take i').filter λk=>x3.toNat.testBit k).map λk:Nat=>((2^k:Nat):Int)).map V.int/\G'=G)
    ⟨none,rfl,rfl,rfl⟩ (λi' ys σ G' hi ⟨_,_,e1,e2⟩=>⟨by rw[e2];exact aj.of (sG _ _ hL),by rw[e1,av,av];exact aW (jR _ _) (by rw[dY];lia)⟩) (by unfold cV;rw[av];exact cj (bH (by lia))) ?_ ?_
   ·rintro i' y ys σ G' ir ⟨v0,rfl,rfl,rfl⟩;have oX:(ls.map λk:Nat=>V.int (k:Int))[i']?=some y:=ir;rw[dE]at oX;obtain⟨k,hk,rfl⟩:∃k,ls[i']?=some k/\V.int (k:Int)=y:=by
     cases z:ls[i']? with
     |none=>rw[z]at oX;cases oX
     |some k=>rw[z]at oX;nomatch k,rfl,dN oX
    have ni:=cM k (dr hk);have bP:ls.take (i'+1)=ls.take i'++[k]:=by rw[dU,hk];rfl
    have bA:(2:Nat)^k<2^60:=Ht (by decide) (by lia);have lW:=pf k;have e1:(1:Int)*2^((k:Int)).toNat=((2^k:Nat):Int):=by rw[qr,mD]
    have ei:(3:Int)+(0+(i:Int))=((3+i:Nat):Int):=by lia
    unfold a8;exists V.int x3,aj.of (sG _ _ hX),(by rw[ei];exact e3),⟨by lia,by lia,by decide⟩,(by rw[e1];exact iU (by lia) (by omega)),(by show (0:Int)<2;decide),_,rfl,?_;have ex:x3=((x3.toNat:Nat):Int):=(gF Q4).symm;have eb:x3/(1*2^((k:Int)).toNat)%2=if x3.toNat.testBit k=true then 1 else 0:=by
     rw[e1,rS];generalize x3.toNat=n3 at ex;rw[ex]
     have:((n3:Int)/((2^k:Nat):Int)%2)=((n3/2^k%2:Nat):Int):=by norm_cast
     rw[this];by_cases z:n3/2^k%2=1
     ·simp[z]
     ·have:n3/2^k%2=0:=by lia
      simp[this]
    show if decide (V.int (x3/(1*2^((k:Int)).toNat)%2)=V.int 1)=true then _ else _
    rw[eb];by_cases hb:x3.toNat.testBit k=true
    ·rw[aB hb];refine aY (by decide) ?_;exists ⟨by omega,by omega,by decide⟩,_,rfl,?_,rfl;rw[bP,fV,aT,aT];dsimp only;rw[e1];simp[hb]
    ·rw[ax hb];refine aK (by decide) ⟨_,rfl,?_,rfl⟩;rw[bP,fV];simp[hb]
   ·rintro ys σ G' ⟨v0,rfl,rfl,rfl⟩ D hD;have enl:(cV ls).length=ls.length:=by unfold cV;rw[av]
    rw[enl,dO];exists D,_,rfl,aj.of aq,?_;generalize eU:upd G' D _=H2;have s1:=(nw eU hD).1;have S1:=sG.trans s1;have bE:=hT.keep s1;obtain⟨ps,oi,JZ⟩:=id bE;have ei:(4:Int)+(0+(i:Int))=((4+i:Nat):Int):=by lia
    exists .inl ⟨rfl,_,aj.of oi⟩,V.int x4,aj.of (S1 _ _ hX),(by rw[ei];exact e4),(by show (0:Int)<13;decide),bK,λt1 bg=>?_;have esum:∀zs:List Nat,(zs.map λk:Nat=>((2^k:Nat):Int)).sum=(((zs.map λk=>2^k).sum:Nat):Int):=λzs=>by
     induction zs with
     |nil=>rfl
     |cons z r ih=>rw[bU,jV,bU,jV,ih];norm_cast
    rw[esum];have rT:(ls.filter λk=>x3.toNat.testBit k).Nodup:=rE.filter _;have KA:∀j,((((ls.filter λk=>x3.toNat.testBit k).map λk=>2^k).sum:Nat)).testBit j=true->j∈ls:=λj hj=>(jd.mp (show j∈_ from bG ((zc rT j).symm.trans hj))).1
    generalize ((ls.filter λk=>x3.toNat.testBit k).map λk=>2^k).sum=W at KA ⊢;have m0:=iC x4 (show (13:Int)≠0 by decide);have m1:=iz x4 (show (0:Int)<13 by decide);generalize x4%13=N at m0 m1 ⊢;obtain⟨H3,ED⟩:∃H3,H3=upd H2 t1 (.tup [.int (W:Int),.int (N-6)]):=⟨_,rfl⟩;have s3:af H2 H3:=by rw[ED];exact af.upd bg
    have y3:H3 t1=some (.tup [.int (W:Int),.int (N-6)]):=by rw[ED];exact aq
    refine (?_:(λH3=>_) (upd H2 t1 (.tup [.int (W:Int),.int (N-6)])));rw[<-ED];have cD:=JZ.length;exists _,s3 _ _ oi,bH (by rw[av];lia),?_;have et:t1≠e:=λz=>by have:=s3 _ _ oi;rw[<-z,y3]at this;cases this
    exists e,l++[((W:Int),N-6)],_,_,rfl,he,⟨ps++[t1],(by rw[aq,aT];rfl),cS.append (JZ.keep λb xs z=>?_) (.cons (by rw[aJ et];exact y3) .nil)⟩,by rw[aS,j3];rfl,AY.app (λt ht=>?_),(λt ht=>?_),(S1.trans s3).write he
    ·have hz:=s3 _ _ z
     have:b≠e:=λy=>by rw[y,s3 _ _ oi]at hz;cases hz
     rw[aJ this];exact hz
    ·rw[bu.mp ht];nomatch gD _,λj hj=>KA j (by simpa using hj)
    ·rcases bF.mp ht with z|z
     ·exact h6 t z
     ·rw[bu.mp z];show (N-6).natAbs<=6;lia
  ·rintro σ G ⟨e,l,v3,v4,rfl,he,hT,j3,AY,h6,sG⟩;exists e,l,rfl,hT.tl,by lia,⟨ls,bt,AY⟩,λc f H' hc j4 hF kb s'=>?_;have bA:=DR (n:=4) (B:=6) (C:=10^4) hF (by lia) h6 (by decide);exact q c f H' (kj sG hc) j4 ⟨hF.toIsForm,AY.of hF,λt ht=>px (bA t ht) (by decide+kernel)⟩ (by lia) bA (sG.trans s')
structure iI(ls:List Nat)(n:Nat)(G:Hp)(c:Addr)(xs:List V):Prop where
 here:G c=some (.lst xs)
 all:∃ss:List Sm,Paired (λx (s:Sm)=>Is G x s.d/\s.ok (λk=>k∈ls)) xs ss/\(ss.map Sm.ln).sum<=n
def iI.keep(h:iI ls n G c xs)(k:af G G'):iI ls n G' c xs:=by
 obtain⟨h1,ss,h2,h3⟩:=h;nomatch k _ _ h1,ss,Paired.mapP h2 λ_ _ e=>⟨e.1.keep k,e.2⟩,h3
def iI.pop(h:iI ls n G c xs)(h0:0<xs.length):∃(y:V) (s:Sm),xs[xs.length-1]?=some y/\Is (upd G c (.lst xs.dropLast)) y s.d/\s.ok (λk=>k∈ls)/\s.ln<=n/\iI ls (n-s.ln) (upd G c (.lst xs.dropLast)) c xs.dropLast:=by
 obtain⟨h1,ss,h2,h3⟩:=h;rcases zB ss with rfl|⟨r,s,rfl⟩
 ·cases h2;exact absurd h0 (oH _)
 ·obtain⟨rh,y,rfl,p,q⟩:=GB h2;rw[aT,oV]at h3;have mR:(r.map Sm.ln).sum+(s.ln+0)<=n:=h3;rw[qJ];exact⟨y,s,by simp,zj q.1 h1,q.2,by lia,aq,r,Paired.mapP p λ_ _ e=>⟨zj e.1 h1,e.2⟩,by lia⟩
def iI.push{ls:List Nat}{n n':Nat}{G:Hp}{c t:Addr}{xs zs:List V}{s:Sm}(h:iI ls n G c xs)(ht:G t=none)(hs:∀G':Hp,(∀p ys,G p=some (.tup ys)->G' p=some (.tup ys))->G' t=some (.tup zs)->Is G' (.ref t) s.d)(hok:s.ok λk=>k∈ls)(hd:n+s.ln<=n') :
  upd G t (.tup zs) c=some (.lst xs)/\iI ls n' (upd (upd G t (.tup zs)) c (.lst (xs++[.ref t]))) c (xs++[.ref t]):=by
 obtain⟨h1,ss,h2,h3⟩:=h;have s1:af G (upd G t (.tup zs)):=af.upd ht;have k:∀p ys,G p=some (.tup ys)->upd (upd G t (.tup zs)) c (.lst (xs++[.ref t])) p=some (.tup ys):=λp ys e=>by
  have dZ:p≠c:=λz=>by rw[z,h1]at e;cases e
  rw[aJ dZ];exact s1 _ _ e
 have htc:t≠c:=λz=>by rw[z,h1]at ht;cases ht
 exists s1 _ _ h1,aq,ss++[s],pK (Paired.mapP h2 λ_ _ e=>⟨gS k e.1,e.2⟩) ⟨hs _ k (by rw[aJ htc];exact aq),hok⟩,?_;rw[aT,oV];show _+(s.ln+0)<=n';lia
def La{c A B X:Prop}[Decidable c](b:B)(h:c->B->A):if c then A else (if false=true then X else B):=by
 by_cases z:c
 ·rw[aB z];exact h z b
 ·rw[ax z];exact eP b
def iI.up(h:iI ls n G c xs)(k:n<=m):iI ls m G c xs:=⟨h.1,let ⟨ss,h2,h3⟩:=h.2; ⟨ss,h2,aW h3 k⟩⟩
def zbc(K:Frag):Sp:=λvs H Q _=>∃(a b:Addr) (ns:List Int) (ls:List Nat),vs=[.ref a,.ref b]/\H a=some (.lst (ns.map V.int))/\H b=some (.lst (cV ls))/\ns.length<=5/\0<ls.length/\ls.length<=8 /\
 ∀(v:V) (s:Sm) (H':Hp),Is H' v s.d->s.ok (λk=>k∈ls)->s.ln<=5->af H H'->Q v H'
def VM(T:Txt w K mg):FQ.Ok P w K mg base 1 (zbc K):=by
  refine Rw.ok T.d_Z53.F T.d_Z53.S ?_;rintro vs H Q E ⟨a,b,ns,ls,rfl,hS,hb,kr,iq,MF,q⟩;refine⟨rfl,fun _ _ _ _ hr hu nd=>⟨_,(ak (aD 2 nd (bq ag)) (ak (eK df rfl (dj (pV 0)) (aN 3 nd) (ao (bp (PW.pt (iO (a7 aV (az bQ.c (pV 3) ai) ai) (jy (a7 mm.j (bD gd (by rfl) T.n_len dI (aa (pV 2) ag)) ai)))) (ao (d6 (bY cB fI fJ fK (pV 2) (aa (bz (aa au (aa (gL cB kD lb kI (pV 2)) ag))) ag)))) (ao (bp (PW.pt (iO (a7 mm.j (az bQ.c (pV 3) ai) ai) (jy (a7 mm.j (bD gd (by rfl) T.n_len dI (aa (pV 2) ag)) ai)))) (ak (aD 4 nd (gL cB kD lb kI (pV 2)))
   (ak (aD 5 nd (gL cB kD lb kI (pV 2))) (ao (d6 (bY cB fI fJ fK (pV 2) (aa (bz (aa (xL (bq (aa au (aa au (aa au ag)))) (az bQ.c (az gU.c (pV 3) ai) ai)) (aa (pV 5) (aa (pV 4) ag)))) ag)))))) (ao (bp (a7 aV (az bQ.c (pV 3) ai) ai) (ao (d6 (bY cB fI fJ fK (pV 2) (aa (bz (aa au (aa (az bQ.c (az gU.c (pV 3) ai) ai) ag))) ag)))) (ao (d6 (bY cB fI fJ fK (pV 2) (aa (bz (aa au (aa (xL (pV 1) (az bQ.c (az gU.c (pV 3) ai) (bD gd (by rfl) T.n_len dI (aa (pV 1) ag)))) ag))) ag)))))))))))
   (ak (uM df (a7 mm.j (bD gd (by rfl) T.n_len dI (aa (pV 2) ag)) ai) (ak (aD 4 nd (gL cB kD lb kI (pV 2)))
   (ak (aD 5 nd (gL cB kD lb kI (pV 2))) (ao (d6 (bY cB fI fJ fK (pV 2) (aa (bz (aa (xL (bq (aa au (aa au (aa au ag)))) (az bQ.c (bD gd (by rfl) T.n_len dI (aa (pV 2) ag)) ai)) (aa (pV 5) (aa (pV 4) ag)))) ag)))))))
   (ak (bp (a7 aV (bD gd (by rfl) T.n_len dI (aa (pV 2) ag)) ai) (ao (aA (bz (aa au (aa ai ag))))) aM)
   (ao (aA (xL (pV 2) ai))))))),?_⟩⟩
  exists bS _,λc hc=>?_;have s0:af H (upd H c (.lst [])):=af.upd hc;have k0:iI ls 0 (upd H c (.lst [])) c []:=⟨aq,[],.nil,aO _⟩;generalize upd H c (.lst [])=H1 at s0 k0;exists ⟨_,aj.of (s0 _ _ hS)⟩,?_;refine jK (K:=K) (a:=a) (xs:=ns.map V.int) (λi σ G=>∃(xs:List V) (v3 v4 v5:Option V),σ=[some (.ref a),some (.ref b),some (.ref c),v3,v4,v5]/\iI ls i G c xs/\xs.length<=i/\af H G)
   ⟨[],none,none,none,rfl,k0,aO _,s0⟩ (λi σ G _ ⟨_,_,_,_,_,_,_,e⟩=>aj.of (e _ _ hS)) ?_ ?_
  ·rintro i y0 σ G hi ⟨xs,v3,v4,v5,rfl,hs,oQ,sG⟩;obtain⟨x,Zs,rfl⟩:=vo hi;have hi8:i<ns.length:=(dS.mp Zs).1;exists (by show (0:Int)<7;decide),_,rfl,?_;refine La ?_ (λh1 vL=>?_)
   rotate_left
   exists c,_,rfl,.inl (aj.of hs.here),_,rfl,eR (λh2=>?_) (λh2=>vL)
   ·have h0:0<xs.length:=by have:=bG h2;lia
    obtain⟨y,s1,wO,om,wX,Nq,hk⟩:=hs.pop h0;exists .inl ⟨rfl,_,aj.of hs.here⟩,.inl ⟨rfl,_,aj.of hs.here⟩,c,xs,y,rfl,rfl,hs.here,wO,bK,λt ht=>?_;have ft:=tw (xs:=xs);obtain⟨p1,p2⟩:=hk.push (n':=i+1) (zs:=[.str "not",y]) (s:=.no s1) ht (λG' kk h3=>iG h3 (cC.mpr rfl) (gS kk om)) wX (by show _+(s1.ln+1)<=i+1;lia);nomatch _,p1,bH (by lia),_,_,_,_,rfl,p2,(by rw[aS];show xs.dropLast.length+1<=i+1;lia),((sG.write hc).trans (af.upd ht)).write hc
   ·exists (by show (0:Int)<7;decide),_,rfl,?_;refine La ?_ (λh3 vL=>?_)
    rotate_left
    exists c,_,rfl,.inl (aj.of hs.here),_,rfl,eR (λh4=>?_) (λh4=>vL)
    ·have h0:1<xs.length:=by have:=bG h4;lia
     obtain⟨y,s1,wO,om,wX,Nq,hk⟩:=hs.pop (by lia);exists .inl ⟨rfl,_,aj.of hs.here⟩,c,xs,y,rfl,rfl,hs.here,wO,?_;have ft:=tw (xs:=xs);have ja:=sG.write (o:=.lst xs.dropLast) hc;generalize upd G c (.lst xs.dropLast)=G1 at om hk ja;obtain⟨z,s2,iH,mv,GR,ZA,eE⟩:=hk.pop (by lia);exists .inl ⟨rfl,_,aj.of hk.here⟩,c,xs.dropLast,z,rfl,rfl,hk.here,iH,?_;have jL:=tw (xs:=xs.dropLast);have fN:=ja.write (o:=.lst xs.dropLast.dropLast) hc;have xI:Is (upd G1 c (.lst xs.dropLast.dropLast)) y s1.d:=zj om hk.here;generalize upd G1 c (.lst xs.dropLast.dropLast)=G2 at xI mv eE fN;have V0:=iC (x/7) (show (3:Int)≠0 by decide);have gj2:=iz (x/7) (show (0:Int)<3 by decide);obtain⟨j,hj⟩:∃j:Nat,x/7%3=(j:Int):=⟨_,(gF V0).symm⟩;have sy:j<3:=by lia
     exists .inl ⟨rfl,_,aj.of eE.here⟩,cY,λl hl=>?_;generalize eU:upd G2 l _=G3;obtain⟨sl,wl⟩:=nw eU hl;exists iU (by decide) (by decide),(by show (0:Int)<3;decide),V.str (wd j),aj.of wl,(by rw[hj];exact NC sy),cY,λt ht=>?_;obtain⟨p1,p2⟩:=(eE.keep sl).push (n':=i+1) (zs:=[.str (wd j),z,y]) (s:=.two j s2 s1) ht (λG' kk h3=>xh h3 (cC.mpr rfl) (gS kk (mv.keep sl)) (gS kk (xI.keep sl))) ⟨sy,GR,wX⟩ (by show _+(s2.ln+s1.ln)<=i+1;lia);nomatch _,p1,bH (by lia),_,_,_,_,rfl,p2,(by rw[aS];show xs.dropLast.dropLast.length+1<=i+1;lia),((fN.trans sl).trans (af.upd ht)).write hc
    ·exists (by show (0:Int)<28;decide),_,rfl,?_;refine eR (λh5=>?_) (λh5=>?_)
     ·exists .inl ⟨rfl,_,aj.of hs.here⟩,iU (by decide) (by decide),(by show (0:Int)<2;decide),bK,λt ht=>?_;obtain⟨p1,p2⟩:=hs.push (n':=i+1) (zs:=[.str "fix",.int (x/28%2)]) (s:=.fix (x/28%2)) ht (λG' kk h3=>iG h3 (cC.mpr rfl) (kO.mpr rfl)) (by show x/28%2=0\/x/28%2=1;lia) (aO _);nomatch _,p1,bH (by lia),_,_,_,_,rfl,p2,(by rw[aS];show xs.length+1<=i+1;lia),(sG.trans (af.upd ht)).write hc
     ·have Km:=sG _ _ hb;have j3:(cV ls).length=ls.length:=by unfold cV;rw[av]
      have gk1:=iC (x/7) (show ((cV ls).length:Int)≠0 by lia);have gk2:=iz (x/7) (show (0:Int)<((cV ls).length:Int) by lia);obtain⟨m,hm⟩:∃m:Nat,x/7%((cV ls).length:Int)=(m:Int):=⟨_,(gF gk1).symm⟩;have Of:m<ls.length:=by lia
      have wx:(cV ls)[m]?=some (V.int ((ls[m]:Nat):Int)):=by unfold cV;rw[dE,eC Of];rfl
      exists .inl ⟨rfl,_,aj.of hs.here⟩,iU (by decide) (by decide),b,_,rfl,.inl (aj.of Km),(by lia),_,aj.of Km,(by rw[hm];exact bo wx),bK,λt ht=>?_;obtain⟨p1,p2⟩:=hs.push (n':=i+1) (zs:=[.str "bit",.int ((ls[m]:Nat):Int)]) (s:=.bit ls[m]) ht (λG' kk h3=>iG h3 (cC.mpr rfl) (kO.mpr rfl)) (jH Of) (aO _);nomatch _,p1,bH (by lia),_,_,_,_,rfl,p2,(by rw[aS];show xs.length+1<=i+1;lia),(sG.trans (af.upd ht)).write hc
  ·rintro σ G ⟨xs,v3,v4,v5,rfl,hs,oQ,sG⟩;rw[av]at hs oQ;exists λm σ G=>∃(xs:List V) (v4 v5:Option V),σ=[some (.ref a),some (.ref b),some (.ref c),v3,v4,v5]/\xs.length=m/\m<=5/\iI ls 5 G c xs/\af H G,⟨_,xs,v4,v5,rfl,rfl,by lia,hs.up kr,sG⟩,?_;rintro m σ G ⟨xs,v4,v5,rfl,hm,hm5,hs,sG⟩;exists c,_,rfl,.inl (aj.of hs.here),_,rfl,?_;refine eR (λh4=>?_) (λh4=>?_)
   ·have h0:1<xs.length:=by have:=bG h4;lia
    exists λσ' G'=>∃(rh:List V) (v4 v5:Option V),σ'=[some (.ref a),some (.ref b),some (.ref c),v3,v4,v5]/\rh.length+1=m/\iI ls 5 G' c rh/\af H G',λσ' G' ⟨rh,B6,ZH,z1,z2,z3,z4⟩=>⟨rh.length,by lia,rh,B6,ZH,z1,rfl,by lia,z3,z4⟩,?_;obtain⟨y,s1,wO,om,wX,Nq,hk⟩:=hs.pop (by lia);exists .inl ⟨rfl,_,aj.of hs.here⟩,c,xs,y,rfl,rfl,hs.here,wO,?_;have ft:=tw (xs:=xs);have ja:=sG.write (o:=.lst xs.dropLast) hc;generalize upd G c (.lst xs.dropLast)=G1 at om hk ja;obtain⟨z,s2,iH,mv,GR,ZA,eE⟩:=hk.pop (by lia);exists .inl ⟨rfl,_,aj.of hk.here⟩,c,xs.dropLast,z,rfl,rfl,hk.here,iH,?_;have jL:=tw (xs:=xs.dropLast);have fN:=ja.write (o:=.lst xs.dropLast.dropLast) hc;have xI:Is (upd G1 c (.lst xs.dropLast.dropLast)) y s1.d:=zj om hk.here;generalize upd G1 c (.lst xs.dropLast.dropLast)=G2 at xI mv eE fN;exists .inl ⟨rfl,_,aj.of eE.here⟩,cY,λl hl=>?_;generalize eU:upd G2 l _=G3;obtain⟨sl,wl⟩:=nw eU hl;have Sw:=(eE.keep sl).here;have ej:((xs.dropLast.dropLast.length:Nat):Int)%3=((xs.dropLast.dropLast.length%3:Nat):Int):=by norm_cast
    have sy:=ub xs.dropLast.dropLast.length (show 0<3 by decide);generalize hjj:xs.dropLast.dropLast.length%3=j at ej sy;exists c,_,rfl,.inl (aj.of Sw),(by show (0:Int)<3;decide),V.str (wd j),aj.of wl,(by rw[ej];exact NC sy),cY,λt ht=>?_;obtain⟨p1,p2⟩:=(eE.keep sl).push (n':=5) (zs:=[.str (wd j),z,y]) (s:=.two j s2 s1) ht (λG' kk h3=>xh h3 (cC.mpr rfl) (gS kk (mv.keep sl)) (gS kk (xI.keep sl))) ⟨sy,GR,wX⟩ (by show _+(s2.ln+s1.ln)<=5;lia);have aH:(xs.dropLast.dropLast++[V.ref t]).length=xs.length-1:=by rw[aS];show xs.dropLast.dropLast.length+1=_;lia
    nomatch _,p1,bH (by lia),_,_,_,rfl,by lia,p2,((fN.trans sl).trans (af.upd ht)).write hc
   ·have h1:¬1<xs.length:=λz=>h4 (aR (by lia))
    exists c,_,rfl,.inl (aj.of hs.here),_,rfl,?_;refine eR (λh5=>?_) (λh5=>?_)
    ·exists bK,λt ht=>?_;exact q (.ref t) (.fix 1) _ (iG aq (cC.mpr rfl) (kO.mpr rfl)) (.inr rfl) (by decide) (sG.trans (af.upd ht))
    ·have h6:0<xs.length:=by
      rcases Nat.eq_zero_or_pos xs.length with z|z
      ·exact absurd (aR (by rw[z];rfl)) h5
      ·exact z
     obtain⟨h7,ss,h8,h9⟩:=id hs;have vg:xs.length=1:=by lia
     obtain⟨x0,rfl⟩:=List.length_eq_one_iff.mp vg;cases h8 with
     |@cons _ s1 _ ss' r r' =>
      cases r';have Hj:s1.ln+0<=5:=h9;nomatch x0,aj.of hs.here,rfl,q _ s1 G r.1 r.2 Hj sG
def VY(K:Frag):Sp:=λvs H Q _=>∃m:Nat,vs=[.int (m:Int)]/\m<2^16/\∀H',af H H'->Q (.str (S (cz m))) H'
def zbu:(["_law_k","_law_one"]:List Str).Nodup:=by decide+kernel
def Qr(T:Txt w K mg):zq.Ok P w K mg base 1 (VY K):=by
  refine Rw.ok T.d_Z36.F T.d_Z36.S ?_;rintro vs H Q E ⟨m,rfl,hm,q⟩;refine⟨rfl,fun _ _ _ _ hr hu nd=>⟨_,(ao (aA (bY fq lT lD lF au (aa (eO (g:=(a8 0)) ["_law_k", "_law_one"] 1 [0] rfl (dC zq) (kB rfl T.n_range (aa ai ag)) (λcl C s₀ H₀ fp=>(aN 0 zbu)) (λcl C s₀ H₀ fp=>(iJ (a7 aV (az bQ.c (az gU.c (pV 1) (az pJ.c ai (pV 0))) ai) ai))) (λcl C s₀ H₀ fp=>(mh pF au (pV 0)))) ag)))),?_⟩⟩
  exists rfl,?_;exists _,rfl,by decide,by decide,?_;refine zC (lo:=0) (n:=(16:Int).toNat) (λi ys σ G=>∃v0:Option V,σ=[v0,some (.int (m:Int))]/\ys=((((List.range i).filter λk=>m.testBit k).map λk=>97+k).map λc=>S [c]).map V.str/\G=H)
   ⟨none,rfl,rfl,rfl⟩ (λi ys σ G ⟨_,_,e,_⟩=>by rw[e,av,av,av];exact aW (jR _ _) (by simp)) (by decide) ?_ ?_
  ·rintro i ys σ G hi ⟨v0,rfl,rfl,rfl⟩;have ir:i<16:=hi;unfold a8;have e0:(1:Int)*2^((0+(i:Int))).toNat=((2^i:Nat):Int):=by rw[rB,qr,mD]
   have bA:(2:Nat)^i<=2^16:=dX (by decide) (by lia);have lW:=pf i;exists ⟨by lia,by lia,by decide⟩,(by rw[e0];exact iU (by lia) (by lia)),(by show (0:Int)<2;decide),_,rfl,?_;have eb:(m:Int)/(1*2^((0+(i:Int))).toNat)%2=if m.testBit i=true then 1 else 0:=by
    rw[e0,rS]
    have:((m:Int)/((2^i:Nat):Int)%2)=((m/2^i%2:Nat):Int):=by norm_cast
    rw[this];by_cases y:m/2^i%2=1
    ·simp[y]
    ·have:m/2^i%2=0:=by lia
     simp[this]
   show if decide (V.int ((m:Int)/(1*2^((0+(i:Int))).toNat)%2)=V.int 1)=true then _ else _
   rw[eb];cases hc:m.testBit i
   ·refine aK (by decide) ⟨_,rfl,?_,rfl⟩;rw[qC,fV];simp[hc]
   ·refine aY (by decide) ?_;exists _,_,_,rfl,rfl,(by rw[kX,aG];show 16<=sizeLine;decide),(by rw[kX,gm,rB];exact bo (A8 i ir)),?_;exists _,rfl,?_,rfl;rw[qC,fV];simp[hc];rfl
  ·rintro ys σ G ⟨v0,rfl,rfl,rfl⟩ E hE;have e16:((List.range (16:Int).toNat).filter λk=>m.testBit k).map (λk=>97+k)=cz m:=by
    unfold cz;rw[<-Mr hm];rfl
   rw[e16];exists _,E,(cz m).map λc=>S [c],rfl,rfl,aj.of aq,?_,?_
   ·rw[zY,ia]
    have:=qd hm
    simp[aG];lia
   ·rw[ia,EF];exact q _ (af.upd hE)
def L3(T:Txt w K mg):Gf.Ok P w K mg base 2 (O5 K):=by
  refine Rw.ok T.d_Z48.F T.d_Z48.S ?_;rintro vs H Q E ⟨a,f,rfl,hT,hs,hl,q⟩;refine⟨rfl,fun _ _ _ _ hr hu nd=>⟨_,(ak (aD 1 nd (bq ag)) (ak (eK df rfl (dj (pV 0)) (ig (n:=2) rfl (cL (aN 2 nd) (cL (aN 3 nd) ik))) (ak (aD 4 nd (gE lj rfl T.n_str kU (aa (bD wy (by rfl) T.n_abs vD (aa (pV 3) ag)) ag)))
   (ak (ke (bp (PW.pt (iO (a7 mm.j (pV 2) ai) (jy (a7 aV (bD wy (by rfl) T.n_abs vD (aa (pV 3) ag)) ai)))) (ao (aD 4 nd au)) aM))
   (ak (d6 (bY cB fI fJ fK (pV 1) (aa (xL (bq (aa au (aa au ag))) (gE Hf rfl T.n_int sv (aa (km pE.j (pV 3) ai) ag))) ag))) (ao (d6 (bY cB fI fJ fK (pV 1) (aa (az gc (pV 4) (aC T.d_Z36 (Qr T) hr (aa (pV 2) ag))) ag))))))))
   (ak (bp (a7 aV (bD gd (by rfl) T.n_len dI (aa (pV 1) ag)) ai) (ao (aA au)) aM)
   (ak (ke (bp (a7 aV (xL (pV 1) ai) au) (ao (qm (az gc au (xL (pV 1) ai)) (Qk (pV 1) ai OX))) aM)) (ao (aA (bY fq lT lD lF au (aa (k7 qK (pV 1) (iu ai) nB) ag)))))))),?_⟩⟩
  obtain⟨ps,hS,hP⟩:=id hT;have cD:=hP.length;exists bS _,λc hc=>?_;have s0:af H (upd H c (.lst [])):=af.upd hc;exists ⟨_,aj.of (s0 _ _ hS)⟩,?_;refine jK (K:=K) (a:=a) (xs:=ps.map V.ref) (λi σ G=>∃v2 v3 v4:Option V,σ=[some (.ref a),some (.ref c),v2,v3,v4]/\G c=some (.lst ((f.take i).flatMap λt=>[V.str (S [bw t.2]),V.str (S (bx t))]))/\af H G)
   ⟨none,none,none,rfl,aq,s0⟩ (λi σ G _ ⟨_,_,_,_,_,e⟩=>aj.of (e _ _ hS)) ?_ ?_
  ·rintro i y σ G hi ⟨v2,v3,v4,rfl,g1,sG⟩;obtain⟨p,c6,rfl⟩:=fY hi;obtain⟨t,bg,cK⟩:=hP.at' c6;have hok:=hs t (dr bg);obtain⟨h0,h1,h2,h3⟩:=id hok;have iR:i<f.length:=(dS.mp bg).1;have ea:(if t.2<0 then -t.2 else t.2)=((t.2.natAbs:Nat):Int):=by split<;>lia
   have em:t.1=((t.1.toNat:Nat):Int):=(gF h0).symm;have hm:t.1.toNat<2^16:=by lia
   exists _,ay.of (sG _ _ cK),rfl,?_;exists t.2,rfl,?_;exists _,rfl,by rw[ea];exact BK h3,?_;rw[ea,qS];exists λσ' G'=>σ'=[some (.ref a),some (.ref c),some (.int t.1),some (.int t.2),some (.str (S (gj t.1.toNat t.2.natAbs)))]/\G'=G,?_,?_
   ·exists _,rfl,?_;refine eR (λk1=>?_) (λk1=>?_)
    ·have k1':0<t.1:=bG k1;exists t.2,rfl,?_;rw[ea];exists _,rfl,?_;refine eR (λk2=>?_) (λk2=>?_)
     ·have CS:t.2.natAbs=1:=by
       have:=bG k2
       injection this with this;lia
      exists ?_,rfl
      have:gj t.1.toNat t.2.natAbs=[]:=aB ⟨CS,by lia⟩
      rw[this,<-ia];rfl
     ·have CS:¬t.2.natAbs=1:=λz=>k2 (by rw[z];simp)
      exists ?_,rfl
      have:gj t.1.toNat t.2.natAbs=bX t.2.natAbs:=ax (λz=>CS z.1)
      rw[this];rfl
    ·have k1':¬0<t.1:=λz=>k1 (aR z)
     exists ?_,rfl
     have:gj t.1.toNat t.2.natAbs=bX t.2.natAbs:=ax (λz=>z.2 (by lia))
     rw[this];rfl
   ·rintro σ' G' ⟨rfl,rfl⟩;have E6:((f.take i).flatMap λt=>[V.str (S [bw t.2]),V.str (S (bx t))]).length=2*i:=by rw[ua,dY];lia
    exists .inl ⟨rfl,_,aj.of g1⟩,?_;exists bK,λl vp=>?_;have b1:af G' (upd G' l (.lst [.str "+",.str "-"])):=af.upd vp;have esg:di [V.str "+",V.str "-"] (if decide (t.2<0)=true then 1 else 0)=some (V.str (S [bw t.2])):=by
     by_cases z:t.2<0
     ·rw[aB (aR z),show bw t.2=45 from aB z,<-j6];rfl
     ·rw[ax (by simpa using z),show bw t.2=43 from ax z,<-wV];rfl
    refine .inr ⟨_,rfl,?_⟩;exists _,aj.of aq,esg,?_;exists _,b1 _ _ g1,?_,?_
    ·rw[E6];exact bH (by lia)
    have g2:upd (upd G' l (.lst [.str "+",.str "-"])) c (.lst (((f.take i).flatMap λt=>[V.str (S [bw t.2]),V.str (S (bx t))])++[V.str (S [bw t.2])])) c=some (.lst (((f.take i).flatMap λt=>[V.str (S [bw t.2]),V.str (S (bx t))])++[V.str (S [bw t.2])])):=aq;have S1:af H (upd (upd G' l (.lst [.str "+",.str "-"])) c (.lst (((f.take i).flatMap λt=>[V.str (S [bw t.2]),V.str (S (bx t))])++[V.str (S [bw t.2])]))):=(sG.trans b1).write hc;generalize upd (upd G' l (.lst [.str "+",.str "-"])) c (.lst (((f.take i).flatMap λt=>[V.str (S [bw t.2]),V.str (S (bx t))])++[V.str (S [bw t.2])]))=H1 at g2 S1;have hle:(S (gj t.1.toNat t.2.natAbs)).length+(S (cz t.1.toNat)).length<=sizeLine:=by
     rw[aG,aG];exact aW (yb (zaw h3) (qd hm)) (by decide)
    exists .inl ⟨rfl,_,aj.of g2⟩,?_;exists t.1.toNat,by rw[<-em];rfl,hm,λH2 s2=>?_;exists _,_,rfl,rfl,hle,?_;exists _,s2 _ _ g2,?_,?_
    ·rw[aS,E6];exact bH (by simp;lia)
    exists _,_,_,rfl,?_,(S1.trans s2).write hc;rw[aq,cG,dU,bg,List.flatMap_append];have ew:bx t=gj t.1.toNat t.2.natAbs++cz t.1.toNat:=rfl;simp[ew]
  ·rintro σ G ⟨v2,v3,v4,rfl,g1,sG⟩;rw[av,cD,dO]at g1;exists c,_,rfl,.inl (aj.of g1),_,rfl,?_;cases f with
   |nil =>
    refine aY (by rfl) ?_
    have:=q G sG
    rw[show txt []=[48] from rfl,<-jW]at this;exact this
   |cons t0 r =>
    have gN:((t0::r).flatMap λt=>[V.str (S [bw t.2]),V.str (S (bx t))]).length=2*(r.length+1):=ua _ _ _;refine aK (by rw[gN];simp;lia) ?_;have j1:((t0::r).flatMap λt=>[V.str (S [bw t.2]),V.str (S (bx t))])=V.str (S [bw t0.2])::V.str (S (bx t0))::(r.flatMap λt=>[V.str (S [bw t.2]),V.str (S (bx t))]):=rfl;rw[j1]at g1;have hok:=hs t0 (by simp);have fU:(jC (t0::r)).map (λw=>V.str (S w))=V.str (S (dk t0.2++bx t0))::(r.flatMap λt=>[V.str (S [bw t.2]),V.str (S (bx t))]):=by
     show V.str (S (dk t0.2++bx t0))::(r.flatMap λu=>[[bw u.2],bx u]).map (λw=>V.str (S w))=_;rw[List.map_flatMap];rfl
    exists λσ' G'=>σ'=[some (.ref a),some (.ref c),v2,v3,v4]/\G' c=some (.lst (V.str (S [bw t0.2])::(jC (t0::r)).map λw=>V.str (S w)))/\af H G',?_,?_
    ·have xx:di (V.str (S [bw t0.2])::V.str (S (bx t0))::(r.flatMap λt=>[V.str (S [bw t.2]),V.str (S (bx t))])) 0=some (V.str (S [bw t0.2])):=bo (j:=0) rfl;have at1:di (V.str (S [bw t0.2])::V.str (S (bx t0))::(r.flatMap λt=>[V.str (S [bw t.2]),V.str (S (bx t))])) 1=some (V.str (S (bx t0))):=bo (j:=1) rfl;exists _,aj.of g1,xx,_,rfl,?_;by_cases z:t0.2<0
     ·have es:bw t0.2=45:=aB z;refine aY (by rw[es,<-j6];simp) ?_;exists _,aj.of g1,at1,_,_,rfl,rfl,?_,?_
      ·rw[j6,aG,aG];exact aW (yU (zR (by have:=hok.1;have:=hok.2.1;lia) hok.2.2.2) _) (by show 1+79<=sizeLine;decide)
      exists c,_,_,1,rfl,rfl,g1,(by show j7 (_+1+1) 1=some 1;unfold j7;simp;lia),?_;exists rfl,?_,sG.write hc;rw[aq,fU,j6,cG]
      have:dk t0.2=[45]:=aB z
      rw[this];rfl
     ·have es:bw t0.2=43:=ax z;refine aK (by rw[es,j6];intro y;have:=bG y;injection this with this;exact absurd (eG this) (by decide)) ?_;exists rfl,?_,sG;rw[g1,fU]
      have:dk t0.2=[]:=ax z
      rw[this];rfl
    ·rintro σ' G' ⟨rfl,g2,s2⟩;have ecut:gq (V.str (S [bw t0.2])::(jC (t0::r)).map λw=>V.str (S w)) (some 1) none=((jC (t0::r)).map S).map V.str:=by
      unfold gq;rw[show HT.sIx (V.str (S [bw t0.2])::(jC (t0::r)).map λw=>V.str (S w)).length 0 (some 1)=1 from (HT.sIx_nat _ _ 1).trans (oK (by simp))];rw[fE];refine nN ?_;simp[HT.sIx]
     have WC:(((jC (t0::r)).map S).map (·.length)).sum+((jC (t0::r)).map S).length*(ofString " ").length<=16777216:=by
      have h1:(((jC (t0::r)).map S).map (·.length)).sum<=(txt (t0::r)).length:=by
       rw[<-FG,fE];have go:∀ws:List (List Nat),(ws.map ((·.length) ∘ S)).sum<=(aX 32 ws).length:=λws=>by
        induction ws with
        |nil=>exact aO _
        |cons w ws ih =>
         cases ws with
         |nil=>show w.length+0<=w.length;lia
         |cons w2 ws =>
          have:(aX 32 (w::w2::ws)).length=w.length+1+(aX 32 (w2::ws)).length:=by rw[aX,aS,br];lia
          rw[this,bU,jV];show w.length+_<=_;lia
       exact go _
      have h2:=Uh hs;have h3:(jC (t0::r)).length=2*r.length+1:=by
       show (_::r.flatMap λu=>[[bw u.2],bx u]).length=_;rw[br,ua]
      rw[nF,aG,av,h3];simp only[br,mj]at h2 hl ⊢;lia
     exists rfl,?_;exists c,_,rfl,aj.of g2,λd hd=>?_;rw[ecut];exists _,d,_,rfl,rfl,aj.of aq,WC,?_;rw[nF,rb,FG];exact q _ (s2.trans (af.upd hd))
def QY(T:Txt w K mg)(d:Nat):FZ.Ok P w K mg base (1+d) ((Zn K) d)/\BU.Ok P w K mg base (1+d) ((Oh K) d):=by
 induction d with
 |zero=>exact⟨Rw.ok T.d_Z28.F T.d_Z28.S λvs H Q E h=>by obtain⟨v,s0,rfl,hI,hok,hd,aH,q⟩:=h;exact absurd hd (yy _),Rw.ok T.d_Z56.F T.d_Z56.S λvs H Q E h=>by obtain⟨v,s0,rfl,hI,hok,hd,aH,q⟩:=h;exact absurd hd (yy _)⟩
 |succ d ih =>
 exists ?_,?_
 ·refine Rw.ok (k:=1+d) T.d_Z28.F T.d_Z28.S ?_;rintro vs H Q E ⟨v,s0,rfl,hI,hok,hd,aH,q⟩;refine⟨rfl,fun _ _ _ _ hr hu nd=>⟨_,(ak (bp (nJ nY (xT (pV 0) ai) (bq (aa au (aa au (aa au ag)))) rfl) (ao (aA (az gc (az gc au (aC T.d_Z56 ih.2 hr (aa (pV 0) ag))) au))) aM) (ao (aA (aC T.d_Z56 ih.2 hr (aa (pV 0) ag))))),?_⟩⟩
  cases s0 with
  |bit k =>
   obtain⟨p,rfl,hp⟩:=mr hI;have e:gr (.bit k)=bZ (.bit k):=rfl;rw[e]at q;exists _,ay.of hp,rfl,cY,λl hl=>?_;have z1:af H (upd H l (.lst [.str "and",.str "or",.str "xor"])):=af.upd hl;exists l,_,rfl,.inl (aj.of aq),rfl,rfl,_,rfl,aK (by decide) ?_;nomatch .ref p,(.bit k),rfl,hI.keep z1,hok,by lia,aH,λH1 k1=>q H1 (z1.trans k1)
  |fix c =>
   obtain⟨p,rfl,hp⟩:=mO hI;have e:gr (.fix c)=bZ (.fix c):=rfl;rw[e]at q;exists _,ay.of hp,rfl,cY,λl hl=>?_;have z1:af H (upd H l (.lst [.str "and",.str "or",.str "xor"])):=af.upd hl;exists l,_,rfl,.inl (aj.of aq),rfl,rfl,_,rfl,aK (by decide) ?_;nomatch .ref p,(.fix c),rfl,hI.keep z1,hok,by lia,aH,λH1 k1=>q H1 (z1.trans k1)
  |no s1 =>
   obtain⟨p,x,rfl,hp,hx⟩:=lY hI;have e:gr (.no s1)=bZ (.no s1):=rfl;rw[e]at q;exists _,ay.of hp,rfl,cY,λl hl=>?_;have z1:af H (upd H l (.lst [.str "and",.str "or",.str "xor"])):=af.upd hl;exists l,_,rfl,.inl (aj.of aq),rfl,rfl,_,rfl,aK (by decide) ?_;nomatch .ref p,(.no s1),rfl,hI.keep z1,hok,by lia,aH,λH1 k1=>q H1 (z1.trans k1)
  |two w s1 s2 =>
   obtain⟨p,x,y,rfl,hp,hx,hy⟩:=lU hI;have e:gr (.two w s1 s2)=[40]++bZ (.two w s1 s2)++[41]:=rfl;rw[e]at q;exists _,ay.of hp,rfl,cY,λl hl=>?_;have z1:af H (upd H l (.lst [.str "and",.str "or",.str "xor"])):=af.upd hl;exists l,_,rfl,.inl (aj.of aq),rfl,rfl,_,rfl,aY (U4 hok.1) ?_;exists .ref p,.two w s1 s2,rfl,hI.keep z1,hok,by lia,aH,λH1 k1=>?_;exists _,_,rfl,rfl,(by rw[xi,aG,aG];exact ix (by simp;lia)),?_;rw[xi,cG];exists _,_,rfl,rfl,(by rw[HR,aG,aG];exact ix (by simp;lia)),?_;rw[HR,cG];exact q H1 (z1.trans k1)
 ·refine Rw.ok (k:=1+d) T.d_Z56.F T.d_Z56.S ?_;rintro vs H Q E ⟨v,s0,rfl,hI,hok,hd,aH,q⟩;refine⟨rfl,fun _ _ _ _ hr hu nd=>⟨_,(ak (bO (bM aV (xT (pV 0) ai) au) (ao (aA (mh pF au (xT (pV 0) ai)))) aM) (ak (bO (bM aV (xT (pV 0) ai) au) (ao (aA (gE lj rfl T.n_str kU (aa (xT (pV 0) ai) ag)))) aM) (ak (bO (bM aV (xT (pV 0) ai) au) (ao (aA (az gc au (aC T.d_Z28 ih.1 hr (aa (xT (pV 0) ai) ag))))) aM) (ak (aD 1 nd (aC T.d_Z28 ih.1 hr (aa (xT (pV 0) ai) ag))) (ao (aA (az gc (az gc (az gc (az gc (pV 1) au) (xT (pV 0) ai)) au) (aC T.d_Z28 ih.1 hr (aa (xT (pV 0) ai) ag))))))))),?_⟩⟩
  cases s0 with
  |bit k =>
   obtain⟨p,rfl,hp⟩:=mr hI;have hk:k<16:=hok;exists _,ay.of hp,rfl,vy ?_;exists _,ay.of hp,rfl,_,_,_,rfl,rfl,(by rw[kX,aG];show 16<=sizeLine;decide),(by rw[kX,gm];exact bo (A8 k hk)),?_;exact q H (af.refl _)
  |fix c =>
   obtain⟨p,rfl,hp⟩:=mO hI;have hc:c=0\/c=1:=hok;obtain⟨n,rfl⟩:∃n:Nat,c=(n:Int):=⟨c.toNat,by lia⟩;exists _,ay.of hp,rfl,vn ?_;exists _,ay.of hp,rfl,vy ?_;exists _,ay.of hp,rfl,_,rfl,zab (by lia),?_;rw[qS];exact q H (af.refl _)
  |no s1 =>
   obtain⟨p,x,rfl,hp,hx⟩:=lY hI;rw[ve]at aH;have ft:(gr s1).length<=10000:=by rw[aS]at aH;lia
   have jL:(bZ s1).length<=10000:=aW (Ee s1) ft;exists _,ay.of hp,rfl,vn ?_;exists _,ay.of hp,rfl,vn ?_;exists _,ay.of hp,rfl,vy ?_;exists _,ay.of hp,rfl,x,s1,rfl,hx,hok,(by have:2*(s1.dp+1)+1<d+1:=hd;lia),jL,λH1 k1=>?_;exists _,_,rfl,rfl,(by rw[r6,aG,aG];exact ix (by simp;lia)),?_;rw[r6,cG,<-ve];exact q H1 k1
  |two w s1 s2 =>
   obtain⟨p,x,y,rfl,hp,hx,hy⟩:=lU hI;obtain⟨nV,mB,nH⟩:=hok;obtain⟨n1,n2,n3⟩:=Zb nV;rw[vb]at aH;have fU:=GP w;have ft:(gr s1).length<=10000:=by simp only[aS]at aH;lia
   have GN:(gr s2).length<=10000:=by simp only[aS]at aH;lia
   have jL:(bZ s1).length<=10000:=aW (Ee s1) ft;have nL:(bZ s2).length<=10000:=aW (Ee s2) GN;have cq:2*(max s1.dp s2.dp+1)+1<d+1:=hd;exists _,ay.of hp,rfl,vN (by rw[n1];decide) ?_;exists _,ay.of hp,rfl,vN (by rw[n2];decide) ?_;exists _,ay.of hp,rfl,vN (by rw[n3];decide) ?_;exists _,ay.of hp,rfl,x,s1,rfl,hx,mB,by lia,jL,λH1 k1=>?_;exists _,_,rfl,rfl,(by rw[nF,aG,aG];exact ix (by simp;lia)),?_;rw[nF,cG];have dM:=k1 _ _ hp;rw[Tc nV]at dM;exists _,ay.of dM,rfl,_,_,rfl,rfl,(by rw[aG,aG];exact ix (by simp;lia)),?_;rw[cG];exists _,_,rfl,rfl,(by rw[aG,aG];exact ix (by simp;lia)),?_;rw[cG];exists _,ay.of dM,rfl,y,s2,rfl,hy.keep k1,nH,by lia,nL,λH2 k2=>?_;exists _,_,rfl,rfl,(by rw[aG,aG];exact ix (by simp;lia)),?_;rw[cG,<-vb];exact q H2 (k1.trans k2)
def Sz(T:Txt w K mg):BU.Ok P w K mg base 101 ((Oh K) 100):=(QY T 100).2
def sN:(" = " : Str)=S [32,61,32]:=by decide+kernel
def Dv:(" := " : Str)=S [32,58,61,32]:=by decide+kernel
def gI:(" " : Str)=S [32]:=by decide+kernel
def F3:("=" : Str)=S [61]:=by decide+kernel
def ZS:("fixed" : Str)=S ji:=by decide+kernel
def zbl:("put" : Str)=S jk:=by decide+kernel
theorem BO:∀ws:List (List Nat),(∀w∈ws,w.length<=8)->((ws.map S).map (·.length)).sum<=8*ws.length
 |[],_=>aO _
 |w::r,h=>by
  have ih:=BO r λx hx=>h x (by simp[hx])
  have:=h w (by simp)
  rw[bU,bU,jV,aG,br];lia
def ZC(K:Frag):Sp:=λvs H Q _=>∃(d a b x:Addr) (st:cH) (ns:List (List Nat)) (ls:List Nat) (xs:List Int),vs=[.ref d,.ref a,.ref b,.ref x]/\pj H d st/\H a=some (.lst (ns.map λx=>V.str (S x)))/\H b=some (.lst (cV ls))/\H x=some (.lst (xs.map V.int))/\(∀nf∈st,c7 ls nf.2)/\(ns.length=4/\∀x∈ns,bb x=true)/\(ls.Nodup/\0<ls.length/\ls.length<=5/\∀x∈ls,x<16)/\(xs.length=12/\∀x∈xs,0<=x) /\
 ∀(p e:Addr) (c:bh) (H':Hp),H' p=some (.tup [.str (S c.nm),.ref e])->gW H' e c->jF ls st c->c.nm∈ns->(∀n t,c=.form n t->∀y a z,H' e=some (.tup [y,.ref a,z])->H a=none)->af H H'->Q (.ref p) H'
def zcy(T:Txt w K mg):Gh.Ok P w K mg base 102 (ZC K):=by
  refine Rw.ok T.d_Z38.F T.d_Z38.S ?_;rintro vs H Q E ⟨d,a,b,x,st,ns,ls,xs,rfl,hD,hN,hL,hX,bc,kr,El,j1,q⟩;refine⟨rfl,fun _ _ _ _ hr hu nd=>⟨_,(ak (aD 4 nd (xL (pV 1) (az bQ.c (xL (pV 3) ai) ai))) (ak (aD 5 nd (xL (pV 1) (az bQ.c (xL (pV 3) ai) ai))) (ak (aD 6 nd (xL (pV 2) (az bQ.c (xL (pV 3) ai) (bD gd (by rfl) T.n_len dI (aa (pV 2) ag)))))
   (ak (aD 7 nd (mh pF au (pV 6))) (ak (aD 8 nd (xL (pV 1) (az bQ.c (xL (pV 3) ai) ai))) (ak (aD 9 nd (az bQ.c (xL (pV 3) ai) ai)) (ak (ke (aD 10 nd (su (aC T.d_Z50 (Nw T) hr.m (aa (xu hu (pV 0) (pV 4) (bq ag) ⟨rfl,rfl,rfl,rfl⟩) ag)) (qu (aC T.d_Z50 (Nw T) hr.m (aa (xu hu (pV 0) (pV 5) (bq ag) ⟨rfl,rfl,rfl,rfl⟩) ag)))))) (ak (bp (PW.pt (lE (a7 pE.j (pV 9) ai) (mq (kn (gk (pV 10)))))) (ak (aD 11 nd (aC T.d_Z58 (zam T) hr.m (aa (pV 3) (aa (pV 2) ag)))) (ao (aA (bz (aa (pV 8) (aa (bz (aa au (aa (pV 11) (aa (az gc (az gc (pV 8) au) (aC T.d_Z48 (L3 T) hr.m (aa (pV 11) ag))) ag)))) ag)))))) aM) (ak (bp (a7 aV (pV 9) ai) (ak (aD 12 nd (aC T.d_Z53 (VM T) hr.m (aa (k7 qK (pV 3) (iu ai) (iu ai)) (aa (pV 2) ag)))) (ao (aA (bz (aa (pV 8) (aa (bz (aa au (aa (pV 12) (aa (az gc (az gc (pV 8) au) (aC T.d_Z56 (Sz T) hr (aa (pV 12) ag))) ag)))) ag)))))) aM) (ak (bp (a7 aV (pV 9) ai) (ak (aD 13 nd (bY fq lT lD lF au (aa (bq (aa (pV 8) (aa au (aa au (aa (pV 4) (aa (pV 7) (aa (gE lj rfl T.n_str kU (aa (az bQ.c (xL (pV 3) ai) ai) ag)) ag))))))) ag))) (ao (aA (bz (aa (pV 8) (aa (bz (aa au (aa (bz (aa (pV 4) (aa (pV 6) (aa (az bQ.c (xL (pV 3) ai) ai) ag)))) (aa (pV 13) ag)))) ag)))))) aM) (ak (bp (a7 aV (pV 9) ai) (ao (aA (bz (aa (pV 8) (aa (bz (aa au (aa (bz (aa (pV 4) (aa (pV 5) (aa (pV 6) ag)))) (aa (bY fq lT lD lF au (aa (bq (aa (pV 8) (aa au (aa au (aa (pV 4) (aa (pV 7) (aa (pV 5) ag))))))) ag)) ag)))) ag))))) aM) (ak (aD 14 nd (xL (bq (aa au (aa au (aa au ag)))) (az ki.j (pV 9) ai))) (ao (aA (bz (aa (pV 8) (aa (bz (aa (pV 14) (aa (bz (aa (pV 4) (aa (pV 5) ag))) (aa (bY fq lT lD lF au (aa (bq (aa (pV 8) (aa au (aa (pV 14) (aa (pV 4) (aa (pV 5) ag)))))) ag)) ag)))) ag))))))))))))))))),?_⟩⟩
  obtain⟨jh,nM⟩:=kr;obtain⟨rE,iq,bt,cM⟩:=El;obtain⟨oQ,me⟩:=j1;have eX:∀i:Nat,i<12->∃z:Int,0<=z/\di (xs.map V.int) (i:Int)=some (V.int z):=λi hi=>⟨xs[i]'(by lia),me _ (jH _),bo (by rw[dE,eC (by omega)];rfl)⟩
  have eN:∀z:Int,∃n∈ns,bb n=true/\di (ns.map λx=>V.str (S x)) (z%4)=some (V.str (S n)):=λz=>by
   have h0:=iC z (show (4:Int)≠0 by decide);have h1:=iz z (show (0:Int)<4 by decide);obtain⟨k,hk⟩:∃k:Nat,z%4=(k:Int):=⟨(z%4).toNat,by lia⟩;rw[hk]at h1 ⊢;exists ns[k]'(by lia),jH _,nM _ (jH _),bo (by rw[dE,eC (by omega)];rfl)
  obtain⟨x8,_,e8⟩:=eX 8 (by decide);obtain⟨x9,_,e9⟩:=eX 9 (by decide);obtain⟨wG,_,e10⟩:=eX 10 (by decide);obtain⟨x1,_,e1⟩:=eX 1 (by decide);obtain⟨x0,_,e0⟩:=eX 0 (by decide);obtain⟨vJ,_,zM⟩:=eX 11 (by decide);obtain⟨fi,lX,fQ,ef⟩:=eN x8;obtain⟨se,hse,oY,es⟩:=eN x9;obtain⟨nm,tK,mK,en⟩:=eN x1;have hnl2:(cV ls).length=ls.length:=by unfold cV;rw[av]
  obtain⟨k,gT,ni,ek⟩:∃k:Nat,k∈ls/\k<16/\di (cV ls) (wG%(((cV ls).length:Nat):Int))=some (V.int (k:Int)):=by
   have h0:=iC wG (show (((cV ls).length:Nat):Int)≠0 by lia);have h1:=iz wG (show (0:Int)<(((cV ls).length:Nat):Int) by lia);obtain⟨j,hj⟩:∃j:Nat,wG%(((cV ls).length:Nat):Int)=(j:Int):=⟨(wG%(((cV ls).length:Nat):Int)).toNat,by lia⟩;rw[hj]at h1 ⊢;have mJ:j<ls.length:=by lia
   nomatch ls[j],jH _,cM _ (jH _),bo (by unfold cV;rw[dE,eC mJ];rfl)
  obtain⟨kvs,hd,hk⟩:=id hD;have OU:∀(n:List Nat) (G:Hp),af H G->∀e,G e=some (.lst [])->∃(a0:Addr) (f:ar),(il kvs (Sum.inr (S n))).getD (.ref e)=.ref a0/\aI G a0 f/\f.length<=64/\((∀t∈f,t.2.natAbs<10^20)->my st n):=λn G sG e he=>by
   rcases lJ hk n with ⟨h1,h2⟩|⟨a0,f,h1,h2,h3⟩
   ·exact⟨e,[],(by rw[h1];rfl),⟨[],he,.nil⟩,bS _,λ_ l hl=>by rw[h2]at hl;cases hl⟩
   ·have hF:=dz bc h2;exact⟨a0,f,(by rw[h1];rfl),h3.keep sG,aW (hF.len bt) (by decide),λhs l hl=>by rw[h2]at hl;cases hl;exact hs⟩
  exists _,aj.of hX,e8,(by show (0:Int)<4;decide),_,aj.of hN,ef,?_;exists _,aj.of hX,e9,(by show (0:Int)<4;decide),_,aj.of hN,es,?_;exists _,aj.of hX,e10,b,_,rfl,.inl (aj.of hL),(by show (0:Int)<(((cV ls).length:Nat):Int);lia),_,aj.of hL,ek,?_;exists _,_,_,rfl,rfl,(by rw[kX,aG];show 16<=sizeLine;decide),(by rw[kX,gm];exact bo (A8 k ni)),?_;exists _,aj.of hX,e1,(by show (0:Int)<4;decide),_,aj.of hN,en,?_;exists _,aj.of hX,e0,(by show (0:Int)<8;decide),?_;exists λσ G=>∃v:Bool,σ=[some (.ref d),some (.ref a),some (.ref b),some (.ref x),some (.str (S fi)),some (.str (S se)),some (.int (k:Int)),some (.str (S [97+k])),some (.str (S nm)),some (.int (x0%8)),some (.bl v),none,none,none,none]/\(v=true->my st fi/\my st se)/\af H G,?_,?_
  ·exists d,rfl,.inl ⟨_,.inl hd⟩,bS _,λe he=>?_;have s0:af H (upd H e (.lst [])):=af.upd he;have y0:upd H e (.lst []) e=some (.lst []):=aq;obtain⟨a0,f0,ea,XO,hl0',Wy⟩:=OU fi _ s0 e y0;exists _,c8.k (k:=Sum.inr (S fi)) (s0 _ _ hd),a0,f0,(by rw[ea];rfl),XO,hl0',λb1 H1 gu s1=>?_;have S1:=s0.trans s1;exists b1,rfl,?_;cases b1 with
   |false=>exact eP ⟨_,rfl,(λz=>by cases z),S1⟩
   |true =>
    refine ff ?_;exists d,rfl,.inl ⟨_,.inl (S1 _ _ hd)⟩,bS _,λe2 jJ=>?_;have s2:af H1 (upd H1 e2 (.lst [])):=af.upd jJ;obtain⟨a1,f1,ea1,cg,GN,uI⟩:=OU se _ (S1.trans s2) e2 aq;exists _,c8.k (k:=Sum.inr (S se)) (s2 _ _ (S1 _ _ hd)),a1,f1,(by rw[ea1];rfl),cg,GN,λb2 H2 qo s3=>?_;nomatch _,rfl,(λz=>⟨Wy (gu rfl),uI (qo z)⟩),S1.trans (s2.trans s3)
  ·rintro σ G ⟨v,rfl,hv,sG⟩;have kY:=sG _ _ hX;have Di:=sG _ _ hL;have w0:=iC x0 (show (8:Int)≠0 by decide);have w8:=iz x0 (show (0:Int)<8 by decide);generalize x0%8=W at w0 w8;have ER:∀m:List Nat,nm.length+m.length<=2000->(S nm).length+(S m).length<=sizeLine:=λm hm=>by rw[aG,aG];exact cj (bH (by lia))
   obtain⟨m1,m2⟩:=cZ mK;exists _,rfl,?_;refine eR (λz=>?_) (λz=>?_)
   ·exists x,b,xs,ls,rfl,kY,⟨oQ,me⟩,Di,rE,bt,cM,λc f H1 uO hT hF kb h4 s1=>?_;have qQ:=hF.say cM;obtain⟨t1,t2⟩:=Dj (f:=f) (by lia) λt ht=>⟨qQ t ht,h4 t ht⟩
    exists _,_,rfl,rfl,(by rw[sN];exact ER _ (by show nm.length+3<=2000;lia)),c,f,rfl,hT,qQ,(by lia),λH2 s2=>⟨_,_,rfl,rfl,?_,?_⟩
    ·rw[sN,cG,aG,aG,aS];exact cj (bH (by show nm.length+3+(txt f).length<=_;lia))
    rw[sN,cG,cG];exists cY,λp3 ck=>⟨bK,λp2 cm=>?_⟩;have eL:(nm++[32,61,32])++txt f=(bh.form nm (txt f)).line:=by show _=nm++([32,61,32]++txt f);rw[fZ]
    refine q p2 p3 (.form nm (txt f)) _ aq (gW.keep ⟨.ref c,(by rw[aq,eL];rfl),c,f,rfl,(hT.keep s2).keep (af.upd ck),yp hF.1 qQ⟩ (af.upd cm)) ⟨mK,f,rfl,hF,kb,h4⟩ tK (λ_ _ _ y a z h=>by rw[(af.upd cm) _ _ aq]at h;cases h;exact kj sG uO) (sG.trans (s1.trans (s2.trans ((af.upd ck).trans (af.upd cm)))))
   have hW2:2<=W:=by have:=xW (xJ.mpr z);lia
   exists v,rfl,?_;cases v with
   |false =>
    refine aY rfl ?_;exists x,b,xs,ls,rfl,kY,⟨oQ,me⟩,Di,rE,bt,cM,λc f H1 uO hT hF kb h4 s1=>?_;have qQ:=hF.say cM;obtain⟨t1,t2⟩:=Dj (f:=f) (by omega) λt ht=>⟨qQ t ht,h4 t ht⟩
    exists _,_,rfl,rfl,(by rw[sN];exact ER _ (by show nm.length+3<=2000;omega)),c,f,rfl,hT,qQ,(by omega),λH2 s2=>⟨_,_,rfl,rfl,?_,?_⟩
    ·rw[sN,cG,aG,aG,aS];exact cj (bH (by show nm.length+3+(txt f).length<=_;omega))
    rw[sN,cG,cG];exists cY,λp3 ck=>⟨bK,λp2 cm=>?_⟩;have eL:(nm++[32,61,32])++txt f=(bh.form nm (txt f)).line:=by show _=nm++([32,61,32]++txt f);rw[fZ]
    refine q p2 p3 (.form nm (txt f)) _ aq (gW.keep ⟨.ref c,(by rw[aq,eL];rfl),c,f,rfl,(hT.keep s2).keep (af.upd ck),yp hF.1 qQ⟩ (af.upd cm)) ⟨mK,f,rfl,hF,kb,h4⟩ tK (λ_ _ _ y a z h=>by rw[(af.upd cm) _ _ aq]at h;cases h;exact kj sG uO) (sG.trans (s1.trans (s2.trans ((af.upd ck).trans (af.upd cm)))))
   |true =>
   refine aK (by decide) ?_;obtain⟨uI,pD⟩:=hv rfl;exists _,rfl,?_;refine eR (λz2=>?_) (λz2=>?_)
   ·obtain⟨ms,em,YD⟩:∃ms:List Int,gq (xs.map V.int) (some 2) (some 7)=ms.map V.int/\ms.length<=5:=by
     refine⟨(xs.drop 2).take 5,?_,by rw[dY];lia⟩;unfold gq;rw[show HT.sIx (xs.map V.int).length 0 (some 2)=2 from (HT.sIx_nat _ _ 2).trans (oK (by rw[av];lia)),show HT.sIx (xs.map V.int).length (xs.map V.int).length (some 7)=7 from (HT.sIx_nat _ _ 7).trans (oK (by rw[av];lia)),<-EM,<-EC]
    exists x,_,rfl,aj.of kY,λc2 tE=>?_;rw[em];have t1:af G (upd G c2 (.lst (ms.map V.int))):=af.upd tE;exists c2,b,ms,ls,rfl,aq,t1 _ _ Di,YD,iq,by lia,λvs sm H1 hI hok nO s1=>?_;have sJ:=sV sm;have jh:=qN sm;have uP:=sO hok;exists _,_,rfl,rfl,(by rw[Dv];exact ER _ (by show nm.length+4<=2000;lia)),vs,sm,rfl,hI,Sm.ok.imp (λk hk=>cM k hk) hok,(by lia),(by lia),λH2 s2=>⟨_,_,rfl,rfl,?_,?_⟩
    ·rw[Dv,cG,aG,aG,aS];exact cj (bH (by show nm.length+4+(bZ sm).length<=_;lia))
    rw[Dv,cG,cG];exists cY,λp3 ck=>⟨bK,λp2 cm=>?_⟩;have eL:(nm++[32,58,61,32])++bZ sm=(bh.stat nm sm).line:=by show _=nm++([32,58,61,32]++bZ sm);rw[fZ]
    exact q p2 p3 (.stat nm sm) _ aq (gW.keep ⟨vs,(by rw[aq,eL];rfl),(hI.keep s2).keep (af.upd ck)⟩ (af.upd cm)) ⟨mK,hok,nO⟩ tK (λ_ _ z=>by cases z) (sG.trans (t1.trans (s1.trans (s2.trans ((af.upd ck).trans (af.upd cm))))))
   have w3:W≠2:=λy=>z2 (by rw[y];simp)
   exists _,rfl,?_;refine eR (λz3=>?_) (λz3=>?_)
   ·have b0:=iC vJ (show (2:Int)≠0 by decide);have b1:=iz vJ (show (0:Int)<2 by decide);obtain⟨B,eB,hB⟩:∃B:Nat,vJ%2=(B:Int)/\B<2:=⟨(vJ%2).toNat,by lia,by lia⟩;exists rfl,_,aj.of kY,zM,(by show (0:Int)<2;decide),?_;dsimp only;rw[eB];exists _,rfl,BK (dH hB (by decide)),?_;rw[qS,AV (by lia),F3,ZS];exists EB,λe he=>?_;generalize eU:upd G e _=H1;have s1:=(nw eU he).1;have y1:H1 e=some (.lst (([nm,[61],ji,fi,[97+k],[48+B]].map S).map V.str)):=(nw eU he).2;exists _,e,[nm,[61],ji,fi,[97+k],[48+B]].map S,rfl,rfl,aj.of y1,?_,?_
    ·have:=BO [nm,[61],ji,fi,[97+k],[48+B]] (λw hw=>by
      have:w=nm\/w=[61]\/w=ji\/w=fi\/w=[97+k]\/w=[48+B]:=by simpa using hw
      rcases this with rfl|rfl|rfl|rfl|rfl|rfl
      ·exact m1
      ·decide
      ·decide
      ·exact (cZ fQ).1
      ·simp
      ·simp)
     rw[gI,aG];simp only[av,br,mj]at this ⊢;lia
    rw[gI,rb];exists _,aj.of (s1 _ _ kY),zM,(by show (0:Int)<2;decide),?_;dsimp only;rw[eB];exists cY,λp4 iB=>⟨cY,λp3 ck=>⟨bK,λp2 cm=>?_⟩⟩;exact q p2 p3 (.fixd nm fi k (B:Int)) _ aq (gW.keep ⟨.ref p4,(by rw[aq];rfl),p4,rfl,(af.upd ck) _ _ aq⟩ (af.upd cm)) ⟨mK,fQ,ni,by lia,uI⟩ tK (λ_ _ z=>by cases z) (sG.trans (s1.trans ((af.upd iB).trans ((af.upd ck).trans (af.upd cm)))))
   have w4:W≠3:=λy=>z3 (by rw[y];simp)
   exists _,rfl,?_;refine eR (λz4=>?_) (λz4=>?_)
   ·exists cY,λp4 iB=>?_;generalize eU:upd G p4 _=G1;obtain⟨s0,y0⟩:=nw eU iB;exists rfl,?_;rw[F3,zbl];exists EB,λe he=>?_;generalize eU:upd G1 e _=H1;have s1:=(nw eU he).1;have y1:H1 e=some (.lst (([nm,[61],jk,fi,[97+k],se].map S).map V.str)):=(nw eU he).2;exists _,e,[nm,[61],jk,fi,[97+k],se].map S,rfl,rfl,aj.of y1,?_,?_
    ·have:=BO [nm,[61],jk,fi,[97+k],se] (λw hw=>by
      have:w=nm\/w=[61]\/w=jk\/w=fi\/w=[97+k]\/w=se:=by simpa using hw
      rcases this with rfl|rfl|rfl|rfl|rfl|rfl
      ·exact m1
      ·decide
      ·decide
      ·exact (cZ fQ).1
      ·simp
      ·exact (cZ oY).1)
     rw[gI,aG];simp only[av,br,mj]at this ⊢;lia
    rw[gI,rb];exists cY,λp3 ck=>⟨bK,λp2 cm=>?_⟩;exact q p2 p3 (.put nm fi k se) _ aq (gW.keep ⟨.ref p4,(by rw[aq];rfl),p4,rfl,(af.upd ck) _ _ (s1 _ _ y0)⟩ (af.upd cm)) ⟨mK,fQ,oY,ni,uI,pD⟩ tK (λ_ _ z=>by cases z) (sG.trans (s0.trans (s1.trans ((af.upd ck).trans (af.upd cm)))))
   have w5:W≠4:=λy=>z4 (by rw[y];simp)
   exists cY,λe0 ju=>?_;generalize eU:upd G e0 _=G0;obtain⟨t0,r0⟩:=nw eU ju;obtain⟨wo,UY,eW⟩:∃wo:Nat,wo<3/\W-5=(wo:Int):=⟨(W-5).toNat,by lia,by lia⟩;have eo:di [V.str "plus",V.str "less",V.str "times"] (W-5)=some (V.str (gG wo)):=by
    rw[eW];obtain rfl|rfl|rfl:wo=0\/wo=1\/wo=2:=by lia
    all_goals rfl
   exists _,aj.of r0,eo,?_;have eS:gG wo=S (gR wo):=(wl_S (.two wo nm fi se)).symm;have ol:(gR wo).length<=8:=by
    obtain rfl|rfl|rfl:wo=0\/wo=1\/wo=2:=by omega
    all_goals decide
   exists bK,λp4 iB=>?_;generalize eU:upd G0 p4 _=G1;obtain⟨s0,y0⟩:=nw eU iB;exists rfl,?_;rw[F3];exists (by show 5<=sizeLine;decide),λe he=>?_;generalize eU:upd G1 e _=H1;have s1:=(nw eU he).1;have y1:H1 e=some (.lst (([nm,[61],gR wo,fi,se].map S).map V.str)):=by rw[(nw eU he).2,eS];rfl
   exists _,e,[nm,[61],gR wo,fi,se].map S,rfl,rfl,aj.of y1,?_,?_
   ·have:=BO [nm,[61],gR wo,fi,se] (λw hw=>by
     have:w=nm\/w=[61]\/w=gR wo\/w=fi\/w=se:=by simpa using hw
     rcases this with rfl|rfl|rfl|rfl|rfl
     ·exact m1
     ·decide
     ·exact ol
     ·exact (cZ fQ).1
     ·exact (cZ oY).1)
    rw[gI,aG];simp only[av,br,mj]at this ⊢;lia
   rw[gI,rb];exists cY,λp3 ck=>⟨bK,λp2 cm=>?_⟩;exact q p2 p3 (.two wo nm fi se) _ aq (gW.keep ⟨.ref p4,(by rw[aq];rfl),p4,rfl,(af.upd ck) _ _ (s1 _ _ y0)⟩ (af.upd cm)) ⟨mK,fQ,oY,UY,uI,pD⟩ tK (λ_ _ z=>by cases z) (sG.trans (t0.trans (s0.trans (s1.trans ((af.upd ck).trans (af.upd cm))))))
inductive W6 where
 |shw|wor|ali|rst|unk|way
noncomputable def W6.s:W6->Str
 |.shw => "show" |.wor => "worth" |.ali => "alike" |.rst => "rest" |.unk => "unknowns" |.way => "ways"
noncomputable def w8:List V:=[.str "show",.str "worth",.str "alike",.str "rest",.str "unknowns",.str "ways",.str "ways",.str "worth"]
def zci(h:k<8):∃w:W6,w8[k]?=some (.str w.s):=by
 obtain rfl|rfl|rfl|rfl|rfl|rfl|rfl|rfl:k=0\/k=1\/k=2\/k=3\/k=4\/k=5\/k=6\/k=7:=by lia
 all_goals first|exact⟨.shw,rfl⟩|exact⟨.wor,rfl⟩|exact⟨.ali,rfl⟩|exact⟨.rst,rfl⟩|exact⟨.unk,rfl⟩|nomatch .way,rfl
def V5(K:Frag):Sp:=λvs H Q _=>∃(a b:Addr) (eQ:List (List Nat)) (xs:List Int),vs=[.ref a,.ref b]/\H a=some (.lst (eQ.map λn=>V.str (S n)))/\H b=some (.lst (xs.map V.int))/\eQ.length=4/\(∀n∈eQ,bb n=true)/\xs.length=12/\(∀x∈xs,0<=x/\x<2^28) /\
 ∀(e:Addr) (q:Ask) (H':Hp),C6 H' e q->q.ok->af H H'->Q (.ref e) H'
def zbj(T:Txt w K mg):Ho.Ok P w K mg base 1 (V5 K):=by
  refine Rw.ok T.d_Z46.F T.d_Z46.S ?_;rintro vs H Q E ⟨a,b,eQ,xs,rfl,hN,hX,jh,nM,oQ,me,q⟩;refine⟨rfl,fun _ _ _ _ hr hu nd=>⟨_,(ak (aD 2 nd (xL (pV 0) (az bQ.c (xL (pV 1) ai) ai))) (ak (aD 3 nd (xL (pV 0) (az bQ.c (xL (pV 1) ai) ai))) (ak (ke (aD 4 nd (xL (bq (aa au (aa au (aa au (aa au (aa au (aa au (aa au (aa au ag))))))))) (az bQ.c (xL (pV 1) ai) ai)))) (ak (bO (bM aV (pV 4) au) (ak (aD 5 nd (xL (bq (aa (az bQ.c (xL (pV 1) ai) ai) (aa (az bQ.c (az fW.c (xL (pV 1) ai) ai) (az tN.c ai ai)) ag))) (az bQ.c (xL (pV 1) ai) ai))) (ao (aA (bz (aa (pV 4) (aa (bz (aa (pV 2) (aa (pV 5) ag))) (aa (bY fq lT lD lF au (aa (bq (aa (pV 4) (aa (pV 2) (aa (gE lj rfl T.n_str kU (aa (pV 5) ag)) ag)))) ag)) ag))))))) aM) (ak (bO (bM aV (pV 4) au) (ao (aA (bz (aa (pV 4) (aa (bz (aa (pV 2) (aa (pV 3) ag))) (aa (bY fq lT lD lF au (aa (bq (aa (pV 4) (aa (pV 2) (aa (pV 3) ag)))) ag)) ag)))))) aM) (ak (bO (bM aV (pV 4) au) (ak (aD 6 nd (xL (bq (aa (az fz.j ai (az bQ.c (xL (pV 1) ai) ai)) (aa (az fz.j (az tN.c ai ai) (xL (pV 1) ai)) ag))) (az gU.c (az bQ.c (xL (pV 1) ai) ai) ai))) (ao (aA (bz (aa (pV 4) (aa (bz (aa (pV 2) (aa (pV 3) (aa (pV 6) ag)))) (aa (bY fq lT lD lF au (aa (bq (aa (pV 4) (aa (pV 2) (aa (pV 3) (aa (gE lj rfl T.n_str kU (aa (pV 6) ag)) ag))))) ag)) ag))))))) aM) (ao (aA (bz (aa (pV 4) (aa (bz (aa (pV 2) ag)) (aa (az gc (az gc (pV 4) au) (pV 2)) ag)))))))))))),?_⟩⟩
  have eX:∀i:Nat,i<12->∃z:Int,0<=z/\z<2^28/\di (xs.map V.int) (i:Int)=some (V.int z):=λi hi=>⟨xs[i]'(by lia),(me _ (jH _)).1,(me _ (jH _)).2,bo (by rw[dE,eC (by omega)];rfl)⟩
  have eN:∀z:Int,∃n,bb n=true/\di (eQ.map λx=>V.str (S x)) (z%4)=some (V.str (S n)):=λz=>by
   have h0:=iC z (show (4:Int)≠0 by decide);have h1:=iz z (show (0:Int)<4 by decide);obtain⟨k,hk⟩:∃k:Nat,z%4=(k:Int):=⟨(z%4).toNat,by lia⟩;rw[hk]at h1 ⊢;exists eQ[k]'(by lia),nM _ (jH _),bo (by rw[dE,eC (by omega)];rfl)
  obtain⟨x0,_,_,e0⟩:=eX 0 (by decide);obtain⟨x1,_,_,e1⟩:=eX 1 (by decide);obtain⟨x2,_,_,e2⟩:=eX 2 (by decide);obtain⟨x3,p3,u3,e3⟩:=eX 3 (by decide);obtain⟨x4,_,_,e4⟩:=eX 4 (by decide);obtain⟨fi,fQ,ef⟩:=eN x1;obtain⟨se,oY,es⟩:=eN x2;exists _,aj.of hX,e1,(by show (0:Int)<4;decide),_,aj.of hN,ef,?_;exists _,aj.of hX,e2,(by show (0:Int)<4;decide),_,aj.of hN,es,?_;exists λσ G=>∃w:W6,σ=[some (.ref a),some (.ref b),some (.str (S fi)),some (.str (S se)),some (.str w.s),none,none]/\af H G,?_,?_
  ·exists (by show 8<=sizeLine;decide),λl0 iq=>?_;have s0:af H (upd H l0 (.lst w8)):=af.upd iq;have h0:=iC x0 (show (8:Int)≠0 by decide);have h1:=iz x0 (show (0:Int)<8 by decide);obtain⟨k,hk⟩:∃k:Nat,x0%8=(k:Int):=⟨(x0%8).toNat,by lia⟩;obtain⟨w,hw⟩:=zci (k:=k) (by lia);nomatch _,aj.of (s0 _ _ hX),e0,(by show (0:Int)<8;decide),_,aj.of aq,(by rw[hk];exact bo hw),w,rfl,s0
  ·rintro σ G ⟨w,rfl,sG⟩;have kY:=sG _ _ hX;have kb:=(cZ fQ).1;cases w with
   |wor =>
    refine vy ?_;exists _,aj.of kY,e3,(by show (0:Int)<65536;decide),_,aj.of kY,e3,kN (by decide) (by decide),⟨by decide,by decide,by decide⟩,(by show (0:Int)<10^Int.toNat 18;decide),bK,λl1 ft=>?_;have s1:af G (upd G l1 (.lst [.int (x3%65536),.int (x3*1000003%10^Int.toNat 18)])):=af.upd ft;have y1:upd G l1 (.lst [.int (x3%65536),.int (x3*1000003%10^Int.toNat 18)]) l1=_:=aq;dsimp only;generalize upd G l1 (.lst [.int (x3%65536),.int (x3*1000003%10^Int.toNat 18)])=G1 at s1 y1 ⊢;obtain⟨g,hg,eg⟩:∃g:Nat,g<10^18/\di [V.int (x3%65536),V.int (x3*1000003%10^Int.toNat 18)] (x4%2)=some (V.int (g:Int)):=by
     have Oy:(10:Int)^Int.toNat 18=1000000000000000000:=by decide
     rcases (show x4%2=0\/x4%2=1 by lia)with z|z
     ·exact⟨(x3%65536).toNat,by lia,by rw[z];exact bo (j:=0) (by rw[gF (by lia)];rfl)⟩
     ·exact⟨(x3*1000003%10^Int.toNat 18).toNat,by rw[Oy];lia,by rw[z];exact bo (j:=1) (by rw[gF (by rw[Oy];lia)];rfl)⟩
    exists _,aj.of (s1 _ _ kY),e4,(by show (0:Int)<2;decide),_,aj.of y1,eg,?_;exists bK,λp4 iB=>?_;generalize eU:upd G1 p4 _=G2;obtain⟨s2,y2⟩:=nw eU iB;exists rfl,_,rfl,vE (n:=1920) (by rw[tM];exact px hg (by decide+kernel)) (by decide),?_;rw[qS];exists cY,λe he=>?_;generalize eU:upd G2 e _=G3;have s3:=(nw eU he).1;have y3:G3 e=some (.lst ((((Ask.wor fi g).wl::(Ask.wor fi g).ws).map S).map V.str)):=by rw[(nw eU he).2];show _=some (HO.lst [.str (S (Ask.wor fi g).wl),.str (S fi),.str (S (bX g))]);rw[Ask.wl_S];rfl
    exists _,e,((Ask.wor fi g).wl::(Ask.wor fi g).ws).map S,rfl,rfl,aj.of y3,?_,?_
    ·have:=AF 18 ((Ask.wor fi g).wl::(Ask.wor fi g).ws) (λw hw=>by
      rcases (show w=(Ask.wor fi g).wl\/w=fi\/w=bX g by simpa [Ask.ws] using hw)with rfl|rfl|rfl
      ·show 5<=18;decide
      ·exact aW (cZ fQ).1 (by decide)
      ·exact oA (k:=17) hg)
     rw[gI,aG];simp only[av,br,mj,Ask.ws]at this ⊢;lia
    rw[gI,rb];nomatch cY,λp3 ck=>q p3 (Ask.wor fi g) _ ⟨p4,aq,(af.upd ck) _ _ (s3 _ _ y2)⟩ ⟨fQ,hg⟩ (sG.trans ((s1.trans s2).trans (s3.trans (af.upd ck))))
   |ali =>
    refine vn ?_;refine vy ?_;exists bK,λp4 iB=>?_;generalize eU:upd G p4 _=G2;obtain⟨s2,y2⟩:=nw eU iB;exists rfl,?_;exists cY,λe he=>?_;generalize eU:upd G2 e _=G3;have s3:=(nw eU he).1;have y3:G3 e=some (.lst ((((Ask.ali fi se).wl::(Ask.ali fi se).ws).map S).map V.str)):=by rw[(nw eU he).2];show _=some (HO.lst [.str (S (Ask.ali fi se).wl),.str (S fi),.str (S se)]);rw[Ask.wl_S];rfl
    exists _,e,((Ask.ali fi se).wl::(Ask.ali fi se).ws).map S,rfl,rfl,aj.of y3,?_,?_
    ·have:=AF 18 ((Ask.ali fi se).wl::(Ask.ali fi se).ws) (λw hw=>by
      rcases (show w=(Ask.ali fi se).wl\/w=fi\/w=se by simpa [Ask.ws] using hw)with rfl|rfl|rfl
      ·show 5<=18;decide
      ·exact aW (cZ fQ).1 (by decide)
      ·exact aW (cZ oY).1 (by decide))
     rw[gI,aG];simp only[av,br,mj,Ask.ws]at this ⊢;lia
    rw[gI,rb];nomatch cY,λp3 ck=>q p3 (Ask.ali fi se) _ ⟨p4,aq,(af.upd ck) _ _ (s3 _ _ y2)⟩ ⟨fQ,oY⟩ (sG.trans (s2.trans (s3.trans (af.upd ck))))
   |rst =>
    refine vn ?_;refine vn ?_;refine vy ?_;exists _,aj.of kY,e3,(by show (0:Int)<12;decide),⟨by decide,by decide,by decide⟩,_,aj.of kY,e3,bK,λl1 ft=>?_;have s1:af G (upd G l1 (.lst [.int (1+x3%12),.int (10^Int.toNat 17+x3)])):=af.upd ft;have y1:upd G l1 (.lst [.int (1+x3%12),.int (10^Int.toNat 17+x3)]) l1=_:=aq;dsimp only;generalize upd G l1 (.lst [.int (1+x3%12),.int (10^Int.toNat 17+x3)])=G1 at s1 y1 ⊢;obtain⟨m,HA,hm,em⟩:∃m:Nat,0<m/\m<10^18/\di [V.int (1+x3%12),V.int (10^Int.toNat 17+x3)] (x4%4/3)=some (V.int (m:Int)):=by
     have Hh:(10:Int)^Int.toNat 17=100000000000000000:=by decide
     rcases (show x4%4/3=0\/x4%4/3=1 by lia)with z|z
     ·exact⟨(1+x3%12).toNat,by lia,by lia,by rw[z];exact bo (j:=0) (by rw[gF (by lia)];rfl)⟩
     ·exact⟨(10^Int.toNat 17+x3).toNat,by rw[Hh];lia,by rw[Hh];lia,by rw[z];exact bo (j:=1) (by rw[gF (by rw[Hh];lia)];rfl)⟩
    exists _,aj.of (s1 _ _ kY),e4,(by show (0:Int)<4;decide),iU (by decide) (by decide),_,aj.of y1,em,?_;exists cY,λp4 iB=>?_;generalize eU:upd G1 p4 _=G2;obtain⟨s2,y2⟩:=nw eU iB;exists rfl,_,rfl,vE (n:=1920) (by rw[tM];exact px hm (by decide+kernel)) (by decide),?_;rw[qS];exists AM,λe he=>?_;generalize eU:upd G2 e _=G3;have s3:=(nw eU he).1;have y3:G3 e=some (.lst ((((Ask.rst fi se m).wl::(Ask.rst fi se m).ws).map S).map V.str)):=by rw[(nw eU he).2];show _=some (HO.lst [.str (S (Ask.rst fi se m).wl),.str (S fi),.str (S se),.str (S (bX m))]);rw[Ask.wl_S];rfl
    exists _,e,((Ask.rst fi se m).wl::(Ask.rst fi se m).ws).map S,rfl,rfl,aj.of y3,?_,?_
    ·have:=AF 18 ((Ask.rst fi se m).wl::(Ask.rst fi se m).ws) (λw hw=>by
      rcases (show w=(Ask.rst fi se m).wl\/w=fi\/w=se\/w=bX m by simpa [Ask.ws] using hw)with rfl|rfl|rfl|rfl
      ·show 4<=18;decide
      ·exact aW (cZ fQ).1 (by decide)
      ·exact aW (cZ oY).1 (by decide)
      ·exact oA (k:=17) hm)
     rw[gI,aG];simp only[av,br,mj,Ask.ws]at this ⊢;lia
    rw[gI,rb];nomatch cY,λp3 ck=>q p3 (Ask.rst fi se m) _ ⟨p4,aq,(af.upd ck) _ _ (s3 _ _ y2)⟩ ⟨fQ,oY,HA,hm⟩ (sG.trans ((s1.trans s2).trans (s3.trans (af.upd ck))))
   |shw =>
    refine vn ?_;refine vn ?_;refine vn ?_;exists du,λp4 iB=>?_;have s2:af G (upd G p4 (.tup [.str (S fi)])):=af.upd iB;exists _,_,rfl,rfl,?_,_,_,rfl,rfl,?_,?_
    ·exact (by decide+kernel:(W6.shw.s).length+(ofString " ").length<=sizeLine)
    ·rw[gI,show W6.shw.s=S (Ask.shw fi).wl from (Ask.wl_S (.shw fi)).symm,cG,aG,aG,aS];exact aW (show 4+1+fi.length<=100 by lia) (by decide)
    rw[gI,show W6.shw.s=S (Ask.shw fi).wl from (Ask.wl_S (.shw fi)).symm,cG,cG];exists cY,λp3 ck=>q p3 (Ask.shw fi) _ ⟨p4,?_,(af.upd ck) _ _ aq⟩ fQ (sG.trans (s2.trans (af.upd ck)));rw[aq,Ask.wl_S,fZ];rfl
   |unk =>
    refine vn ?_;refine vn ?_;refine vn ?_;exists du,λp4 iB=>?_;have s2:af G (upd G p4 (.tup [.str (S fi)])):=af.upd iB;exists _,_,rfl,rfl,?_,_,_,rfl,rfl,?_,?_
    ·exact (by decide+kernel:(W6.unk.s).length+(ofString " ").length<=sizeLine)
    ·rw[gI,show W6.unk.s=S (Ask.unk fi).wl from (Ask.wl_S (.unk fi)).symm,cG,aG,aG,aS];exact aW (show 8+1+fi.length<=100 by lia) (by decide)
    rw[gI,show W6.unk.s=S (Ask.unk fi).wl from (Ask.wl_S (.unk fi)).symm,cG,cG];exists cY,λp3 ck=>q p3 (Ask.unk fi) _ ⟨p4,?_,(af.upd ck) _ _ aq⟩ fQ (sG.trans (s2.trans (af.upd ck)));rw[aq,Ask.wl_S,fZ];rfl
   |way =>
    refine vn ?_;refine vn ?_;refine vn ?_;exists du,λp4 iB=>?_;have s2:af G (upd G p4 (.tup [.str (S fi)])):=af.upd iB;exists _,_,rfl,rfl,?_,_,_,rfl,rfl,?_,?_
    ·exact (by decide+kernel:(W6.way.s).length+(ofString " ").length<=sizeLine)
    ·rw[gI,show W6.way.s=S (Ask.way fi).wl from (Ask.wl_S (.way fi)).symm,cG,aG,aG,aS];exact aW (show 4+1+fi.length<=100 by omega) (by decide)
    rw[gI,show W6.way.s=S (Ask.way fi).wl from (Ask.wl_S (.way fi)).symm,cG,cG];exists cY,λp3 ck=>q p3 (Ask.way fi) _ ⟨p4,?_,(af.upd ck) _ _ aq⟩ fQ (sG.trans (s2.trans (af.upd ck)));rw[aq,Ask.wl_S,fZ];rfl
noncomputable def Kg:List V:=[.str "form",.str "statement",.str "fixed",.str "put",.str "plus",.str "less",.str "times"]
def zaM(K:Frag):Sp:=λvs H Q _=>∃(e:Addr) (w:Str) (x y:V),vs=[.ref e]/\H e=some (.tup [.str w,x,y])/\∀H',af H H'->Q (.bl (gf (.str w) Kg)) H'
def B3(T:Txt w K mg):Cb.Ok P w K mg base 1 (zaM K):=by
  refine Rw.ok T.d_Z34.F T.d_Z34.S ?_;rintro vs H Q E ⟨e,w0,x,y,rfl,he,q⟩;exists rfl,λ_ _ _ _ hr hu nd=>⟨_,(ao (aA (tL nY (xT (pV 0) ai) (bq (aa au (aa au (aa au (aa au (aa au (aa au (aa au ag)))))))) rfl))),?_⟩;exists _,ay.of he,rfl,(by show 7<=sizeLine;decide),λl hl=>?_;nomatch l,_,rfl,.inl (aj.of aq),rfl,rfl,q _ (af.upd hl)
def zax:Sp:=λvs H Q _=>∃w:List Nat,vs=[.str (S w)]/\(∀c∈w,c<128)/\w.length<=10000/\∀H',af H H'->Q (.bl (bb w)) H'
def V6:(["letter"]:List Str).Nodup:=by decide+kernel
def Ph(T:Txt w K mg):Bs.Ok P w K mg base 1 zax:=by
  refine Rw.ok T.d_Z21.F T.d_Z21.S ?_;rintro vs H Q E ⟨wo,rfl,ha,hl,q⟩;refine⟨rfl,fun _ _ _ _ hr hu nd=>⟨_,(ao (aA (su (Ik rO.j rO.j ai (bD m8 (by rfl) T.n_len dI (aa (pV 0) ag)) ai) (qu (bD (Ng rfl) (by rfl) T.n_all PyProof.Rows.boot_all (aa (eO (g:=(a8 0)) ["letter"] 1 [] rfl (dC Bs) (A5 (pV 0))
    (λcl C s₀ H₀ fp=>(aN 0 V6)) (λcl C s₀ H₀ fp=>jO) (λcl C s₀ H₀ fp=>(tL B7 (pV 0) (fA (v:=.str "abcdefghijklmnopqrstuvwxyz") (by rfl) T.g_SMALL_LETTERS ⟨_,rfl⟩) rfl))) ag)))))),?_⟩⟩
  have hz:(S wo).length<=sizeLine:=by rw[aG];exact ix (by lia)
  exists _,rfl,hz,_,rfl,?_;by_cases h1:1<=wo.length
  rotate_left
  ·refine aK (λy=>h1 (by have:=bG y;rw[aG]at this;lia)) ⟨_,rfl,aK (by decide) ?_⟩;have e:bb wo=false:=by unfold bb;rw[bj h1];rfl
   rw[e]at q;exact q H (af.refl _)
  refine aY (aR (by rw[aG];lia)) ⟨_,rfl,?_⟩;by_cases h2:wo.length<=8
  rotate_left
  ·refine aK (λy=>h2 (by have:=bG y;rw[aG]at this;lia)) ?_;have e:bb wo=false:=by unfold bb;rw[bj h2,zJ,tQ]
   rw[e]at q;exact q H (af.refl _)
  refine aY (aR (by rw[aG];lia)) ?_;have e:bb wo=(wo.map λc=>decide (97<=c/\c<123)).all id:=by unfold bb;rw[aR h1,aR h2,uC,uC,List.all_map];rfl
  rw[e]at q;exists _,rfl,zy ha,?_;refine JS (l:=wo) (λi ys σ G=>∃v0,σ=[v0]/\ys=((wo.take i).map λc=>decide (97<=c/\c<123)).map V.bl/\G=H)
   ⟨none,rfl,rfl,rfl⟩ (λi ys σ G ⟨_,_,e1,_⟩=>by rw[e1];simp;lia) (by rw[<-aG];exact hz) ?_ ?_
  ·rintro i c ys σ G hc ⟨v0,rfl,rfl,rfl⟩;have bP:wo.take (i+1)=wo.take i++[c]:=by rw[dU,hc];rfl
   unfold a8;refine tt ?_;exists _,_,rfl,rfl,?_;rw[Nj,VF c (ha c (dr hc))];exists _,rfl,?_,rfl;rw[bP,aT,aT];rfl
  ·rintro ys σ G ⟨v0,rfl,rfl,rfl⟩ D hD;rw[dO];nomatch D,_,rfl,aj.of aq,q _ (af.upd hD)
def Sf:Sp:=λvs H Q _=>∃w:List Nat,vs=[.str (S w)]/\(∀c∈w,c<128)/\w.length<=10000/\∀H',af H H'->Q (.bl (fR w)) H'
def zac(l:List Nat):Txt.startswith (S l) (S [48])=decide (l.head?=some 48):=by
 unfold Txt.startswith;rw[B1,gm,gm,aG,aG];cases l with
 |nil=>rfl
 |cons c r =>
  by_cases z:c=48
  ·subst z;simp
  ·simp[z]
def zbP:(["figure"]:List Str).Nodup:=by decide+kernel
def Zg(T:Txt w K mg):Bq.Ok P w K mg base 1 Sf:=by
  refine Rw.ok T.d_Z22.F T.d_Z22.S ?_;rintro vs H Q E ⟨wo,rfl,ha,hl,q⟩;refine⟨rfl,fun _ _ _ _ hr hu nd=>⟨_,(ak (bp (gk (bY fq Fb Fi JM (pV 0) (aa au ag))) (ao (aA (km aV (pV 0) au))) aM)
   (ao (aA (su (Ik rO.j rO.j ai (bD m8 (by rfl) T.n_len dI (aa (pV 0) ag)) ai) (qu (bD (Ng rfl) (by rfl) T.n_all PyProof.Rows.boot_all (aa (eO (g:=(a8 0)) ["figure"] 1 [] rfl (dC Bq) (A5 (pV 0))
    (λcl C s₀ H₀ fp=>(aN 0 zbP)) (λcl C s₀ H₀ fp=>jO) (λcl C s₀ H₀ fp=>(tL B7 (pV 0) (fA (v:=.str "0123456789") (by rfl) T.g_FIGURES ⟨_,rfl⟩) rfl))) ag))))))),?_⟩⟩
  have hz:(S wo).length<=sizeLine:=by rw[aG];exact ix (by omega)
  exists rfl,_,_,rfl,rfl,_,rfl,?_;rw[jW,zac];by_cases h0:wo.head?=some 48
  ·refine aY (aR h0) ?_;have e:fR wo=decide (V.str (S wo)=V.str (ofString "0")):=by
    unfold fR;rw[aB h0,jW];by_cases z:wo=[48]
    ·rw[z,aR rfl,aR rfl]
    ·rw[bj z,bj (λy=>z (by injection y with y;exact eG y))]
   rw[e]at q;exact q H (af.refl _)
  refine aK (λy=>h0 (bG y)) ?_;exists _,rfl,hz,_,rfl,?_;by_cases h1:1<=wo.length
  rotate_left
  ·refine aK (λy=>h1 (by have:=bG y;rw[aG]at this;omega)) ⟨_,rfl,aK (by decide) ?_⟩;have e:fR wo=false:=by unfold fR;rw[ax h0,bj h1];rfl
   rw[e]at q;exact q H (af.refl _)
  refine aY (aR (by rw[aG];omega)) ⟨_,rfl,?_⟩;by_cases h2:wo.length<=18
  rotate_left
  ·refine aK (λy=>h2 (by have:=bG y;rw[aG]at this;lia)) ?_;have e:fR wo=false:=by unfold fR;rw[ax h0,bj h2,zJ,tQ]
   rw[e]at q;exact q H (af.refl _)
  refine aY (aR (by rw[aG];lia)) ?_;have e:fR wo=(wo.map λc=>decide (48<=c/\c<58)).all id:=by unfold fR;rw[ax h0,aR h1,aR h2,uC,uC,List.all_map];rfl
  rw[e]at q;exists _,rfl,zy ha,?_;refine JS (l:=wo) (λi ys σ G=>∃v0,σ=[v0]/\ys=((wo.take i).map λc=>decide (48<=c/\c<58)).map V.bl/\G=H)
   ⟨none,rfl,rfl,rfl⟩ (λi ys σ G ⟨_,_,e1,_⟩=>by rw[e1];simp;omega) (by rw[<-aG];exact hz) ?_ ?_
  ·rintro i c ys σ G hc ⟨v0,rfl,rfl,rfl⟩;have bP:wo.take (i+1)=wo.take i++[c]:=by rw[dU,hc];rfl
   unfold a8;refine tt ?_;exists _,_,rfl,rfl,?_;rw[ML,WM c (ha c (dr hc))];exists _,rfl,?_,rfl;rw[bP,aT,aT];rfl
  ·rintro ys σ G ⟨v0,rfl,rfl,rfl⟩ D hD;rw[dO];nomatch D,_,rfl,aj.of aq,q _ (af.upd hD)
def zca(w:List Nat):fc .letter w=(decide (w.length=1)&&w.all λc=>decide (97<=c/\c<113)):=rfl
def D4(w:List Nat):fc .bit w=(decide (w=[48]) || decide (w=[49])):=rfl
def CJ(w:List Nat):fc .divisor w=(fR w && !decide (w=[48])):=rfl
def L8{w:List Nat}(h:fR w=true):NumText.AllDigits w/\w≠[]/\w.length<=18:=by
 unfold fR at h;split at h
 ·rw[bG h];exact⟨λc hc=>by rw[bu.mp hc];decide,by simp,by simp⟩
 ·simp only[gz,yc]at h;nomatch λc hc=>by have:=bG (jf.mp h.2.2 c hc);lia,λz=>by rw[z]at h;simp at h,h.2.1
def RS{w:List Nat}(h:NumText.AllDigits w)(h1:w≠[])(h2:w.length<=18):intText? (S w)=some ((digitsVal w:Nat):Int):=intText_digits (x:=S w) h h1 (by rw[aG];lia)
def Rv:Sp:=λvs H Q _=>∃(k:Kd) (w:List Nat),vs=[.str k.s,.str (S w)]/\(∀c∈w,c<128)/\w.length<=10000/\∀H',af H H'->Q (.bl (fc k w)) H'
def Wh(T:Txt w K mg):DQ.Ok P w K mg base 2 Rv:=by
  refine Rw.ok T.d_Z23.F T.d_Z23.S ?_;rintro vs H Q E ⟨k,wo,rfl,ha,hl,q⟩;refine⟨rfl,fun _ _ _ _ hr hu nd=>⟨_,(ak (bO (bM aV (pV 0) au) (ao (aA (aC T.d_Z21 (Ph T) hr (aa (pV 1) ag)))) aM) (ak (bO (bM aV (pV 0) au) (ao (aA (su (km aV (bD m8 (by rfl) T.n_len dI (aa (pV 1) ag)) ai) (qu (tL B7 (pV 1) (fA (v:=.str "abcdefghijklmnop") (by rfl) T.g_LETTERS ⟨_,rfl⟩) rfl))))) aM)
   (ak (bO (bM aV (pV 0) au) (ao (aA (Ro (km aV (pV 1) au) (qu (km aV (pV 1) au))))) aM) (ao (aA (su (aC T.d_Z22 (Zg T) hr (aa (pV 1) ag)) (qu (zbX (su (km aV (pV 0) au) (qu (km aV (pV 1) au))))))))))),?_⟩⟩
  have hz:(S wo).length<=sizeLine:=by rw[aG];exact ix (by omega)
  cases k with
  |name =>
   refine vy ?_;nomatch wo,rfl,ha,hl,λH1 s1=>q H1 s1
  |letter =>
   refine vn ?_;refine vy ?_;exists _,rfl,hz,_,rfl,?_;by_cases h1:wo.length=1
   ·obtain⟨c,rfl⟩:=List.length_eq_one_iff.mp h1;refine aY (by rw[aG];exact aR rfl) ?_;exists _,_,rfl,rfl,?_;rw[kX,Wo c (ha c (by simp))];have e:fc .letter [c]=decide (97<=c/\c<113):=by unfold fc;simp
    rw[e]at q;exact q H (af.refl _)
   ·refine aK (by rw[aG];exact λy=>h1 (by have:=bG y;injection this with this;lia)) ?_;have e:fc .letter wo=false:=by rw[zca];rw[bj h1];rfl
    rw[e]at q;exact q H (af.refl _)
  |bit =>
   refine vn ?_;refine vn ?_;refine vy ?_;exists _,rfl,?_;by_cases h1:wo=[48]
   ·refine aY (aR (by rw[h1,jW])) ?_;have e:fc .bit wo=true:=by rw[D4];rw[aR h1];rfl
    rw[e]at q;exact q H (af.refl _)
   ·refine aK (λy=>h1 (by have:=bG y;injection this with this;rw[jW]at this;exact eG this)) ?_;have e:fc .bit wo=decide (V.str (S wo)=V.str (ofString "1")):=by
     rw[D4,bj h1,Bool.false_or,wg];by_cases z:wo=[49]
     ·rw[z,aR rfl,aR rfl]
     ·rw[bj z,bj (λy=>z (by injection y with y;exact eG y))]
    rw[e]at q;exact q H (af.refl _)
  |number =>
   refine vn ?_;refine vn ?_;refine vn ?_;exists wo,rfl,ha,hl,λH1 s1=>⟨_,rfl,?_⟩;cases hn:fR wo with
   |false =>
    have e:fc .number wo=false:=hn;rw[e]at q;exact aK (by decide) (q H1 s1)
   |true =>
    have e:fc .number wo=true:=hn;rw[e]at q;refine aY rfl ?_;refine jN ?_;nomatch _,rfl,q H1 s1
  |divisor =>
   refine vn ?_;refine vn ?_;refine vn ?_;exists wo,rfl,ha,hl,λH1 s1=>⟨_,rfl,?_⟩;cases hn:fR wo with
   |false =>
    have e:fc .divisor wo=false:=by rw[CJ];rw[hn];rfl
    rw[e]at q;exact aK (by decide) (q H1 s1)
   |true =>
    refine aY rfl ?_;refine jY ?_;exists _,rfl,?_;have e:fc .divisor wo = !decide (V.str (S wo)=V.str (ofString "0")):=by
     rw[CJ,hn,uC,jW];congr 1;by_cases z:wo=[48]
     ·rw[z,aR rfl,aR rfl]
     ·rw[bj z,bj (λy=>z (by injection y with y;exact eG y))]
    rw[e]at q;exact q H1 s1
def zaj:Sp:=λvs H Q E=>∃(k:Kd) (w:List Nat),vs=[.str k.s,.str (S w)]/\(∀c∈w,c<128)/\w.length<=10000/\(∀H',af H H'->fc k w=true->Q (sC k w) H')/\(∀H',af H H'->fc k w=false->False)
def SK(T:Txt w K mg):Fh.Ok P w K mg base 3 zaj:=by
  refine Rw.ok T.d_Z84.F T.d_Z84.S ?_;rintro vs H Q E ⟨k,wo,rfl,ha,hl,q,e⟩;refine⟨rfl,fun _ _ _ _ hr hu nd=>⟨_,(ak (bp (kn (gk (aC T.d_Z23 (Wh T) hr (aa (pv 0) (aa (pv 1) ag))))) (ao gA) aM) (ak (bp (a7 oP (pv 0) au) (ao (aA (pv 1))) aM) (ak (bp (a7 oP (pv 0) au) (ao (aA (bY fq Ce Cy Fj (fA (v:=.str "abcdefghijklmnop") (by rfl) T.g_LETTERS ⟨_,rfl⟩) (aa (pv 1) ag)))) aM)
   (ao (aA (gE CN rfl T.n_int sv (aa (pv 1) ag))))))),?_⟩⟩
  exists _,rfl,_,rfl,k,wo,rfl,ha,hl,λH1 s1=>?_;cases hb:fc k wo with
  |false =>
   exists _,rfl,ff ?_;exact e H1 s1 hb
  |true =>
   exists _,rfl,eP ?_;have dig:NumText.AllDigits wo->wo≠[]->wo.length<=18->∀x,x=V.int ((digitsVal wo:Nat):Int)->sC k wo=x->(yA (yY (λxs H Q=>∃x n,xs=[V.str x]/\intText? x=some n/\x.length<=640/\Q (V.int n) H) (ql (kx 1) sj))) {nx:=λx H'=>Q V.non H',rt:=Q} [some (.str k.s),some (.str (S wo))] H1:=λh1 h2 h3 x hx hk=>by
    exists _,rfl,_,_,rfl,RS h1 h2 h3,(by rw[aG];lia),?_
    have:=q H1 s1 hb
    rw[hk,hx]at this;exact this
   cases k with
   |name =>
    exists _,rfl,rfl,_,rfl,aY (by decide) ?_;nomatch _,rfl,q H1 s1 hb
   |letter =>
    exists _,rfl,rfl,_,rfl,aK (by decide) ?_;exists _,rfl,rfl,_,rfl,aY (by decide) ?_;exists rfl,_,rfl,_,_,rfl,rfl,?_;rw[kX];exact q H1 s1 hb
   |bit =>
    exists _,rfl,rfl,_,rfl,aK (by decide) ?_;exists _,rfl,rfl,_,rfl,aK (by decide) ?_;rw[D4,FP,yc,yc]at hb;rcases hb with z|z
    ·exact dig (by rw[z];intro c hc;rw[bu.mp hc];decide) (by rw[z];simp) (by rw[z];simp) _ rfl rfl
    ·exact dig (by rw[z];intro c hc;rw[bu.mp hc];decide) (by rw[z];simp) (by rw[z];simp) _ rfl rfl
   |number =>
    exists _,rfl,rfl,_,rfl,aK (by decide) ?_;exists _,rfl,rfl,_,rfl,aK (by decide) ?_;obtain⟨d1,d2,d3⟩:=L8 (show fR wo=true from hb);exact dig d1 d2 d3 _ rfl rfl
   |divisor =>
    exists _,rfl,rfl,_,rfl,aK (by decide) ?_;exists _,rfl,rfl,_,rfl,aK (by decide) ?_;rw[CJ,gz]at hb;obtain⟨d1,d2,d3⟩:=L8 hb.1;exact dig d1 d2 d3 _ rfl rfl
def Y1(K:Frag)(NL:Addr):Sp:=λvs H Q E=>∃(kv:V) (b:Addr) (ks:Option (List Kd)) (ws:List (List Nat)),vs=[kv,.ref b]/\H b=some (.lst (ws.map λw=>V.str (S w))) /\
 Dm K kv ks/\(∀w∈ws,w.length<=10000/\∀c∈w,c<128)/\ws.length<=10000/\sk ks ws /\
 (∀vs H' c,H c=none->j0 ks ws=some vs->H' c=some (.lst vs)->af H H'->Q (.ref c) H')/\(∀H',j0 ks ws=none->af H H'->E (.ref NL) none H')
def OQ:(["kind","word"]:List Str).Nodup:=by decide+kernel
def LY(T:Txt w K mg):BN.OkE P w K mg base 4 (Y1 K fF):=by
  refine Rw.okE T.d_Z85.F T.d_Z85.S ?_;rintro vs H Q E ⟨kv,b,ks,ws,rfl,hb,hk,ha,hl,lX,q,e⟩;refine⟨rfl,fun _ _ _ _ hr hu nd=>⟨_,(ak (bp (PW.pt (lE (a7 rF (pV 0) iP) (mq (a7 jM (bD gd (by rfl) T.n_len dI (aa (pV 0) ag)) (bD gd (by rfl) T.n_len dI (aa (pV 1) ag)))))) (ao (zG gg rfl (by rfl) T.g_NoLine T.x_NoLine)) aM)
   (ao (PS.nox (aA (eO (g:=(fT K 2 (cn (a8 0) (cn (a8 1) f7)))) ["kind", "word"] 2 [] rfl (dC BN) (XQ rfl T.n_zip (aa (pV 0) (aa (pV 1) ag))) (λcl C s₀ H₀ fp=>(gv (n:=2) rfl (cN (aN 0 OQ) (cN (aN 1 OQ) gy)))) (λcl C s₀ H₀ fp=>jO) (λcl C s₀ H₀ fp=>(aC T.d_Z84 (SK T) hr (aa (pV 0) (aa (pV 1) ag))))))))),?_⟩⟩
  cases ks with
  |none =>
   cases (show kv=.non from hk);exists rfl,_,rfl,aY (by decide) ?_;refine ff ?_;exact e H rfl (af.refl _)
  |some ks =>
   obtain⟨a,rfl,zF,eE⟩:=hk;exists rfl,_,rfl,aK (by simp) ?_;exists a,_,rfl,.inr (eE _),b,_,rfl,.inl (aj.of hb),_,rfl,?_;rw[av,av];by_cases aH:ks.length=ws.length
   rotate_left
   ·refine aY (by rw[bj (λy=>aH (by injection y with y;lia))];rfl) ?_;exact e H (by unfold j0 qA;exact ax λz=>aH z.1) (af.refl _)
   refine aK (by rw[aH,aR rfl];decide) ?_;have Ky:(ks.zip ws).length=ks.length:=by rw[List.length_zip];lia
   exists a,b,rfl,⟨_,eE _⟩,⟨_,aj.of hb⟩,?_;refine WU (K:=K) (a:=a) (b:=b) (xs:=ks.map λk=>V.str k.s) (ys:=ws.map λw=>V.str (S w)) (by rw[av,av];exact aH)
    (λi zs σ G=>∃v0 v1,σ=[v0,v1]/\zs=((ks.zip ws).take i).map (λp=>sC p.1 p.2)/\((ks.zip ws).take i).all (λp=>fc p.1 p.2)=true/\af H G)
    ⟨none,none,rfl,rfl,rfl,af.refl _⟩ (λi zs σ G hi ⟨_,_,_,e1,_,e3⟩=>⟨eE _,aj.of (e3 _ _ hb),by rw[e1,av,dY];lia⟩) (by rw[av];exact cj (bH (by lia))) ?_ ?_
   ·rintro i x y zs σ G T' hx hy ⟨v0,v1,rfl,rfl,g1,g2⟩ j4;rw[dE]at hx hy;obtain⟨k,rG,rfl⟩:∃k,ks[i]?=some k/\V.str k.s=x:=by
     cases e:ks[i]? with
     |none=>rw[e]at hx;cases hx
     |some t=>rw[e]at hx;nomatch t,rfl,dN hx
    obtain⟨wo,P2,rfl⟩:∃wo,ws[i]?=some wo/\V.str (S wo)=y:=by
     cases e:ws[i]? with
     |none=>rw[e]at hy;cases hy
     |some t=>rw[e]at hy;nomatch t,rfl,dN hy
    have MX:(ks.zip ws)[i]?=some (k,wo):=by rw[List.getElem?_zip_eq_some];nomatch rG,P2
    have bP:(ks.zip ws).take (i+1)=(ks.zip ws).take i++[(k,wo)]:=by rw[dU,MX];rfl
    have c1:af G (upd G T' (.tup [V.str k.s,V.str (S wo)])):=af.upd j4;obtain⟨a1,a2⟩:=ha wo (dr P2);exists T',_,rfl,ay.of aq,rfl,_,_,rfl,_,_,rfl,rfl,?_;refine tt ?_;exists k,wo,rfl,a2,a1,λH2 s2 hy=>?_,λH2 s2 hn=>?_
    ·exists _,_,rfl,(by rw[bP,aT];rfl),?_,g2.trans (c1.trans s2);rw[bP,List.all_append,g1];simp[hy]
    ·refine lX ks rfl aH ?_;unfold j0 qA;refine ax λz=>?_
     have:=jf.mp z.2 (k,wo) (dr MX)
     rw[hn]at this;cases this
   ·rintro zs σ G ⟨v0,v1,rfl,rfl,g1,g2⟩ D hD;rw[av,<-Ky,dO]at g1;rw[av,<-Ky,dO];refine q _ _ D (g2.free hD) ?_ aq (g2.trans (af.upd hD));unfold j0 qA;exact aB ⟨aH,g1⟩
def Gd:("=" : Str)=S [61]:=by decide+kernel
def V9:(":=" : Str)=S [58,61]:=by decide+kernel
def zbJ(K:Frag)(NL:Addr):Sp:=λvs H Q E=>∃n sg l:List Nat,vs=[.str (S n),.str (S sg),.str (S l)]/\(∀c∈l,c<128)/\l.length<=9000/\JE sg l /\
 (∀o wo vs p c H',i8 n sg l=some (o,wo,vs)->H' p=some (.tup [FT o,.str (S wo),.ref c])->H' c=some (.lst vs)->af H H'->Q (.ref p) H')/\(∀H',i8 n sg l=none->af H H'->E (.ref NL) none H')
def Ut(T:Txt w K mg):GZ.OkE P w K mg base 5 (zbJ K fF):=by
  refine Rw.okE T.d_Z26.F T.d_Z26.S ?_;rintro vs H Q E ⟨n,sg,l,rfl,ha,hl,lX,q,e⟩;refine⟨rfl,fun _ _ _ _ hr hu nd=>⟨_,(ak (PS.nox (aD 3 nd (bY fq HX Dn Fs (pv 2) (aa au ag)))) (ak (bp (PW.pt (iO (a7 oP (pv 1) au) (jy (sD (UR hu (Cz (pv 3) ai) (fA (v:=.ref uB) (by rfl) T.g_MADE rfl)))))) (ao (aA (bz (aa (pv 0) (aa (Cz (pv 3) ai) (aa (pd (LY T) hr (by rfl) T.d_Z85.m T.d_Z85.F.kp T.d_Z85.b .nil (iS gg) (aa (zbm hu (fA (v:=.ref uB) (by rfl) T.g_MADE rfl) (Cz (pv 3) ai) (λ_ _=>rfl)) (aa (k7 qK (pv 3) (Kt ai) nB) ag))) ag)))))) aM)
   (ao (PS.nox (aA (bz (aa (pv 0) (aa (pv 1) (aa (bq (aa (pv 2) ag)) ag))))))))),?_⟩⟩
  have iV:Txt.split (S l) (S [32])=(aU l).map S:=by
   have:=EV (c:=32) (ma l) (uT l)
   rwa [xF l]at this
  have MW:(S l).length<=sizeLine:=by rw[aG];exact ix (by lia)
  have wx:Paired (DJ K) [(ofString "plus",Dx),(ofString "less",Ge),(ofString "times",Fz),(ofString "fixed",Dz),(ofString "put",Gq)] fH :=
   .cons ⟨rfl,by decide,T.q_MADE_0⟩ (.cons ⟨rfl,by decide,T.q_MADE_1⟩ (.cons ⟨rfl,by decide,T.q_MADE_2⟩ (.cons ⟨rfl,by decide,T.q_MADE_3⟩ (.cons ⟨rfl,by decide,T.q_MADE_4⟩ .nil))))
  exists _,rfl,rfl,_,_,rfl,rfl,(by rw[nF];rfl),(by rw[aG];exact lB hl (by decide)),λW hW=>?_;rw[nF,iV];obtain⟨w0,wr,ew⟩:∃w0 wr,aU l=w0::wr:=by
   cases e:aU l with
   |nil=>exact absurd e (ma l)
   |cons a b=>nomatch a,b,rfl
  have kL:=vQ l;have jv:=xk l;rw[ew]at kL jv;generalize eU:upd H W _=H1;have s1:=(nw eU hW).1;have w1:H1 W=some (.lst (((w0::wr).map S).map V.str)):=by rw[(nw eU hW).2,ew]
  have fin:(∀o wo vs,i8 n sg l=some (o,wo,vs)->o=some n->wo=sg->vs=[V.str (S l)]->∀c,H1 c=none->∀p,upd H1 c (.lst [V.str (S l)]) p=none->Q (.ref p) (upd (upd H1 c (.lst [V.str (S l)])) p (.tup [.str (S n),.str (S sg),.ref c]))):=λo wo vs hk h1 h2 h3 c hc p hp=>by
   subst h1 h2 h3;refine q _ _ _ p c _ hk aq ?_ (s1.trans ((af.upd hc).trans (af.upd hp)));rw[aJ (λz=>by rw[z,aq]at hp;cases hp)];exact aq
  have xH:i8 n sg l=if sg=[61]/\(cT fH w0).isSome=true then (j0 (cT fH w0) wr).map λvs=>(some n,w0,vs)else some (some n,sg,[.str (S l)]):=by
   unfold i8;rw[ew];rfl
  have fU:(((w0::wr).map S).map V.str)=(w0::wr).map λw=>V.str (S w):=by rw[fE];rfl
  have tq:wr.length<=9000:=by have:=kL.1;rw[br]at this;lia
  have last:¬(sg=[61]/\(cT fH w0).isSome=true)->(yA (Lr (ql (kx 0) (ql (kx 1) (ql (Mc (ql (kx 2) sj)) sj))))) {nx:=λx H'=>Q V.non H',rt:=Q} [some (.str (S n)),some (.str (S sg)),some (.str (S l)),some (.ref W)] H1:=λhn=>by
   rw[ax hn]at xH;nomatch _,rfl,_,rfl,_,rfl,du,λc hc=>⟨cY,λp hp=>fin _ _ _ xH rfl rfl rfl c hc p hp⟩
  exists _,rfl,rfl,_,rfl,?_;by_cases hs:sg=[61]
  rotate_left
  ·refine aK (λy=>hs (by have:=bG y;injection this with this;rw[Gd]at this;exact eG this)) ?_;refine eP ?_;exact last λz=>hs z.1
  refine aY (aR (by rw[hs,Gd])) ?_;exists _,rfl,W,_,_,V.str (S w0),rfl,rfl,aj.of w1,(bo (j:=0) rfl),uB,_,_,rfl,T.q_MADE,rfl,_,rfl,?_;rcases MY wx w0 with ⟨b,kl,hb,gT,uU⟩|⟨hb,gT⟩
  rotate_left
  ·refine aK (by rw[hb];decide) ?_;exact last λz=>by rw[gT]at z;exact absurd z.2 (by decide)
  refine aY (by rw[hb];rfl) ?_;have tE:sg=[61]/\(cT fH w0).isSome=true:=⟨hs,by rw[gT];rfl⟩;rw[aB tE,gT]at xH;exists _,rfl,_,rfl,W,_,_,V.str (S w0),rfl,rfl,aj.of w1,(bo (j:=0) rfl),_,rfl,W,_,_,V.str (S w0),rfl,rfl,aj.of w1,(bo (j:=0) rfl),uB,_,_,b,rfl,T.q_MADE,rfl,hb,?_;exists _,rfl,_,rfl,W,_,rfl,aj.of w1,λV1 Ea=>?_;have ec:gq (((w0::wr).map S).map V.str) (some 1) none=wr.map λw=>V.str (S w):=by rw[fU];exact OI _ _
  rw[ec];have s2:af H1 (upd H1 V1 (.lst (wr.map λw=>V.str (S w)))):=af.upd Ea;exists .ref b,V1,some kl,wr,rfl,aq,uU,(λw hw=>⟨?_,λc hc=>?_⟩),by lia,(by have z:=lX hs;rw[ew]at z;rw[<-gT];exact z),λvs H2 c hc EK gP s3=>?_,λH2 hn s3=>?_
  ·have:=kL.2 w (eJ _ hw);lia
  ·exact ha c (jv w (eJ _ hw) c hc)
  ·exists cY,λp hp=>?_;have s4:af H2 (upd H2 p (.tup [.str (S n),.str (S w0),.ref c])):=af.upd hp;exact q _ _ _ p c _ (by rw[xH,EK];rfl) aq (s4 _ _ gP) (s1.trans (s2.trans (s3.trans s4)))
  ·exact e H2 (by rw[xH,hn];rfl) (s1.trans (s2.trans s3))
def RY(K:Frag)(NL:Addr):Sp:=λvs H Q E=>∃l:List Nat,vs=[.str (S l)]/\(∀c∈l,c<128)/\l.length<=9000/\kM l /\
 (∀o wo vs p c H',cE l=some (o,wo,vs)->H' p=some (.tup [FT o,.str (S wo),.ref c])->H' c=some (.lst vs)->af H H'->Q (.ref p) H')/\(∀H',cE l=none->af H H'->E (.ref NL) none H')
def Ym(T:Txt w K mg):FI.OkE P w K mg base 6 (RY K fF):=by
  refine Rw.okE T.d_Z64.F T.d_Z64.S ?_;rintro vs H Q E ⟨l,rfl,ha,hl,lX,q,e⟩;refine⟨rfl,fun _ _ _ _ hr hu nd=>⟨_,(ak (PS.nox (aD 1 nd (bY fq HX Dn Fs (pV 0) (aa au ag)))) (ak (ke (bp (PW.pt (iO (a7 mm.j (bD gd (by rfl) T.n_len dI (aa (pV 1) ag)) ai) (iO (nJ nY (xL (pV 1) ai) (bz (aa au (aa au ag))) rfl) (jy (gk (aC T.d_Z21 (Ph T) hr.m (aa (xL (pV 1) ai) ag))))))) (ao (aA (pd (Ut T) hr (by rfl) T.d_Z26.m T.d_Z26.F.kp T.d_Z26.b .nil (iS gg) (aa (xL (pV 1) ai) (aa (xL (pV 1) ai) (aa (k7 yF (pV 0) (iu (az fz.j (az fz.j (bD m8 (by rfl) T.n_len dI (aa (xL (pV 1) ai) ag)) (bD m8 (by rfl) T.n_len dI (aa (xL (pV 1) ai) ag))) ai)) nB) ag)))))) aM))
   (ao (aA (bz (aa iP (aa (xL (pV 1) ai) (aa (pd (LY T) hr.m (by rfl) T.d_Z85.m T.d_Z85.F.kp T.d_Z85.b .nil (iS gg) (aa (zbh hu (fA (v:=.ref A4) (by rfl) T.g_ASKED rfl) (xL (pV 1) ai) ⟨rfl,rfl,rfl,rfl⟩) (aa (k7 qK (pV 1) (iu ai) nB) ag))) ag)))))))),?_⟩⟩
  have iV:Txt.split (S l) (S [32])=(aU l).map S:=by
   have:=EV (c:=32) (ma l) (uT l)
   rwa [xF l]at this
  have MW:(S l).length<=sizeLine:=by rw[aG];exact ix (by omega)
  have wx:Paired (DJ K) [(ofString "show",yH),(ofString "worth",A6),(ofString "alike",yv),(ofString "rest",BH),(ofString "least",Bi),(ofString "ways",Ai),(ofString "unknowns",AA)] kE :=
   .cons ⟨rfl,by decide,T.q_ASKED_0⟩ (.cons ⟨rfl,by decide,T.q_ASKED_1⟩ (.cons ⟨rfl,by decide,T.q_ASKED_2⟩ (.cons ⟨rfl,by decide,T.q_ASKED_3⟩ (.cons ⟨rfl,by decide,T.q_ASKED_4⟩ (.cons ⟨rfl,by decide,T.q_ASKED_5⟩ (.cons ⟨rfl,by decide,T.q_ASKED_6⟩ .nil))))))
  exists rfl,_,_,rfl,rfl,(by rw[nF];rfl),(by rw[aG];exact lB hl (by decide)),λW hW=>?_;rw[nF,iV];obtain⟨w0,wr,ew⟩:∃w0 wr,aU l=w0::wr:=by
   cases e:aU l with
   |nil=>exact absurd e (ma l)
   |cons a b=>nomatch a,b,rfl
  have kL:=vQ l;have jv:=xk l;rw[ew]at kL jv;generalize eU:upd H W _=H1;have s1:=(nw eU hW).1;have w1:H1 W=some (.lst (((w0::wr).map S).map V.str)):=by rw[(nw eU hW).2,ew]
  have fU:(((w0::wr).map S).map V.str)=(w0::wr).map λw=>V.str (S w):=by rw[fE];rfl
  have tq:wr.length<=9000:=by have:=kL.1;rw[br]at this;omega
  have pz:cE l=if 2<(w0::wr).length/\((w0::wr).getD 1 []=[61]\/(w0::wr).getD 1 []=[58,61])/\bb w0=true then i8 w0 ((w0::wr).getD 1 []) (l.drop (w0.length+((w0::wr).getD 1 []).length+2))else (j0 (cT kE w0) wr).map λvs=>(none,w0,vs):=by
   unfold cE;rw[ew];rfl
  have Yh:∀x:List Nat,gf (V.str (S x)) [V.str (ofString "="),V.str (ofString ":=")]=decide (x=[61]\/x=[58,61]):=λx=>by
   rw[Gd,V9];show (S [61] == S x || (S [58,61] == S x || false))=_;have e1:∀b:List Nat,(S b == S x)=decide (x=b):=λb=>by
    by_cases z:x=b
    ·rw[z,aR rfl];simp
    ·rw[bj z];exact xJ.mpr λy=>z (eG (mX.mp y)).symm
   rw[e1,e1,FN,<-Bool.decide_or]
  exists λσ' G'=>σ'=[some (.str (S l)),some (.ref W)]/\af H1 G'/\¬(2<(w0::wr).length/\((w0::wr).getD 1 []=[61]\/(w0::wr).getD 1 []=[58,61])/\bb w0=true),?_,?_
  ·exists W,_,rfl,.inl (aj.of w1),_,rfl,?_;by_cases h2:2<(w0::wr).length
   rotate_left
   ·refine aK (λy=>h2 (by have:=bG y;rw[av,av]at this;lia)) ?_;refine eP ?_;nomatch rfl,af.refl _,λz=>h2 z.1
   refine aY (aR (by rw[av,av];lia)) ?_;obtain⟨x1,xr,rfl⟩:∃x1 xr,wr=x1::xr:=by
    cases wr with
    |nil=>simp at h2
    |cons a b=>nomatch a,b,rfl
   exists V.str (S x1),aj.of w1,bo (j:=1) rfl,bK,λtp yn=>?_;have s2:af H1 (upd H1 tp (.tup [V.str (ofString "="),V.str (ofString ":=")])):=af.upd yn;exists tp,_,rfl,.inr (ay.of aq),rfl,rfl,_,rfl,?_;rw[show (if false=true then !gf (V.str (S x1)) [V.str (ofString "="),V.str (ofString ":=")]else gf (V.str (S x1)) [V.str (ofString "="),V.str (ofString ":=")])=decide (x1=[61]\/x1=[58,61]) from Yh x1];by_cases h3:x1=[61]\/x1=[58,61]
   rotate_left
   ·refine aK (λy=>h3 (bG y)) ?_;refine eP ?_;nomatch rfl,s2,λz=>h3 z.2.1
   refine aY (aR h3) ?_;have a0:=kL.2 w0 (by simp);have a1:=kL.2 x1 (by simp);exists V.str (S w0),aj.of (s2 _ _ w1),bo (j:=0) rfl,w0,rfl,(λc hc=>ha c (jv w0 (by simp) c hc)),by lia,λH2 s3=>⟨_,rfl,?_⟩;cases h4:bb w0 with
   |false =>
    refine aK (by decide) ?_;nomatch rfl,s2.trans s3,λz=>absurd z.2.2 (by decide)
   |true =>
    refine aY rfl ?_;rw[aB ⟨h2,h3,h4⟩]at pz;have w2:=(s2.trans s3) _ _ w1;have S2:=s1.trans (s2.trans s3);exists V.str (S w0),aj.of w2,bo (j:=0) rfl,V.str (S x1),aj.of w2,bo (j:=1) rfl,V.str (S w0),aj.of w2,bo (j:=0) rfl,_,rfl,(by rw[aG];exact ix (by lia)),V.str (S x1),aj.of w2,bo (j:=1) rfl,_,rfl,(by rw[aG];exact ix (by lia)),_,rfl,MW,?_;have ei:((S w0).length:Int)+((S x1).length:Int)+2=((w0.length+x1.length+2:Nat):Int):=by rw[aG,aG];lia
    rw[ei,X2];exists w0,x1,l.drop (w0.length+x1.length+2),rfl,(λc hc=>ha c (zx hc)),(by rw[ml];lia),(by have z:=lX.1;rw[ew]at z;exact z ⟨h2,h3,h4⟩),λo wo vs p c H3 hk hp hc s4=>?_,λH3 hk s4=>?_
    ·exact q o wo vs p c H3 (by rw[pz];exact hk) hp hc (S2.trans s4)
    ·exact e H3 (by rw[pz];exact hk) (S2.trans s4)
  ·rintro σ' G' ⟨rfl,s2,hn⟩;rw[ax hn]at pz;have w2:=s2 _ _ w1;exists V.str (S w0),aj.of w2,bo (j:=0) rfl,A4,_,rfl,T.q_ASKED,V.str (S w0),aj.of w2,bo (j:=0) rfl,_,rfl,?_;exists W,_,rfl,aj.of w2,λV1 Ea=>?_;have ec:gq (((w0::wr).map S).map V.str) (some 1) none=wr.map λw=>V.str (S w):=by rw[fU];exact OI _ _
   rw[ec];have s3:af G' (upd G' V1 (.lst (wr.map λw=>V.str (S w)))):=af.upd Ea;have S3:=s1.trans (s2.trans s3);have uU:Dm K (match mE [(ofString "show",yH),(ofString "worth",A6),(ofString "alike",yv),(ofString "rest",BH),(ofString "least",Bi),(ofString "ways",Ai),(ofString "unknowns",AA)] (S w0)with|some b=>V.ref b|none=>V.non) (cT kE w0):=by
    rcases MY wx w0 with ⟨b,kl,hb,gT,uU⟩|⟨hb,gT⟩
    ·rw[hb,gT];exact uU
    ·rw[hb,gT];rfl
   exists _,V1,cT kE w0,wr,rfl,aq,uU,(λw hw=>⟨?_,λc hc=>?_⟩),by omega,(by have z:=lX.2;rw[ew]at z;exact z hn),λvs H2 c hc EK gP s4=>?_,λH2 hn s4=>?_
   ·have:=kL.2 w (eJ _ hw);omega
   ·exact ha c (jv w (eJ _ hw) c hc)
   ·exists cY,λp hp=>?_;have s5:af H2 (upd H2 p (.tup [.non,.str (S w0),.ref c])):=af.upd hp;exact q _ _ _ p c _ (by rw[pz,EK];rfl) aq (s5 _ _ gP) (S3.trans (s4.trans s5))
   ·exact e H2 (by rw[pz,hn];rfl) (S3.trans s4)
def WB(C NN:Addr):Sp:=λvs H Q E=>∃(p d:Addr) (st:cH) (n:List Nat),vs=[.ref p,.str (S n)]/\lx C H p d st/\(∀a f,cb st n=some f->aI H a f->Q (.ref a) H)/\(cb st n=none->E (.ref NN) none H)
def C1(d:Addr):([(("forms" : Str),V.ref d)]:List (Str×V)).lookup ("forms" : Str)=some (.ref d):=by
 rw[uF];simp
def iQ(d:Addr){m:Str}(h:¬m = "forms"):([(("forms" : Str),V.ref d)]:List (Str×V)).lookup m=none:=by
 rw[uF]
 have:(m == ("forms" : Str))=false:=rD.mpr h
 rw[this];rfl
def uD(T:Txt w K mg):Dc.OkE P w K mg base 1 (WB d7 fh):=by
  refine Rw.okE T.d_Desk_kept.F T.d_Desk_kept.S ?_;rintro vs H Q E ⟨p,d,st,n,rfl,hD,q,e⟩;refine⟨rfl,fun _ _ _ _ hr hu nd=>⟨_,(ak (bp (sD (xj hu (pV 1) (DC (pV 0) rfl))) (ao (zG gg rfl (by rfl) T.g_NoName T.x_NoName)) aM)
   (ao (PS.nox (aA (gM hu (DC (pV 0) rfl) (pV 1)))))),?_⟩⟩
  obtain⟨⟨dx,ho⟩,kvs,hd,hk⟩:=id hD;have hg:=c8.k (k:=Sum.inr (S n)) hd;exists p,_,dx,_,_,rfl,ho,T.cl_Desk,T.nf_Desk_forms,C1 d,d,_,rfl,hg,_,rfl,?_;rcases lJ hk n with ⟨h1,h2⟩|⟨a,f,h1,h2,h3⟩
  ·refine aY (by rw[h1];rfl) ?_;exact e h2
  ·refine aK (by rw[h1];simp) ?_;rw[h1]at hg;nomatch p,_,dx,_,_,rfl,ho,T.cl_Desk,T.nf_Desk_forms,C1 d,_,hg,q a f h2 h3
def RH:Sp:=λvs H Q _=>∃(d:Addr) (dd:ar),vs=[.ref d]/\H d=some (.dK (dd.map gQ))/\(dd.map (·.1)).Nodup/\dd.length<64 /\
 ∀(b:Addr) (ks:List Int) (H':Hp),H b=none->aI H' b (dv dd ks)->ks.Perm (dd.map (·.1))->ks.Pairwise (· <= ·)->af H H'->Q (.ref b) H'
def UK:(["members","numbers"]:List Str).Nodup:=by decide+kernel
def OW(T:Txt w K mg):yt.Ok P w K mg base 1 RH:=by
  refine Rw.ok T.d_Z9.F T.d_Z9.S ?_;rintro vs H Q E ⟨d,dd,rfl,hd,rE,aH,q⟩;refine⟨rfl,fun _ _ _ _ hr hu nd=>⟨_,(ao (aA (eO (g:=(a8 0)) ["members", "numbers"] 1 [0] rfl (dC yt) (dj (bD (Gy rfl) (by rfl) T.n_sorted Am (aa (pV 0) ag)))
    (λcl C s₀ H₀ fp=>(aN 0 UK)) (λcl C s₀ H₀ fp=>(iJ (a7 jM (gM hu (pV 1) (pV 0)) ai))) (λcl C s₀ H₀ fp=>(bz (aa (pV 0) (aa (gM hu (pV 1) (pV 0)) ag))))))),?_⟩⟩
  exists d,_,dd.map (·.1),rfl,hd,IF dd,(by rw[av];exact aH),λe ks he iN qc=>?_;have DL:d≠e:=cP hd he;exists ⟨_,aj.of aq⟩,?_;have gT:ks.length<=100000:=by have:=iN.length_eq;rw[av]at this;lia
  refine jj (K:=K) (a:=e) (xs:=ks.map V.int) (λi ys σ H2=>∃v0 qs,σ=[v0,some (.ref d)]/\ys=qs.map V.ref/\cS H2 qs (dv dd (ks.take i))/\H2 d=some (.dK (dd.map gQ))/\H2 e=some (.lst (ks.map V.int))/\af H H2)
   ⟨none,[],rfl,rfl,.nil,(by rw[aJ DL];exact hd),aq,af.upd he⟩ (λi ys σ H2 hi ⟨_,qs,_,e1,e2,_,e4,_⟩=>⟨aj.of e4,by
    rw[e1,av,e2.length]
    have:=vU dd (ks.take i)
    rw[dY]at this;lia⟩) (by rw[av];exact cj (bH (by lia))) ?_ ?_
  ·rintro i y ys σ H2 hi ⟨v0,qs,rfl,rfl,g2,g3,g4,g5⟩;obtain⟨k,rG,rfl⟩:=vo hi;have Ey:k∈dd.map (·.1):=iN.mem_iff.mp (dr rG);obtain⟨v,hv⟩:∃v,look dd k=some v:=by
    cases e:look dd k with
    |none=>exact absurd e (yi.mpr Ey)
    |some v=>nomatch v,rfl
   have xn:dW dd k=v:=by unfold dW;rw[hv];rfl
   have bP:ks.take (i+1)=ks.take i++[k]:=by rw[dU,rG];rfl
   have vi:∀{H3:Hp},H3 d=some (.dK (dd.map gQ))->c8 H3 d (.int k) (some (.int v)):=fun {H3} z=>by
    have:=c8.k (k:=Sum.inl k) z
    rw[rj,hv]at this;exact this
   exists _,vi g3,_,rfl,?_;by_cases hv0:v=0
   ·subst hv0;refine JN rfl ⟨_,qs,rfl,rfl,?_,g3,g4,g5⟩
    have:dv dd (ks.take (i+1))=dv dd (ks.take i):=by
     rw[bP];unfold dv;rw[fV,aT];simp[xn]
    rw[this];exact g2
   ·have dZ:¬(V.int v=V.int 0):=λz=>hv0 (by injection z)
    rw[bj dZ];refine ff ?_;exists _,vi g3,bK,λt ht=>?_;have s3:af H2 (upd H2 t (.tup [.int k,.int v])):=af.upd ht;exists _,qs++[t],rfl,(by rw[aT];rfl),?_,s3 _ _ g3,s3 _ _ g4,g5.trans s3
    have:dv dd (ks.take (i+1))=dv dd (ks.take i)++[(k,v)]:=by
     rw[bP];unfold dv;rw[fV,aT];simp[xn,hv0]
    rw[this];exact cS.snoc (g2.keep λb xs z=>s3 b _ z) aq
  ·rintro ys σ H2 ⟨v0,qs,rfl,rfl,g2,g3,g4,g5⟩ D hD;rw[av,dO]at g2;have s3:af H2 (upd H2 D (.lst (qs.map V.ref))):=af.upd hD;exact q D ks _ (g5.free hD) ⟨qs,aq,g2.keep λb xs z=>s3 b _ z⟩ iN qc (g5.trans s3)
def U1(K:Frag):Sp:=λvs H Q _=>∃(a b:Addr) (l m:ar),vs=[.ref a,.ref b]/\TL K H a l/\TL K H b m/\l.length*m.length<=100000/\fj (bC l m)/\(∀t∈l,∀u∈m,IntMulOk t.2 u.2) /\
 ∀(c:Addr) (f:ar) (H':Hp),H c=none->aI H' c f->bf f (bC l m)->f.length<=l.length*m.length->af H H'->Q (.ref c) H'
def zK(T:Txt w K mg):Fo.Ok P w K mg base 2 (U1 K):=by
  refine Rw.ok T.d_Z86.F T.d_Z86.S ?_;rintro vs H Q E ⟨a,b,l,m,rfl,⟨ps,hS,hT⟩,⟨qs,MB,bE⟩,aH,h5,eZ,q⟩;refine⟨rfl,fun _ _ _ _ hr hu nd=>⟨_,(ak (aD 2 nd qF) (ak (eK df rfl (dj (pV 0)) (ig (n:=2) rfl (cL (aN 3 nd) (cL (aN 4 nd) ik))) (ao (eK df rfl (dj (pV 1)) (ig (n:=2) rfl (cL (aN 5 nd) (cL (aN 6 nd) ik))) (ak (aD 7 nd (az wD.j (pV 3) (pV 5))) (ao (uh hu (pV 2) (pV 7) (az fz.j (xu hu (pV 2) (pV 7) ai ⟨rfl,rfl,rfl,rfl⟩) (az fW.c (pV 4) (pV 6))) rfl)))))) (ao (aA (aC T.d_Z9 (OW T) hr (aa (pV 2) ag)))))),?_⟩⟩
  intro d hd;have s0:∀o,af H (upd H d o):=λo=>af.upd hd
  exists ⟨_,(s0 _).seq hS⟩,?_;refine jK (K:=K) (a:=a) (xs:=ps.map V.ref) (λi σ H2=>∃dd v3 v4 v5 v6 v7,σ=[some (.ref a),some (.ref b),some (.ref d),v3,v4,v5,v6,v7]/\H2=upd H d (.dK (dd.map gQ))/\DictOf dd (bC (l.take i) m))
   ⟨[],none,none,none,none,none,rfl,rfl,AE⟩ (λi σ H2 _ ⟨_,_,_,_,_,_,_,e,_⟩=>by rw[e];exact (s0 _).seq hS) ?_ ?_
  ·rintro i y σ H2 hi ⟨dd,v3,v4,v5,v6,v7,rfl,rfl,cq⟩;obtain⟨p,c6,rfl⟩:=fY hi;obtain⟨t,bg,cK⟩:=hT.at' c6;have iR:i<l.length:=(dS.mp bg).1;have bP:l.take (i+1)=l.take i++[t]:=by rw[dU,bg];rfl
   exists _,ay.of (s0 _ _ _ cK),rfl,?_;exists ⟨_,(s0 _).seq MB⟩,?_;refine jK (K:=K) (a:=b) (xs:=qs.map V.ref) (λj σ H2=>∃dd v5 v6 v7,σ=[some (.ref a),some (.ref b),some (.ref d),some (.int t.1),some (.int t.2),v5,v6,v7]/\H2=upd H d (.dK (dd.map gQ))/\DictOf dd (bC (l.take i) m++d4 t (m.take j)))
    ⟨dd,v5,v6,v7,rfl,rfl,by rw[List.take_zero];exact (iM _).symm ▸ cq⟩ (λi σ H2 _ ⟨_,_,_,_,_,e,_⟩=>by rw[e];exact (s0 _).seq MB) ?_ ?_
   ·rintro j z σ H2 hj ⟨dd,v5,v6,v7,rfl,rfl,cq⟩;obtain⟨p',US,rfl⟩:=fY hj;obtain⟨u,uk,Xa⟩:=bE.at' US;have mJ:j<m.length:=(dS.mp uk).1;have TR:m.take (j+1)=m.take j++[u]:=by rw[dU,uk];rfl
    exists _,ay.of (s0 _ _ _ Xa),rfl,?_;have qq:=cq.snoc (Builtin.bitOr t.1 u.1,t.2*u.2);rw[fZ,<-YC,<-TR]at qq;have t6:=cq.len;have h9:=rW (l.take i) m;rw[aS,Ni,h9,dY,dY,oK (cj iR),oK (cj mJ)]at t6;have vg:i*m.length+m.length<=l.length*m.length:=by rw[<-Nat.succ_mul];exact lS _ iR
    exists d,rfl,.inl ⟨_,.inl aq⟩,_,c8.k (k:=Sum.inl (Builtin.bitOr t.1 u.1)) aq,?_;rw[rj];have eg:((look dd (Builtin.bitOr t.1 u.1)).map V.int).getD (V.int 0)=V.int (dW dd (Builtin.bitOr t.1 u.1)):=by
     unfold dW;cases look dd (Builtin.bitOr t.1 u.1)<;>rfl
    rw[eg];exists eZ t (dr bg) u (dr uk),d,_,rfl,mI.k (k:=Sum.inl (Builtin.bitOr t.1 u.1)) aq ?_,jE dd (Builtin.bitOr t.1 u.1) (dW dd (Builtin.bitOr t.1 u.1)+t.2*u.2),_,_,_,rfl,?_,qq
    ·rw[av];exact bH (by lia)
    ·rw[Al,Es]
   ·rintro σ H2 ⟨dd,v5,v6,v7,rfl,rfl,cq⟩;have iq:m.take (qs.map V.ref).length=m:=by rw[av,bE.length,dO]
    rw[iq,<-IS,<-bP]at cq;nomatch dd,_,_,_,_,_,rfl,rfl,cq
  ·rintro σ H2 ⟨dd,v3,v4,v5,v6,v7,rfl,rfl,cq⟩;have iq:l.take (ps.map V.ref).length=l:=by rw[av,hT.length,dO]
   rw[iq]at cq;have t6:=cq.len;rw[rW]at t6;exists d,dd,rfl,aq,cq.nd,Fc cq h5,λc ks H3 hc gp iN qc s3=>?_;refine q c (dv dd ks) H3 ((s0 _).free hc) gp (zt cq iN qc) ?_ ((s0 _).trans s3);have h1:=vU dd ks;have h2:=iN.length_eq;rw[av]at h2;lia
def B8(T:Txt w K mg):C5.Ok P w K mg base 2 (Lb K):=by
  refine Rw.ok T.d_Z66.F T.d_Z66.S ?_;rintro vs H Q E ⟨a,l,rfl,⟨ps,hS,hT⟩,aH,xo,q⟩;refine⟨rfl,fun _ _ _ _ hr hu nd=>⟨_,(ak (aD 1 nd qF) (ak (eK df rfl (dj (pV 0)) (ig (n:=2) rfl (cL (aN 2 nd) (cL (aN 3 nd) ik))) (ao (uh hu (pV 1) (pV 2) (az fz.j (xu hu (pV 1) (pV 2) ai ⟨rfl,rfl,rfl,rfl⟩) (pV 3)) rfl))) (ao (aA (aC T.d_Z9 (OW T) hr (aa (pV 1) ag)))))),?_⟩⟩
  intro d hd;have s0:af H (upd H d (.dK [])):=af.upd hd;exists ⟨_,s0.seq hS⟩,?_;refine jK (K:=K) (a:=a) (xs:=ps.map V.ref) (λi σ H2=>∃dd v2 v3,σ=[some (.ref a),some (.ref d),v2,v3]/\H2=upd H d (.dK (dd.map gQ))/\DictOf dd (l.take i))
   ⟨[],none,none,rfl,rfl,AE⟩ (λi σ H2 _ ⟨_,_,_,_,e,_⟩=>by rw[e];exact (af.upd hd).seq hS) ?_ ?_
  ·rintro i y σ H2 hi ⟨dd,v2,v3,rfl,rfl,cq⟩;obtain⟨p,c6,rfl⟩:=fY hi;obtain⟨t,bg,cK⟩:=hT.at' c6;have bP:l.take (i+1)=l.take i++[t]:=by rw[dU,bg];rfl
   have iR:i<l.length:=(dS.mp bg).1;have t6:dd.length<=i:=aW cq.len (by rw[dY];omega);have qq:=cq.snoc t;rw[<-bP]at qq;exists _,ay.of ((af.upd hd) _ _ cK),rfl,?_;exists d,rfl,.inl ⟨_,.inl aq⟩,_,c8.k (k:=Sum.inl t.1) aq,?_;rw[rj];have eg:((look dd t.1).map V.int).getD (V.int 0)=V.int (dW dd t.1):=by
    unfold dW;cases look dd t.1<;>rfl
   rw[eg];exists d,_,rfl,mI.k (k:=Sum.inl t.1) aq ?_,jE dd t.1 (dW dd t.1+t.2),_,_,rfl,?_,qq
   ·rw[av];exact bH (by omega)
   ·rw[Al,Es]
  ·rintro σ H2 ⟨dd,v2,v3,rfl,rfl,cq⟩;have iq:l.take (ps.map V.ref).length=l:=by rw[av,hT.length,dO]
   rw[iq]at cq;exists d,dd,rfl,aq,cq.nd,Fc cq xo,λb ks H3 hb gp iN qc s3=>?_;have hbd:b≠d:=by intro z;subst z;rw[aq]at hb;cases hb
   have hHb:H b=none:=by have:=hb;rw[aJ hbd]at this;exact this
   refine q b (dv dd ks) H3 hHb gp (zt cq iN qc) ?_ ((af.upd hd).trans s3);have h1:=vU dd ks;have h2:=iN.length_eq;rw[av]at h2;have h3:=cq.len;omega
def Wd:Sp:=λvs H Q _=>∃(a b:Addr) (l m:ar),vs=[.ref a,.ref b]/\aI H a l/\aI H b m/\l.length+m.length<=100000/\fj (l++m) /\
 ∀(c:Addr) (f:ar) (H':Hp),H c=none->aI H' c f->bf f (l++m)->f.length<=l.length+m.length->af H H'->Q (.ref c) H'
def uK(T:Txt w K mg):F9.Ok P w K mg base 3 Wd:=by
  refine Rw.ok T.d_Z72.F T.d_Z72.S ?_;rintro vs H Q E ⟨a,b,l,m,rfl,iw,gX,aH,h5,q⟩;exists rfl,λ_ _ _ _ hr hu nd=>⟨_,(ao (aA (aC T.d_Z66 (B8 T) hr (aa (az tj (pV 0) (pV 1)) ag)))),?_⟩;obtain⟨ps,ha,hp⟩:=id iw;obtain⟨qs,hb,hq⟩:=id gX;have n1:=hp.length;have n2:=hq.length;exists a,b,_,_,rfl,rfl,ha,hb,(by rw[av,av];exact cj (bH (by lia))),λc hc=>?_;have s1:af H (upd H c (.lst (ps.map V.ref++qs.map V.ref))):=af.upd hc;exists c,l++m,rfl,(aI.cat (a:=a) (b:=b) hp hq s1 aq).tl,(by rw[aS];exact aH),h5,λd f H' hd hT hF hl s2=>?_;rw[aS]at hl;exact q d f H' (s1.free hd) hT hF hl (s1.trans s2)
def zaH(K:Frag):Sp:=λvs H Q _=>∃(a:Addr) (l:ar) (n:Int),vs=[.ref a,.int n]/\TL K H a l/\l.length<=100000/\fj l/\(∀t∈l,IntMulOk t.2 n) /\
 ∀(b:Addr) (f:ar) (H':Hp),H b=none->aI H' b f->bf f (l.map λt=>(t.1,t.2*n))->f.length<=l.length->af H H'->Q (.ref b) H'
def Qq:(["members","own","number"]:List Str).Nodup:=by decide+kernel
def O4(T:Txt w K mg):Bf.Ok P w K mg base 3 (zaH K):=by
  refine Rw.ok T.d_Z79.F T.d_Z79.S ?_;rintro vs H Q E ⟨a,l,n,rfl,hT,aH,h5,eZ,q⟩;refine⟨rfl,fun _ _ _ _ hr hu nd=>⟨_,(ao (aA (aC T.d_Z66 (B8 T) hr (aa (eO (g:=(fT K 2 (cn (a8 0) (cn (a8 1) f7)))) ["members", "own", "number"] 2 [1] rfl (dC Bf) (dj (pV 0)) (λcl C s₀ H₀ fp=>(gv (n:=2) rfl (cN (aN 0 Qq) (cN (aN 1 Qq) gy)))) (λcl C s₀ H₀ fp=>jO) (λcl C s₀ H₀ fp=>(bz (aa (pV 0) (aa (az fW.c (pV 1) (pV 2)) ag))))) ag)))),?_⟩⟩
  exists hT.seq,?_;refine B0 (λt=>(t.1,t.2*n)) hT (by lia) [some (.int n)] rfl (λt ht H2 R s2 k=>?_) λD ys H2 hD cg s1=>?_
  ·nomatch eZ t ht,bK,k
  ·exists D,_,rfl,cg.tl,(by rw[av];exact aH),zaq h5 _,λb f H' hb j4 hF hl s'=>?_;rw[av]at hl;exact q b f H' (s1.free hb) j4 hF hl (s1.trans s')
def VG:Sp:=λvs H Q _=>∃(a b:Addr) (l m:ar),vs=[.ref a,.ref b]/\aI H a l/\aI H b m/\l.length+m.length<=100000/\fj (l++m) /\
 ∀(c:Addr) (f:ar) (H':Hp),H c=none->aI H' c f->IsForm f->(∀k,aQ f k=aQ l k-aQ m k)->f.length<=l.length+m.length->af H H'->Q (.ref c) H'
def By(T:Txt w K mg):Hu.Ok P w K mg base 4 VG:=by
  refine Rw.ok T.d_Z63.F T.d_Z63.S ?_;rintro vs H Q E ⟨a,b,l,m,rfl,iw,gX,aH,h5,q⟩;exists rfl,λ_ _ _ _ hr hu nd=>⟨_,(ao (aA (aC T.d_Z72 (uK T) hr (aa (pV 0) (aa (aC T.d_Z79 (O4 T) hr (aa (pV 1) (aa (o6 oq ai) ag))) ag))))),?_⟩;exists _,rfl,b,m,-1,rfl,gX.tl,by lia,zaJ h5,λt _=>kN (by decide) (by decide),λd g H1 hd cg dB ft s1=>?_;exists a,d,l,g,rfl,iw.keep s1,cg,by lia,KP h5 (λt ht=>?_),λc f H2 hc bE eF jL s2=>?_
  ·rw[aT,bF];rcases bF.mp ht with z|z
   ·exact .inl (bW.mpr ⟨t,z,rfl⟩)
   ·have:=dB.src t z
    rw[fE]at this;exact .inr this
  refine q c f H2 (s1.free hc) bE eF.toIsForm (λk=>?_) (by lia) (s1.trans s2);rw[eF.val,cO,dB.val];have e:(m.map λt=>(t.1,t.2 * -1))=m.map λt=>(t.1,-t.2):=xU λt _=>by rw[show t.2 * -1 = -t.2 by lia]
  rw[e,ow];lia
def zcx(K:Frag):Sp:=λvs H Q _=>∃(w:Nat) (a b:Addr) (l m:ar),vs=[.str (gG w),.ref a,.ref b]/\w<3/\aI H a l/\aI H b m/\(l.length<=64/\m.length<=64)/\(∃ls,ls.length<=5/\K5 ls l/\K5 ls m)/\(w=2->∀t∈l,∀u∈m,IntMulOk t.2 u.2) /\
 ∀(c:Addr) (f:ar) (H':Hp),H c=none->aI H' c f->bf f (C7 w l m)->af H H'->Q (.ref c) H'
def zaU(T:Txt w K mg):Fl.Ok P w K mg base 5 (zcx K):=by
  refine Rw.ok T.d_Z3.F T.d_Z3.S ?_;rintro vs H Q E ⟨wo,a,b,l,m,rfl,hw,iw,gX,aH,h5,eZ,q⟩;refine⟨rfl,fun _ _ _ _ hr hu nd=>⟨_,(ak (bO (bM aV (pV 0) au) (ao (aA (aC T.d_Z72 (uK T) hr.m (aa (pV 1) (aa (pV 2) ag))))) aM) (ak (bO (bM aV (pV 0) au) (ao (aA (aC T.d_Z63 (By T) hr (aa (pV 1) (aa (pV 2) ag))))) aM) (ao (aA (aC T.d_Z86 (zK T) hr.m (aa (pV 1) (aa (pV 2) ag))))))),?_⟩⟩
  obtain⟨ls,z5,zl,zm⟩:=h5;have j3:l.length*m.length<=64*64:=gC aH.1 aH.2;obtain rfl|rfl|rfl:wo=0\/wo=1\/wo=2:=by lia
  ·refine vy ?_;nomatch a,b,l,m,rfl,iw,gX,by lia,⟨ls,z5,zl.app zm⟩,λc f H1 hc hT hF hl s1=>q c f H1 hc hT hF s1
  ·refine vn ?_;refine vy ?_;exists a,b,l,m,rfl,iw,gX,by omega,⟨ls,z5,zl.app zm⟩,λc f H1 hc hT hI hv hl s1=>?_;refine q c f H1 hc hT (lL hI λk=>?_) s1;show _=aQ (l++m.map λt=>(t.1,-t.2)) k;rw[hv,cO,ow];lia
  ·refine vn ?_;refine vn ?_;nomatch a,b,l,m,rfl,iw.tl,gX.tl,by lia,⟨ls,z5,zl.prod zm⟩,eZ rfl,λc f H1 hc hT hF hl s1=>q c f H1 hc hT hF s1
def VI:Sp:=λvs H Q E=>∃fs ls:List Nat,vs=[.str (S fs),.str (S ls)]/\(∀c∈fs,48<=c/\c<=57)/\fs.length<=1000/\(∀n:Nat,k9 fs ls=some n->Q (.int (n:Int)) H)/\(k9 fs ls=none->False)
def za9(T:Txt w K mg):GQ.Ok P w K mg base 1 VI:=by
  refine Rw.ok T.d_Z75.F T.d_Z75.S ?_;rintro vs H Q E ⟨fs,ls,rfl,hd,aH,q,e⟩;refine⟨rfl,fun _ _ _ _ hr hu nd=>⟨_,(ak (bp (PW.pt (iO (a7 oP (pv 0) au) (jy (a7 Ad (pv 1) au)))) (ao (aA ai)) aM) (ak (bp (PW.pt (lE (a7 oP (pv 0) au) (lE (a7 oP (mh pF (pv 0) ai) au) (mq (PW.pt (iO (a7 oP (pv 0) au) (jy (a7 Ad (pv 1) au)))))))) (ao gA) aM) (ak (aD 2 nd ai) (ak (eK df rfl (A5 (pv 0)) (aN 3 nd) (ao (aD 2 nd (az fz (az fW (pv 2) ai) (gE CN rfl T.n_int sv (aa (pv 3) ag)))))) (ao (aA (pv 2))))))),?_⟩⟩
  have run:∀n:Nat,digitsVal fs=n->Q (.int (n:Int)) H->Ae (rZ (tC (V.int 0)) (a8 2)) (Ae (Ie (Qv (kx 0)) (a8 3) (rZ (kc (kG λi j=>V.int (i+j)) (kc (rI IntMulOk λi j=>V.int (i*j)) (kx 2) (tC (V.int 10))) (yY (λxs H Q=>∃x n,xs=[V.str x]/\intText? x=some n/\x.length<=640/\Q (V.int n) H) (ql (kx 3) sj))) (a8 2))) (yA (kx 2))) {nx:=λx H'=>Q V.non H',rt:=Q} [some (V.str (S (fs))),some (V.str (S (ls))),none,none] H:=by
   intro n hn hq;exists _,rfl,_,rfl,zy (λc hc=>by have:=hd c hc;lia),?_;refine Lq (l:=fs) (λi σ G=>∃v3,σ=[some (.str (S fs)),some (.str (S ls)),some (.int ((digitsVal (fs.take i):Nat):Int)),v3]/\G=H)
    ⟨none,rfl,rfl⟩ ?_ ?_
   ·rintro i c σ G hc ⟨v3,rfl,rfl⟩;have j5:=hd c (dr hc);obtain⟨d,rfl⟩:∃d,c=48+d:=⟨c-48,by lia⟩;have bP:fs.take (i+1)=fs.take i++[48+d]:=by rw[dU,hc];rfl
    unfold a8;exists _,rfl,_,_,rfl,rfl,kN (by decide) (by decide),_,rfl,_,_,rfl,HC d (by lia),(by show 1<=640;decide),_,_,rfl,rfl,?_;exists some (.str (S [48+d])),?_,rfl;rw[bP,NumText.digitsVal_snoc];have e:((digitsVal (fs.take i)*10+(48+d-48):Nat):Int)=((digitsVal (fs.take i):Nat):Int)*10+(d:Int):=by lia
    rw[e];rfl
   ·rintro σ G ⟨v3,rfl,rfl⟩;exists _,rfl,?_;rw[dO,hn];exact hq
  exists _,rfl,rfl,_,rfl,?_;by_cases h1:fs=[]
  ·refine aY (aR ((pU _).mpr h1)) ?_;exists _,rfl,rfl,_,rfl,?_;by_cases h2:ls=[]
   ·refine aK (by rw[aR ((pU _).mpr h2)];decide) ?_;exists _,rfl,rfl,_,rfl,aY (aR ((pU _).mpr h1)) ?_;exact e (by unfold k9;rw[ax (λz=>z.2 h2),aB (.inl h1)])
   ·refine aY (by rw[bj (λy=>h2 ((pU _).mp y))];rfl) ?_;exact q 1 (by unfold k9;rw[aB ⟨h1,h2⟩])
  ·refine aK (λy=>h1 ((pU _).mp (bG y))) ?_;exists _,rfl,rfl,_,rfl,aK (λy=>h1 ((pU _).mp (bG y))) ?_;obtain⟨c,r,Ct⟩:∃c r,fs=c::r:=by
    cases fs with
    |nil=>exact absurd rfl h1
    |cons c r=>nomatch c,r,rfl
   have hz:(S fs).length<=sizeLine:=by rw[aG];exact aW aH (by decide)
   have mT:di (S fs).cps.toList 0=some c:=by rw[gm,Ct];exact bo (j:=0) rfl
   exists _,rfl,_,_,_,rfl,rfl,hz,mT,rfl,_,rfl,?_;by_cases h3:c=48
   ·refine aY (aR (by rw[h3,jW];rfl)) ?_;exact e (by unfold k9;rw[ax (λz=>h1 z.1),aB (.inr (.inl (by rw[Ct,h3];rfl)))])
   ·refine aK (λy=>h3 (by
     have:=bG y
     injection this with this
     rw[jW]at this
     have:=eG (a:=[c]) this
     simpa using this)) ?_
    have mR:¬fs.head?=some 48:=by rw[Ct];simpa using h3
    exists _,rfl,rfl,_,rfl,?_;by_cases h4:fs=[49]
    ·refine aY (aR (by rw[h4,wg])) ?_;exists _,rfl,rfl,_,rfl,?_;by_cases h2:ls=[]
     ·refine aK (by rw[aR ((pU _).mpr h2)];decide) ?_;exact run _ rfl (q _ (by unfold k9;rw[ax (λz=>h1 z.1),ax (λz=>by
       rcases z with z|z|z
       ·exact h1 z
       ·exact mR z
       ·exact z.2 h2)]))
     ·refine aY (by rw[bj (λy=>h2 ((pU _).mp y))];rfl) ?_;exact e (by unfold k9;rw[ax (λz=>h1 z.1),aB (.inr (.inr ⟨h4,h2⟩))])
    ·refine aK (λw=>h4 (by
      have:=bG w
      injection this with this
      rw[wg]at this;exact eG this)) ?_
     exact run _ rfl (q _ (by unfold k9;rw[ax (λz=>h1 z.1),ax (λz=>by
      rcases z with z|z|z
      ·exact h1 z
      ·exact mR z
      ·exact h4 z.1)]))
def zae:Sp:=λvs H Q _=>∃m:Nat,vs=[.int (m:Int)]/\m<=100/\Q (.int (2^m)) H
def ur(T:Txt w K mg):Gs.Ok P w K mg base 1 zae:=by
  refine Rw.ok T.d_Z4.F T.d_Z4.S ?_;rintro vs H Q E ⟨m,rfl,hm,q⟩;refine⟨rfl,fun _ _ _ _ hr hu nd=>⟨_,(ak (aD 1 nd ai) (ak (eK df rfl (kB rfl T.n_range (aa (pV 0) ag)) (aN 2 nd) (ao (aD 1 nd (az fW.c (pV 1) ai)))) (ao (aA (pV 1))))),?_⟩⟩
  exists (m:Int),rfl,by lia,by lia,pI (n:=m) (λi σ H2=>∃v2:Option V,σ=[some (.int (m:Int)),some (.int (2^i)),v2]/\H2=H) ⟨none,rfl,rfl⟩ ?_ ?_
  ·rintro i σ H2 hi ⟨v2,rfl,rfl⟩;exists kN (by decide) (by decide),some (.int (0+(i:Int))),?_,rfl;rw[Int.pow_succ];rfl
  ·rintro σ H2 ⟨v2,rfl,rfl⟩;exact q
def TV:Sp:=λvs H Q E=>∃l:List Nat,vs=[.str (S l)]/\(∀c∈l,c<128)/\(∀m:Nat,kz l (-1) 0=some m->Q (.int (m:Int)) H)/\(kz l (-1) 0=none->False)
def SO(T:Txt w K mg):DH.Ok P w K mg base 2 TV:=by
  refine Rw.ok T.d_Z76.F T.d_Z76.S ?_;rintro vs H Q E ⟨l,rfl,ha,q,e⟩;refine⟨rfl,fun _ _ _ _ hr hu nd=>⟨_,(ak (aD 1 nd ai) (ak (aD 2 nd (o6 oq ai)) (ak (eK df rfl (A5 (pV 0)) (aN 3 nd) (ak (aD 4 nd (bY fq Ce Cy Fj (fA (v:=.str "abcdefghijklmnop") (by rfl) T.g_LETTERS ⟨_,rfl⟩) (aa (pV 3) ag)))
   (ak (bO (bM rO.j (pV 4) (pV 2)) (ao gA) aM) (ak (aD 1 nd (az fz.j (pV 1) (aC T.d_Z4 (ur T) hr (aa (pV 4) ag)))) (ao (aD 2 nd (pV 4)))))))
   (ao (aA (pV 1)))))),?_⟩⟩
  exists _,rfl,_,rfl,zy ha,?_;refine Lq (l:=l) (λi σ G=>∃(v3 v4:Option V) (la:Int) (m:Nat),σ=[some (.str (S l)),some (.int (m:Int)),some (.int la),v3,v4] /\ -1<=la/\kz l (-1) 0=kz (l.drop i) la m/\G=H)
   ⟨none,none,-1,0,rfl,by lia,by rw[tD],rfl⟩ ?_ ?_
  ·rintro i c σ G hc ⟨v3,v4,la,m,rfl,gx,hr,rfl⟩;have iR:=(dS.mp hc).1;have ed:l.drop i=c::l.drop (i+1):=by
    rw[tO iR];congr 1;exact (dS.mp hc).2
   have V3:=ha c (dr hc);rw[ed]at hr;unfold a8;exists rfl,_,_,rfl,rfl,?_;rw[kX,Wb c V3];refine v2 (λz=>?_) (λz=>?_)
   ·have z':=bG z;exact e (by rw[hr];unfold kz;rw[aB z'])
   ·have z':¬nZ c<=la:=λy=>z (aR y)
    obtain⟨k,hk⟩:∃k:Nat,nZ c=(k:Int):=⟨(nZ c).toNat,by lia⟩;have ni:k<16:=by
     unfold nZ at hk;split at hk<;>lia
    rw[hk];exists k,rfl,by lia,?_;exists some (.str (S [c])),some (.int (k:Int)),(k:Int),m+2^k,?_,by lia,?_,rfl
    ·rw[show ((m+2^k:Nat):Int)=(m:Int)+2^k by rw[mD];lia];rfl
    ·rw[hr];show kz (c::l.drop (i+1)) la m=_
     conv=>lhs;unfold kz
     rw[ax z',hk,ph]
  ·rintro σ G ⟨v3,v4,la,m,rfl,gx,hr,rfl⟩;rw[zO]at hr;exact q m hr
def Yu:Sp:=λvs H Q E=>∃sg wo:List Nat,vs=[.str (S sg),.str (S wo)]/\(∀c∈wo,c<128)/\wo.length<=1000/\(∀t,nX sg wo=some t->∀c,H c=none->Q (.ref c) (upd H c (.tup [.int t.1,.int t.2])))/\(nX sg wo=none->False)
def Vl(T:Txt w K mg):HZ.Ok P w K mg base 3 Yu:=by
  refine Rw.ok T.d_Z77.F T.d_Z77.S ?_;rintro vs H Q E ⟨yz,wo,rfl,ha,hl,q,e⟩;refine⟨rfl,fun _ _ _ _ hr hu nd=>⟨_,(ak (bp (PW.pt (iO (a7 jM (pV 0) au) (jy (a7 jM (pV 0) au)))) (ao gA) aM) (ak (aD 2 nd (bY fq PySem.F.slot_str_lstrip PySem.F.type_str_lstrip zbk (pV 1) (aa (fA (v:=.str "0123456789") (by rfl) T.g_FIGURES ⟨_,rfl⟩) ag)))
   (ak (aD 3 nd (aC T.d_Z75 (za9 T) hr.m (aa (k7 yF (pV 1) nB (iu (az ki.j (bD m8 (by rfl) T.n_len dI (aa (pV 1) ag)) (bD m8 (by rfl) T.n_len dI (aa (pV 2) ag))))) (aa (pV 2) ag))))
   (ao (aA (bz (aa (aC T.d_Z76 (SO T) hr (aa (pV 2) ag)) (aa (sW (a7 aV (pV 0) au) (o6 oq (pV 3)) (pV 3)) ag)))))))),?_⟩⟩
  have sg:∀(a:List Nat) (b:Nat),(V.str (S a)=V.str (S [b]))↔a=[b]:=λa b=>⟨λz=>by
   injection z with z
   exact eG z,λz=>by rw[z]⟩
  have so:=Td wo;have hll':(kZ wo).length+(fS wo).length=wo.length:=by
   have:=congrArg List.length so
   rw[aS]at this;lia
  have fU:(S wo).length<=sizeLine:=by rw[aG];exact aW hl (by decide)
  have j3:(S (fS wo)).length<=sizeLine:=by rw[aG];exact aW (show (fS wo).length<=1000 by lia) (by decide)
  have el:Txt.lstripChars (S wo) (ofString "0123456789")=S (fS wo):=by
   rw[ML]
   conv=>lhs;rw[so]
   exact Vx (HK wo) zbM
  have es:Txt.slice (S wo) none (some (((S wo).length:Int)-((S (fS wo)).length:Int)))=S (kZ wo):=by
   have e1:((S wo).length:Int)-((S (fS wo)).length:Int)=((kZ wo).length:Int):=by
    rw[aG,aG];lia
   rw[e1]
   have:=Uz (a:=kZ wo) (b:=fS wo)
   rwa [<-so]at this
  have wj:∀c∈fS wo,c<128:=λc hc=>ha c (by rw[so];exact fX _ hc)
  by_cases hs:yz=[43]\/yz=[45]
  ·have hT:nX yz wo=match k9 (kZ wo) (fS wo),kz (fS wo) (-1) 0 with
    |some n,some m=>some ((m:Int),if yz=[45]then -(n:Int)else (n:Int))
    |_,_=>none:=aB hs
   rcases hs with rfl|rfl
   ·exists _,rfl,aK (by rw[wV,aR rfl];decide) ?_;exists rfl,_,_,rfl,rfl,fU,?_;rw[el];exists _,rfl,fU,_,rfl,j3,_,rfl,fU,kZ wo,fS wo,(by rw[es];rfl),HK wo,by lia,λn hn=>?_,λhn=>e (by rw[hT,hn]);exists fS wo,rfl,wj,λm hm=>?_,λhm=>e (by rw[hT,hn,hm]);exists _,rfl,?_;refine aK (by rw[j6];exact λy=>absurd ((sg _ _).mp (bG y)) (by decide)) ?_;nomatch bK,λc hc=>q _ (by rw[hT,hn,hm]) c hc
   ·exists _,rfl,aY (by rw[wV,bj (λy=>absurd ((sg _ _).mp y) (by decide))];rfl) ?_;exists _,rfl,aK (by rw[j6,aR rfl];decide) ?_;exists rfl,_,_,rfl,rfl,fU,?_;rw[el];exists _,rfl,fU,_,rfl,j3,_,rfl,fU,kZ wo,fS wo,(by rw[es];rfl),HK wo,by omega,λn hn=>?_,λhn=>e (by rw[hT,hn]);exists fS wo,rfl,wj,λm hm=>?_,λhm=>e (by rw[hT,hn,hm]);exists _,rfl,?_;refine aY (by rw[j6];exact aR rfl) ?_;nomatch _,rfl,bK,λc hc=>q _ (by rw[hT,hn,hm]) c hc
  ·exists _,rfl,aY (by rw[wV,bj (λy=>hs (.inl ((sg _ _).mp y)))];rfl) ?_;exists _,rfl,aY (by rw[j6,bj (λy=>hs (.inr ((sg _ _).mp y)))];rfl) ?_;exact e (by unfold nX;rw[ax hs])
def Xd(K:Frag):Sp:=λvs H Q _=>∃(a:Addr) (f:ar),vs=[.ref a]/\aI H a f/\Q (.bl (jg f (-1))) H
def Yc(T:Txt w K mg):HH.Ok P w K mg base 1 (Xd K):=by
  refine Rw.ok T.d_Z20.F T.d_Z20.S ?_;rintro vs H Q E ⟨a,f,rfl,hT,q⟩;refine⟨rfl,fun _ _ _ _ hr hu nd=>⟨_,(ak (aD 1 nd (o6 oq ai)) (ak (eK df rfl (dj (pV 0)) (ig (n:=2) rfl (cL (aN 2 nd) (cL (aN 3 nd) ik))) (ak (bp (PW.pt (lE (a7 rO.j (pV 2) (pV 1)) (mq (a7 aV (pV 3) ai)))) (ao (aA oS)) aM) (ao (aD 1 nd (pV 2))))) (ao (aA oS)))),?_⟩⟩
  obtain⟨ps,hS,hP⟩:=id hT;have cD:=hP.length;exists _,rfl,⟨_,aj.of hS⟩,?_;refine jK (K:=K) (a:=a) (xs:=ps.map V.ref) (λi σ G=>∃v2 v3 la,σ=[some (.ref a),some (.int la),v2,v3]/\jg f (-1)=jg (f.drop i) la/\G=H)
   ⟨none,none,-1,rfl,by rw[tD],rfl⟩ (λi σ G _ ⟨_,_,_,_,_,e⟩=>by rw[e];exact aj.of hS) ?_ ?_
  ·rintro i y σ G hi ⟨v2,v3,la,rfl,gx,rfl⟩;obtain⟨p,c6,rfl⟩:=fY hi;obtain⟨t,bg,cK⟩:=hP.at' c6;have ed:f.drop i=t::f.drop (i+1):=by
    rw[tO (dS.mp bg).1];congr 1;exact (dS.mp bg).2
   rw[ed]at gx;exists _,ay.of cK,rfl,?_;exists _,rfl,eR (λz=>?_) (λz=>?_)
   ·have z':=bG z;have e1:jg f (-1)=false:=by rw[gx];unfold jg;rw[aB (.inl z')]
    rw[e1]at q;exact ff q
   ·have z':¬t.1<=la:=λy=>z (aR y)
    exists _,rfl,eR (λz2=>?_) (λz2=>?_)
    ·have y:t.2=0:=by have h:=bG z2;injection h
     have e1:jg f (-1)=false:=by rw[gx];unfold jg;rw[aB (.inr y)]
     rw[e1]at q;exact q
    ·have y:¬t.2=0:=λy=>z2 (aR (by rw[y]))
     exists _,_,t.1,rfl,?_,rfl;rw[gx]
     conv=>lhs;unfold jg
     rw[ax (λw=>w.elim z' y)]
  ·rintro σ G ⟨v2,v3,la,rfl,gx,rfl⟩;rw[av,cD,zO]at gx;rw[gx]at q;exact q
def YG:Sp:=λvs H Q E=>∃l:List Nat,vs=[.str (S l)]/\(∀c∈l,c<128)/\l.length<=900/\(∀f,mL l=some f->∀(c:Addr) (H':Hp),H c=none->aI H' c f->af H H'->Q (.ref c) H')/\(mL l=none->∀H',af H H'->False)
def JY:(["sign","word"]:List Str).Nodup:=by decide+kernel
def Zt(T:Txt w K mg):zu.Ok P w K mg base 4 YG:=by
  refine Rw.ok T.d_Z14.F T.d_Z14.S ?_;rintro vs H Q E ⟨l,rfl,ha,hl,q,e⟩;refine⟨rfl,fun _ _ _ _ hr hu nd=>⟨_,(ak (bp (a7 aV (pV 0) au) (ao (aA (bq ag))) aM) (ak (aD 1 nd (bY fq HX Dn Fs (pV 0) (aa au ag))) (ak (ke (bp (gk (bY fq Fb Fi JM (pV 0) (aa au ag))) (ak (qm (k7 yF (xL (pV 1) ai) (iu ai) nB) (Qk (pV 1) ai OX)) (ao (d6 (bY cB PQ QR IG (pV 1) (aa ai (aa au ag)))))) (ao (d6 (bY cB PQ QR IG (pV 1) (aa ai (aa au ag))))))) (ak (bp (a7 jM (az bQ.c (bD gd (by rfl) T.n_len dI (aa (pV 1) ag)) ai) ai) (ao gA) aM)
   (ak (yd (i:=2) (g:=(fT K 2 (cn (a8 0) (cn (a8 1) f7)))) ["sign", "word"] 2 [] nd rfl (Or.inl rfl) rfl (dC zu) (WO rfl T.n_zip (aa (QO (pV 1) (iu ai) (iu ai)) (aa (QO (pV 1) (iu ai) (iu ai)) ag))) (λcl C s₀ H₀ fp=>(gv (n:=2) rfl (cN (aN 0 JY) (cN (aN 1 JY) gy)))) (λcl C s₀ H₀ fp=>jO) (λcl C s₀ H₀ fp=>(aC T.d_Z77 (Vl T) hr (aa (pV 0) (aa (pV 1) ag))))) (ak (bp (kn (gk (aC T.d_Z20 (Yc T) hr.m (aa (pV 2) ag)))) (ao gA) aM) (ao (aA (pV 2))))))))),?_⟩⟩
  exists _,rfl,?_;by_cases h0:l=[48]
  ·refine aY (aR (by rw[h0,jW])) ?_;nomatch bS _,λc hc=>q [] (by unfold mL;rw[aB h0]) c _ hc ⟨[],aq,.nil⟩ (af.upd hc)
  refine aK (λw=>h0 (by
   have:=bG w
   injection this with this
   rw[jW]at this;exact eG this)) ?_
  have iV:Txt.split (S l) (S [32])=(aU l).map S:=by
   have:=EV (c:=32) (ma l) (uT l)
   rwa [xF l]at this
  exists rfl,_,_,rfl,rfl,(by rw[nF];rfl),(by rw[aG];exact lB hl (by decide)),λW hW=>?_;rw[nF,iV];generalize eU:upd H W _=H1;obtain⟨s1,w1⟩:=nw eU hW;have kL:=vQ l;have jv:=xk l;exists λσ' G'=>σ'=[some (.str (S l)),some (.ref W),none]/\G' W=some (.lst (((gJ l).map S).map V.str))/\af H G',?_,?_
  ·obtain⟨w0,wr,ew⟩:∃w0 wr,aU l=w0::wr:=by
    cases e:aU l with
    |nil=>exact absurd e (ma l)
    |cons a b=>nomatch a,b,rfl
   rw[ew]at w1;exists rfl,_,_,rfl,rfl,_,rfl,?_;have hwrl:((wr.map S).map V.str).length<=1001:=by rw[av,av];rw[ew,br]at kL;lia
   by_cases rA:l.head?=some 45
   ·refine aY (by rw[j6,ME];exact aR rA) ?_;obtain⟨w',rfl⟩:∃w',w0=45::w':=WT rA (by decide) ew;have fU:(S (45::w')).length<=sizeLine:=by
     rw[aG]
     have:=kL.2 (45::w') (by rw[ew];simp)
     exact aW this (aW hl (by decide))
    have esl:Txt.slice (S (45::w')) (some 1) none=S w':=PH (a:=[45]) (b:=w');exists _,aj.of w1,bo (j:=0) rfl,_,rfl,fU,W,_,_,0,rfl,rfl,w1,(by show j7 (_+1) 0=some 0;unfold j7;simp),?_;exists .inl ⟨rfl,_,aj.of aq⟩,W,_,0,_,rfl,rfl,aq,bS _,?_,?_
    ·rw[sE];show ((wr.map S).map V.str).length+1<_;exact bH (by lia)
    exists rfl,?_,(s1.write hW).write hW;rw[aq,esl,j6];unfold gJ;rw[aB rA,ew];rfl
   ·refine aK (by rw[j6,ME,bj rA];decide) ?_;exists .inl ⟨rfl,_,aj.of w1⟩,W,_,0,_,rfl,rfl,w1,bS _,?_,?_
    ·show ((wr.map S).map V.str).length+1<_;exact bH (by lia)
    exists rfl,?_,s1.write hW;rw[aq,wV];unfold gJ;rw[ax rA,ew];rfl
  ·rintro σ' G' ⟨rfl,w2,s2⟩;have tq:=Vg l;have pe:∀x,oy (gJ l)=x->mL l=match x with
     |some f=>if jg f (-1)=true then some f else none
     |none=>none:=λx hx=>by unfold mL;rw[ax h0,hx]<;>(cases x<;>rfl)
   exists W,_,rfl,.inl (aj.of w2),(by show (0:Int)<2;decide),_,rfl,?_;by_cases hev:(gJ l).length%2=0
   rotate_left
   ·refine aY (by
     show (!decide (V.int (((((gJ l).map S).map V.str).length:Int)%2)=V.int 0))=true;rw[av,av,bj (λz=>by injection z with z;lia)];rfl) ?_
    exact e (pe none (Lh hev)) G' s2
   refine aK (by
    show ¬(!decide (V.int (((((gJ l).map S).map V.str).length:Int)%2)=V.int 0))=true;rw[av,av,aR (by congr 1;lia)];decide) ?_
   obtain⟨pp,lW⟩:=MN hev;have cD:2*pp.length=(gJ l).length:=by rw[lW,Q0]
   have ev:((gJ l).map S).map V.str=pp.flatMap λt:List Nat×List Nat=>[V.str (S t.1),V.str (S t.2)]:=by
    rw[lW,fE,List.map_flatMap];rfl
   have Ej:oy (gJ l)=jD pp:=by rw[lW];exact Fg pp
   have TY:∀t∈pp,t.2∈gJ l:=λt ht=>by rw[lW];exact DA.mpr ⟨t,ht,by simp⟩
   rw[ev]at w2;have gN:(pp.flatMap λt:List Nat×List Nat=>[V.str (S t.1),V.str (S t.2)]).length=2*pp.length:=ua _ _ _;exists rfl,0,W,_,rfl,rfl,aj.of w2,bS _,λA hA=>?_;rw[Zo (λt:List Nat×List Nat=>V.str (S t.1)) (λt=>V.str (S t.2))];have b1:af G' (upd G' A (.lst (pp.map λt=>V.str (S t.1)))):=af.upd hA;have dM:1<=pp.length:=by have:=tq.1;lia
   exists rfl,1,W,_,rfl,rfl,aj.of (b1 _ _ w2),by rw[gN];lia,λB hB=>?_;rw[zb5 (λt:List Nat×List Nat=>V.str (S t.1)) (λt=>V.str (S t.2))];have b2:af (upd G' A (.lst (pp.map λt=>V.str (S t.1)))) (upd (upd G' A (.lst (pp.map λt=>V.str (S t.1)))) B (.lst (pp.map λt=>V.str (S t.2)))):=af.upd hB;have s3:=s2.trans (b1.trans b2);have wA:=b2 _ _ (aq:upd G' A (.lst (pp.map λt=>V.str (S t.1))) A=_);have wB:(upd (upd G' A (.lst (pp.map λt=>V.str (S t.1)))) B (.lst (pp.map λt=>V.str (S t.2)))) B=some (.lst (pp.map λt=>V.str (S t.2))):=aq;generalize upd (upd G' A (.lst (pp.map λt=>V.str (S t.1)))) B (.lst (pp.map λt=>V.str (S t.2)))=H2 at s3 wA wB;exists A,B,rfl,⟨_,aj.of wA⟩,⟨_,aj.of wB⟩,?_;refine Yj (K:=K) (a:=A) (b:=B) (xs:=pp.map λt=>V.str (S t.1)) (ys:=pp.map λt=>V.str (S t.2)) (by rw[av,av])
    (λi zs σ G=>∃v0 v1 qs fs,σ=[v0,v1]/\zs=qs.map V.ref/\cS G qs fs/\fs.length=i/\(∀rest,jD (pp.drop i)=some rest->jD pp=some (fs++rest))/\(jD (pp.drop i)=none->jD pp=none)/\G A=some (.lst (pp.map λt=>V.str (S t.1)))/\G B=some (.lst (pp.map λt=>V.str (S t.2)))/\af H G)
    ⟨none,none,[],[],rfl,rfl,.nil,rfl,(λrest h=>by rw[tD]at h;exact h),(λh=>by rw[tD]at h;exact h),wA,wB,s3⟩ (λi zs σ G hi ⟨_,_,qs,fs,_,e1,e2,e5,_,_,e3,e4,_⟩=>⟨aj.of e3,aj.of e4,by rw[e1,av,e2.length,e5];exact aO _⟩) (by rw[av];exact cj (bH (by have:=tq.2.1;lia))) ?_ ?_
   ·rintro i x y zs σ G T' hx hy ⟨v0,v1,qs,fs,rfl,rfl,g1,g5,g6,g7,g2,g3,g4⟩ j4;rw[dE]at hx hy;obtain⟨t,ht,rfl⟩:∃t,pp[i]?=some t/\V.str (S t.1)=x:=by
     cases e:pp[i]? with
     |none=>rw[e]at hx;cases hx
     |some t=>rw[e]at hx;nomatch t,rfl,dN hx
    rw[ht]at hy;cases hy;have ed:pp.drop i=t::pp.drop (i+1):=by
     rw[tO (dS.mp ht).1];congr 1;exact (dS.mp ht).2
    have iT:=TY t (dr ht);have c1:af G (upd G T' (.tup [V.str (S t.1),V.str (S t.2)])):=af.upd j4;exists T',_,rfl,ay.of aq,rfl,_,_,rfl,_,_,rfl,rfl,?_;refine tt ?_;exists t.1,t.2,rfl,(λc hc=>((tq.2.2 t.2 iT).1 c hc).elim (ha c) (λz=>by rw[z];decide)),(by have:=(tq.2.2 t.2 iT).2;lia),λu hu c hc=>?_,λhn=>?_
    ·have c2:af (upd G T' (.tup [V.str (S t.1),V.str (S t.2)])) (upd (upd G T' (.tup [V.str (S t.1),V.str (S t.2)])) c (.tup [.int u.1,.int u.2])):=af.upd hc;have c3:=c1.trans c2;exists _,_,qs++[c],fs++[u],rfl,(by rw[aT];rfl),cS.snoc (g1.keep λb xs z=>c3 b _ z) aq,by rw[aS,g5];rfl,λrest hr=>?_,λhr=>?_,c3 _ _ g2,c3 _ _ g3,g4.trans c3
     ·rw[fZ];exact g6 (u::rest) (by rw[ed];unfold jD;rw[hu,hr])
     ·exact g7 (by rw[ed];unfold jD;rw[hu,hr])
    ·exact e (pe none (by rw[Ej];exact g7 (by rw[ed];unfold jD;rw[hn]))) _ (g4.trans c1)
   ·rintro zs σ G ⟨v0,v1,qs,fs,rfl,rfl,g1,g5,g6,g7,g2,g3,g4⟩ D hD;rw[av,zO]at g6;have J1:=g6 [] rfl;rw[iM]at J1;have d1:af G (upd G D (.lst (qs.map V.ref))):=af.upd hD;have hT:aI (upd G D (.lst (qs.map V.ref))) D fs:=⟨qs,aq,g1.keep λb xs z=>d1 b _ z⟩;have Gj:=pe (some fs) (by rw[Ej];exact J1);exists D,fs,rfl,hT,?_;cases hi:jg fs (-1)with
    |true=>nomatch true,rfl,eP (q fs (by rw[Gj];exact aB hi) D _ (g4.free hD) hT (g4.trans d1))
    |false=>nomatch false,rfl,ff (e (by rw[Gj];exact ax (by rw[hi];decide)) _ (g4.trans d1))
def zaI(K:Frag):Sp:=λvs H Q _=>∃(l:List Nat) (k:Nat),vs=[.str (S l),.int (k:Int)]/\k<l.length/\l.length<=100000/\Q (.str (S (kQ (l.drop k)))) H
def WV(T:Txt w K mg):DV.Ok P w K mg base 1 (zaI K):=by
  refine Rw.ok T.d_Z87.F T.d_Z87.S ?_;rintro vs H Q E ⟨l,k,rfl,hk,hl,q⟩;refine⟨rfl,fun _ _ _ _ hr hu nd=>⟨_,(ak (eK df rfl (zch (fA (v := .ref ug) (by rfl) T.g_SPACED rfl)) (aN 2 nd)
    (ao (bp (gk (bY fq Fb Fi Yd (pV 0) (aa (pV 2) (aa (pV 1) ag)))) (ao (aA (pV 2))) aM)))
   (ao (aA (mh pF (pV 0) (pV 1))))),?_⟩⟩
  have hq:∀G:Hp,ay K G ug (m7.map λt=>V.str (S t)):=λG=>by rw[<-U9];exact T.q_SPACED G
  exists ug,rfl,⟨_,hq _⟩,?_;refine Wc (K:=K) (a:=ug) (xs:=m7.map λt=>V.str (S t)) (λi σ G=>∃v2:Option V,σ=[some (.str (S l)),some (.int (k:Int)),v2]/\(∀j t',j<i->m7[j]?=some t'->¬t' <+: l.drop k)/\G=H)
   ⟨none,rfl,(λj t' hj _=>absurd hj (yy _)),rfl⟩ (λi σ G _ _=>hq _) ?_ ?_
  ·rintro i y σ G hi ⟨v2,rfl,hb,rfl⟩;rw[dE]at hi;obtain⟨t,ht,rfl⟩:∃t,m7[i]?=some t/\V.str (S t)=y:=by
    cases e:m7[i]? with
    |none=>rw[e]at hi;cases hi
    |some t=>rw[e]at hi;nomatch t,rfl,dN hi
   unfold a8;exists rfl,_,_,k,rfl,rfl,_,rfl,?_;rw[VX l t k (cj hk)];by_cases z:t <+: l.drop k
   ·refine aY (aR z) ?_;rw[Tr ht hb z]at q;exact q
   ·refine aK (λy=>z (bG y)) ?_;exists _,rfl,λj t' hj jm=>?_,rfl;rcases uo j i with w|w
    ·exact hb j t' w jm
    ·have:j=i:=by lia
     subst this;rw[ht]at jm;cases jm;exact z
  ·rintro σ G ⟨v2,rfl,hb,rfl⟩;have e:=Vw hb;obtain⟨c,hc⟩:∃c,l[k]?=some c:=⟨_,eC hk⟩;have e1:(l.drop k).take 1=[c]:=by rw[List.take_one,List.head?_drop,hc];rfl
   rw[e,e1]at q;nomatch _,_,c,rfl,rfl,by rw[aG];exact cj (bH (by lia)),by rw[gm];exact bo hc,q
def zbd(K:Frag):Sp:=λvs H Q _=>∃ts:List (List Nat),vs=[.str (S ts.flatten)]/\Cuts ts []/\ts.flatten.length<=10000/\∀(c:Addr) (H':Hp),H c=none->H' c=some (.lst (ts.map λt=>V.str (S t)))->af H H'->Q (.ref c) H'
def QZ(T:Txt w K mg):Cv.Ok P w K mg base 2 (zbd K):=by
  refine Rw.ok T.d_Z88.F T.d_Z88.S ?_;rintro vs H Q E ⟨ts,rfl,hc,hl,q⟩;refine⟨rfl,fun _ _ _ _ hr hu nd=>⟨_,(ak (aD 1 nd (bq ag)) (ak (aD 2 nd ai) (ak (uM df (a7 pE.j (pV 2) (bD m8 (by rfl) T.n_len dI (aa (pV 0) ag))) (ak (aD 3 nd (aC T.d_Z87 (WV T) hr (aa (pV 0) (aa (pV 2) ag))))
   (ak (d6 (bY cB fI fJ fK (pV 1) (aa (pV 3) ag))) (ao (aD 2 nd (az fz.j (pV 2) (bD m8 (by rfl) T.n_len dI (aa (pV 3) ag))))))))
   (ao (aA (pV 1)))))),?_⟩⟩
  exists bS _,λc uc=>?_;have s0:af H (upd H c (.lst [])):=af.upd uc;have hz:(S ts.flatten).length<=sizeLine:=by rw[aG];exact ix (by lia)
  exists λm σ G=>∃i v3,σ=[some (.str (S ts.flatten)),some (.ref c),some (.int (((ts.take i).flatten.length:Nat):Int)),v3]/\i<=ts.length/\m=ts.length-i/\G c=some (.lst ((ts.take i).map λt=>V.str (S t)))/\af H G,⟨ts.length,0,none,rfl,bS _,rfl,aq,s0⟩,?_;rintro m σ G ⟨i,v3,rfl,hi,rfl,g1,sG⟩;exists _,rfl,hz,_,rfl,?_;by_cases z:i<ts.length
  ·obtain⟨t,ht⟩:∃t,ts[i]?=some t:=⟨_,eC z⟩;obtain⟨tn,tf⟩:=Mp hc ht;rw[iM]at tf;have bP:ts.take (i+1)=ts.take i++[t]:=by rw[dU,ht];rfl
   have kb:(ts.take (i+1)).flatten.length=(ts.take i).flatten.length+t.length:=by rw[bP,vG,aS];simp
   have yn:0<t.length:=List.length_pos_iff.mpr tn;have hle:(ts.take (i+1)).flatten.length<=ts.flatten.length:=by
    have:=congrArg (λx:List (List Nat)=>x.flatten.length) (Gx (i+1) ts)
    simp only[vG,aS]at this;lia
   refine aY (by rw[aG];exact aR (by lia)) ?_;exists λσ' G'=>∃v3,σ'=[some (.str (S ts.flatten)),some (.ref c),some (.int (((ts.take (i+1)).flatten.length:Nat):Int)),v3]/\G' c=some (.lst ((ts.take (i+1)).map λt=>V.str (S t)))/\af H G',λσ' G' ⟨v3,e1,e2,e3⟩=>⟨ts.length-(i+1),by lia,i+1,v3,e1,z,rfl,e2,e3⟩,?_;exists ts.flatten,(ts.take i).flatten.length,rfl,by lia,by lia,?_;rw[JA,tf];refine⟨.inl ⟨rfl,_,aj.of g1⟩,_,g1,(by
    rw[av,dY];have hn:ts.length<=ts.flatten.length:=CG hc;exact bH (by lia)),?_⟩
   exists _,rfl,(by rw[aG];exact ix (by lia)),?_;exists some (.str (S t)),?_,?_,sG.write uc
   ·have e:(((ts.take (i+1)).flatten.length:Nat):Int)=(((ts.take i).flatten.length:Nat):Int)+((S t).length:Int):=by rw[kb,aG];lia
    rw[e];rfl
   ·rw[aq,bP,aT];rfl
  ·have ir:i=ts.length:=by lia
   subst ir;rw[dO]at g1 ⊢;refine aK (by rw[aG];simp) ?_;exact q c G uc g1 sG
noncomputable def sF(t:Sm)(ah:List Itm):Sm×List Itm:=match ah.getLast? with
 |some (.jn w s)=>(.two w s t,ah.dropLast)
 |_=>(t,ah)
def Ny(t:Sm)(r:List Itm)(it:Itm):sF t (r++[it])=match it with|.jn w s=>(.two w s t,r)|_=>(t,r++[it]):=by
 unfold sF;rw[BW];cases it<;>simp
def RT(K:Frag):Sp:=λvs H Q _=>∃(v:V) (s:Sm) (b:Addr) (ah:List Itm),vs=[v,.ref b]/\Is H v s.d/\gZ H b ah/\ah.length<=10000 /\
 ∀(v':V) (H':Hp),Is H' v' (sF s ah).1.d->gZ H' b (sF s ah).2->bI b H H'->Q v' H'
def NB(T:Txt w K mg):HD.Ok P w K mg base 1 (RT K):=by
  refine Rw.ok T.d_Z96.F T.d_Z96.S ?_;rintro vs H Q E ⟨v,s0,b,ah,rfl,hI,hB,hl,q⟩;refine⟨rfl,fun _ _ _ _ hr hu nd=>⟨_,(ak (bp (PW.pt (iO (pP (pV 1) (fun _=>rfl)) (jy (nJ nY (xT (xL (pV 1) (o6 oq ai)) ai) (fA (v := .ref iX) (by rfl) T.g_JOINING rfl) rfl)))) (ao (aA (az Lx (gL cB kD lb kI (pV 1)) (bz (aa (pV 0) ag))))) aM)
   (ao (aA (pV 0)))),?_⟩⟩
  rcases zB ah with rfl|⟨r,it,rfl⟩
  ·exists false,.inl ⟨_,aj.of hB.nil,rfl⟩,?_;refine eP ?_;refine eP ?_;exact q v H hI hB (bI.refl _ _)
  ·obtain⟨xs,y,hb,hp,hy⟩:=hB.last;rw[Ny]at q;exists true,.inl ⟨_,aj.of hb,by simp⟩,?_;refine ff ?_;cases it with
   |nt =>
    obtain⟨p,rfl,h1⟩:=AZ hy;exists _,rfl,_,aj.of hb,qj _ _,_,ay.of h1,rfl,iX,_,rfl,.inr (T.q_JOINING _),rfl,rfl,_,rfl,aK (by decide) ?_;exact q v H hI hB (bI.refl _ _)
   |op =>
    obtain⟨p,rfl,h1⟩:=Av hy;exists _,rfl,_,aj.of hb,qj _ _,_,ay.of h1,rfl,iX,_,rfl,.inr (T.q_JOINING _),rfl,rfl,_,rfl,aK (by decide) ?_;exact q v H hI hB (bI.refl _ _)
   |jn w s2 =>
    obtain⟨p,x,rfl,h1,h2⟩:=FO hy;exists _,rfl,_,aj.of hb,qj _ _,_,ay.of h1,rfl,iX,_,rfl,.inr (T.q_JOINING _),rfl,rfl,_,rfl,aY (Qz w) ?_;exists .inl ⟨rfl,_,aj.of hb⟩,b,_,.ref p,rfl,rfl,hb,(by simp),?_;rw[qJ];have b1:bI b H (upd H b (.lst xs)):=bI.upd;exists du,λt ht=>?_;have Ed:p≠b:=λz=>by rw[z,hb]at h1;cases h1
    have dM:upd H b (.lst xs) p=some (.tup [.str (wd w),x]):=by rw[aJ Ed];exact h1
    have b2:af (upd H b (.lst xs)) (upd (upd H b (.lst xs)) t (.tup [v])):=af.upd ht;exists p,t,_,_,rfl,rfl,ay.of (b2 _ _ dM),ay.of aq,by simp,cY,(λz=>by cases z),λ_ p' lI=>?_;have b3:af (upd (upd H b (.lst xs)) t (.tup [v])) (upd (upd (upd H b (.lst xs)) t (.tup [v])) p' (.tup ([.str (wd w),x]++[v]))):=af.upd lI;have vM:bI b H (upd (upd (upd H b (.lst xs)) t (.tup [v])) p' (.tup ([.str (wd w),x]++[v]))):=b1.trans (bI.of (b2.trans b3));have kt:=vM.tups hb;exact q (.ref p') _ (xh aq (cC.mpr rfl) (gS kt h2) (gS kt hI)) ⟨xs,(b2.trans b3) _ _ aq,rP kt hp⟩ vM
def Yo(K:Frag):Sp:=λvs H Q _=>∃(v:V) (s:Sm) (b:Addr) (ah:List Itm) (k:Nat),vs=[v,.ref b]/\Is H v s.d/\gZ H b (ah++List.replicate k .nt)/\iE j2 ah/\ah.length+k<=10000 /\
 ∀(v':V) (H':Hp),Is H' v' (jI k s).d->gZ H' b ah->bI b H H'->Q v' H'
def Hw(T:Txt w K mg):F2.Ok P w K mg base 1 (Yo K):=by
  refine Rw.ok T.d_Z97.F T.d_Z97.S ?_;rintro vs H Q E ⟨v,s0,b,ah,kk,rfl,hI,hB,hn,hl,q⟩;refine⟨rfl,fun _ _ _ _ hr hu nd=>⟨_,(ak (uM df (PW.pt (iO (pP (pV 1) (fun _=>rfl)) (jy (a7 aV (xT (xL (pV 1) (o6 oq ai)) ai) au)))) (ao (aD 0 nd (az Lx (gL cB kD lb kI (pV 1)) (bz (aa (pV 0) ag)))))) (ao (aA (pV 0)))),?_⟩⟩
  exists λm σ G=>∃v1 s1 k,σ=[some v1,some (.ref b)]/\Is G v1 s1.d/\gZ G b (ah++List.replicate k .nt)/\m=k/\jI k s1=jI kk s0/\k<=kk/\bI b H G,⟨kk,v,s0,kk,rfl,hI,hB,rfl,rfl,aO _,bI.refl _ _⟩,?_;rintro m σ G ⟨v1,s1,k,rfl,K7,sT,rfl,e,hk,sB⟩;cases m with
  |zero =>
   rw[CF,iM]at sT;have fin:∀G',G'=G->Q v1 G':=λG' z=>by rw[z];exact q v1 G (by rw[<-e];exact K7) sT sB
   rcases zB ah with rfl|⟨r,it,rfl⟩
   ·exists false,.inl ⟨_,aj.of sT.nil,rfl⟩,?_;refine eP ?_;refine eP ?_;exact fin _ rfl
   ·obtain⟨xs,y,hb,hp,hy⟩:=sT.last;have dZ:=hn it (BW r it);exists true,.inl ⟨_,aj.of hb,by simp⟩,?_;refine ff ?_;cases it with
    |nt=>exact absurd trivial dZ
    |op =>
     obtain⟨p,rfl,h1⟩:=Av hy;exists _,rfl,_,aj.of hb,qj _ _,_,ay.of h1,rfl,_,rfl,?_;refine aK (by decide) ?_;exact fin _ rfl
    |jn w s2 =>
     obtain⟨p,x,rfl,h1,h2⟩:=FO hy;exists _,rfl,_,aj.of hb,qj _ _,_,ay.of h1,rfl,_,rfl,?_;refine aK (λz=>tG.2.2 (by have z':=bG z;injection z')) ?_;exact fin _ rfl
  |succ k =>
   rw[<-Qg]at sT;obtain⟨xs,y,hb,hp,hy⟩:=sT.last;obtain⟨p,rfl,h1⟩:=AZ hy;have aH:xs.length=ah.length+k:=by have:=er hp;rw[aS,BA]at this;exact this
   exists true,.inl ⟨_,aj.of hb,by simp⟩,?_;refine ff ?_;exists _,rfl,_,aj.of hb,qj _ _,_,ay.of h1,rfl,_,rfl,?_;refine aY (by decide) ?_;exists λσ' G'=>∃v2 s2,σ'=[some v2,some (.ref b)]/\Is G' v2 s2.d/\gZ G' b (ah++List.replicate k .nt)/\jI k s2=jI kk s0/\bI b H G',λσ' G' ⟨v2,s2,e1,e2,e3,e4,e5⟩=>⟨k,B9 k,v2,s2,k,e1,e2,e3,rfl,e4,by lia,e5⟩,?_;exists .inl ⟨rfl,_,aj.of hb⟩,b,_,.ref p,rfl,rfl,hb,(by simp),?_;rw[qJ];have b1:bI b G (upd G b (.lst xs)):=bI.upd;exists du,λt ht=>?_;have Ed:p≠b:=λz=>by rw[z,hb]at h1;cases h1
   have dM:upd G b (.lst xs) p=some (.tup [.str "not"]):=by rw[aJ Ed];exact h1
   have b2:af (upd G b (.lst xs)) (upd (upd G b (.lst xs)) t (.tup [v1])):=af.upd ht;exists p,t,_,_,rfl,rfl,ay.of (b2 _ _ dM),ay.of aq,by simp,bK,(λz=>by cases z),λ_ p' lI=>?_;have b3:af (upd (upd G b (.lst xs)) t (.tup [v1])) (upd (upd (upd G b (.lst xs)) t (.tup [v1])) p' (.tup ([.str "not"]++[v1]))):=af.upd lI;have vM:bI b G (upd (upd (upd G b (.lst xs)) t (.tup [v1])) p' (.tup ([.str "not"]++[v1]))):=b1.trans (bI.of (b2.trans b3));have kt:=vM.tups hb;nomatch .ref p',.no s1,rfl,iG aq (cC.mpr rfl) (gS kt K7),⟨xs,(b2.trans b3) _ _ aq,rP kt hp⟩,e,sB.trans vM
def EW(H:Hp)(v:V):Option Sm->Prop
 |none=>v=.non
 |some s=>Is H v s.d
def W7(K:Frag):Sp:=λvs H Q _=>∃(t:List Nat) (b:Addr) (ah:List Itm) (st:oW),vs=[.str (S t),.ref b]/\gZ H b ah/\ah.length<=9000/\Step (none,ah) t st /\
 ∀(v':V) (H':Hp),EW H' v' st.1->gZ H' b st.2->bI b H H'->Q v' H'
def Vu:Txt.strip (S [110,111,116,32])=ofString "not" := by decide+kernel
def zb8:Txt.strip (S [40])=ofString "(" := by decide+kernel
def zbr(T:Txt w K mg):DP.Ok P w K mg base 2 (W7 K):=by
  refine Rw.ok T.d_Z70.F T.d_Z70.S ?_;rintro vs H Q E ⟨t,b,ah,st,rfl,hB,hl,bc,q⟩;refine⟨rfl,fun _ _ _ _ hr hu nd=>⟨_,(ak (bp (PW.pt (lE (a7 aV (pV 0) au) (mq (a7 aV (pV 0) au)))) (ak (d6 (bY cB fI fJ fK (pV 1) (aa (bz (aa (gL fq PySem.F.slot_str_strip PySem.F.type_str_strip Kc (pV 0)) ag)) ag))) (ao (aA iP))) aM) (ak (bp (PW.pt (lE (a7 aV (pV 0) au) (mq (a7 aV (pV 0) au)))) (ao (aA (aC T.d_Z97 (Hw T) hr (aa (bz (aa au (aa (gE CN rfl T.n_int sv (aa (pV 0) ag)) ag))) (aa (pV 1) ag))))) aM) (ak (aD 2 nd (bY fq Ce Cy Fj (fA (v:=.str "abcdefghijklmnop") (by rfl) T.g_LETTERS ⟨_,rfl⟩) (aa (pV 0) ag)))
   (ak (bO (bM pE.j (pV 2) ai) (ao gA) aM) (ao (aA (aC T.d_Z97 (Hw T) hr (aa (bz (aa au (aa (pV 2) ag))) (aa (pV 1) ag))))))))),?_⟩⟩
  have nb:∀{a c:List Nat},a≠c->¬decide (V.str (S a)=V.str (S c))=true:=λh z=>h (by have:=bG z;injection this with this;exact eG this)
  cases bc with
  |no ah =>
   obtain⟨xs,h1,h2⟩:=hB;exists _,rfl,aY (by rw[r6];exact aR rfl) ?_;refine ff ?_;exists .inl ⟨rfl,_,aj.of h1⟩,rfl,_,rfl,rfl,(by rw[aG];show 4<=sizeLine;decide),?_;rw[Vu];exists du,λt' ht=>?_;have c1:af H (upd H t' (.tup [.str "not"])):=af.upd ht;exists _,c1 _ _ h1,(by rw[er h2];exact bH (by lia)),?_;have c2:bI b H (upd (upd H t' (.tup [.str "not"])) b (.lst (xs++[.ref t']))):=(bI.of c1).trans bI.upd;have kt:=c2.tups h1;have xc:t'≠b:=λz=>by rw[z,h1]at ht;cases ht
   exact q .non _ rfl ⟨xs++[.ref t'],aq,pK (rP kt h2) (show Is _ _ (.tup [.str "not"]) from A3 (by rw[aJ xc];exact aq) (cC.mpr rfl))⟩ c2
  |op ah =>
   obtain⟨xs,h1,h2⟩:=hB;exists _,rfl,aK (by rw[r6];exact nb (by decide)) ?_;exists _,rfl,?_;have Zr:decide (V.str (S [40])=V.str (ofString "("))=true:=by rw[xi];exact aR rfl
   rw[Zr];refine ff ?_;exists .inl ⟨rfl,_,aj.of h1⟩,rfl,_,rfl,rfl,(by rw[aG];show 1<=sizeLine;decide),?_;rw[zb8];exists du,λt' ht=>?_;have c1:af H (upd H t' (.tup [.str "("])):=af.upd ht;exists _,c1 _ _ h1,(by rw[er h2];exact bH (by omega)),?_;have c2:bI b H (upd (upd H t' (.tup [.str "("])) b (.lst (xs++[.ref t']))):=(bI.of c1).trans bI.upd;have kt:=c2.tups h1;have xc:t'≠b:=λz=>by rw[z,h1]at ht;cases ht
   exact q .non _ rfl ⟨xs++[.ref t'],aq,pK (rP kt h2) (show Is _ _ (.tup [.str "("]) from A3 (by rw[aJ xc];exact aq) (cC.mpr rfl))⟩ c2
  |bit ah k j hn hj =>
   exists _,rfl,aK (by rw[r6];exact nb (λz=>by simp at z)) ?_;exists _,rfl,aK (by rw[xi];exact nb (λz=>by simp at z;lia)) ?_;exists _,rfl,aK (by rw[jW];exact nb (λz=>by simp at z;lia)) ?_;exists _,rfl,aK (by rw[wg];exact nb (λz=>by simp at z;lia)) ?_;exists rfl,_,_,rfl,rfl,?_;rw[kX,Eu j hj];refine vN (by intro w;have:=bG w;lia) ?_;exists bK,λt' ht=>?_;have c1:af H (upd H t' (.tup [.str "bit",.int (j:Int)])):=af.upd ht;nomatch .ref t',.bit j,b,ah,k,rfl,iG aq (cC.mpr rfl) (kO.mpr rfl),hB.keep c1,hn,by simp at hl;lia,λv' H' i' s' b'=>q v' H' i' s' ((bI.of c1).trans b')
  |fix ah k c hn hc =>
   exists _,rfl,aK (by rw[r6];exact nb (λz=>by simp at z)) ?_;exists _,rfl,aK (by rw[xi];exact nb (λz=>by simp at z;lia)) ?_;rcases hc with rfl|rfl
   ·exists _,rfl,aY (by rw[jW];exact aR rfl) ?_;refine ff ?_;exists _,_,rfl,HC 0 (by decide),(by show 1<=640;decide),bK,λt' ht=>?_;have c1:af H (upd H t' (.tup [.str "fix",.int ((0:Nat):Int)])):=af.upd ht;nomatch .ref t',.fix 0,b,ah,k,rfl,iG aq (cC.mpr rfl) (kO.mpr rfl),hB.keep c1,hn,by simp at hl;lia,λv' H' i' s' b'=>q v' H' i' s' ((bI.of c1).trans b')
   ·exists _,rfl,aK (by rw[jW];exact nb (by decide)) ?_;exists _,rfl,?_;have e1:decide (V.str (S [48+(1:Int).toNat])=V.str (ofString "1"))=true:=by rw[wg];exact aR rfl
    rw[e1];refine ff ?_;exists _,_,rfl,HC 1 (by decide),(by show 1<=640;decide),bK,λt' ht=>?_;have c1:af H (upd H t' (.tup [.str "fix",.int ((1:Nat):Int)])):=af.upd ht;nomatch .ref t',.fix 1,b,ah,k,rfl,iG aq (cC.mpr rfl) (kO.mpr rfl),hB.keep c1,hn,by simp at hl;omega,λv' H' i' s' b'=>q v' H' i' s' ((bI.of c1).trans b')
def X1{w:Nat}(h:w<3):Txt.strip (S ([32]++jZ w++[32]))=wd w:=by
 rcases (show w=0\/w=1\/w=2 by lia)with rfl|rfl|rfl<;>decide+kernel
def zaE:Txt.strip (S [41])=ofString ")" := by decide+kernel
def Zq(K:Frag):Sp:=λvs H Q _=>∃(t:List Nat) (v:V) (s:Sm) (b:Addr) (ah:List Itm) (st:oW),vs=[.str (S t),v,.ref b]/\Is H v s.d/\gZ H b ah/\ah.length<=9000/\Step (some s,ah) t st /\
 ∀(v':V) (H':Hp),EW H' v' st.1->gZ H' b st.2->bI b H H'->Q v' H'
def Zm(T:Txt w K mg):GD.Ok P w K mg base 2 (Zq K):=by
  refine Rw.ok T.d_Z69.F T.d_Z69.S ?_;rintro vs H Q E ⟨t,v,s0,b,ah,st,rfl,hI,hB,hl,bc,q⟩;refine⟨rfl,fun _ _ _ _ hr hu nd=>⟨_,(ak (aD 3 nd (gL fq PySem.F.slot_str_strip PySem.F.type_str_strip Kc (pV 0))) (ak (bp (nJ nY (pV 3) (fA (v:=.ref iX) (by rfl) T.g_JOINING rfl) rfl) (ak (ke (bp (PW.pt (iO (pP (pV 2) (λ_=>rfl)) (jy (nJ nY (xT (xL (pV 2) (o6 oq ai)) ai) (fA (v:=.ref iX) (by rfl) T.g_JOINING rfl) rfl)))) (ao gA) aM))
   (ak (d6 (bY cB fI fJ fK (pV 2) (aa (bz (aa (pV 3) (aa (pV 1) ag))) ag))) (ao (aA iP)))) aM)
   (ak (bO (bM jM (pV 0) au) (ao gA) aM) (ak (aD 1 nd (aC T.d_Z96 (NB T) hr (aa (pV 1) (aa (pV 2) ag)))) (ak (bp (kn (pP (pV 2) (λ_=>rfl))) (ao gA) aM) (ak (d6 (gL cB kD lb kI (pV 2))) (ao (aA (aC T.d_Z97 (Hw T) hr (aa (pV 1) (aa (pV 2) ag))))))))))),?_⟩⟩
  cases bc with
  |jn ah s1 w hn hw =>
   obtain⟨xs,h1,h2⟩:=id hB;have fU:=GP w;exists rfl,_,rfl,rfl,(by rw[aG];exact ix (by simp;lia)),?_;rw[X1 hw];exists iX,_,rfl,.inr (T.q_JOINING _),rfl,rfl,_,rfl,aY (Qz w) ?_;exists λσ' G'=>σ'=[some (.str (S ([32]++jZ w++[32]))),some v,some (.ref b),some (.str (wd w))]/\G'=H,?_,?_
   ·rcases zB ah with rfl|⟨r,it,rfl⟩
    ·exists false,.inl ⟨_,aj.of hB.nil,rfl⟩,?_;refine eP ?_;refine eP ?_;nomatch rfl,rfl
    ·obtain⟨rh,y,hb,hp,hy⟩:=hB.last;have dZ:=hn it (BW r it);exists true,.inl ⟨_,aj.of hb,by simp⟩,?_;refine ff ?_;cases it with
     |jn w' s'=>exact absurd trivial dZ
     |nt =>
      obtain⟨p,rfl,h3⟩:=AZ hy;exists _,rfl,_,aj.of hb,qj _ _,_,ay.of h3,rfl,iX,_,rfl,.inr (T.q_JOINING _),rfl,rfl,_,rfl,aK (by decide) ?_;nomatch rfl,rfl
     |op =>
      obtain⟨p,rfl,h3⟩:=Av hy;exists _,rfl,_,aj.of hb,qj _ _,_,ay.of h3,rfl,iX,_,rfl,.inr (T.q_JOINING _),rfl,rfl,_,rfl,aK (by decide) ?_;nomatch rfl,rfl
   ·rintro σ' G' ⟨rfl,rfl⟩;exists .inl ⟨rfl,_,aj.of h1⟩,bK,λt' ht=>?_;have c1:af G' (upd G' t' (.tup [.str (wd w),v])):=af.upd ht;exists _,c1 _ _ h1,(by rw[er h2];exact bH (by lia)),?_;have c2:bI b G' (upd (upd G' t' (.tup [.str (wd w),v])) b (.lst (xs++[.ref t']))):=(bI.of c1).trans bI.upd;have kt:=c2.tups h1;have xc:t'≠b:=λz=>by rw[z,h1]at ht;cases ht
    exact q .non _ rfl ⟨xs++[.ref t'],aq,pK (rP kt h2) (show Is _ _ (.tup [.str (wd w),s0.d]) from iG (by rw[aJ xc];exact aq) (cC.mpr rfl) (gS kt hI))⟩ c2
  |cl ah k w s1 t1 hn hw =>
   have ej:sF s0 (ah++List.replicate k .nt++[.op,.jn w s1])=(.two w s1 s0,ah++List.replicate k .nt++[.op]):=by
    have:ah++List.replicate k Itm.nt++[.op,.jn w s1]=(ah++List.replicate k Itm.nt++[.op])++[.jn w s1]:=by simp
    rw[this,Ny]
   exists rfl,_,rfl,rfl,(by rw[aG];show 1<=sizeLine;decide),?_;rw[zaE];exists iX,_,rfl,.inr (T.q_JOINING _),rfl,rfl,_,rfl,aK (by decide) ?_;refine vN (by rw[HR,aR rfl];decide) ?_;exists v,s0,b,_,rfl,hI,hB,by simp at hl ⊢;lia,λv1 H1 i1 xf b1=>?_;rw[ej]at i1 xf;obtain⟨xs,y,hb,hp,hy⟩:=xf.last;exists true,.inl ⟨_,aj.of hb,by simp⟩,?_;refine eP ?_;exists .inl ⟨rfl,_,aj.of hb⟩,b,_,y,rfl,rfl,hb,(by simp),?_;rw[qJ];have c1:bI b H1 (upd H1 b (.lst xs)):=bI.upd;have kt:=c1.tups hb;nomatch v1,.two w s1 s0,b,ah,k,rfl,gS kt i1,⟨xs,aq,rP kt hp⟩,hn,by simp at hl;lia,λv' H' i' s' b'=>q v' H' i' s' (b1.trans (c1.trans b'))
def XH(K:Frag):Sp:=λvs H Q _=>∃s:Sm,vs=[.str (S (bZ s))]/\s.ok (λk=>k<16)/\(bZ s).length<=9000/\∀(v':V) (H':Hp),Is H' v' s.d->af H H'->Q v' H'
def Zv(T:Txt w K mg):GK.Ok P w K mg base 3 (XH K):=by
  refine Rw.ok T.d_Z74.F T.d_Z74.S ?_;rintro vs H Q E ⟨s0,rfl,hok,hl,q⟩;refine⟨rfl,fun _ _ _ _ hr hu nd=>⟨_,(ak (aD 1 nd (bq ag)) (ak (aD 2 nd iP) (ak (eK df rfl (dj (aC T.d_Z88 (QZ T) hr (aa (pV 0) ag))) (aN 3 nd) (ao (bO (bM rF (pV 2) iP) (ao (aD 2 nd (aC T.d_Z70 (zbr T) hr (aa (pV 3) (aa (pV 1) ag))))) (ao (aD 2 nd (aC T.d_Z69 (Zm T) hr (aa (pV 3) (aa (pV 2) (aa (pV 1) ag))))))))) (ak (bO (bM rF (pV 2) iP) (ao gA) aM) (ak (aD 2 nd (aC T.d_Z96 (NB T) hr.m (aa (pV 2) (aa (pV 1) ag)))) (ak (bp (pP (pV 1) (λ_=>rfl)) (ao gA) aM) (ao (aA (pV 2))))))))),?_⟩⟩
  obtain⟨e,fits,hrun,Jj⟩:=SN hok;obtain⟨f,f0,fn,fs⟩:=hrun.path;have uP:=(BQ hok).1;have so:=(zW (r:=[]) hok).1 [] (.inl rfl);have htn:(cQ s0).length<=9000:=by have:=CG so;rw[uP]at this;lia
  exists bS _,λb hb=>?_;have s1:af H (upd H b (.lst [])):=af.upd hb;exists cQ s0,by rw[uP];rfl,so,by rw[uP];lia,λc H1 hc LF s2=>?_;have gu:H1 b=some (.lst []):=s2 _ _ aq;have ncb:c≠b:=λz=>by rw[z,aq]at hc;cases hc
  exists ⟨_,aj.of LF⟩,?_;refine jK (K:=K) (a:=c) (xs:=(cQ s0).map λt=>V.str (S t)) (λi σ G=>∃v v3,σ=[some (.str (S (bZ s0))),some (.ref b),some v,v3]/\EW G v (f i).1/\gZ G b (f i).2/\(f i).2.length<=i/\bI b H1 G)
   ⟨.non,none,rfl,(by rw[f0];rfl),(by rw[f0];nomatch [],gu,.nil),(by rw[f0];exact aO _),bI.refl _ _⟩ (λi σ G _ ⟨_,_,_,_,_,_,e⟩=>aj.of (e _ _ ncb LF)) ?_ ?_
  ·rintro i y σ G hi ⟨v,v3,rfl,g1,g2,g3,g4⟩;rw[dE]at hi;obtain⟨t,ht,rfl⟩:∃t,(cQ s0)[i]?=some t/\V.str (S t)=y:=by
    cases e:(cQ s0)[i]? with
    |none=>rw[e]at hi;cases hi
    |some t=>rw[e]at hi;nomatch t,rfl,dN hi
   have bc:=fs i t ht;have iR:i<(cQ s0).length:=(dS.mp ht).1;have ue:=Ys bc;unfold a8;cases hp:(f i).1 with
   |none =>
    rw[hp]at g1;cases (show v=.non from g1);have CZ:Step (none,(f i).2) t (f (i+1)):=by rw[<-hp];exact bc
    exists rfl,vy ?_;exists t,b,(f i).2,f (i+1),rfl,g2,by lia,CZ,λv' G' p' s' b'=>?_;nomatch v',_,rfl,p',s',by lia,g4.trans b'
   |some mH =>
    rw[hp]at g1;have hI:Is G v mH.d:=g1;have CZ:Step (some mH,(f i).2) t (f (i+1)):=by rw[<-hp];exact bc
    exists rfl,vN (λz=>JT hI (bG z)) ?_;exists t,v,mH,b,(f i).2,f (i+1),rfl,hI,g2,by omega,CZ,λv' G' p' s' b'=>?_;nomatch v',_,rfl,p',s',by omega,g4.trans b'
  ·rintro σ G ⟨v,v3,rfl,g1,g2,g3,g4⟩;rw[av,fn]at g1 g2;have hI:Is G v e.d:=g1;have ej:sF e fits=(s0,[]):=by
    rcases Jj with ⟨rfl,rfl⟩|⟨w,a,rfl,rfl⟩
    ·rfl
    ·rfl
   have kb:fits.length<=1:=by
    rcases Jj with ⟨rfl,_⟩|⟨w,a,rfl,_⟩
    ·exact bS _
    ·exact aO _
   exists rfl,vN (λz=>JT hI (bG z)) ?_;exists v,e,b,fits,rfl,hI,g2,by lia,λv1 H2 i1 xf b1=>?_;rw[ej]at i1 xf;exists false,.inl ⟨_,aj.of xf.nil,rfl⟩,?_;refine eP ?_;exact q v1 H2 i1 (bI.same (s1.trans s2) (g4.trans b1) hb)
def zak:Sp:=λvs H Q _=>∃(v:V) (s:Sm),vs=[v]/\Is H v s.d/\s.dp<=20/\∀(D:Addr) (xs:List V) (H':Hp),H D=none->H' D=some (.lst xs)->fm H xs s.pre->af H H'->Q (.ref D) H'
def NF(T:Txt w K mg):EY.Ok P w K mg base 1 zak:=by
  refine Rw.ok T.d_Z71.F T.d_Z71.S ?_;rintro vs H Q E ⟨v,s',rfl,hI,sJ,q⟩;refine⟨rfl,fun _ _ _ _ hr hu nd=>⟨_,(ak (aD 1 nd (bq ag)) (ak (aD 2 nd (bq (aa (pV 0) ag))) (ak (uM df (pP (pV 2) (λ_=>rfl)) (ak (aD 3 nd (gL cB kD lb kI (pV 2))) (ak (d6 (bY cB fI fJ fK (pV 1) (aa (pV 3) ag))) (ao (bp (PW.pt (lE (a7 aV (xT (pV 3) ai) au) (mq (nJ nY (xT (pV 3) ai) (fA (v:=.ref iX) (by rfl) T.g_JOINING rfl) rfl)))) (ao (d6 (bY cB PySem.F.slot_list_extend PySem.F.type_list_extend zcm (pV 2) (aa (k7 za2 (pV 3) (iu ai) nB) ag)))) aM)))))
   (ao (aA (pV 1)))))),?_⟩⟩
  exists bS _,λD hD=>?_;exists du,λW hW=>?_;have s0:af H (upd H D (.lst [])):=af.upd hD;have s1:af (upd H D (.lst [])) (upd (upd H D (.lst [])) W (.lst [v])):=af.upd hW;have BF:D≠W:=λz=>by rw[<-z,aq]at hW;cases hW
  have FW:H W=none:=s0.free hW;exists λm σ G=>∃ps ws dn td v3,σ=[some v,some (.ref D),some (.ref W),v3]/\G D=some (.lst ps)/\G W=some (.lst ws)/\fm H ps dn/\fm H ws td/\dn++(td.reverse.flatMap Sm.pre)=s'.pre/\(td.map Sm.sz).sum=m/\af H G,⟨s'.sz,[],[v],[],[s'],none,rfl,s1 _ _ aq,aq,.nil,.cons hI .nil,by simp,by simp,s0.trans s1⟩,?_;rintro m σ G ⟨ps,ws,dn,td,v3,rfl,g1,g2,g3,g4,g5,g6,sG⟩;exists _,.inl ⟨ws,aj.of g2,rfl⟩,?_;have cD:ps.length=dn.length:=er g3;have t6:dn.length+(td.reverse.flatMap Sm.pre).length=s'.sz:=by rw[<-Sm.pre_len,<-g5,aS]
  have wm:=Qi sJ;by_cases dZ:ws=[]
  ·refine aK (by rw[dZ];simp) ?_;have e:td=[]:=by subst dZ;cases g4;rfl
   subst e;exact q D ps G hD g1 (by rw[<-g5];simpa using g3) sG
  ·refine aY (by simpa using dZ) ?_;obtain⟨ys,y,kC,p,rfl,rfl,h1,h2⟩:=fm.last g4 dZ;have hyl:ys.length=kC.length:=er h1;have htl:kC.length+p.sz<=((kC++[p]).reverse.flatMap Sm.pre).length:=by
    rw[qk,List.reverse_singleton,List.singleton_append,jG,aS,Sm.pre_len]
    have:∀l:List Sm,l.length<=(l.flatMap Sm.pre).length:=λl=>by
     induction l with
     |nil=>exact aO _
     |cons a l ih =>
      rw[jG,aS,Sm.pre_len,br]
      have:=a.sz_pos
      lia
    have:=this kC.reverse
    rw[Dr]at this;lia
   have hpz:=p.sz_pos;exists _,λσ' G' z=>z,?_;exists .inl ⟨rfl,_,aj.of g2⟩,W,ys++[y],y,rfl,rfl,g2,(by simp),?_;have ja:=sG.write (o:=.lst (ys++[y]).dropLast) FW;have w1:upd G W (.lst (ys++[y]).dropLast) W=some (.lst ys):=by rw[aq,qJ]
   have w2:upd G W (.lst (ys++[y]).dropLast) D=some (.lst ps):=by rw[aJ BF];exact g1
   generalize upd G W (.lst (ys++[y]).dropLast)=G1 at ja w1 w2 ⊢;exists .inl ⟨rfl,_,aj.of w2⟩,_,w2,q9 (by lia),?_;have fN:=ja.write (o:=.lst (ps++[y])) hD;have w3:upd G1 D (.lst (ps++[y])) D=some (.lst (ps++[y])):=aq;have w4:upd G1 D (.lst (ps++[y])) W=some (.lst ys):=by rw[aJ (Ne.symm BF)];exact w1
   generalize upd G1 D (.lst (ps++[y]))=G2 at fN w3 w4 ⊢;have oi:=fm.snoc g3 h2;cases p with
   |bit k =>
    obtain⟨p,rfl,hp⟩:=mr (h2.keep fN);exists _,ay.of hp,rfl,_,rfl,aK (by decide) ?_;exists _,ay.of hp,rfl,iX,_,rfl,.inr (T.q_JOINING _),rfl,rfl,_,rfl,aK (by decide) ?_;exists (kC.map Sm.sz).sum,?_,ps++[.ref p],ys,dn++[.bit k],kC,_,rfl,w3,w4,oi,h1,?_,rfl,fN
    ·rw[<-g6,aT,oV];simp[Sm.sz]
    ·rw[<-g5,qk];simp[Sm.pre]
   |fix c =>
    obtain⟨p,rfl,hp⟩:=mO (h2.keep fN);exists _,ay.of hp,rfl,_,rfl,aK (by decide) ?_;exists _,ay.of hp,rfl,iX,_,rfl,.inr (T.q_JOINING _),rfl,rfl,_,rfl,aK (by decide) ?_;exists (kC.map Sm.sz).sum,?_,ps++[.ref p],ys,dn++[.fix c],kC,_,rfl,w3,w4,oi,h1,?_,rfl,fN
    ·rw[<-g6,aT,oV];simp[Sm.sz]
    ·rw[<-g5,qk];simp[Sm.pre]
   |no s1 =>
    obtain⟨p,x,rfl,hp,hx⟩:=lY (h2.keep fN);have Gp:Is H x s1.d:=by
     obtain⟨p',x',e',lI,gO⟩:=lY h2;cases e'
     have:=fN _ _ lI
     rw[hp]at this;cases this;exact gO
    exists _,ay.of hp,rfl,_,rfl,aY (by decide) (ff ?_);exists .inl ⟨rfl,_,aj.of w4⟩,p,_,rfl,ay.of hp,(by show ¬(1=0/\_);exact λz=>absurd z.1 (by decide)),λt ht=>?_;have st:af G2 (upd G2 t (.tup [x])):=af.upd ht;have wt:upd G2 t (.tup [x]) t=some (.tup [x]):=aq;exists W,t,ys,[x],rfl,rfl,st _ _ w4,ay.of wt,(by show ys.length+1<=sizeLine;exact q9 (by lia)),?_;exists ((kC++[s1]).map Sm.sz).sum,?_,ps++[.ref p],ys++[x],dn++[.no s1],kC++[s1],_,rfl,(by rw[aJ BF];exact st _ _ w3),aq,oi,fm.snoc h1 Gp,?_,rfl,(fN.trans st).write FW
    ·rw[<-g6,aT,aT,oV,oV];simp[Sm.sz]
    ·rw[<-g5,qk,qk];simp[Sm.pre]
   |two j s1 s2 =>
    obtain⟨p,x,z,rfl,hp,hx,hz⟩:=lU (h2.keep fN);obtain⟨Gp,WE⟩:Is H x s1.d/\Is H z s2.d:=by
     obtain⟨p',x',z',e',lI,gO,CT⟩:=lU h2;cases e'
     have:=fN _ _ lI
     rw[hp]at this;cases this;nomatch gO,CT
    obtain⟨n1,n2,n3⟩:=tG (w:=j);have hsz:(Sm.two j s1 s2).sz=s1.sz+s2.sz+1:=rfl;have iH:=s1.sz_pos;have mv:=s2.sz_pos;exists _,ay.of hp,rfl,_,rfl,aK (by simpa using n3) ?_;exists _,ay.of hp,rfl,iX,_,rfl,.inr (T.q_JOINING _),rfl,rfl,_,rfl,aY (TX j) ?_;exists .inl ⟨rfl,_,aj.of w4⟩,p,_,rfl,ay.of hp,(by show ¬(1=0/\_);exact λz=>absurd z.1 (by decide)),λt ht=>?_;have st:af G2 (upd G2 t (.tup [x,z])):=af.upd ht;have wt:upd G2 t (.tup [x,z]) t=some (.tup [x,z]):=aq;exists W,t,ys,[x,z],rfl,rfl,st _ _ w4,ay.of wt,(by show ys.length+2<=sizeLine;exact q9 (by lia)),?_;exists ((kC++[s1,s2]).map Sm.sz).sum,?_,ps++[.ref p],ys++[x,z],dn++[.two j s1 s2],kC++[s1,s2],_,rfl,(by rw[aJ BF];exact st _ _ w3),aq,oi,?_,?_,rfl,(fN.trans st).write FW
    ·rw[<-g6,aT,aT,oV,oV];simp[Sm.sz]
    ·have:=fm.snoc (fm.snoc h1 Gp) WE
     rwa [fZ,fZ]at this
    ·rw[<-g5,qk,qk];simp[Sm.pre]
def LR(K:Frag):Sp:=λvs H Q _=>∃(a:Addr) (l:ar),vs=[.ref a]/\TL K H a l/\(∀t∈l,0<=t.1)/\Q (.int (cy l 0:Nat)) H
def yX(T:Txt w K mg):Ds.Ok P w K mg base 1 (LR K):=by
  refine Rw.ok T.d_Z91.F T.d_Z91.S ?_;rintro vs H Q E ⟨a,l,rfl,⟨ps,hS,hT⟩,h0,q⟩;refine⟨rfl,fun _ _ _ _ hr hu nd=>⟨_,(ak (aD 1 nd ai) (ak (eK df rfl (dj (pV 0)) (ig (n:=2) rfl (cL (aN 2 nd) (cL (aN 3 nd) ik))) (ao (aD 1 nd (az wD.j (pV 1) (pV 2))))) (ao (aA (pV 1))))),?_⟩⟩
  exists ⟨_,hS⟩,?_;refine jK (K:=K) (a:=a) (xs:=ps.map V.ref) (λi σ H2=>∃v2 v3,σ=[some (.ref a),some (.int (cy (l.take i) 0:Nat)),v2,v3]/\H2=H)
   ⟨none,none,rfl,rfl⟩ (λi σ H2 _ ⟨_,_,_,e⟩=>by rw[e];exact hS) ?_ ?_
  ·rintro i y σ H2 hi ⟨v2,v3,rfl,rfl⟩;obtain⟨p,c6,rfl⟩:=fY hi;obtain⟨t,bg,cK⟩:=hT.at' c6;have iT:=dr bg;have bP:l.take (i+1)=l.take i++[t]:=by rw[dU,bg];rfl
   have e:((t.1.toNat:Nat):Int)=t.1:=gF (h0 t iT);exists _,ay.of cK,rfl,?_;exists some (.int t.1),some (.int t.2),?_,rfl;rw[bP,EX];show [some (.ref a),some (V.int (Builtin.bitOr ((cy (l.take i) 0:Nat):Int) t.1)),_,_]=_;rw[<-e,uQ,e]
  ·rintro σ H2 ⟨v2,v3,rfl,rfl⟩;rw[av,hT.length,dO];exact q
def zbN(K:Frag):Sp:=λvs H Q _=>∃(p r:Addr) (l o:ar) (M:Nat),vs=[.ref p,.ref r]/\aI H p l/\aI H r o/\(∀t∈l,0<=t.1/\t.1<2^M)/\(∀t∈o,0<=t.1/\t.1<2^M)/\l.length<=32/\o.length<=32/\M<=16/\(∀m:Nat,(∀t∈l,0<=t.1/\t.1<2^m)->(∀t∈o,0<=t.1/\t.1<2^m)->l.length*o.length<=(m+1)*2^m)/\Q .non H
def Rr(T:Txt w K mg):C9.Ok P w K mg base 2 (zbN K):=by
  refine Rw.ok T.d_Z67.F T.d_Z67.S ?_;rintro vs H Q E ⟨p,r,l,o,M,rfl,cm,ox,hl,ho,ll,lo,hM,hth,q1⟩;refine⟨rfl,fun _ _ _ _ hr hu nd=>⟨_,(ak (aD 2 nd (gL Bh AH yV Ba (az wD.j (aC T.d_Z91 (yX T) hr (aa (pV 0) ag)) (aC T.d_Z91 (yX T) hr (aa (pV 1) ag))))) (ak (bp (a7 rO.j (az fW.c (bD gd (by rfl) T.n_len dI (aa (pV 0) ag)) (bD gd (by rfl) T.n_len dI (aa (pV 1) ag))) (az fW.c (az fz.j (pV 2) ai) (aC T.d_Z4 (ur T) hr (aa (pV 2) ag)))) (ao (aA iP)) aM)
   (ao gA))),?_⟩⟩
  have u1:=F5 hl;have u2:=F5 ho;exists p,l,rfl,cm.tl,(λt ht=>(hl t ht).1),?_;exists r,o,rfl,ox.tl,(λt ht=>(ho t ht).1),rfl,_,rfl,rfl,?_;have Nc:Builtin.bitOr ((cy l 0:Nat):Int) ((cy o 0:Nat):Int)=((cy l 0|||cy o 0:Nat):Int):=uQ _ _;have Xw:intBits (Builtin.bitOr ((cy l 0:Nat):Int) ((cy o 0:Nat):Int))<=M:=by
   rw[Nc];exact FR (Nat.or_lt_two_pow u1 u2)
  have kl:=Cn (U:=cy l 0|||cy o 0) (λt ht=>(hl t ht).1) λj hj=>by rw[mz,hj];rfl
  have ko:=Cn (U:=cy l 0|||cy o 0) (λt ht=>(ho t ht).1) λj hj=>by rw[mz,hj,Bool.or_true]
  rw[<-Nc]at kl ko;generalize intBits (Builtin.bitOr ((cy l 0:Nat):Int) ((cy o 0:Nat):Int))=many at Xw kl ko;obtain⟨pa,Z8,Yi⟩:=id cm;obtain⟨pc,Zd,hpc2⟩:=id ox;have la:=Yi.length;have lc:=hpc2.length;exists p,_,rfl,.inl (aj.of Z8),r,_,rfl,.inl (aj.of Zd),gH (by rw[av];lia) (by rw[av];lia),?_;exists many,rfl,by lia,gH (by have:=gD many;lia) (by lia),_,rfl,?_;have h:=hth many kl ko;refine aY (aR ?_) q1;rw[av,av,la,lc];exact_mod_cast h
def VQ(K:Frag):Sp:=λvs H Q _=>∃(a b:Addr) (l o:ar) (w:Nat),vs=[.str (wd w),.ref a,.ref b]/\aI H a l/\aI H b o/\w<3/\l.length+o.length+l.length*o.length<=100000/\fj (l++o)/\(∀t∈l,∀u∈o,IntMulOk t.2 u.2) /\
 ∀(c:Addr) (f:ar) (H':Hp),H c=none->aI H' c f->bf f (gi w l o)->af H H'->Q (.ref c) H'
def SY(T:Txt w K mg):FC.Ok P w K mg base 4 (VQ K):=by
  refine Rw.ok T.d_Z25.F T.d_Z25.S ?_;rintro vs H Q E ⟨a,b,l,o,w',rfl,hT,fk,hw,aH,h5,eZ,q⟩;refine⟨rfl,fun _ _ _ _ hr hu nd=>⟨_,(ak (aD 3 nd (aC T.d_Z86 (zK T) hr.m (aa (pV 1) (aa (pV 2) ag)))) (ak (bO (bM aV (pV 0) au) (ao (aA (pV 3))) aM) (ak (aD 4 nd (sW (a7 aV (pV 0) au) (o6 oq ai) (o6 oq ai))) (ao (aA (aC T.d_Z72 (uK T) hr (aa (aC T.d_Z72 (uK T) hr (aa (pV 1) (aa (pV 2) ag))) (aa (aC T.d_Z79 (O4 T) hr (aa (pV 3) (aa (pV 4) ag))) ag)))))))),?_⟩⟩
  obtain⟨zs,z5,zz⟩:=id h5;have zl:K5 zs l:=λt ht=>zz t (mS _ ht)
  have zo:K5 zs o:=λt ht=>zz t (fX _ ht)
  exists a,b,l,o,rfl,hT.tl,fk.tl,by lia,⟨zs,z5,zl.prod zo⟩,eZ,λc p H1 hc cg dB ft s1=>?_;have comb:∀(n:Int) (f g h:ar),w'≠0->n=(if w'=1 then -1 else -2)->bf g (l++o)->bf h (p.map λt=>(t.1,t.2*n))->bf f (g++h)->bf f (gi w' l o):=λn f g h Io hn hg hh hf=>by
   have ec:∀k,aQ (g++h) k=aQ (gi w' l o) k:=λk=>by
    unfold gi;rw[ax Io,cO,cO,hg.val,hh.val,<-hn];have e:∀(x:ar),aQ (x.map λt=>(t.1,t.2*n)) k=aQ x k*n:=λx=>by
     rw[uE,uE,z9]
    rw[e,e,dB.val]
   exists hf.toIsForm,λk=>by rw[hf.val,ec],λt ht=>?_;have h1:=hf.src t ht;unfold gi;rw[ax Io,aT,bF];rw[aT,bF]at h1;rcases h1 with z|z
   ·obtain⟨u,hu,e⟩:=bW.mp z;exact .inl (by rw[<-e];exact hg.src u hu)
   ·obtain⟨u,hu,e⟩:=bW.mp z;have h2:=hh.src u hu;rw[fE]at h2 ⊢;obtain⟨v,hv,e2⟩:=bW.mp h2;have h3:=dB.src v hv;obtain⟨x,hx,e3⟩:=bW.mp h3;exact .inr (bW.mpr ⟨x,hx,by rw[<-e,<-e2];exact e3⟩)
  obtain rfl|rfl|rfl:w'=0\/w'=1\/w'=2:=by lia
  ·refine vy ?_;exact q c p H1 hc cg (by unfold gi;rw[aB rfl];exact dB) s1
  ·refine vn ?_;exists _,rfl,aY (by decide) ⟨_,rfl,?_⟩;exists a,b,l,o,rfl,hT.keep s1,fk.keep s1,by lia,h5,λx g H2 hx bE eF jL s2=>?_;exists c,p,(-1),rfl,(cg.keep s2).tl,by lia,⟨zs,z5,(zl.prod zo).of dB⟩,(λt _=>kN (by decide) (by decide)),λy h H3 hy gp ie nL s3=>?_;exists x,y,g,h,rfl,bE.keep s3,gp,by lia,⟨zs,z5,(K5.of (zl.app zo) eF).app (K5.of (((zl.prod zo).of dB).map _) ie)⟩,λz f H4 hz kh hV Jb s4=>?_;exact q z f H4 (s1.free (s2.free (s3.free hz))) kh (comb (-1) f g h (by decide) rfl eF ie hV) (s1.trans (s2.trans (s3.trans s4)))
  ·refine vn ?_;exists _,rfl,aK (by decide) ⟨_,rfl,?_⟩;exists a,b,l,o,rfl,hT.keep s1,fk.keep s1,by omega,h5,λx g H2 hx bE eF jL s2=>?_;exists c,p,(-2),rfl,(cg.keep s2).tl,by omega,⟨zs,z5,(zl.prod zo).of dB⟩,(λt _=>kN (by decide) (by decide)),λy h H3 hy gp ie nL s3=>?_;exists x,y,g,h,rfl,bE.keep s3,gp,by omega,⟨zs,z5,(K5.of (zl.app zo) eF).app (K5.of (((zl.prod zo).of dB).map _) ie)⟩,λz f H4 hz kh hV Jb s4=>?_;exact q z f H4 (s1.free (s2.free (s3.free hz))) kh (comb (-2) f g h (by decide) rfl eF ie hV) (s1.trans (s2.trans (s3.trans s4)))
def Xu(K:Frag):Sp:=λvs H Q _=>∃(b:Addr) (p:Sm) (w:Str) (fs:List ar) (ls:List Nat),vs=[.str w,.ref b]/\zaA p w fs/\p.ok (λk=>k∈ls)/\p.ln<=5/\ls.length<=5/\(∀x∈ls,x<16)/\RA H b fs /\
 ∀(c:Addr) (f:ar) (H':Hp),H c=none->aI H' c f->bf f p.tl->af H H'->Q (.ref c) H'
set_option tactic.hygienic true in
def Mv(T:Txt w K mg):Ci.Ok P w K mg base 5 (Xu K):=by
  refine Rw.ok T.d_Z13.F T.d_Z13.S ?_;rintro vs H Q E ⟨b,p0,wo,fs,ls,rfl,hP,hok,gN,bt,bN,IV,q⟩;refine⟨rfl,fun _ _ _ _ hr hu nd=>⟨_,(ak (bO (bM aV (pV 0) au) (ao (aA (aC T.d_Z63 (By T) hr (aa (bq (aa (bz (aa ai (aa ai ag))) ag)) (aa (xL (pV 1) ai) ag))))) aM) (ak (aD 2 nd (aC T.d_Z67 (Rr T) hr.m (aa (xL (pV 1) ai) (aa (xL (pV 1) ai) ag)))) (ak (bO (bM rF (pV 2) iP) (ao (aA (aC T.d_Z25 (SY T) hr (aa (pV 0) (aa (xL (pV 1) ai) (aa (xL (pV 1) ai) ag)))))) aM) (ao gA)))),?_⟩⟩
  have k5:∀{s:Sm}{f:ar},s.ok (λk=>k∈ls)->bf f s.tl->K5 ls f/\f.length<2^s.ln/\(s.ln<=5->f.length<32):=fun {s f} h hF=>by
   have h1:=bf.cnt hF;have h2:=uw s;exact⟨(qE h).of hF,by lia,λz=>by have:=dX (show 2>0 by decide) z;lia⟩
  cases p0 with
  |bit _=>exact hP.elim
  |fix _=>exact hP.elim
  |no s0 =>
   obtain⟨rfl,l,rfl,hF⟩:=hP;have PN:s0.ln+1<=5:=gN;obtain⟨ps,hb,hQ⟩:=IV;cases hQ with
   |cons cm r =>
   cases r;rename_i p;obtain⟨kl,_,ll⟩:=k5 (s:=s0) hok hF;have ll:=ll (by lia);refine vy ?_;exists bK,λt1 bg=>⟨du,λe1 fL=>?_⟩;have b1:af H (upd H t1 (.tup [.int 0,.int 1])):=af.upd bg;have b2:af (upd H t1 (.tup [.int 0,.int 1])) (upd (upd H t1 (.tup [.int 0,.int 1])) e1 (.lst [.ref t1])):=af.upd fL;have B:=b1.trans b2;exists _,aj.of (B _ _ hb),rfl,e1,p,[(0,1)],l,rfl,⟨[t1],aq,.cons (b2 _ _ aq) .nil⟩,cm.keep B,(by show 1+l.length<=100000;lia),⟨ls,bt,(zZ 1).app kl⟩,λc f H2 hc bE Xx hv2 jL s2=>?_;exact q c f H2 (B.free hc) bE (IK hF Xx hv2) (B.trans s2)
  |two w s0 t0 =>
   obtain⟨rfl,hw,l,o,rfl,AG,ib⟩:=hP;obtain⟨_,mB,nH⟩:=hok;have PN:s0.ln+t0.ln<=5:=gN;obtain⟨ps,hb,hQ⟩:=IV;cases hQ with
   |cons cm r =>
   cases r with
   |cons ox r =>
   cases r;rename_i p r;obtain⟨kl,lz,ll⟩:=k5 mB AG;obtain⟨ko,oz,lo⟩:=k5 nH ib;have ll:=ll (by lia);have lo:=lo (by lia);have j3:l.length*o.length<=32*32:=gC (by lia) (by lia);obtain⟨_,_,n3⟩:=tG (w:=w);refine vN (by simpa using n3) ?_;exists _,aj.of hb,rfl,_,aj.of hb,rfl,p,r,l,o,16,rfl,cm,ox,kl.low bN,ko.low bN,by omega,by omega,by decide,(λm k1 k2=>U0 lz oz PN (LO AG.toIsForm k1) (LO ib.toIsForm k2)),?_;exists rfl,vy ?_;exists _,aj.of hb,rfl,_,aj.of hb,rfl,p,r,l,o,w,rfl,cm,ox,hw,(by lia),⟨ls,bt,kl.app ko⟩,(λt ht u hu=>lO (AB mB (by omega) AG t ht) (AB nH (by omega) ib u hu)),λd f H2 hd bE eF s2=>?_;exact q d f H2 hd bE (Lw AG ib eF) s2
def za0(K:Frag)(d:Nat):Sp:=λvs H Q _=>∃(v:V) (s:Sm) (ls:List Nat),vs=[v]/\Is H v s.d/\s.ok (λk=>k∈ls)/\s.dp<d/\s.dp<=20/\ls.length<=5/\(∀x∈ls,x<16)/\s.ln<=5 /\
 ∀(b:Addr) (f:ar) (H':Hp),H b=none->aI H' b f->bf f s.tl->af H H'->Q (.ref b) H'
set_option tactic.hygienic true in
def zcz(T:Txt w K mg):Gz.Ok P w K mg base 6 (za0 K 22):=by
  refine Rw.ok T.d_Z11.F T.d_Z11.S ?_;rintro vs H Q E ⟨v,s',ls,rfl,hI,hok,hd,hsz,bt,cM,gN,q⟩;refine⟨rfl,fun _ _ _ _ hr hu nd=>⟨_,(ak (aD 1 nd (bq ag)) (ak (eK df rfl (zaf rfl T.n_reversed (aa (aC T.d_Z71 (NF T) hr.m (aa (pV 0) ag)) ag)) (aN 2 nd) (ak (aD 3 nd (xT (pV 2) ai)) (ao (bO (bM aV (pV 3) au) (ao (d6 (bY cB fI fJ fK (pV 1) (aa (bq (aa (bz (aa (aC T.d_Z4 (ur T) hr.m (aa (xT (pV 2) ai) ag)) (aa ai ag))) ag)) ag)))) (ao (bO (bM aV (pV 3) au) (ao (d6 (bY cB fI fJ fK (pV 1) (aa (aC T.d_Z66 (B8 T) hr.m (aa (bq (aa (bz (aa ai (aa (xT (pV 2) ai) ag))) ag)) ag)) ag)))) (ao (bO (bM aV (pV 3) au) (ao (d6 (bY cB fI fJ fK (pV 1) (aa (aC T.d_Z13 (Mv T) hr (aa (pV 3) (aa (bq (aa (gL cB kD lb kI (pV 1)) ag)) ag))) ag)))) (ak (aD 4 nd (gL cB kD lb kI (pV 1))) (ao (d6 (bY cB fI fJ fK (pV 1) (aa (aC T.d_Z13 (Mv T) hr (aa (pV 3) (aa (bq (aa (gL cB kD lb kI (pV 1)) (aa (pV 4) ag))) ag))) ag))))))))))))) (ao (aA (xL (pV 1) ai))))),?_⟩⟩
  exists bS _,λC hC=>?_;have s0:af H (upd H C (.lst [])):=af.upd hC;exists v,s',rfl,hI.keep s0,hsz,λD xs H1 hD hX hS s1=>⟨D,xs,rfl,aj.of hX,?_⟩;have OV:fm H xs s'.pre:=Paired.mapP hS λx p e=>gS (λa ys z=>by
   by_cases y:a=C
   ·rw[y,aq]at z;cases z
   ·rw[aJ y]at z;exact z) e
  have mn:D≠C:=λz=>by rw[z,aq]at hD;cases hD
  have oQ:xs.length=s'.sz:=by rw[<-Sm.pre_len];exact er OV
  have wm:=Qi hsz;refine YN (K:=K) (a:=D) (xs:=xs) (λi σ G=>∃qs fl st v2 v3 v4,σ=[some v,some (.ref C),v2,v3,v4]/\G C=some (.lst (qs.map V.ref))/\d8 G qs fl/\Paired zS st fl/\rm [s'] st (s'.pre.reverse.drop i)/\st.length<=i/\(∀p∈qs,H p=none/\p≠C)/\G D=some (.lst xs)/\af H G)
   ⟨[],[],[],none,none,none,rfl,s1 _ _ aq,.nil,.nil,(by have:=yC (fin:=[s']) s' [] [] rfl;rwa [iM]at this),aO _,(λp hp=>by cases hp),hX,s0.trans s1⟩
   (λi σ G _ ⟨_,_,_,_,_,_,_,_,_,_,_,_,_,e,_⟩=>aj.of e) ?_ ?_
  ·rintro i y σ G hi ⟨qs,fl,st,v2,v3,v4,rfl,g1,g2,g3,g4,g5,g6,g7,sG⟩;obtain⟨p,dM,cm⟩:=OV.rev.at hi;have xO:=Sm.pre_ok hok p (List.mem_reverse.mp (dr dM));have pz:=aW (Sm.ln_pre (List.mem_reverse.mp (dr dM))) gN;have iR:i<s'.sz:=by
    have:=(dS.mp hi).1
    rw[Dr]at this;lia
   have WQ:s'.pre.reverse.drop i=p::s'.pre.reverse.drop (i+1):=by
    obtain⟨h1,h2⟩:=dS.mp dM;rw[tO h1,h2]
   rw[WQ]at g4;obtain⟨cu,hN,hR⟩:=g4;have Fq:=g2.length;have kb:st.length=fl.length:=er g3;have put:∀{G2:Hp}{e:Addr}{f:ar}{qa:List Addr}{fa:List ar}{sa:List Sm},G2 C=some (.lst (qa.map V.ref))->d8 G2 qa fa->Paired zS sa fa->(∀p∈qa,H p=none/\p≠C)->G2 D=some (.lst xs)->af H G2->sa.length<=i->H e=none->e≠C->aI G2 e f->zS p f->cu=sa++[p]->∀v2 v3 v4:Option V,
     (∃qs fl st v2' TN B6,[some v,some (.ref C),v2,v3,v4]=[some v,some (V.ref C),v2',TN,B6]/\upd G2 C (.lst (qa.map V.ref++[.ref e])) C=some (.lst (qs.map V.ref))/\d8 (upd G2 C (.lst (qa.map V.ref++[.ref e]))) qs fl/\Paired zS st fl/\rm [s'] st (s'.pre.reverse.drop (i+1))/\st.length<=i+1/\(∀p∈qs,H p=none/\p≠C)/\upd G2 C (.lst (qa.map V.ref++[.ref e])) D=some (.lst xs)/\af H (upd G2 C (.lst (qa.map V.ref++[.ref e])))):=by
    intro G2 e f qa fa sa h1 h2 h3 h4 h5 h6 h6b h7 h8 h9 vg Hj v2 v3 v4;exists qa++[e],fa++[f],sa++[p],v2,v3,v4,rfl,(by rw[aq,aT];rfl),?_,pK h3 vg,(by rw[<-Hj];exact hR),(by rw[aS];show sa.length+1<=i+1;lia),λp' lI=>?_,(by rw[aJ mn];exact h5),h6.write hC
    ·refine d8.keepU h1 (d8.snoc h2 h9) λz=>?_
     rcases bF.mp z with y|y
     ·exact (h4 C y).2 rfl
     ·exact h8 (bu.mp y).symm
    ·rcases bF.mp lI with y|y
     ·exact h4 p' y
     ·rw[bu.mp y];nomatch h7,h8
   cases p with
   |bit k =>
    obtain⟨p,rfl,hp⟩:=mr (cm.keep sG);have ni:=cM k xO;exists _,ay.of hp,rfl,?_;refine vy ?_;exists .inl ⟨rfl,_,aj.of g1⟩,_,ay.of hp,rfl,k,rfl,by lia,bK,λt1 bg=>⟨du,λe1 fL=>?_⟩;have b1:af G (upd G t1 (.tup [.int (2^k),.int 1])):=af.upd bg;have b2:af (upd G t1 (.tup [.int (2^k),.int 1])) (upd (upd G t1 (.tup [.int (2^k),.int 1])) e1 (.lst [.ref t1])):=af.upd fL;have B:=b1.trans b2;nomatch _,B _ _ g1,q9 (by rw[av];lia),put (B _ _ g1) (g2.keep B) g3 g6 (B _ _ g7) (sG.trans B) g5 (sG.free (b1.free fL)) (BG g1 (b1.free fL)) ⟨[t1],aq,.cons (b2 _ _ aq) .nil⟩ (Dh (by decide)) hN _ _ _
   |fix c =>
    obtain⟨p,rfl,hp⟩:=mO (cm.keep sG);exists _,ay.of hp,rfl,?_;refine vn ?_;refine vy ?_;exists .inl ⟨rfl,_,aj.of g1⟩,_,ay.of hp,rfl,bK,λt1 bg=>⟨du,λe1 fL=>?_⟩;have b1:af G (upd G t1 (.tup [.int 0,.int c])):=af.upd bg;have b2:af (upd G t1 (.tup [.int 0,.int c])) (upd (upd G t1 (.tup [.int 0,.int c])) e1 (.lst [.ref t1])):=af.upd fL;have eT:aI (upd (upd G t1 (.tup [.int 0,.int c])) e1 (.lst [.ref t1])) e1 [(0,c)]:=⟨[t1],aq,.cons (b2 _ _ aq) .nil⟩;exists e1,[(0,c)],rfl,eT.tl,(by show 1<=100000;decide),⟨ls,bt,λt ht=>by rw[bu.mp ht];exact⟨Int.le_refl _,λj hj=>by simp at hj⟩⟩,λb f H2 hb bE eF jL s2=>?_;have B:=(b1.trans b2).trans s2;nomatch _,B _ _ g1,q9 (by rw[av];lia),put (B _ _ g1) (g2.keep B) g3 g6 (B _ _ g7) (sG.trans B) g5 (sG.free ((b1.trans b2).free hb)) (BG g1 ((b1.trans b2).free hb)) bE eF hN _ _ _
   |no s1 =>
    obtain⟨sa,rfl,rfl⟩:=hN;obtain⟨fa,fb,rfl,a1,a2⟩:=Hq g3;cases a2 with
    |cons wY a3 =>
    cases a3;rename_i f1;obtain⟨qa,qb,rfl,c1,c2⟩:=vz (m:=fa) g2;cases c2 with
    |cons DZ c3 =>
    cases c3;rename_i b1;obtain⟨p,x,rfl,hp,hx⟩:=lY (cm.keep sG);exists _,ay.of hp,rfl,?_;refine vn ?_;refine vn ?_;refine vy ?_;have F0:((qa++[b1]).map V.ref)[((qa++[b1]).map V.ref).length-1]?=some (V.ref b1):=by simp
    exists .inl ⟨rfl,_,aj.of g1⟩,.inl ⟨rfl,_,aj.of g1⟩,C,_,.ref b1,rfl,rfl,g1,F0,?_;have w1:upd G C (.lst ((qa++[b1]).map V.ref).dropLast) C=some (.lst (qa.map V.ref)):=by rw[aq,aT];exact congrArg (λz=>some (HO.lst z)) qJ
    have w2:d8 (upd G C (.lst ((qa++[b1]).map V.ref).dropLast)) (qa++[b1]) (fa++[f1]):=d8.keepU g1 g2 λz=>(g6 C z).2 rfl
    have w3:upd G C (.lst ((qa++[b1]).map V.ref).dropLast) D=some (.lst xs):=by rw[aJ mn];exact g7
    have ja:=sG.write (o:=.lst ((qa++[b1]).map V.ref).dropLast) hC;generalize upd G C (.lst ((qa++[b1]).map V.ref).dropLast)=G1 at w1 w2 w3 ja ⊢;obtain⟨x1,x2,ex,w4,w5⟩:=vz (m:=fa) w2;obtain⟨rfl,DG⟩:=List.append_inj ex (by rw[er c1,er w4]);subst DG;cases w5 with
    |cons gu w6 =>
    exists du,λe he=>?_;have k1:af G1 (upd G1 e (.lst [.ref b1])):=af.upd he;exists e,.no s1,_,[f1],ls,rfl,⟨rfl,f1,rfl,wY⟩,xO,pz,bt,cM,⟨[b1],aq,.cons (gu.keep k1) .nil⟩,λc f H6 hc hT hF s6=>?_;have B:=k1.trans s6;nomatch _,B _ _ w1,q9 (by rw[av,er w4,<-er a1];rw[aS]at g5;lia),put (B _ _ w1) (d8.keep w4 B) a1 (λp hp=>g6 p (mS _ hp)) (B _ _ w3) (ja.trans B) (by rw[aS]at g5;lia) (ja.free (k1.free hc)) (BG w1 (k1.free hc)) hT hF rfl _ _ _
   |two j s1 s2 =>
    obtain⟨sa,rfl,rfl⟩:=hN;obtain⟨nV,mB,nH⟩:=xO;obtain⟨fa,fb,rfl,a1,a2⟩:=Hq g3;cases a2 with
    |cons wY a3 =>
    cases a3 with
    |cons Zx a4 =>
    cases a4;rename_i f1 f2;obtain⟨qa,qb,rfl,c1,c2⟩:=vz (m:=fa) g2;cases c2 with
    |cons DZ c3 =>
    cases c3 with
    |cons JV c4 =>
    cases c4;rename_i b1 b2;obtain⟨p,x,z,rfl,hp,hx,hz⟩:=lU (cm.keep sG);obtain⟨n1,n2,n3⟩:=tG (w:=j);exists _,ay.of hp,rfl,?_;refine vN (by simpa using n1) ?_;refine vN (by simpa using n2) ?_;refine vN (by simpa using n3) ?_;have F0:((qa++[b1,b2]).map V.ref)[((qa++[b1,b2]).map V.ref).length-1]?=some (V.ref b2):=by simp
    exists .inl ⟨rfl,_,aj.of g1⟩,C,_,.ref b2,rfl,rfl,g1,F0,?_;have ed:((qa++[b1,b2]).map V.ref).dropLast=(qa++[b1]).map V.ref:=by rw[aT,aT];exact List.dropLast_append_cons
    have w1:upd G C (.lst ((qa++[b1,b2]).map V.ref).dropLast) C=some (.lst ((qa++[b1]).map V.ref)):=by rw[aq,ed]
    have w2:d8 (upd G C (.lst ((qa++[b1,b2]).map V.ref).dropLast)) (qa++[b1,b2]) (fa++[f1,f2]):=d8.keepU g1 g2 λz=>(g6 C z).2 rfl
    have w3:upd G C (.lst ((qa++[b1,b2]).map V.ref).dropLast) D=some (.lst xs):=by rw[aJ mn];exact g7
    have ja:=sG.write (o:=.lst ((qa++[b1,b2]).map V.ref).dropLast) hC;generalize upd G C (.lst ((qa++[b1,b2]).map V.ref).dropLast)=G1 at w1 w2 w3 ja ⊢;have Wt:((qa++[b1]).map V.ref)[((qa++[b1]).map V.ref).length-1]?=some (V.ref b1):=by simp
    exists .inl ⟨rfl,_,aj.of w1⟩,.inl ⟨rfl,_,aj.of w1⟩,C,_,.ref b1,rfl,rfl,w1,Wt,?_;have y1:upd G1 C (.lst ((qa++[b1]).map V.ref).dropLast) C=some (.lst (qa.map V.ref)):=by rw[aq,aT];exact congrArg (λz=>some (HO.lst z)) qJ
    have y2:d8 (upd G1 C (.lst ((qa++[b1]).map V.ref).dropLast)) (qa++[b1,b2]) (fa++[f1,f2]):=d8.keepU w1 w2 λz=>(g6 C z).2 rfl
    have y3:upd G1 C (.lst ((qa++[b1]).map V.ref).dropLast) D=some (.lst xs):=by rw[aJ mn];exact w3
    have fN:=ja.write (o:=.lst ((qa++[b1]).map V.ref).dropLast) hC;generalize upd G1 C (.lst ((qa++[b1]).map V.ref).dropLast)=G2 at y1 y2 y3 fN ⊢;obtain⟨x1,x2,ex,w4,w5⟩:=vz (m:=fa) y2;obtain⟨rfl,DG⟩:=List.append_inj ex (by rw[er c1,er w4]);subst DG;cases w5 with
    |cons gu w6 =>
    cases w6 with
    |cons qo w7 =>
    exists bK,λe he=>?_;have k1:af G2 (upd G2 e (.lst [.ref b1,.ref b2])):=af.upd he;exists e,.two j s1 s2,_,[f1,f2],ls,rfl,⟨rfl,nV,f1,f2,rfl,wY,Zx⟩,⟨nV,mB,nH⟩,pz,bt,cM,⟨[b1,b2],aq,.cons (gu.keep k1) (.cons (qo.keep k1) .nil)⟩,λc f H6 hc hT hF s6=>?_;have B:=k1.trans s6;nomatch _,B _ _ y1,q9 (by rw[av,er w4,<-er a1];rw[aS]at g5;lia),put (B _ _ y1) (d8.keep w4 B) a1 (λp hp=>g6 p (mS _ hp)) (B _ _ y3) (fN.trans B) (by rw[aS]at g5;lia) (fN.free (k1.free hc)) (BG y1 (k1.free hc)) hT hF rfl _ _ _
  ·rintro σ G ⟨qs,fl,st,v2,v3,v4,rfl,g1,g2,g3,g4,g5,g6,g7,sG⟩;have e:s'.pre.reverse.drop xs.length=[]:=by rw[oQ,<-Sm.pre_len];exact List.drop_eq_nil_of_le (by rw[Dr];exact aO _)
   rw[e]at g4;have e2:st=[s']:=g4;subst e2;cases g3 with
   |cons wY a3 =>
   cases a3;cases g2 with
   |cons DZ c3 =>
   cases c3;rename_i f1 b1;nomatch _,aj.of g1,rfl,q b1 f1 G (g6 b1 (by simp)).1 DZ wY sG
def Z3:Sp:=λvs H Q _=>∃(v:V) (s:Sm) (ls:List Nat),vs=[v]/\Is H v s.d/\s.ok (λk=>k∈ls)/\s.dp<=20/\ls.length<=20/\∀(e:Addr) (ks:List Int) (H':Hp),H' e=some (.lst (ks.map V.int))->ks.length<=ls.length->af H H'->Q (.ref e) H'
set_option tactic.hygienic true in
def Aj{kvs:List (bJ×V)}{ks:List Int}(h:kvs.map (·.1)=ks.map Sum.inl)(k:Int)(v:V):∃lH:List Int,(dq kvs (Sum.inl k) v).map (·.1)=lH.map Sum.inl/\(ks.Nodup->lH.Nodup)/\∀x∈lH,x∈ks\/x=k:=by
 unfold dq;split
 ·exists ks,?_,id,λx hx=>.inl hx;rw[fE,<-h];refine xU λp _=>?_
  show (if p.1=Sum.inl k then (p.1,v)else p).1=p.1;split<;>rfl
 ·rename_i hn;exists ks++[k],by rw[aT,aT,h];rfl,λnd=>?_,λx hx=>?_
  ·refine Nt nd λhk=>hn ?_
   have:(Sum.inl k:bJ)∈kvs.map (·.1):=by rw[h];exact bW.mpr ⟨k,hk,rfl⟩
   obtain⟨p,hp,e⟩:=bW.mp this;exact xN.mpr ⟨p,hp,aR e⟩
  ·rcases bF.mp hx with y|y
   ·exact .inl y
   ·exact .inr (bu.mp y)
def Yr(T:Txt w K mg):GC.Ok P w K mg base 2 Z3:=by
  refine Rw.ok T.d_Z1.F T.d_Z1.S ?_;rintro vs H Q E ⟨v,s',ls,rfl,hI,hok,hsz,El,q⟩;refine⟨rfl,fun _ _ _ _ hr hu nd=>⟨_,(ak (aD 1 nd qF) (ak (eK df rfl (dj (aC T.d_Z71 (NF T) hr (aa (pV 0) ag))) (aN 2 nd) (ao (bO (bM aV (xT (pV 2) ai) au) (ao (uh hu (pV 1) (xT (pV 2) ai) oS rfl)) aM))) (ao (aA (bD (Gy rfl) (by rfl) T.n_sorted Am (aa (pV 1) ag)))))),?_⟩⟩
  intro d hd;have s0:af H (upd H d (.dK [])):=af.upd hd;exists v,s',rfl,hI.keep s0,hsz,λD xs H1 hD hX hS s1=>⟨⟨_,aj.of hX⟩,?_⟩;have lV:H1 d=some (.dK []):=s1 _ _ aq;have SD:D≠d:=λz=>by rw[z,aq]at hD;cases hD
  refine jK (K:=K) (a:=D) (xs:=xs) (λi σ G=>∃kvs ks v2,σ=[some v,some (.ref d),v2]/\G d=some (.dK kvs)/\kvs.map (·.1)=ks.map Sum.inl/\ks.Nodup/\(∀k∈ks,k∈ls.map λj:Nat=>(j:Int))/\bI d H1 G)
   ⟨[],[],none,rfl,lV,rfl,Bu,(λk hk=>by cases hk),bI.refl _ _⟩ (λi σ G _ ⟨_,_,_,_,_,_,_,_,e⟩=>aj.of (e _ _ SD hX)) ?_ ?_
  ·rintro i y σ G hi ⟨kvs,ks,v2,rfl,g1,g2,g3,g4,g5⟩;obtain⟨p,dM,cm⟩:=hS.at hi;have xO:=Sm.pre_ok hok p (dr dM);have gT:ks.length<=ls.length:=by
    have:=sZ g3 g4
    rw[av]at this;exact this
   have hkv:kvs.length=ks.length:=by have:=congrArg List.length g2;simpa using this
   have yk:Is G y p.d:=gS (λa ys z=>g5 _ _ (λw=>by rw[w,lV]at z;cases z) z) (cm.keep s1);unfold a8;cases p with
   |bit k =>
    obtain⟨pp,rfl,hp⟩:=mr yk;exists _,ay.of hp,rfl,vy ?_;obtain⟨lH,k1,k2,k3⟩:=Aj g2 (k:Int) (.bl true);exists _,ay.of hp,rfl,d,_,rfl,mI.k (k:=Sum.inl (k:Int)) g1 (bH (by lia)),?_;exists _,lH,_,rfl,aq,k1,k2 g3,λx hx=>?_,g5.trans bI.upd;rcases k3 x hx with y|y
    ·exact g4 x y
    ·rw[y];exact bW.mpr ⟨k,xO,rfl⟩
   |fix c =>
    obtain⟨pp,rfl,hp⟩:=mO yk;exists _,ay.of hp,rfl,vn ?_;nomatch _,_,_,rfl,g1,g2,g3,g4,g5
   |no s1 =>
    obtain⟨pp,x,rfl,hp,_⟩:=lY yk;exists _,ay.of hp,rfl,vn ?_;nomatch _,_,_,rfl,g1,g2,g3,g4,g5
   |two j s1 s2 =>
    obtain⟨pp,x,z,rfl,hp,_,_⟩:=lU yk;obtain⟨n1,_,_⟩:=tG (w:=j);exists _,ay.of hp,rfl,vN (by simpa using n1) ?_;nomatch _,_,_,rfl,g1,g2,g3,g4,g5
  ·rintro σ G ⟨kvs,ks,v2,rfl,g1,g2,g3,g4,g5⟩;have gT:ks.length<=ls.length:=by
    have:=sZ g3 g4
    rw[av]at this;exact this
   exists d,_,ks,rfl,g1,g2,by lia,λe lH he iN qc=>?_;have sG:af H G:=bI.same (s0.trans s1) g5 hd;exact q e lH _ aq (by rw[iN.length_eq];exact gT) (sG.trans (af.upd he))
def ZW(K:Frag):Sp:=λvs H Q _=>∃(s:Sm) (ls:List Nat),vs=[.str (S (bZ s))]/\s.ok (λk=>k∈ls)/\s.ln<=5/\ls.length<=5/\(∀x∈ls,x<16) /\
 ∀(b:Addr) (f:ar) (H':Hp),H b=none->aI H' b f->bf f s.tl->af H H'->Q (.ref b) H'
def SI(T:Txt w K mg):Fu.Ok P w K mg base 7 (ZW K):=by
  refine Rw.ok T.d_Z12.F T.d_Z12.S ?_;rintro vs H Q E ⟨s0,ls,rfl,hok,gN,bt,cM,q⟩;refine⟨rfl,fun _ _ _ _ hr hu nd=>⟨_,(ak (aD 1 nd (aC T.d_Z74 (Zv T) hr.m (aa (pV 0) ag))) (ak (bp (a7 mm.j (bD gd (by rfl) T.n_len dI (aa (aC T.d_Z1 (Yr T) hr.m (aa (pV 1) ag)) ag)) ai) (ao gA) aM)
   (ao (aA (aC T.d_Z11 (zcz T) hr (aa (pV 1) ag)))))),?_⟩⟩
  have sJ:=sV s0;have jh:=qN s0;have uP:=sO hok;exists s0,rfl,Sm.ok.imp (λk hk=>cM k hk) hok,by lia,λv H1 hI mH=>?_;exists v,s0,ls,rfl,hI,hok,by lia,by lia,λe ks H2 he gT s2=>⟨e,_,rfl,.inl (aj.of he),_,rfl,?_⟩;refine aK (λy=>by have:=bG y;rw[av]at this;lia) ?_;nomatch v,s0,ls,rfl,hI.keep s2,hok,by lia,by lia,bt,cM,gN,λb f H3 hb hT hF s3=>q b f H3 (mH.free (s2.free hb)) hT hF (mH.trans (s2.trans s3))
def zbO(K:Frag):Sp:=λvs H Q _=>∃(a:Addr) (l:ar) (k:Nat),vs=[.ref a,.int (2^k)]/\TL K H a l/\(∀t∈l,0<=t.1)/\l.length<=100000 /\
 ∀(c:Addr) (H':Hp),H c=none->aI H' c (iW k l)->af H H'->Q (.ref c) H'
def Pd:(["members","number","bit"]:List Str).Nodup:=by decide+kernel
def F4(T:Txt w K mg):yK.Ok P w K mg base 1 (zbO K):=by
  refine Rw.ok T.d_Z98.F T.d_Z98.S ?_;rintro vs H Q E ⟨a,l,k,rfl,hT,h0,aH,q⟩;refine⟨rfl,fun _ _ _ _ hr hu nd=>⟨_,(ao (aA (eO (g:=(fT K 2 (cn (a8 0) (cn (a8 1) f7)))) ["members", "number", "bit"] 2 [1] rfl (dC yK) (dj (pV 0)) (λcl C s₀ H₀ fp=>(gv (n:=2) rfl (cN (aN 0 Pd) (cN (aN 1 Pd) gy)))) (λcl C s₀ H₀ fp=>(iJ (a7 aV (az sq.j (pV 0) (pV 2)) ai))) (λcl C s₀ H₀ fp=>(bz (aa (pV 0) (aa (pV 1) ag))))))),?_⟩⟩
  exists hT.seq,?_;refine wK (λt => !fG k t) (λt=>t) hT (by omega) [some (.int (2^k))] rfl (λt ht H2 R s2 r=>?_) (λt ht hp H2 R s2 r=>?_) λD ys H2 hD cg s1=>?_
  ·exists _,rfl,?_;rw[Hr (h0 t ht)];exact r
  ·nomatch bK,r
  ·exact q D _ hD (by rw[Ao]at cg;exact cg) s1
def SG(K:Frag):Sp:=λvs H Q _=>∃(a:Addr) (l:ar) (k:Nat),vs=[.ref a,.int (2^k)]/\TL K H a l/\(∀t∈l,0<=t.1)/\l.length<=100000 /\
 ∀(c:Addr) (H':Hp),H c=none->aI H' c (gh k l)->af H H'->Q (.ref c) H'
def Py:(["members","number","bit"]:List Str).Nodup:=by decide+kernel
def Nm(T:Txt w K mg):yW.Ok P w K mg base 1 (SG K):=by
  refine Rw.ok T.d_Z16.F T.d_Z16.S ?_;rintro vs H Q E ⟨a,l,k,rfl,hT,h0,aH,q⟩;refine⟨rfl,fun _ _ _ _ hr hu nd=>⟨_,(ao (aA (eO (g:=(fT K 2 (cn (a8 0) (cn (a8 1) f7)))) ["members", "number", "bit"] 2 [1] rfl (dC yW) (dj (pV 0)) (λcl C s₀ H₀ fp=>(gv (n:=2) rfl (cN (aN 0 Py) (cN (aN 1 Py) gy)))) (λcl C s₀ H₀ fp=>(iJ (a7 jM (az sq.j (pV 0) (pV 2)) ai))) (λcl C s₀ H₀ fp=>(bz (aa (az ki.j (pV 0) (pV 2)) (aa (pV 1) ag))))))),?_⟩⟩
  exists hT.seq,?_;refine wK (λt=>fG k t) (λt=>(t.1-2^k,t.2)) hT (by omega) [some (.int (2^k))] rfl (λt ht H2 R s2 r=>?_) (λt ht hp H2 R s2 r=>?_) λD ys H2 hD cg s1=>?_
  ·exists _,rfl,?_;rw[Hr (h0 t ht),Bool.not_not];exact r
  ·nomatch bK,r
  ·exact q D _ hD cg s1
def zaO(K:Frag):Sp:=λvs H Q _=>∃(a:Addr) (l:ar) (k:Nat) (b:Int),vs=[.ref a,.int (k:Int),.int b]/\aI H a l/\IsForm l/\(∀t∈l,0<=t.1)/\l.length<=100000/\fj l/\k<=100/\(b=0\/b=1) /\
 ∀(c:Addr) (f:ar) (H':Hp),H c=none->aI H' c f->bf f (nE k b l)->f.length<=l.length->af H H'->Q (.ref c) H'
def Tp(T:Txt w K mg):Fy.Ok P w K mg base 4 (zaO K):=by
  refine Rw.ok T.d_Z7.F T.d_Z7.S ?_;rintro vs H Q E ⟨a,l,k,b,rfl,hT,hF,h0,aH,h5,hk,hb,q⟩;refine⟨rfl,fun _ _ _ _ hr hu nd=>⟨_,(ak (aD 3 nd (aC T.d_Z4 (ur T) hr.m (aa (pV 1) ag))) (ak (bp (a7 aV (pV 2) ai) (ao (aA (aC T.d_Z98 (F4 T) hr.m (aa (pV 0) (aa (pV 3) ag))))) aM) (ao (aA (aC T.d_Z72 (uK T) hr (aa (aC T.d_Z98 (F4 T) hr.m (aa (pV 0) (aa (pV 3) ag))) (aa (aC T.d_Z16 (Nm T) hr.m (aa (pV 0) (aa (pV 3) ag))) ag))))))),?_⟩⟩
  exists k,rfl,hk,?_;exists _,rfl,?_;rcases hb with rfl|rfl
  ·refine aY (by decide) ?_;exists a,l,k,rfl,hT.tl,h0,aH,λc H' hc j4 s'=>?_;refine q c _ H' hc j4 ?_ (A9 k l) s'
   have:=bf.self (hF.filter λt => !fG k t)
   unfold nE;rw[aB rfl,iM];exact this
  ·refine aK (by decide) ?_;exists a,l,k,rfl,hT.tl,h0,aH,λc H1 hc cg s1=>?_;exists a,l,k,rfl,(hT.keep s1).tl,h0,aH,λd H2 hd bE s2=>?_;have e:=Nv k l;exists c,d,iW k l,gh k l,rfl,cg.keep s2,bE,by lia,(let ⟨ls,z5,z⟩:=h5; ⟨ls,z5,(z.out k).app (z.off k)⟩),λx f H3 hx gp ie nL s3=>?_;refine q x f H3 (s1.free (s2.free hx)) gp ?_ (by lia) (s1.trans (s2.trans s3));unfold nE;rw[ax (by decide)];exact ie
def Xr(K:Frag):Sp:=λvs H Q _=>∃(a b:Addr) (l o:ar) (k:Nat),vs=[.ref a,.int (k:Int),.ref b]/\aI H a l/\aI H b o/\(∀t∈l,0<=t.1)/\l.length+l.length*o.length<=100000/\l.length<=100000/\fj (l++o)/\k<=100/\(∀t∈l,∀u∈o,IntMulOk t.2 u.2) /\
 ∀(c:Addr) (f:ar) (H':Hp),H c=none->aI H' c f->bf f (oJ k o l)->f.length<=l.length+l.length*o.length->af H H'->Q (.ref c) H'
def Y6(T:Txt w K mg):HQ.Ok P w K mg base 4 (Xr K):=by
  refine Rw.ok T.d_Z73.F T.d_Z73.S ?_;rintro vs H Q E ⟨a,b,l,o,k,rfl,hT,fk,h0,aH,tY,h5,hk,eZ,q⟩;refine⟨rfl,fun _ _ _ _ hr hu nd=>⟨_,(ak (aD 3 nd (aC T.d_Z4 (ur T) hr.m (aa (pV 1) ag))) (ao (aA (aC T.d_Z72 (uK T) hr (aa (aC T.d_Z98 (F4 T) hr.m (aa (pV 0) (aa (pV 3) ag))) (aa (aC T.d_Z86 (zK T) hr.m (aa (aC T.d_Z16 (Nm T) hr.m (aa (pV 0) (aa (pV 3) ag))) (aa (pV 2) ag))) ag)))))),?_⟩⟩
  obtain⟨zs,z5,zz⟩:=h5;have zl:K5 zs l:=λt ht=>zz t (mS _ ht)
  have zo:K5 zs o:=λt ht=>zz t (fX _ ht)
  have n1:=A9 k l;have n2:=Ep k l;have n3:(gh k l).length*o.length<=l.length*o.length:=lS _ n2;exists k,rfl,hk,?_;exists a,l,k,rfl,hT.tl,h0,tY,λc H1 hc cg s1=>?_;exists a,l,k,rfl,(hT.keep s1).tl,h0,tY,λd H2 hd bE s2=>?_;exists d,b,gh k l,o,rfl,bE.tl,((fk.keep s1).keep s2).tl,by lia,⟨zs,z5,(zl.off k).prod zo⟩,(λt ht u hu=>?_),λe g H3 he gp ie nL s3=>?_
  ·obtain⟨_,v,hv,e,_⟩:=vP h0 ht;rw[e];exact eZ v hv u hu
  exists c,e,iW k l,g,rfl,(cg.keep s2).keep s3,gp,by lia,⟨zs,z5,(zl.out k).app (((zl.off k).prod zo).of ie)⟩,λx f H4 hx kh hV Jb s4=>?_;refine q x f H4 (s1.free (s2.free (s3.free hx))) kh ⟨hV.toIsForm,λj=>?_,λt ht=>?_⟩ (by lia) (s1.trans (s2.trans (s3.trans s4)))
  ·rw[hV.val,cO,ie.val];unfold oJ;rw[cO]
  ·have:=hV.src t ht
   unfold oJ;rw[aT,bF]at this ⊢;rcases this with z|z
   ·exact .inl z
   ·obtain⟨u,hu,e⟩:=bW.mp z;rw[<-e];exact .inr (ie.src u hu)
def XG(K:Frag):Sp:=λvs H Q _=>∃(a:Addr) (l:ar),vs=[.ref a]/\aI H a l/\l.length*l.length<=100000/\fj l/\(∀t∈l,∀u∈l,IntMulOk t.2 u.2) /\
 ∀(f:ar) (H':Hp),bf f (bC l l)->af H H'->Q (.bl (decide (f=l))) H'
def zbe(T:Txt w K mg):DU.Ok P w K mg base 3 (XG K):=by
  refine Rw.ok T.d_Z24.F T.d_Z24.S ?_;rintro vs H Q E ⟨a,l,rfl,hT,aH,h5,eZ,q⟩;exists rfl,λ_ _ _ _ hr hu nd=>⟨_,(ao (aA (km (OD (A1 hr)) (aC T.d_Z86 (zK T) hr (aa (pV 0) (aa (pV 0) ag))) (pV 0)))),?_⟩;exists a,a,l,l,rfl,hT.tl,hT.tl,aH,(let ⟨ls,z5,z⟩:=h5; ⟨ls,z5,z.prod z⟩),eZ,λc f H1 hc cg dB ft s1=>?_;exists dF f,dF l,cg.is,(hT.keep s1).is,aW (OP f) (by decide),?_;rw[Oa];exact q f H1 dB s1
def zbo(NY:Addr):Sp:=λvs H Q E=>∃(a:Addr) (l:ar),vs=[.ref a]/\aI H a l/\l.length*l.length<=100000/\fj l/\(∀t∈l,∀u∈l,IntMulOk t.2 u.2)/\(∀H',af H H'->kJ l->Q (.ref a) H')/\(∀H',af H H'->¬kJ l->E (.ref NY) none H')
def KG(T:Txt w K mg):Fd.OkE P w K mg base 4 (zbo eY):=by
  refine Rw.okE T.d_Z100.F T.d_Z100.S ?_;rintro vs H Q E ⟨a,l,rfl,hT,aH,h5,eZ,q,e⟩;refine⟨rfl,fun _ _ _ _ hr hu nd=>⟨_,(ak (bp (kn (gk (aC T.d_Z24 (zbe T) hr (aa (pV 0) ag)))) (ao (zG gg rfl (by rfl) T.g_NoYesNo T.x_NoYesNo)) aM)
   (ao (PS.nox (aA (pV 0))))),?_⟩⟩
  exists a,l,rfl,hT,aH,h5,eZ,λf H1 hF s1=>⟨_,rfl,?_⟩;by_cases z:f=l
  ·refine aK (by rw[aR z];decide) ?_;exact q H1 s1 ⟨f,hF,z⟩
  ·refine aY (by rw[bj z];rfl) ?_;refine e H1 s1 λ⟨g,hg,eg⟩=>z ?_
   rw[<-eg];exact bf.unique hF (eg ▸ hg) λk=>rfl
def Sn(K:Frag)(C NN NY:Addr):Sp:=λvs H Q E=>∃(p d t:Addr) (st:cH) (c:bh) (ls:List Nat),vs=[.ref p,.str c.wd,.ref t]/\H t=some (.lst c.th)/\lx C H p d st/\ls.length<=5/\(∀x∈ls,x<16)/\(∀nf∈st,c7 ls nf.2)/\Bv ls c /\
 (∀H',eV ls st c .name->af H H'->E (.ref NN) none H')/\(∀H',eV ls st c .yesno->af H H'->E (.ref NY) none H')/\(∀f b H',eV ls st c (.form f)->H b=none->aI H' b f->af H H'->Q (.ref b) H')
def Rq(T:Txt w K mg):Ei.OkE P w K mg base 8 (Sn K d7 fh eY):=by
  refine Rw.okE T.d_Desk_form_for.F T.d_Desk_form_for.S ?_;rintro vs H Q E ⟨p,d,t,st,c,ls,rfl,ht,hD,bt,cM,bc,hok,qn,qy,q⟩;refine⟨rfl,fun _ _ _ _ hr hu nd=>⟨_,(ak (PS.nox (bO (bM aV (pV 1) au) (ao (aA (aC T.d_Z14 (Zt T) hr.m (aa (xL (pV 2) ai) ag)))) aM)) (ak (PS.nox (bO (bM aV (pV 1) au) (ao (aA (aC T.d_Z12 (SI T) hr (aa (xL (pV 2) ai) ag)))) aM)) (ak (aD 3 nd (qg (pV 0) T.cl_Desk T.d_Desk_kept.m (uD T) hr.m T.d_Desk_kept.b .nil (iS gg) (aa (xL (pV 2) ai) ag))) (ak (PS.nox (bO (bM aV (pV 1) au) (ao (aA (aC T.d_Z7 (Tp T) hr.m (aa (pV 3) (aa (xL (pV 2) ai) (aa (xL (pV 2) ai) ag)))))) aM)) (ak (bO (bM aV (pV 1) au) (ao (aA (aC T.d_Z73 (Y6 T) hr.m (aa (pV 3) (aa (xL (pV 2) ai) (aa (pd (KG T) hr.m (by rfl) T.d_Z100.m T.d_Z100.F.kp T.d_Z100.b .nil (iS gg) (aa (qg (pV 0) T.cl_Desk T.d_Desk_kept.m (uD T) hr.m T.d_Desk_kept.b .nil (iS gg) (aa (xL (pV 2) ai) ag)) ag)) ag)))))) aM)
   (ao (aA (aC T.d_Z3 (zaU T) hr.m (aa (pV 1) (aa (pV 3) (aa (qg (pV 0) T.cl_Desk T.d_Desk_kept.m (uD T) hr.m T.d_Desk_kept.b .nil (iS gg) (aa (xL (pV 2) ai) ag)) ag))))))))))),?_⟩⟩
  obtain⟨⟨dx,ho⟩,_⟩:=id hD;cases c with
  |form n tx =>
   have ew:(bh.form n tx).wd=ofString "=" := rfl;refine vY (by rw[ew];decide) ?_;obtain⟨k1,k2,k3⟩:=hok;exists _,aj.of ht,bo (j:=0) rfl,tx,rfl,k1,k2,λf hf b H1 hb hT s1=>?_,λhf=>?_
   ·exact q f b H1 ⟨f,rfl,hf⟩ hb hT s1
   ·rw[hf]at k3;cases k3
  |stat n s0 =>
   have ew:(bh.stat n s0).wd=ofString ":=" := rfl;obtain⟨k1,k2⟩:=hok;refine vN (by rw[ew];decide) ?_;refine vY (by rw[ew];decide) ?_;exists _,aj.of ht,bo (j:=0) rfl,s0,ls,rfl,k1,k2,bt,cM,λb f H1 hb hT hF s1=>?_;exact q f b H1 ⟨f,rfl,hF⟩ hb hT s1
  |fixd n a k b =>
   have ew:(bh.fixd n a k b).wd=ofString "fixed" := rfl;obtain⟨k1,k2⟩:=hok;refine vN (by rw[ew];decide) ?_;refine vN (by rw[ew];decide) ?_;exists p,dx,_,rfl,ho,iQ d (by decide+kernel),_,aj.of ht,bo (j:=0) rfl,p,d,st,a,rfl,hD,λx l hg hT=>?_,λhg=>qn H (.inl ⟨hg,rfl⟩) (af.refl _);have hF:=dz bc hg;have xb:=K5.len hF.1 hF.2.1 bt;refine vY (by rw[ew];decide) ?_;exists _,aj.of ht,bo (j:=1) rfl,_,aj.of ht,bo (j:=2) rfl,x,l,k,b,rfl,hT,hF.1,(λt ht=>(hF.2.1 t ht).1),by lia,⟨ls,bt,hF.2.1⟩,k1,k2,λc f H1 hc og ly _ s1=>?_;exact q f c H1 (.inr ⟨l,f,hg,rfl,ly⟩) hc og s1
  |put n a k b =>
   have ew:(bh.put n a k b).wd=ofString "put" := rfl;refine vN (by rw[ew];decide) ?_;refine vN (by rw[ew];decide) ?_;exists p,dx,_,rfl,ho,iQ d (by decide+kernel),_,aj.of ht,bo (j:=0) rfl,p,d,st,a,rfl,hD,λx l hg hT=>?_,λhg=>qn H (.inl ⟨hg,rfl⟩) (af.refl _);have hF:=dz bc hg;have xb:=K5.len hF.1 hF.2.1 bt;refine vN (by rw[ew];decide) ?_;refine vY (by rw[ew];decide) ?_;exists _,aj.of ht,bo (j:=1) rfl,p,dx,_,rfl,ho,iQ d (by decide+kernel),_,aj.of ht,bo (j:=2) rfl,p,d,st,b,rfl,hD,λy o mP fk=>?_,λmP=>qn H (.inr (.inl ⟨l,hg,mP,rfl⟩)) (af.refl _);have ib:=dz bc mP;have zI:=K5.len ib.1 ib.2.1 bt;have hoo:o.length*o.length<=32*32:=gC zI zI;have tY:l.length*o.length<=32*32:=gC xb zI;exists y,o,rfl,fk,by lia,⟨ls,bt,ib.2.1⟩,(λt ht u hu=>lO (ib.2.2 t ht) (ib.2.2 u hu)),λH1 s1 hy=>?_,λH1 s1 hy=>qy H1 (.inr (.inr ⟨l,o,hg,mP,.inl ⟨hy,rfl⟩⟩)) s1;exists x,y,l,o,k,rfl,hT.keep s1,fk.keep s1,(λt ht=>(hF.2.1 t ht).1),by lia,by lia,⟨ls,bt,hF.2.1.app ib.2.1⟩,hok,(λt ht u hu=>lO (hF.2.2 t ht) (ib.2.2 u hu)),λc f H2 hc og ly _ s2=>?_;exact q f c H2 (.inr (.inr ⟨l,o,hg,mP,.inr ⟨hy,f,rfl,ly⟩⟩)) (kj s1 hc) og (s1.trans s2)
  |two wo n a b =>
   have ew:(bh.two wo n a b).wd=gG wo:=rfl;have nV:wo<3:=hok;obtain⟨n1,n2,n3,n4⟩:=zcv nV;refine vN (by rw[ew,n1];decide) ?_;refine vN (by rw[ew,n2];decide) ?_;exists p,dx,_,rfl,ho,iQ d (by decide+kernel),_,aj.of ht,bo (j:=0) rfl,p,d,st,a,rfl,hD,λx l hg hT=>?_,λhg=>qn H (.inl ⟨hg,rfl⟩) (af.refl _);have hF:=dz bc hg;have xb:=K5.len hF.1 hF.2.1 bt;refine vN (by rw[ew,n3];decide) ?_;refine vN (by rw[ew,n4];decide) ?_;exists p,dx,_,rfl,ho,iQ d (by decide+kernel),_,aj.of ht,bo (j:=1) rfl,p,d,st,b,rfl,hD,λy o mP fk=>?_,λmP=>qn H (.inr (.inl ⟨l,hg,mP,rfl⟩)) (af.refl _);have ib:=dz bc mP;have zI:=K5.len ib.1 ib.2.1 bt;exists wo,x,y,l,o,rfl,nV,hT,fk,⟨by lia,by lia⟩,⟨ls,bt,hF.2.1,ib.2.1⟩,(λ_ t ht u hu=>lO (hF.2.2 t ht) (ib.2.2 u hu)),λc f H2 hc og ly s2=>?_;exact q f c H2 (.inr (.inr ⟨l,o,f,hg,mP,rfl,ly⟩)) hc og s2
def TU(K:Frag):Sp:=λvs H Q _=>∃(a:Addr) (l:ar),vs=[.ref a]/\aI H a l/\l.length<=300/\(∀t∈l,t.2.natAbs<10^100)/\∀H',af H H'->Q .non H'
def O6:(["members","number","bound"]:List Str).Nodup:=by decide+kernel
def R4(T:Txt w K mg):Bg.Ok P w K mg base 1 (TU K):=by
  refine Rw.ok T.d_Z78.F T.d_Z78.S ?_;rintro vs H Q E ⟨a,l,rfl,hT,aH,hs,q⟩;refine⟨rfl,fun _ _ _ _ hr hu nd=>⟨_,(ak (bp (a7 mm (bD gd (by rfl) T.n_len dI (aa (pv 0) ag)) ai) (ao gA) aM)
   (ak (aD 1 nd (az zaY (az tN ai ai) ai))
   (ao (bp (gk (bD (Ze rfl) (by rfl) T.n_any PyProof.Rows.boot_any (aa (eO (g:=(fT K 2 (cn (a8 0) (cn (a8 1) f7)))) ["members", "number", "bound"] 2 [1] rfl (dC Bg) (Bl (pv 0))
    (λcl C s₀ H₀ fp=>(gv (n:=2) rfl (cN (aN 0 O6) (cN (aN 1 O6) gy)))) (λcl C s₀ H₀ fp=>jO) (λcl C s₀ H₀ fp=>(km Mt (bD wy (by rfl) T.n_abs vD (aa (pv 1) ag)) (pv 2)))) ag))) (ao gA) aM)))),?_⟩⟩
  obtain⟨ps,h1,h2⟩:=id hT;have cD:=h2.length;exists _,rfl,a,_,rfl,.inl (aj.of h1),_,_,rfl,rfl,_,rfl,?_;refine aK (by rw[av];exact λy=>by have:=bG y;lia) ?_;exists _,_,rfl,rfl,⟨by decide,by decide,by decide⟩,_,_,rfl,rfl,⟨by decide,by decide+kernel⟩,?_;have uS:∀t∈l,decide (((10:Int)^Int.toNat 50)^Int.toNat 20<=if t.2<0 then -t.2 else t.2)=false:=λt ht=>bj λy=>by
   have h:=hs t ht;have e1:((10:Int)^Int.toNat 50)^Int.toNat 20=10^1000:=by decide+kernel
   have e2:(10:Int)^100<10^1000:=by decide+kernel
   have e3:((10^100:Nat):Int)=(10:Int)^100:=by decide+kernel
   rw[e1]at y;generalize (10:Int)^1000=B at y e2;have h4:(if t.2<0 then -t.2 else t.2)=(t.2.natAbs:Int):=by split<;>lia
   rw[h4]at y;have h5:(t.2.natAbs:Int)<((10^100:Nat):Int):=Int.ofNat_lt.mpr h;rw[e3]at h5;generalize (10:Int)^100=A at *;lia
  dsimp only;generalize ((10:Int)^Int.toNat 50)^Int.toNat 20=B at uS ⊢;exists _,rfl,a,rfl,⟨_,aj.of h1⟩,?_;refine jj (K:=K) (a:=a) (xs:=ps.map V.ref) (λi ys σ G=>∃v0 v1,σ=[v0,v1,some (.int B)]/\ys=(List.replicate i false).map V.bl/\G=H)
   ⟨none,none,rfl,rfl,rfl⟩ (λi ys σ G hi ⟨_,_,_,e1,e2⟩=>⟨by rw[e2];exact aj.of h1,by rw[e1];simp⟩) (by rw[av];exact cj (bH (by lia))) ?_ ?_
  ·rintro i y ys σ G hi ⟨v0,v1,rfl,rfl,rfl⟩;obtain⟨p,c6,rfl⟩:=fY hi;obtain⟨t,bg,cK⟩:=h2.at' c6;exists p,_,rfl,ay.of cK,rfl,_,_,rfl,_,_,rfl,rfl,?_;refine tt ?_;exists _,rfl,_,rfl,_,rfl,_,_,rfl,rfl,?_;dsimp only;rw[uS t (dr bg)];exists _,_,rfl,?_,rfl;rw[List.replicate_succ',aT];rfl
  ·rintro ys σ G ⟨v0,v1,rfl,rfl,rfl⟩ D hD;exists D,_,rfl,aj.of aq,_,rfl,?_;refine aK ?_ (q _ (af.upd hD));rw[av];intro y;obtain⟨b,hb,z⟩:=xN.mp y;rw[(List.mem_replicate.mp hb).2]at z;cases z
def UZ:Sp:=λvs H Q _=>∃n:Int,vs=[.int n]/\Q (.str (S [32,bw n,32])) H
def Nf(T:Txt w K mg):ET.Ok P w K mg base 1 UZ:=by
  refine Rw.ok T.d_Z81.F T.d_Z81.S ?_;rintro vs H Q E ⟨n,rfl,q⟩;exists rfl,λ_ _ _ _ hr hu nd=>⟨_,(ao (aA (sW (a7 pE.j (pV 0) ai) au au))),?_⟩;exists _,rfl,?_;refine eR (λh=>?_) (λh=>?_)
  ·have h':n<0:=bG h;have e:bw n=45:=aB h';rw[e]at q;rw[<-Tn]at q;exact q
  ·have h':¬n<0:=λz=>h (aR z)
   have e:bw n=43:=ax h';rw[e]at q;rw[<-RI]at q;exact q
def Vd:Sp:=λvs H Q _=>∃(g m:Nat),vs=[.int (g:Int),.int (m:Int)]/\m<=100000 /\
 ∀(D:Addr) (H':Hp),H D=none->H' D=some (.lst (((List.range m).map λi:Nat=>((g/2^i%2:Nat):Int)).map V.int))->af H H'->Q (.ref D) H'
def U6(T:Txt w K mg):CY.Ok P w K mg base 1 Vd:=by
  refine Rw.ok T.d_Z2.F T.d_Z2.S ?_;rintro vs H Q E ⟨g,m,rfl,hm,q⟩;refine⟨rfl,fun _ _ _ _ hr hu nd=>⟨_,(ak (aD 2 nd (bq ag)) (ak (eK df rfl (kB rfl T.n_range (aa (pV 1) ag)) (aN 3 nd) (ak (d6 (bY cB fI fJ fK (pV 2) (aa (az bQ.c (pV 0) ai) ag))) (ao (aD 0 nd (az gU.c (pV 0) ai))))) (ao (aA (pV 2))))),?_⟩⟩
  exists bS _,λD hD=>?_;exists (m:Int),rfl,by lia,by lia,pI (n:=m) (λi σ H2=>∃v3:Option V,σ=[some (.int ((g/2^i:Nat):Int)),some (.int (m:Int)),some (.ref D),v3]/\H2=upd H D (.lst (((List.range i).map λi:Nat=>((g/2^i%2:Nat):Int)).map V.int))) ⟨none,?_,rfl⟩ ?_ ?_
  ·rw[Nat.pow_zero,Nat.div_one];rfl
  ·rintro i σ H2 hi ⟨v3,rfl,rfl⟩;exists .inl ⟨rfl,_,aj.of aq⟩,(by show (0:Int)<2;decide),_,aq,(by rw[av,av,oh];exact bH (by lia)),?_;exists ⟨by decide,by decide⟩,some (.int (0+(i:Int))),?_,?_
   ·show [some (V.int (((g/2^i:Nat):Int)/2)),_,_,_]=_;rw[show ((g/2^i:Nat):Int)/2=((g/2^(i+1):Nat):Int) by rw[jU,<-Nat.div_div_eq_div_mul];norm_cast]
   ·rw[Al,qC,aT,aT];rfl
  ·rintro σ H2 ⟨v3,rfl,rfl⟩;exact q D _ hD aq (af.upd hD)
def zaP(K:Frag):Sp:=λvs H Q _=>∃(a:Nat),vs=[.int (a:Int)]/\a<2^1000 /\
 ∀(D:Addr) (H':Hp),H D=none->H' D=some (.lst (((lst a).map λk:Nat=>(k:Int)).map V.int))->af H H'->Q (.ref D) H'
def Px:(["k","bit"]:List Str).Nodup:=by decide+kernel
def Y8(T:Txt w K mg):BV.Ok P w K mg base 2 (zaP K):=by
  refine Rw.ok T.d_Z65.F T.d_Z65.S ?_;rintro vs H Q E ⟨a,rfl,ha,q⟩;refine⟨rfl,fun _ _ _ _ hr hu nd=>⟨_,(ao (aA (eO (g:=(fT K 2 (cn (a8 0) (cn (a8 1) f7)))) ["k", "bit"] 2 [] rfl (dC BV) (VP rfl T.n_enumerate (aa (aC T.d_Z2 (U6 T) hr (aa (pV 0) (aa (gL Bh AH yV Ba (pV 0)) ag))) ag)) (λcl C s₀ H₀ fp=>(gv (n:=2) rfl (cN (aN 0 Px) (cN (aN 1 Px) gy)))) (λcl C s₀ H₀ fp=>(iJ (a7 aV (pV 1) ai))) (λcl C s₀ H₀ fp=>(pV 0))))),?_⟩⟩
  have hb:=FR ha;exists rfl,_,rfl,rfl,a,intBits (a:Int),rfl,by lia,λb H1 hbn gu s1=>?_;exists b,rfl,⟨_,aj.of gu⟩,?_;refine zap (K:=K) (a:=b) (xs:=((List.range (intBits (a:Int))).map λi:Nat=>((a/2^i%2:Nat):Int)).map V.int) (λi ys σ H2=>∃v0 v1:Option V,σ=[v0,v1]/\ys=(((List.range i).filter λk=>a.testBit k).map λk:Nat=>(k:Int)).map V.int/\af H1 H2)
   ⟨none,none,rfl,rfl,af.refl _⟩ (λi ys σ H2 hi ⟨_,_,_,e1,e2⟩=>⟨aj.of (e2 _ _ gu),by
    rw[e1,av,av];exact aW (jR _ _) (by rw[oh];exact aO _)⟩) (by rw[av,av,oh];exact cj (bH (by lia))) ?_ ?_
  ·rintro i x ys σ H2 W hi ⟨v0,v1,rfl,rfl,s2⟩ hW;obtain⟨n,hn,rfl⟩:=vo hi;rw[dE]at hn;have iR:i<intBits (a:Int):=by
    rcases uo i (intBits (a:Int))with z|z
    ·exact z
    ·rw[Dq (by rw[oh];exact z)]at hn;cases hn
   rw[List.getElem?_range iR]at hn;have qw:((a/2^i%2:Nat):Int)=n:=dN hn;have s3:af H2 (upd H2 W (.tup [.int (i:Nat),.int n])):=af.upd hW;exists W,_,rfl,ay.of aq,rfl,_,_,rfl,_,_,rfl,rfl,?_;exists _,rfl,?_;have AN:=rS (x:=a) (i:=i);by_cases h1:a/2^i%2=1
   ·have gu:a.testBit i=true:=by rw[AN];exact aR h1
    refine aY (by rw[<-qw,h1];decide) ?_;exists _,_,rfl,?_,s2.trans s3;rw[qC,fV,aT,aT];simp[gu]
   ·have gu:a.testBit i=false:=by rw[AN];exact bj h1
    have h0:a/2^i%2=0:=by have:=ub (a/2^i) (by decide:2>0);lia
    refine aK (by rw[<-qw,h0];decide) ⟨_,_,rfl,?_,s2.trans s3⟩;rw[qC,fV,aT,aT];simp[gu]
  ·rintro ys σ H2 ⟨v0,v1,rfl,rfl,s2⟩ D hD;refine q D _ (s1.free (s2.free hD)) ?_ (s1.trans (s2.trans (af.upd hD)));rw[aq,av,av,oh];rfl
def zav(K:Frag):Sp:=λvs H Q _=>∃m:Nat,vs=[.int (m:Int)]/\m<2^16/\∀H',af H H'->Q (.str (S (cz m))) H'
def X3:(["k"]:List Str).Nodup:=by decide+kernel
def Cr(T:Txt w K mg):Aa.Ok P w K mg base 3 (zav K):=by
  refine Rw.ok T.d_Z80.F T.d_Z80.S ?_;rintro vs H Q E ⟨m,rfl,hm,q⟩;refine⟨rfl,fun _ _ _ _ hr hu nd=>⟨_,(ao (aA (bY fq lT lD lF au (aa (eO (g:=(a8 0)) ["k"] 1 [] rfl (dC Aa) (dj (aC T.d_Z65 (Y8 T) hr (aa (pV 0) ag))) (λcl C s₀ H₀ fp=>(aN 0 X3)) (λcl C s₀ H₀ fp=>jO) (λcl C s₀ H₀ fp=>(mh pF (fA (v:=.str "abcdefghijklmnop") (by rfl) T.g_LETTERS ⟨_,rfl⟩) (pV 0)))) ag)))),?_⟩⟩
  exists rfl,?_;exists m,rfl,dH hm (dX (by decide) (by decide)),λD H1 hD zd s1=>?_;exists ⟨_,aj.of zd⟩,?_;have j3:(lst m).length<=16:=by have:=qd hm;unfold cz at this;rw[av]at this;exact this
  refine jj (K:=K) (a:=D) (xs:=((lst m).map λk:Nat=>(k:Int)).map V.int) (λi ys σ G=>∃v0:Option V,σ=[v0]/\ys=(((cz m).take i).map λc=>S [c]).map V.str/\af H1 G)
   ⟨none,rfl,rfl,af.refl _⟩ (λi ys σ G hi ⟨_,_,e1,e2⟩=>⟨aj.of (e2 _ _ zd),by rw[e1,av,av,dY];exact Nat.min_le_left _ _⟩) (by rw[av,av];exact aW j3 (by decide)) ?_ ?_
  ·rintro i y ys σ G hi ⟨v0,rfl,rfl,sG⟩;obtain⟨x,hx,rfl⟩:=vo hi;rw[dE]at hx;obtain⟨k,hk,rfl⟩:∃k,(lst m)[i]?=some k/\(k:Int)=x:=by
    cases e:(lst m)[i]? with
    |none=>rw[e]at hx;cases hx
    |some k=>rw[e]at hx;nomatch k,rfl,dN hx
   have ni:k<16:=by
    have:=qV hm (c:=97+k) (bW.mpr ⟨k,dr hk,rfl⟩)
    lia
   unfold a8;refine tt ?_;exists _,_,_,rfl,rfl,(by rw[kX,aG];show 16<=sizeLine;decide),(by rw[kX,gm];exact bo (A8 k ni)),?_;exists _,rfl,?_,sG
   have:(cz m)[i]?=some (97+k):=by unfold cz;rw[dE,hk];rfl
   rw[dU,this,aT,aT];rfl
  ·rintro ys σ G ⟨v0,rfl,rfl,sG⟩ E hE;have hl:(cz m).take ((((lst m).map λk:Nat=>(k:Int)).map V.int).length)=cz m:=nN (by unfold cz;simp);rw[hl];exists _,E,(cz m).map λc=>S [c],rfl,rfl,aj.of aq,?_,?_
   ·rw[zY,ia]
    have:=qd hm
    simp[aG];omega
   ·rw[ia,EF];exact q _ (s1.trans (sG.trans (af.upd hE)))
def zbp(K:Frag):Sp:=λvs H Q _=>∃m n:Nat,vs=[.int (m:Int),.int (n:Int)]/\m<2^16/\n<10^63/\∀H',af H H'->Q (.str (S (lG m n))) H'
def zcw(T:Txt w K mg):E3.Ok P w K mg base 4 (zbp K):=by
  refine Rw.ok T.d_Z82.F T.d_Z82.S ?_;rintro vs H Q E ⟨m,n,rfl,hm,hn,q⟩;refine⟨rfl,fun _ _ _ _ hr hu nd=>⟨_,(ak (bp (PW.pt (iO (a7 aV (pV 1) ai) (jy (a7 jM (pV 0) ai)))) (ao (aA (aC T.d_Z80 (Cr T) hr (aa (pV 0) ag)))) aM) (ao (aA (az gc (gE lj rfl T.n_str kU (aa (pV 1) ag)) (aC T.d_Z80 (Cr T) hr (aa (pV 0) ag)))))),?_⟩⟩
  have fin:¬(n=1/\m≠0)->∀H1,af H H1->Q (.str (S (bX n)++S (cz m))) H1:=λz H1 s1=>by
   rw[cG];have e:lG m n=bX n++cz m:=by unfold lG;rw[ax z]
   rw[<-e];exact q H1 s1
  have aH:(S (bX n)).length+(S (cz m)).length<=sizeLine:=by
   rw[aG,aG];have h1:(bX n).length<=63:=oA (k:=62) hn;have h2:=qd hm;exact aW (yb h1 h2) (by decide)
  exists _,rfl,?_;refine eR (λh1=>?_) (λh1=>?_)
  ·have n1:n=1:=by
    have:=bG h1
    injection this with this;lia
   exists _,rfl,?_;refine eR (λh2=>?_) (λh2=>?_)
   ·have m0:m≠0:=λz=>by rw[z]at h2;simp at h2
    exists m,rfl,hm,λH1 s1=>?_;have e:lG m n=cz m:=by unfold lG;rw[aB ⟨n1,m0⟩];rfl
    rw[<-e];exact q H1 s1
   ·have z:¬(n=1/\m≠0):=λz=>h2 (by
     have m0:=z.2;simp[m0])
    exists _,rfl,BK hn,?_;rw[qS];nomatch m,rfl,hm,λH1 s1=>⟨_,_,rfl,rfl,aH,fin z H1 s1⟩
  ·have z:¬(n=1/\m≠0):=λz=>h1 (by rw[z.1];simp)
   exists _,rfl,BK hn,?_;rw[qS];nomatch m,rfl,hm,λH1 s1=>⟨_,_,rfl,rfl,aH,fin z H1 s1⟩
def Je:(["members","number"]:List Str).Nodup:=by decide+kernel
def zbU(T:Txt w K mg):Ac.Ok P w K mg base 5 (O5 K):=by
  refine Rw.ok T.d_Z15.F T.d_Z15.S ?_;rintro vs H Q E ⟨a,f,rfl,hT,hs,hl,q⟩;refine⟨rfl,fun _ _ _ _ hr hu nd=>⟨_,(ak (bp (kn (pP (pV 0) (fun _=>rfl))) (ao (aA au)) aM) (ak (yd (i:=1) (g:=(fT K 2 (cn (a8 0) (cn (a8 1) f7)))) ["members", "number"] 2 [] nd rfl (Or.inl rfl) rfl (dC Ac) (dj (pV 0)) (λcl C s₀ H₀ fp=>(gv (n:=2) rfl (cN (aN 0 Je) (cN (aN 1 Je) gy)))) (λcl C s₀ H₀ fp=>jO) (λcl C s₀ H₀ fp=>(az gc (aC T.d_Z81 (Nf T) hr.m (aa (pV 1) ag)) (aC T.d_Z82 (zcw T) hr (aa (pV 0) (aa (bD wy (by rfl) T.n_abs vD (aa (pV 1) ag)) ag))))))
   (ak (aD 2 nd (sW (a7 pE.j (xT (xL (pV 0) ai) ai) ai) au au)) (ao (aA (az gc (pV 2) (k7 yF (bY fq lT lD lF au (aa (pV 1) ag)) (iu (bD m8 (by rfl) T.n_len dI (aa (aC T.d_Z81 (Nf T) hr.m (aa (xT (xL (pV 0) ai) ai) ag)) ag))) nB))))))),?_⟩⟩
  obtain⟨ps,hS,hP⟩:=id hT;have cD:=hP.length;cases f with
  |nil =>
   have hn:ps=[]:=qB cD;exists false,.inl ⟨_,aj.of hS,by rw[hn];rfl⟩,?_;refine ff ?_
   have:=q H (af.refl _)
   rw[show txt []=[48] from rfl,<-jW]at this;exact this
  |cons t0 r =>
   have hn:ps≠[]:=λz=>by rw[z]at cD;simp at cD
   exists true,.inl ⟨_,aj.of hS,by cases ps with|nil=>exact absurd rfl hn|cons _ _=>rfl⟩,?_;refine eP ?_;exists ⟨_,aj.of hS⟩,?_;have hlf:(t0::r).length<=100000:=by lia
   refine jj (K:=K) (a:=a) (xs:=ps.map V.ref) (λi ys σ G=>∃v0 v1,σ=[v0,v1]/\ys=(((t0::r).take i).map λt=>S (cI t)).map V.str/\af H G)
    ⟨none,none,rfl,rfl,af.refl _⟩ (λi ys σ G hi ⟨_,_,_,e1,e2⟩=>⟨aj.of (e2 _ _ hS),by rw[e1,av,av,dY];exact Nat.min_le_left _ _⟩) (by rw[av];exact cj (bH (by lia))) ?_ ?_
   ·rintro i y ys σ G hi ⟨v0,v1,rfl,rfl,sG⟩;obtain⟨p,c6,rfl⟩:=fY hi;obtain⟨t,bg,cK⟩:=hP.at' c6;have hok:=hs t (dr bg);obtain⟨h0,h1,h2,h3⟩:=id hok;exists p,_,rfl,ay.of (sG _ _ cK),rfl,_,_,rfl,_,_,rfl,rfl,?_;refine tt ?_;have ea:(if t.2<0 then -t.2 else t.2)=((t.2.natAbs:Nat):Int):=by split<;>lia
    have em:t.1=((t.1.toNat:Nat):Int):=(gF h0).symm;exists t.2,rfl,?_;exists _,rfl,?_;exists t.1.toNat,t.2.natAbs,by rw[ea,<-em];rfl,by lia,h3,λG1 s1=>?_;have hle:(S [32,bw t.2,32]).length+(S (lG t.1.toNat t.2.natAbs)).length<=sizeLine:=by
     rw[aG,aG];exact aW (yU (zR (by omega) h3) _) (by show 3+79<=sizeLine;decide)
    exists _,_,rfl,rfl,hle,?_;exists _,_,rfl,?_,sG.trans s1;rw[cG,dU,bg,aT,aT];rfl
   ·rintro ys σ G ⟨v0,v1,rfl,rfl,sG⟩ D hD;have iq:(t0::r).take (ps.map V.ref).length=t0::r:=by rw[av,cD,dO]
    rw[iq];have s1:af H (upd G D (.lst (((t0::r).map λt=>S (cI t)).map V.str))):=sG.trans (af.upd hD);have w1:upd G D (.lst (((t0::r).map λt=>S (cI t)).map V.str)) D=some (.lst (((t0::r).map λt=>S (cI t)).map V.str)):=aq;generalize upd G D (.lst (((t0::r).map λt=>S (cI t)).map V.str))=H1 at s1 w1;cases ps with
    |nil=>exact absurd rfl hn
    |cons p0 ps =>
     cases hP with
     |cons GF hP =>
      have sY:=s1 _ _ hS;have dM:=s1 _ _ GF;have hsum:(((t0::r).map λt=>S (cI t)).map (·.length)).sum<=82*(t0::r).length:=by
       have go:∀l:ar,(∀t∈l,gB t)->((l.map λt=>S (cI t)).map (·.length)).sum<=82*l.length:=λl=>by
        induction l with
        |nil=>intro _;exact aO _
        |cons t l ih =>
         intro vp;rw[bU,bU,jV,aG,br];have h1:=Dy (vp t (by simp));have h2:=ih λu hu=>vp u (by simp[hu])
         lia
       exact go _ hs
      have ej:Txt.join (S []) ((t0::r).map λt=>S (cI t))=S ([32,bw t0.2,32]++(bx t0++r.flatMap cI)):=by
       have:=Il ((t0::r).map cI)
       rw[fE]at this;refine (show Txt.join (S []) ((t0::r).map (S ∘ cI))=_ from this).trans ?_;rw[bU,nW,<-List.flatMap_def];unfold cI;simp
      have EJ:([32,bw t0.2,32]++(bx t0++r.flatMap cI)).length<=6000:=by
       have h1:=Dy (hs t0 (by simp));have h2:=FK (r:=r) λu hu=>hs u (by simp[hu])
       have h3:([32,bw t0.2,32]++(bx t0++r.flatMap cI)).length=(cI t0).length+(r.flatMap cI).length:=by unfold cI;simp;lia
       simp only[br]at hl;lia
      have fin:∀(x:Str),x=S (dk t0.2)->(∀G2,af H G2->Q (.str (x++S (bx t0++r.flatMap cI))) G2):=λx hx G2 s2=>by
       rw[hx,cG,<-fZ];exact q G2 s2
      have e3:Txt.slice (S ([32,bw t0.2,32]++(bx t0++r.flatMap cI))) (some ((S [32,bw t0.2,32]).length:Int)) none=S (bx t0++r.flatMap cI):=PH;have mJ:(((t0::r).map λt=>S (cI t)).map (·.length)).sum+((t0::r).map λt=>S (cI t)).length*(ofString "").length<=16777216:=by
       rw[ia,aG,mj,BI];lia
      have xx:di (List.map V.ref (p0::ps)) 0=some (V.ref p0):=bo (xs:=List.map V.ref (p0::ps)) (j:=0) rfl;have xX:∀(x:Str),x=S (dk t0.2)->x.length+(S (bx t0++r.flatMap cI)).length<=sizeLine:=λx hx=>by
       rw[hx,aG,aG];have h3:(dk t0.2).length<=1:=by unfold dk;split<;>simp
       have h4:(bx t0++r.flatMap cI).length<=6000:=by rw[aS]at EJ;lia
       exact aW (yb h3 h4) (by decide)
      exists _,aj.of sY,xx,_,ay.of dM,rfl,_,rfl,?_;refine eR (λh=>?_) (λh=>?_)
      ·have hx:("-" : Str)=S (dk t0.2):=by rw[j6];unfold dk;rw[aB (bG h)]
       exists rfl,_,D,_,rfl,rfl,aj.of w1,mJ,?_;exists _,aj.of sY,xx,_,ay.of dM,rfl,t0.2,rfl,_,rfl,cY,?_;exists _,rfl,(by rw[ia,ej,aG];exact aW EJ (by decide)),_,_,rfl,rfl,?_,?_
       ·rw[ia,ej,e3];exact xX _ hx
       ·rw[ia,ej,e3];exact fin _ hx _ s1
      ·have hx:("" : Str)=S (dk t0.2):=by rw[ia];unfold dk;rw[ax (λz=>h (aR z))]
       exists rfl,_,D,_,rfl,rfl,aj.of w1,mJ,?_;exists _,aj.of sY,xx,_,ay.of dM,rfl,t0.2,rfl,_,rfl,cY,?_;exists _,rfl,(by rw[ia,ej,aG];exact aW EJ (by decide)),_,_,rfl,rfl,?_,?_
       ·rw[show Txt.join (ofString "")=Txt.join (S []) by rw[ia],ej,e3];exact xX _ hx
       ·rw[show Txt.join (ofString "")=Txt.join (S []) by rw[ia],ej,e3];exact fin _ hx _ s1
def zbZ:Sp:=λvs H Q _=>∃(b m:Nat),vs=[.int (b:Int),.int (2^m)]/\b<2^m/\m<=100/\Q (.int (2^(m-pc b))) H
def Yt(T:Txt w K mg):Ek.Ok P w K mg base 1 zbZ:=by
  refine Rw.ok T.d_Z19.F T.d_Z19.S ?_;rintro vs H Q E ⟨b,m,rfl,hb,hm,q⟩;refine⟨rfl,fun _ _ _ _ hr hu nd=>⟨_,(ak (uM df (a7 Ad (pv 0) ai) (ak (aD 0 nd (az sq (pv 0) (az ki (pv 0) ai))) (ao (aD 1 nd (az gU (pv 1) ai))))) (ao (aA (pv 1)))),?_⟩⟩
  have pw:∀i:Nat,((2:Int)^i)=((2^i:Nat):Int):=λi=>by norm_cast
  refine zbI (λσ H2=>∃c k:Nat,σ=[some (.int (c:Int)),some (.int (2^k))]/\H2=H/\pc c<=k/\k-pc c=m-pc b)
   (λσ _=>match σ with|[some (.int c),_]=>c.toNat|_=>0) ⟨b,m,rfl,rfl,FL m b hb,rfl⟩ ?_ ?_
  ·rintro σ H2 ⟨c,k,rfl,rfl,h1,h2⟩;exists _,rfl,rfl,_,rfl,?_;by_cases hc:c=0
   ·subst hc;rw[uq,Nat.sub_zero]at h2;refine aK (by simp) ⟨_,rfl,?_⟩;rw[h2];exact q
   ·obtain⟨l1,l2⟩:=JO c c (aO _) hc;refine aY (by simp;assumption) ?_;have e1:Builtin.bitAnd (c:Int) ((c:Int)-1)=((c&&&(c-1):Nat):Int):=by
     rw[show (c:Int)-1=((c-1:Nat):Int) by lia,pG]
    have e2:((2:Int)^k)/2=2^(k-1):=by
     rw[show k=k-1+1 by lia,Int.pow_succ];simp
    exists _,rfl,_,rfl,_,_,rfl,rfl,_,_,rfl,rfl,_,rfl,_,_,rfl,rfl,⟨by decide,by decide⟩,⟨c&&&(c-1),k-1,?_,rfl,by lia,by lia⟩,?_
    ·show [some (V.int (Builtin.bitAnd (c:Int) ((c:Int)-1))),some (V.int ((2:Int)^k/2))]=_;rw[e1,e2]
    ·show (Builtin.bitAnd (c:Int) ((c:Int)-1)).toNat<((c:Nat):Int).toNat;rw[e1];simpa using l1
  ·rintro σ H2 Q1 Q2 h ⟨v,h1,h2,b,h3,h4⟩;nomatch v,h1,h2,b,h3,h _ _ h4
def P8(K:Frag):Sp:=λvs H Q _=>∃(a:Addr) (l:ar) (m:Nat),vs=[.ref a,.int (m:Int)]/\TL K H a l/\(∀t∈l,0<=t.1/\t.1<2^m)/\l.length<=100000/\m<=100/\YV (2^5000) l /\
 ∀H',af H H'->Q (.int (sA m l)) H'
def PR:(["members","number","size"]:List Str).Nodup:=by decide+kernel
def za1(T:Txt w K mg):AQ.Ok P w K mg base 2 (P8 K):=by
  refine Rw.ok T.d_Z95.F T.d_Z95.S ?_;rintro vs H Q E ⟨a,l,m,rfl,⟨ps,hS,hT⟩,hk,aH,hm,wm,q⟩;refine⟨rfl,fun _ _ _ _ hr hu nd=>⟨_,(ak (aD 2 nd (aC T.d_Z4 (ur T) hr (aa (pV 1) ag)))
   (ao (aA (bD (vj rfl) (by rfl) T.n_sum uY (aa (eO (g:=(fT K 2 (cn (a8 0) (cn (a8 1) f7)))) ["members", "number", "size"] 2 [2] rfl (dC AQ) (dj (pV 0))
    (λcl C s₀ H₀ fp=>(gv (n:=2) rfl (cN (aN 0 PR) (cN (aN 1 PR) gy)))) (λcl C s₀ H₀ fp=>(iJ (a7 pE.j (pV 0) (pV 2)))) (λcl C s₀ H₀ fp=>(az fW.c (pV 1) (aC T.d_Z19 (Yt T) hr (aa (pV 0) (aa (pV 2) ag)))))) ag))))),?_⟩⟩
  have pw:∀i:Nat,((2:Int)^i)=((2^i:Nat):Int):=λi=>by norm_cast
  exists m,rfl,hm,?_;exists ⟨_,hS⟩,?_;refine jj (K:=K) (a:=a) (xs:=ps.map V.ref) (λi ys σ H2=>∃v0 v1:Option V,σ=[v0,v1,some (.int (2^m))]/\ys=((l.take i).map λt=>t.2*2^(m-pc t.1.toNat)).map V.int/\H2=H)
   ⟨none,none,rfl,rfl,rfl⟩ (λi ys σ H2 hi ⟨_,_,_,e1,e2⟩=>⟨by rw[e2];exact hS,by rw[e1,av,av,dY];lia⟩) (by rw[av,hT.length];exact cj (bH (by lia))) ?_ ?_
  ·rintro i y ys σ H2 hi ⟨v0,v1,rfl,rfl,rfl⟩;obtain⟨p,c6,rfl⟩:=fY hi;obtain⟨t,bg,cK⟩:=hT.at' c6;have iT:=dr bg;obtain⟨k0,k1⟩:=hk t iT;have bP:l.take (i+1)=l.take i++[t]:=by rw[dU,bg];rfl
   have e1:((t.1.toNat:Nat):Int)=t.1:=gF k0;have e2:=pw m;exists p,_,rfl,ay.of cK,rfl,_,_,rfl,_,_,rfl,rfl,?_;exists _,rfl,aY (aR k1) ?_;exists t.1.toNat,m,(by rw[e1];rfl),(by lia),hm,?_;have gu:t.2.natAbs<2^5001:=lB (wm t iT) (Ht (by decide) (by decide));have qo:((2:Int)^(m-pc t.1.toNat)).natAbs<2^101:=by
    rw[pw,tM];exact Ht (by decide) (by lia)
   exists zbC gu qo (by decide),some (.int t.1),some (.int t.2),rfl,?_,rfl;rw[bP,aT,aT];rfl
  ·rintro ys σ H2 ⟨v0,v1,rfl,rfl,rfl⟩ D hD;rw[av,hT.length,dO];nomatch D,_,rfl,aj.of aq,q _ (af.upd hD)
def UL(T:Txt w K mg):Gm.Ok P w K mg base 3 (P8 K):=by
  refine Rw.ok T.d_Z94.F T.d_Z94.S ?_;rintro vs H Q E ⟨a,l,m,rfl,hT,hk,aH,hm,wm,q⟩;exists rfl,λ_ _ _ _ hr hu nd=>⟨_,(ao (aA (aC T.d_Z95 (za1 T) hr (aa (pV 0) (aa (pV 1) ag))))),?_⟩;nomatch a,l,m,rfl,hT,hk,aH,hm,wm,q
def zck(K:Frag)(TM:Addr):Sp:=λvs H Q E=>∃(a:Addr) (l:ar),vs=[.ref a]/\aI H a l/\(∀t∈l,0<=t.1)/\(¬10<fw l->Q (.int ((fw l:Nat):Int)) H)/\(10<fw l->E (.ref TM) none H)
def Uu(T:Txt w K mg):Ex.OkE P w K mg base 2 (zck K fu):=by
  refine Rw.okE T.d_Z5.F T.d_Z5.S ?_;rintro vs H Q E ⟨a,l,rfl,hT,h0,q,e⟩;refine⟨rfl,fun _ _ _ _ hr hu nd=>⟨_,(ak (PS.nox (aD 1 nd (gL Bh AH yV Ba (aC T.d_Z91 (yX T) hr (aa (pV 0) ag))))) (ak (bp (a7 mm.j (pV 1) ai) (ao (zG gg rfl (by rfl) T.g_TooMany T.x_TooMany)) aM)
   (ao (PS.nox (aA (pV 1)))))),?_⟩⟩
  exists a,l,rfl,hT.tl,h0,rfl,_,rfl,rfl,?_;exists _,rfl,?_;refine eR (λz=>?_) (λz=>?_)
  ·exact e (by have:=bG z;unfold fw;lia)
  ·exact q λy=>z (aR (by unfold fw at y;lia))
inductive Q3 where
 |shw|unk|way
noncomputable def Q3.wd:Q3->Str
 |.shw => "show" |.unk => "unknowns" |.way => "ways"
noncomputable def OA(f:ar):Str:=if cy f 0=0 then "none" else S (cz (cy f 0))
def UE (K:Frag) (NY TM:Addr):Sp:=fun vs H Q E=>∃ (a:Addr) (f:ar) (q:Q3) (ls:List Nat),vs=[.str q.wd,.ref a]/\aI H a f/\c7 ls f/\ls.length<=5/\(∀ x∈ls,x<16)/\(match q with
 |.shw=>∀H',af H H'->Q (.str (S (txt f))) H'
 |.unk=>∀H',af H H'->Q (.str (OA f)) H'
 |.way=>(kJ f->¬10<fw f->∀H',af H H'->Q (.str (Txt.num (sA (fw f) f))) H')/\(kJ f->10<fw f->∀H',af H H'->E (.ref TM) none H')/\(¬kJ f->∀H',af H H'->E (.ref NY) none H'))
def zaa(T:Txt w K mg):De.OkE P w K mg base 6 (UE K eY fu):=by
  refine Rw.okE T.d_Z89.F T.d_Z89.S ?_;rintro vs H Q E ⟨a,f,q0,ls,rfl,hT,hF,h5,bN,hq⟩;refine⟨rfl,fun _ _ _ _ hr hu nd=>⟨_,(ak (PS.nox (bO (bM aV (pV 0) au) (ao (aA (aC T.d_Z15 (zbU T) hr (aa (pV 1) ag)))) aM)) (ak (PS.nox (bO (bM aV (pV 0) au) (ao (aA (Tt (aC T.d_Z80 (Cr T) hr.m (aa (aC T.d_Z91 (yX T) hr.m (aa (pV 1) ag)) ag)) (qu au)))) aM)) (ak (bO (bM aV (pV 0) au) (ao (aA (gE lj rfl T.n_str kU (aa (aC T.d_Z94 (UL T) hr.m (aa (pd (KG T) hr.m (by rfl) T.d_Z100.m T.d_Z100.F.kp T.d_Z100.b .nil (iS gg) (aa (pV 1) ag)) (aa (pd (Uu T) hr.m (by rfl) T.d_Z5.m T.d_Z5.F.kp T.d_Z5.b .nil (iS gg) (aa (pV 1) ag)) ag))) ag)))) aM)
   (ak gA (ao (PS.nox gA)))))),?_⟩⟩
  have aH:=hF.len h5;have Gj:f.length*f.length<=32*32:=gC aH aH;have h0:∀t∈f,0<=t.1:=λt ht=>(hF.2.1 t ht).1
  cases q0 with
  |shw =>
   refine vy ?_;nomatch a,f,rfl,hT,hF.say bN,aW aH (by decide),λH1 s1=>hq H1 s1
  |unk =>
   refine vn ?_;refine vy ?_;exists a,f,rfl,hT.tl,h0,cy f 0,rfl,hF.any bN,λH1 s1=>?_;have gN:(cz (cy f 0)).length<=16:=qd (hF.any bN);exists _,rfl,by rw[aG];exact aW gN (by decide),?_;have d9:=hq H1 s1;unfold OA at d9;by_cases z:cy f 0=0
   ·rw[aB z]at d9;rw[z];exact aY rfl d9
   ·rw[ax z]at d9;exact aK (λy=>z (AR.mp (qB (by rw[aG]at y;exact y)))) d9
  |way =>
   refine vn ?_;refine vn ?_;refine vy ?_;exists a,f,rfl,hT,by lia,⟨ls,h5,hF.2.1⟩,(λt ht u hu=>lO (hF.2.2 t ht) (hF.2.2 u hu)),λH1 s1 hy=>?_,λH1 s1 hy=>hq.2.2 hy H1 s1;exists a,f,rfl,hT.keep s1,h0,λhm=>?_,λhm=>hq.2.1 hy hm H1 s1;exists a,f,fw f,rfl,(hT.keep s1).tl,hF.keysM,by lia,by lia,(λt ht=>cj (px (hF.2.2 t ht) (by decide+kernel))),λH2 s2=>?_;nomatch _,rfl,hF.wsumF h5 (by lia),hq.1 hy hm H2 (s1.trans s2)
def zce:Sp:=λvs H Q _=>∃f:ar,vs=[zH f]/\(∀t∈f,t.1.natAbs.log2<1920)/\Q (.str (AL f)) H
def Ma(T:Txt w K mg):HF.Ok P w K mg base 1 zce:=by
  refine Rw.ok T.d_Z90.F T.d_Z90.S ?_;rintro vs H Q E ⟨f,rfl,hk,q⟩;exists rfl,λ_ _ _ _ hr hu nd=>⟨_,(ao (aA (sW (a7 rF (pV 0) iP) au (gE lj rfl T.n_str kU (aa (pV 0) ag))))),?_⟩;cases f with
  |nil=>nomatch rfl,_,rfl,aY (by decide) q
  |cons t r=>nomatch rfl,_,rfl,aK (by simp[zH]) ⟨_,rfl,hk t (by simp),q⟩
def Mn:(["members","number","given"]:List Str).Nodup:=by decide+kernel
def Vp(T:Txt w K mg):yl.Ok P w K mg base 1 (Pb K):=by
  refine Rw.ok T.d_Z99.F T.d_Z99.S ?_;rintro vs H Q E ⟨a,l,g,rfl,⟨ps,hS,hT⟩,aH,q⟩;refine⟨rfl,fun _ _ _ _ hr hu nd=>⟨_,(ao (aA (bD (vj rfl) (by rfl) T.n_sum uY (aa (eO (g:=(fT K 2 (cn (a8 0) (cn (a8 1) f7)))) ["members", "number", "given"] 2 [1] rfl (dC yl) (dj (pV 0))
    (λcl C s₀ H₀ fp=>(gv (n:=2) rfl (cN (aN 0 Mn) (cN (aN 1 Mn) gy)))) (λcl C s₀ H₀ fp=>(iJ (a7 aV (az sq.j (pV 0) (pV 2)) (pV 0)))) (λcl C s₀ H₀ fp=>(pV 1))) ag)))),?_⟩⟩
  exists ⟨_,hS⟩,?_;refine jj (K:=K) (a:=a) (xs:=ps.map V.ref) (λi ys σ H2=>∃v0 v1,σ=[v0,v1,some (.int g)]/\H2=H/\ys=(((l.take i).filter λt=>decide (Builtin.bitAnd t.1 g=t.1)).map (·.2)).map V.int)
   ⟨none,none,rfl,rfl,rfl⟩ (λi ys σ H2 hi ⟨_,_,_,e,e2⟩=>⟨by rw[e];exact hS,by
    rw[e2,av,av];exact aW (jR _ _) (by rw[dY];lia)⟩) (by rw[av,hT.length];exact cj (bH (by omega))) ?_ ?_
  ·rintro i y ys σ H2 hi ⟨v0,v1,rfl,rfl,rfl⟩;obtain⟨p,c6,rfl⟩:=fY hi;obtain⟨t,bg,cK⟩:=hT.at' c6;have bP:l.take (i+1)=l.take i++[t]:=by rw[dU,bg];rfl
   exists p,_,rfl,ay.of cK,rfl,_,_,rfl,_,_,rfl,rfl,?_;exists _,rfl,?_;refine eR (λh1=>?_) (λh1=>?_)
   ·have bT:Builtin.bitAnd t.1 g=t.1:=by have:=bG h1;injection this
    exists _,_,rfl,rfl,?_;rw[bP,fV,aT,aT];simp[bT]
   ·have bT:¬Builtin.bitAnd t.1 g=t.1:=λz=>h1 (aR (congrArg V.int z))
    exists _,_,rfl,rfl,?_;rw[bP,fV,aT,aT];simp[bT]
  ·rintro ys σ H2 ⟨v0,v1,rfl,rfl,rfl⟩ D hD;exists D,_,rfl,aj.of aq,?_
   have:=q _ (af.upd (o:=.lst ((((l.take (ps.map V.ref).length).filter λt=>decide (Builtin.bitAnd t.1 g=t.1)).map (·.2)).map V.int)) hD)
   rw[av,hT.length,dO]at this ⊢;exact this
def Wi(K:Frag):Sp:=λvs H Q _=>∃(a:Addr) (l:ar),vs=[.ref a]/\aI H a l/\(l=[]->Q .non H)/\∀t r,l=t::r->Q (.int t.1) H
def Jz(T:Txt w K mg):HP.Ok P w K mg base 1 (Wi K):=by
  refine Rw.ok T.d_Z6.F T.d_Z6.S ?_;rintro vs H Q E ⟨a,l,rfl,hT,q⟩;exists rfl,λ_ _ _ _ hr hu nd=>⟨_,(ao (aA (sW (pP (pV 0) (λ_=>rfl)) (xT (xL (pV 0) ai) ai) iP))),?_⟩;obtain⟨ps,hS,hP⟩:=id hT;cases l with
  |nil =>
   have hn:=hP.length;have e:ps=[]:=by cases ps with|nil=>rfl|cons x r=>simp at hn
   subst e;nomatch false,.inl ⟨_,aj.of hS,rfl⟩,eP (q.1 rfl)
  |cons t r =>
   have hn:=hP.length;obtain⟨p,Kj,rfl⟩:∃p Kj,ps=p::Kj:=by cases ps with|nil=>simp at hn|cons x r=>nomatch x,r,rfl
   obtain⟨t',bg,cK⟩:=hP.at' (i:=0) (p:=p) rfl;have e:t=t':=by simpa using bg
   subst e;exists true,.inl ⟨_,aj.of hS,rfl⟩,ff ?_;nomatch V.ref p,aj.of hS,bo (j:=0) rfl,_,ay.of cK,rfl,q.2 t r rfl
def ZX(K:Frag):Sp:=λvs H Q _=>∃(a b:Addr) (l o:ar),vs=[.ref a,.ref b]/\aI H a l/\aI H b o/\l.length+o.length<=100000/\fj (l++o) /\
 ∀H':Hp,af H H'->Q (zH (nP l o)) H'
def Jt(h:IsForm f)(hv:∀k,aQ f k=aQ l k-aQ o k):f=nP l o:=D1 (lL h λk=>by rw[hv,cO,ow];lia)
def Y0(T:Txt w K mg):F1.Ok P w K mg base 5 (ZX K):=by
  refine Rw.ok T.d_Z92.F T.d_Z92.S ?_;rintro vs H Q E ⟨a,b,l,o,rfl,hT,fk,aH,h5,q⟩;exists rfl,λ_ _ _ _ hr hu nd=>⟨_,(ao (aA (aC T.d_Z6 (Jz T) hr.m (aa (aC T.d_Z63 (By T) hr (aa (pV 0) (aa (pV 1) ag))) ag)))),?_⟩;exists a,b,l,o,rfl,hT,fk,aH,h5,λc f H1 hc cg dB hv ft s1=>?_;rw[Jt dB hv]at cg;exists c,_,rfl,cg,λe=>?_,λt r e=>?_
  ·have:=q H1 s1;rw[e]at this;exact this
  ·have:=q H1 s1;rw[e]at this;exact this
def zbg(K:Frag):Sp:=λvs H Q _=>∃(a b:Addr) (l o:ar) (m:Int),vs=[.ref a,.ref b,.int m]/\aI H a l/\aI H b o/\l.length+o.length<=100000/\fj (l++o)/\0<m /\
 ∀H':Hp,af H H'->Q (zH (sf m (nP l o))) H'
def LX:(["members","number","m"]:List Str).Nodup:=by decide+kernel
def XE(T:Txt w K mg):zD.Ok P w K mg base 5 (zbg K):=by
  refine Rw.ok T.d_Z93.F T.d_Z93.S ?_;rintro vs H Q E ⟨a,b,l,o,m,rfl,hT,fk,aH,h5,hm,q⟩;refine⟨rfl,fun _ _ _ _ hr hu nd=>⟨_,(ao (aA (aC T.d_Z6 (Jz T) hr.m (aa (eO (g:=(fT K 2 (cn (a8 0) (cn (a8 1) f7)))) ["members", "number", "m"] 2 [2] rfl (dC zD) (dj (aC T.d_Z63 (By T) hr (aa (pV 0) (aa (pV 1) ag)))) (λcl C s₀ H₀ fp=>(gv (n:=2) rfl (cN (aN 0 LX) (cN (aN 1 LX) gy)))) (λcl C s₀ H₀ fp=>(iJ (a7 jM (az bQ.c (pV 1) (pV 2)) ai))) (λcl C s₀ H₀ fp=>(bz (aa (pV 0) (aa (pV 1) ag))))) ag)))),?_⟩⟩
  exists a,b,l,o,rfl,hT,fk,aH,h5,λc f H1 hc cg dB hv ft s1=>?_;rw[Jt dB hv]at cg ft;exists cg.tl.seq,?_;refine wK (λt=>decide (t.2%m≠0)) (λt=>t) cg.tl (by lia) [some (.int m)] rfl (λt ht H2 R s2 r=>?_) (λt ht hp H2 R s2 r=>?_) λD ys H2 hD bE s2=>?_
  ·exists hm,_,rfl,?_;have e:(!decide (V.int (t.2%m)=V.int 0))=decide (t.2%m≠0):=by simp
   rw[e];exact r
  ·nomatch bK,r
  ·rw[Ao]at bE
   have:=q _ (s1.trans s2)
   exists D,sf m (nP l o),rfl,bE,λe=>?_,λt r e=>?_
   ·rw[e]at this;exact this
   ·rw[e]at this;exact this
def wu(NN NY TM:Addr)(H:Hp)(Q:VK)(E:XK):An->Prop
 |.txt s=>∀H',af H H'->Q (.str s) H'
 |.name=>∀H',af H H'->E (.ref NN) none H'
 |.yesno=>∀H',af H H'->E (.ref NY) none H'
 |.many=>∀H',af H H'->E (.ref TM) none H'
def zbf(K:Frag)(C NN NY TM:Addr):Sp:=λvs H Q E=>∃(p d t:Addr) (st:cH) (q:Ask) (ls:List Nat),vs=[.ref p,.str q.wd,.ref t]/\H t=some (.lst q.th)/\lx C H p d st/\ls.length<=5/\(∀x∈ls,x<16)/\(∀nf∈st,c7 ls nf.2)/\q.ok/\wu NN NY TM H Q E (q.tells st)
def zaR(T:Txt w K mg):Hn.OkE P w K mg base 7 (zbf K d7 fh eY fu):=by
  refine Rw.okE T.d_Desk_answer.F T.d_Desk_answer.S ?_;rintro vs H Q E ⟨p,d,t,st,q0,ls,rfl,ht,hD,h5,bN,bc,hok,hq⟩;refine⟨rfl,fun _ _ _ _ hr hu nd=>⟨_,(ak (aD 3 nd (qg (pV 0) T.cl_Desk T.d_Desk_kept.m (uD T) hr.m T.d_Desk_kept.b .nil (iS gg) (aa (xL (pV 2) ai) ag))) (ak (PS.nox (bO (bM aV (pV 1) au) (ao (aA (gE lj rfl T.n_str kU (aa (aC T.d_Z99 (Vp T) hr.m (aa (pV 3) (aa (xL (pV 2) ai) ag))) ag)))) aM)) (ak (bO (bM aV (pV 1) au) (ao (aA (aC T.d_Z90 (Ma T) hr.m (aa (aC T.d_Z92 (Y0 T) hr.m (aa (pV 3) (aa (qg (pV 0) T.cl_Desk T.d_Desk_kept.m (uD T) hr.m T.d_Desk_kept.b .nil (iS gg) (aa (xL (pV 2) ai) ag)) ag))) ag)))) aM) (ak (bO (bM aV (pV 1) au) (ao (aA (aC T.d_Z90 (Ma T) hr.m (aa (aC T.d_Z93 (XE T) hr.m (aa (pV 3) (aa (qg (pV 0) T.cl_Desk T.d_Desk_kept.m (uD T) hr.m T.d_Desk_kept.b .nil (iS gg) (aa (xL (pV 2) ai) ag)) (aa (xL (pV 2) ai) ag)))) ag)))) aM) (ao (aA (pd (zaa T) hr (by rfl) T.d_Z89.m T.d_Z89.F.kp T.d_Z89.b .nil (iS gg) (aa (pV 1) (aa (pV 3) ag))))))))),?_⟩⟩
  obtain⟨⟨dx,ho⟩,_⟩:=id hD;unfold Ask.tells at hq;cases q0 with
  |shw n =>
   have ew:(Ask.shw n).wd=ofString "show" := rfl;exists p,dx,_,rfl,ho,iQ d (by decide+kernel),_,aj.of ht,bo (j:=0) rfl,p,d,st,n,rfl,hD,λa f hf hT=>?_,λhg=>?_
   rotate_left
   ·dsimp only at hq;rw[hg]at hq;exact hq H (af.refl _)
   dsimp only at hq;rw[hf]at hq;refine vN (by rw[ew];decide) ?_;refine vN (by rw[ew];decide) ?_;refine vN (by rw[ew];decide) ?_;nomatch a,f,.shw,ls,rfl,hT,dz bc hf,h5,bN,hq
  |unk n =>
   have ew:(Ask.unk n).wd=ofString "unknowns" := rfl;exists p,dx,_,rfl,ho,iQ d (by decide+kernel),_,aj.of ht,bo (j:=0) rfl,p,d,st,n,rfl,hD,λa f hf hT=>?_,λhg=>?_
   rotate_left
   ·dsimp only at hq;rw[hg]at hq;exact hq H (af.refl _)
   dsimp only at hq;rw[hf]at hq;refine vN (by rw[ew];decide) ?_;refine vN (by rw[ew];decide) ?_;refine vN (by rw[ew];decide) ?_;nomatch a,f,.unk,ls,rfl,hT,dz bc hf,h5,bN,hq
  |way n =>
   have ew:(Ask.way n).wd=ofString "ways" := rfl;exists p,dx,_,rfl,ho,iQ d (by decide+kernel),_,aj.of ht,bo (j:=0) rfl,p,d,st,n,rfl,hD,λa f hf hT=>?_,λhg=>?_
   rotate_left
   ·dsimp only at hq;rw[hg]at hq;exact hq H (af.refl _)
   dsimp only at hq;rw[hf]at hq;refine vN (by rw[ew];decide) ?_;refine vN (by rw[ew];decide) ?_;refine vN (by rw[ew];decide) ?_;exists a,f,.way,ls,rfl,hT,dz bc hf,h5,bN,λhy hm=>?_,λhy hm=>?_,λhy=>?_
   ·dsimp only at hq;rw[aB hy,ax hm]at hq;exact hq
   ·dsimp only at hq;rw[aB hy,aB hm]at hq;exact hq
   ·dsimp only at hq;rw[ax hy]at hq;exact hq
  |wor n g =>
   have ew:(Ask.wor n g).wd=ofString "worth" := rfl;exists p,dx,_,rfl,ho,iQ d (by decide+kernel),_,aj.of ht,bo (j:=0) rfl,p,d,st,n,rfl,hD,λa f hf hT=>?_,λhg=>?_
   rotate_left
   ·dsimp only at hq;rw[hg]at hq;exact hq H (af.refl _)
   dsimp only at hq;rw[hf]at hq;have hF:=dz bc hf;have aH:=hF.len h5;refine vY (by rw[ew];decide) ?_;exists _,aj.of ht,bo (j:=1) rfl,a,f,(g:Int),rfl,hT.tl,by lia,λH1 s1=>?_;nomatch _,rfl,hF.worth h5 _,hq H1 s1
  |ali n m =>
   have ew:(Ask.ali n m).wd=ofString "alike" := rfl;exists p,dx,_,rfl,ho,iQ d (by decide+kernel),_,aj.of ht,bo (j:=0) rfl,p,d,st,n,rfl,hD,λa f hf hT=>?_,λhg=>?_
   rotate_left
   ·dsimp only at hq;rw[hg]at hq;exact hq H (af.refl _)
   dsimp only at hq;rw[hf]at hq;refine vN (by rw[ew];decide) ?_;refine vY (by rw[ew];decide) ?_;exists p,dx,_,rfl,ho,iQ d (by decide+kernel),_,aj.of ht,bo (j:=1) rfl,p,d,st,m,rfl,hD,λb o hg fk=>?_,λhg=>?_
   rotate_left
   ·dsimp only at hq;rw[hg]at hq;exact hq H (af.refl _)
   dsimp only at hq;rw[hg]at hq;have hF:=dz bc hf;have hO:=dz bc hg;have l1:=hF.len h5;have l2:=hO.len h5;exists a,b,f,o,rfl,hT,fk,by lia,⟨ls,h5,hF.2.1.app hO.2.1⟩,λH1 s1=>?_;nomatch _,rfl,BB (hF.minus hO) bN,hq H1 s1
  |rst n m k =>
   have ew:(Ask.rst n m k).wd=ofString "rest" := rfl;exists p,dx,_,rfl,ho,iQ d (by decide+kernel),_,aj.of ht,bo (j:=0) rfl,p,d,st,n,rfl,hD,λa f hf hT=>?_,λhg=>?_
   rotate_left
   ·dsimp only at hq;rw[hg]at hq;exact hq H (af.refl _)
   dsimp only at hq;rw[hf]at hq;refine vN (by rw[ew];decide) ?_;refine vN (by rw[ew];decide) ?_;refine vY (by rw[ew];decide) ?_;exists p,dx,_,rfl,ho,iQ d (by decide+kernel),_,aj.of ht,bo (j:=1) rfl,p,d,st,m,rfl,hD,λb o hg fk=>?_,λhg=>?_
   rotate_left
   ·dsimp only at hq;rw[hg]at hq;exact hq H (af.refl _)
   dsimp only at hq;rw[hg]at hq;have hF:=dz bc hf;have hO:=dz bc hg;have l1:=hF.len h5;have l2:=hO.len h5;exists _,aj.of ht,bo (j:=2) rfl,a,b,f,o,(k:Int),rfl,hT,fk,by omega,⟨ls,h5,hF.2.1.app hO.2.1⟩,by have:=hok.2.2.1;lia,λH1 s1=>?_;nomatch _,rfl,(λu hu=>BB (hF.minus hO) bN u (jd.mp hu).1),hq H1 s1
def YL(K:Frag)(C NL NN NY TM:Addr):Sp:=λvs H Q E=>∃(p d:Addr) (st:cH) (l ls:List Nat),vs=[.ref p,.str (S l)]/\lx C H p d st/\(∀c∈l,c<128)/\l.length<=9000/\ls.length<=5/\(∀x∈ls,x<16)/\(∀nf∈st,c7 ls nf.2)/\st.length<=1000 /\
 ((∃ c:bh,cE l=some (some c.nm,c.wl,c.th)/\Bv ls c/\(∀ H',eV ls st c .name->af H H'->E (.ref NN) none H')/\(∀ H',eV ls st c .yesno->af H H'->E (.ref NY) none H') /\ ∀f,eV ls st c (.form f)->(f.length<=300/\∀t∈f,t.2.natAbs<10^100)/\∀(kvs:List (bJ×V)) (b:Addr) (H1:Hp),H d=some (.dK kvs)->H b=none->aI H1 b f->af H H1->Q (.str "ok") (upd H1 d (.dK (dq kvs (Sum.inr (S c.nm)) (.ref b))))) \/ (∃q:Ask,cE l=some (none,q.wl,q.th)/\q.ok/\wu NN NY TM H Q E (q.tells st)) \/ (cE l=none/\kM l/\∀H',af H H'->E (.ref NL) none H'))
def wu.up{NN NY TM:Addr}{H H1:Hp}{Q:VK}{E:XK}{r:An}(h:wu NN NY TM H Q E r)(s:af H H1):wu NN NY TM H1 Q E r:=by
 cases r<;>exact λH' s'=>h H' (s.trans s')
def Zz(T:Txt w K mg):E7.OkE P w K mg base 9 (YL K d7 fF fh eY fu):=by
  refine Rw.okE T.d_Desk_say.F T.d_Desk_say.S ?_;rintro vs H Q E ⟨p,d,st,l,ls,rfl,hD,ha,hl,bt,cM,bc,ue,EE⟩;refine⟨rfl,fun _ _ _ _ hr hu nd=>⟨_,(ak (qm (pd (Ym T) hr.m (by rfl) T.d_Z64.m T.d_Z64.F.kp T.d_Z64.b .nil (iS gg) (aa (pV 1) ag)) (ig (n:=3) rfl (cL (aN 2 nd) (cL (aN 3 nd) (cL (aN 4 nd) ik)))))
   (ak (bO (bM rF (pV 2) iP) (ao (aA (qg (pV 0) T.cl_Desk T.d_Desk_answer.m (zaR T) hr.m T.d_Desk_answer.b .nil (iS gg) (aa (pV 3) (aa (pV 4) ag))))) aM) (ak (aD 5 nd (qg (pV 0) T.cl_Desk T.d_Desk_form_for.m (Rq T) hr T.d_Desk_form_for.b .nil (iS gg) (aa (pV 3) (aa (pV 4) ag)))) (ak (PS.nox (d6 (aC T.d_Z78 (R4 T) hr.m (aa (pV 5) ag)))) (ak (PS.nox (uh hu (DC (pV 0) rfl) (pV 2) (pV 5) rfl)) (ao (PS.nox (aA au)))))))),?_⟩⟩
  obtain⟨⟨dx,ho⟩,_⟩:=id hD;rcases EE with ⟨c,hc,hok,qn,qy,q⟩|⟨q0,hc,hok,hq⟩|⟨hc,lX,e⟩
  ·refine⟨l,rfl,ha,hl,Ms hc,λo wo vs pp cc H1 hr hp lP s1=>?_,λH1 hr s1=>by rw[hc]at hr;cases hr⟩;rw[hc]at hr;cases hr;exists _,ay.of hp,rfl,?_;exists rfl,vN (by simp[FT]) ?_;exists p,dx,_,rfl,s1 _ _ ho,iQ d (by decide+kernel),p,d,cc,st,c,ls,(by rw[wl_S];rfl),lP,hD.keep s1,bt,cM,bc,hok,(λH2 hm s2=>qn H2 hm (s1.trans s2)),(λH2 hm s2=>qy H2 hm (s1.trans s2)),λf b H2 hm hb hT s2=>?_;obtain⟨⟨f1,f2⟩,f3⟩:=q f hm;exists b,f,rfl,hT,f1,f2,λH3 s3=>?_;have S3:=s1.trans (s2.trans s3);obtain⟨kvs,pW,qU⟩:=id hD.dc;have gT:kvs.length=st.length:=er qU;exists p,_,dx,_,_,rfl,S3 _ _ ho,T.cl_Desk,T.nf_Desk_forms,C1 d,d,_,rfl,mI.k (k:=Sum.inr (S c.nm)) (S3 _ _ pW) (bH (by lia)),?_;exact f3 kvs b H3 pW (kj s1 hb) (hT.keep s3) S3
  ·refine⟨l,rfl,ha,hl,Ms hc,λo wo vs pp cc H1 hr hp lP s1=>?_,λH1 hr s1=>by rw[hc]at hr;cases hr⟩;rw[hc]at hr;cases hr;exists _,ay.of hp,rfl,?_;exists rfl,vy ?_;nomatch p,dx,_,rfl,s1 _ _ ho,iQ d (by decide+kernel),p,d,cc,st,q0,ls,(by rw[Ask.wl_S];rfl),lP,hD.keep s1,bt,cM,bc,hok,hq.up s1
  ·nomatch l,rfl,ha,hl,lX,(λo wo vs pp cc H1 hr hp lP s1=>by rw[hc]at hr;cases hr),λH1 hr s1=>e H1 s1
inductive Er where
 |line|name|yesno|many
noncomputable def Er.wo:Er->Str
 |.line => "line" |.name => "name" |.yesno => "yes no" |.many => "many"
noncomputable def Er.a:Er->Addr
 |.line=>fF|.name=>fh|.yesno=>eY|.many=>fu
noncomputable def Er.n:Er->Nat
 |.line=>0|.name=>3|.yesno=>4|.many=>5
noncomputable def Er.b(k:Er)(i:Nat):Bool:=decide (i=k.n)
def mY(H:Hp)(Q:VK)(k:Er):Prop:=∀e H',H' e=some (.lst [.str k.wo])->af H H'->Q (.ref e) H'
def tF(H:Hp)(Q:VK):An->Prop
 |.txt s=>∀H',af H H'->Q (.str s) H'
 |.name=>mY H Q .name
 |.yesno=>mY H Q .yesno
 |.many=>mY H Q .many
def Kf(K:Frag)(C:Addr):Sp:=λvs H Q _=>∃(p d:Addr) (st:cH) (l ls:List Nat),vs=[.ref p,.str (S l)]/\lx C H p d st/\(∀c∈l,c<128)/\l.length<=9000/\ls.length<=5/\(∀x∈ls,x<16)/\(∀nf∈st,c7 ls nf.2)/\st.length<=1000 /\
 ((∃ c:bh,cE l=some (some c.nm,c.wl,c.th)/\Bv ls c/\(eV ls st c .name->mY H Q .name)/\(eV ls st c .yesno->mY H Q .yesno) /\ ∀f,eV ls st c (.form f)->(f.length<=300/\∀t∈f,t.2.natAbs<10^100)/\∀(kvs:List (bJ×V)) (b:Addr) (H1:Hp),H d=some (.dK kvs)->H b=none->aI H1 b f->af H H1->Q (.str "ok") (upd H1 d (.dK (dq kvs (Sum.inr (S c.nm)) (.ref b))))) \/ (∃q:Ask,cE l=some (none,q.wl,q.th)/\q.ok/\tF H Q (q.tells st))\/(cE l=none/\kM l/\mY H Q .line))
noncomputable def eW:List V:=[.str "line",.str "form",.str "statement",.str "name",.str "yes no",.str "many",.str "pull"]
def Er.at(k:Er):eW[k.n]?=some (.str k.wo):=by cases k<;>rfl
def Xm:(["_law_one"]:List Str).Nodup:=by decide+kernel
def zba(T:Txt w K mg):Aq.Ok P w K mg base 10 (Kf K d7):=by
  refine Rw.ok T.d_Z47.F T.d_Z47.S ?_;rintro vs H Q E ⟨p,d,st,l,ls,rfl,hD,ha,hl,bt,cM,bc,ue,EE⟩;refine⟨rfl,fun _ _ _ _ hr hu nd=>⟨_,(ak (aD 2 nd iP) (ak (aD 3 nd iP) (ak (ke (Ss (i:=4) (j:=2) (l:=3) (XD LM) (pV 0) T.cl_Desk T.d_Desk_say.m (Zz T) hr T.d_Desk_say.b (aa (pV 1) ag) nd rfl rfl rfl (by decide) T.g_FormError T.x_FormError))
   (ak (bO (bM rF (pV 2) iP) (ao (aA (pV 3))) aM) (ak (aD 5 nd (bq (aa (bD pS (by rfl) T.n_isinstance p8 (aa (pV 2) (aa (fA (v:=.ref fF) (by rfl) T.g_NoLine rfl) ag))) (aa (bD pS (by rfl) T.n_isinstance p8 (aa (pV 2) (aa (fA (v:=.ref pT) (by rfl) T.g_NoForm rfl) ag))) (aa (bD pS (by rfl) T.n_isinstance p8 (aa (pV 2) (aa (fA (v:=.ref qi) (by rfl) T.g_NoStatement rfl) ag))) ag)))))
   (ak (aD 5 nd (az tj (pV 5) (bq (aa (bD pS (by rfl) T.n_isinstance p8 (aa (pV 2) (aa (fA (v:=.ref fh) (by rfl) T.g_NoName rfl) ag))) (aa (bD pS (by rfl) T.n_isinstance p8 (aa (pV 2) (aa (fA (v:=.ref eY) (by rfl) T.g_NoYesNo rfl) ag))) (aa (bD pS (by rfl) T.n_isinstance p8 (aa (pV 2) (aa (fA (v:=.ref fu) (by rfl) T.g_TooMany rfl) ag))) ag))))))
   (ak (d6 (bY cB fI fJ fK (pV 5) (aa (bD pS (by rfl) T.n_isinstance p8 (aa (pV 2) (aa (fA (v:=.ref pH) (by rfl) T.g_NoPull rfl) ag))) ag)))
   (ak (bp (PW.pt (lE (a7 jM (bD gd (by rfl) T.n_len dI (aa (eO (g:=(a8 0)) ["_law_one"] 1 [] rfl (dC Aq) (dj (pV 5))
    (λcl C s₀ H₀ fp=>(aN 0 Xm)) (λcl C s₀ H₀ fp=>(iJ (gk (pV 0)))) (λcl C s₀ H₀ fp=>(pV 0))) ag)) ai) (mq (kn (gk (bD pS (by rfl) T.n_isinstance p8 (aa (pV 2) (aa (TF (v:=.ty "ValueError") (by rfl) T.n_ValueError Z2 rfl) ag)))))))) (ao (aA (bq (aa au ag)))) aM)
   (ao (aA (bq (aa (xL (bq (aa au (aa au (aa au (aa au (aa au (aa au (aa au ag)))))))) (bY cB PySem.F.slot_list_index PySem.F.type_list_index XT (pV 5) (aa oS ag))) ag)))))))))))),?_⟩⟩
  obtain⟨⟨dx,ho⟩,_⟩:=id hD;exists λσ G=>(∃v v4,σ=[some (.ref p),some (.str (S l)),some .non,some v,v4,none]/\Q v G)\/(∃e0 k v3 v4,σ=[some (.ref p),some (.str (S l)),some (.ref e0),v3,v4,none]/\G e0=some (oU e0 k.a)/\mY G Q k),?_,?_
  ·have up:∀{k:Er}{H1:Hp}{e0:Addr},mY H Q k->af H H1->H1 e0=none->mY (upd H1 e0 (oU e0 k.a)) Q k:=λh s1 he e H' h1 h2=>h e H' h1 (s1.trans ((af.upd he).trans h2))
   exists p,dx,_,rfl,ho,iQ d (by decide+kernel),p,d,st,l,ls,rfl,hD,ha,hl,bt,cM,bc,ue,?_;rcases EE with ⟨c,hc,hok,qn,qy,q⟩|⟨q0,hc,hok,hq⟩|⟨hc,lX,hq⟩
   ·refine .inl ⟨c,hc,hok,λH1 hm s1=>⟨fh,_,rfl,T.x_NoName,by simp,λe0 he=>.inr ⟨e0,.name,_,_,rfl,aq,up (qn hm) s1 he⟩⟩,λH1 hm s1=>⟨eY,_,rfl,T.x_NoYesNo,by simp,λe0 he=>.inr ⟨e0,.yesno,_,_,rfl,aq,up (qy hm) s1 he⟩⟩,λf hm=>?_⟩;obtain⟨f1,f2⟩:=q f hm;nomatch f1,λkvs b H1 h1 h2 h3 h4=>.inl ⟨_,_,rfl,f2 kvs b H1 h1 h2 h3 h4⟩
   ·refine .inr (.inl ⟨q0,hc,hok,?_⟩);cases hr:q0.tells st with
    |txt s=>rw[hr]at hq;exact λH1 s1=>.inl ⟨_,_,rfl,hq H1 s1⟩
    |name=>rw[hr]at hq;exact λH1 s1=>⟨fh,_,rfl,T.x_NoName,by simp,λe0 he=>.inr ⟨e0,.name,_,_,rfl,aq,up hq s1 he⟩⟩
    |yesno=>rw[hr]at hq;exact λH1 s1=>⟨eY,_,rfl,T.x_NoYesNo,by simp,λe0 he=>.inr ⟨e0,.yesno,_,_,rfl,aq,up hq s1 he⟩⟩
    |many=>rw[hr]at hq;exact λH1 s1=>⟨fu,_,rfl,T.x_TooMany,by simp,λe0 he=>.inr ⟨e0,.many,_,_,rfl,aq,up hq s1 he⟩⟩
   ·exact .inr (.inr ⟨hc,lX,λH1 s1=>⟨fF,_,rfl,T.x_NoLine,by simp,λe0 he=>.inr ⟨e0,.line,_,_,rfl,aq,up hq s1 he⟩⟩⟩)
  ·rintro σ G (⟨v,v4,rfl,hq⟩|⟨e0,k,v3,v4,rfl,hx,hq⟩)
   ·exists rfl,vy ?_;exact hq
   exists rfl,vN (by simp) ?_;obtain⟨bm,x0,i1,i2,i3,i4,i5,i6,i7,vV⟩:∃bm,jc K k.a bm=true/\kitOne K (.ref k.a) (.ref fF)=some (k.b 0)/\kitOne K (.ref k.a) (.ref pT)=some (k.b 1)/\kitOne K (.ref k.a) (.ref qi)=some (k.b 2)/\kitOne K (.ref k.a) (.ref fh)=some (k.b 3)/\kitOne K (.ref k.a) (.ref eY)=some (k.b 4)/\kitOne K (.ref k.a) (.ref fu)=some (k.b 5)/\kitOne K (.ref k.a) (.ref pH)=some (k.b 6)/\kitOne K (.ref k.a) (.type "ValueError")=some true:=by
    cases k with
    |line=>nomatch _,T.x_NoLine,T.i_NoLine_NoLine,T.i_NoLine_NoForm,T.i_NoLine_NoStatement,T.i_NoLine_NoName,T.i_NoLine_NoYesNo,T.i_NoLine_TooMany,T.i_NoLine_NoPull,T.v_NoLine
    |name=>nomatch _,T.x_NoName,T.i_NoName_NoLine,T.i_NoName_NoForm,T.i_NoName_NoStatement,T.i_NoName_NoName,T.i_NoName_NoYesNo,T.i_NoName_TooMany,T.i_NoName_NoPull,T.v_NoName
    |yesno=>nomatch _,T.x_NoYesNo,T.i_NoYesNo_NoLine,T.i_NoYesNo_NoForm,T.i_NoYesNo_NoStatement,T.i_NoYesNo_NoName,T.i_NoYesNo_NoYesNo,T.i_NoYesNo_TooMany,T.i_NoYesNo_NoPull,T.v_NoYesNo
    |many=>nomatch _,T.x_TooMany,T.i_TooMany_NoLine,T.i_TooMany_NoForm,T.i_TooMany_NoStatement,T.i_TooMany_NoName,T.i_TooMany_NoYesNo,T.i_TooMany_TooMany,T.i_TooMany_NoPull,T.v_TooMany
   obtain⟨b0,uS⟩:∃b,b=k.b 0:=⟨_,rfl⟩;obtain⟨b1,gu⟩:∃b,b=k.b 1:=⟨_,rfl⟩;obtain⟨b2,qo⟩:∃b,b=k.b 2:=⟨_,rfl⟩;obtain⟨b3,Ar⟩:∃b,b=k.b 3:=⟨_,rfl⟩;obtain⟨b4,yN⟩:∃b,b=k.b 4:=⟨_,rfl⟩;obtain⟨b5,uf⟩:∃b,b=k.b 5:=⟨_,rfl⟩;obtain⟨b6,NU⟩:∃b,b=k.b 6:=⟨_,rfl⟩;have hB:[b0,b1,b2,b3,b4,b5,b6]=(List.range 7).map k.b:=by rw[uS,gu,qo,Ar,yN,uf,NU];rfl
   rw[<-uS]at i1;rw[<-gu]at i2;rw[<-qo]at i3;rw[<-Ar]at i4;rw[<-yN]at i5;rw[<-uf]at i6;rw[<-NU]at i7;exists e0,k.a,_,b0,hx,x0,.inl ⟨fF,rfl,i1⟩,?_;exists e0,k.a,_,b1,hx,x0,.inl ⟨pT,rfl,i2⟩,?_;exists e0,k.a,_,b2,hx,x0,.inl ⟨qi,rfl,i3⟩,?_;exists by show 3<=sizeLine;decide,λl1 ft=>?_;generalize eU:upd G l1 _=H3;obtain⟨t2,y1⟩:=nw eU ft;have x1:=t2 _ _ hx;exists e0,k.a,_,b3,x1,x0,.inl ⟨fh,rfl,i4⟩,?_;exists e0,k.a,_,b4,x1,x0,.inl ⟨eY,rfl,i5⟩,?_;exists e0,k.a,_,b5,x1,x0,.inl ⟨fu,rfl,i6⟩,?_;exists by show 3<=sizeLine;decide,λl2 jL=>?_;generalize eU:upd H3 l2 _=H4;obtain⟨t3,y2⟩:=nw eU jL;have x2:=t3 _ _ x1;have Xp:=t3 _ _ y1;exists l1,l2,_,_,rfl,rfl,Xp,y2,EB,λl3 nL=>?_;generalize eU:upd H4 l3 _=H5;have t4:=(nw eU nL).1;have y3:H5 l3=some (.lst [.bl b0,.bl b1,.bl b2,.bl b3,.bl b4,.bl b5]):=(nw eU nL).2;have x3:=t4 _ _ x2;have n3:G l3=none:=t2.free (t3.free nL);have T5:=t2.trans (t3.trans t4);exists .inl ⟨rfl,_,aj.of y3⟩,e0,k.a,_,b6,x3,x0,.inl ⟨pH,rfl,i7⟩,_,y3,(by show 6<sizeLine;decide),?_;have y4:upd H5 l3 (.lst ([.bl b0,.bl b1,.bl b2,.bl b3,.bl b4,.bl b5]++[.bl b6])) l3=some (.lst ([b0,b1,b2,b3,b4,b5,b6].map V.bl)):=aq;have ne3:e0≠l3:=λz=>by rw[z]at hx;rw[hx]at n3;cases n3
   have x4:upd H5 l3 (.lst ([.bl b0,.bl b1,.bl b2,.bl b3,.bl b4,.bl b5]++[.bl b6])) e0=some (oU e0 k.a):=by rw[aJ ne3];exact x3
   have T6:af G (upd H5 l3 (.lst ([.bl b0,.bl b1,.bl b2,.bl b3,.bl b4,.bl b5]++[.bl b6]))):=T5.write n3;generalize upd H5 l3 (.lst ([.bl b0,.bl b1,.bl b2,.bl b3,.bl b4,.bl b5]++[.bl b6]))=H6 at y4 x4 T6;have e1:(([b0,b1,b2,b3,b4,b5,b6].filter id).map V.bl).length=1:=by rw[hB];cases k<;>rfl
   generalize hbs:[b0,b1,b2,b3,b4,b5,b6]=bs at y4 e1;have Ks:bs.length=7:=by rw[<-hbs];rfl
   exists ⟨_,aj.of y4⟩,?_;refine jj (K:=K) (a:=l3) (xs:=bs.map V.bl) (λi ys σ G'=>∃v0,σ=[v0]/\ys=((bs.take i).filter id).map V.bl/\G'=H6)
    ⟨none,rfl,rfl,rfl⟩ (λi ys σ G' hi ⟨_,_,e1,e2⟩=>⟨by rw[e2];exact aj.of y4,by rw[e1,av];exact aW (jR _ _) (by rw[dY];omega)⟩) (by rw[av,Ks];decide) ?_ ?_
   ·rintro i y ys σ G' hi ⟨v0,rfl,rfl,rfl⟩;rw[dE]at hi;obtain⟨b,hb,rfl⟩:∃b,bs[i]?=some b/\V.bl b=y:=by
     cases e:bs[i]? with
     |none=>rw[e]at hi;cases hi
     |some t=>rw[e]at hi;nomatch t,rfl,dN hi
    have bP:bs.take (i+1)=bs.take i++[b]:=by rw[dU,hb];rfl
    unfold a8;exists b,rfl,?_;cases b with
    |false =>
     refine eP ?_;exists _,rfl,?_,rfl;rw[bP,fV];simp
    |true =>
     refine ff ?_;exists _,rfl,?_,rfl;rw[bP,fV,aT];rfl
   ·rintro ys σ G' ⟨v0,rfl,rfl,rfl⟩ D hD;rw[av,dO];rw[av]at e1;have t7:af G' (upd G' D (.lst ((bs.filter id).map V.bl))):=af.upd hD;exists D,_,rfl,.inl (aj.of aq),_,rfl,?_;rw[av,e1];refine aK (by decide) ?_;have x5:=t7 _ _ x4;have y5:=t7 _ _ y4;have T7:=T6.trans t7;generalize upd G' D (.lst ((bs.filter id).map V.bl))=H7 at x5 y5 T7 ⊢;exists e0,k.a,_,true,x5,x0,.inr ⟨"ValueError",rfl,vV⟩,true,rfl,aK (by decide) ?_;exists by show 7<=sizeLine;decide,λl5 Hg=>?_;have t8:af H7 (upd H7 l5 (.lst eW)):=af.upd Hg;have y6:=t8 _ _ y5;have z6:upd H7 l5 (.lst eW) l5=some (.lst eW):=aq;have T8:=T7.trans t8;exists .inl ⟨rfl,_,aj.of y6⟩,l3,_,.bl true,k.n,rfl,rfl,y6,rfl,(by rw[<-hbs,hB];cases k<;>rfl),⟨_,(by rw[<-hbs,hB];cases k<;>rfl),rfl⟩,(λm z hm hz=>?_),.str k.wo,aj.of z6,bo (j:=k.n) k.at,du,λl6 Bp=>hq l6 _ aq (T8.trans (af.upd Bp));rw[<-hbs,hB,fE,dE,List.getElem?_range (by have h:k.n<=5:=(by cases k<;>decide);lia)]at hz;cases hz;show jA (.bl (k.b m)) (.bl true)=false;unfold Er.b;rw[bj (by lia)];rfl
def Yv(K:Frag):Sp:=λvs H Q _=>∃(a:Addr) (l:ar) (k:Nat),vs=[.ref a,.int (k:Int)]/\aI H a l/\(∀t∈l,0<=t.1)/\l.length<=5000/\k<=100 /\
 ∀(p c d:Addr) (H':Hp),H' p=some (.tup [.ref c,.ref d])->aI H' c (gh k l)->aI H' d (iW k l)->af H H'->Q (.ref p) H'
def LK:(["_law_where","_law_number","_law_bit"]:List Str).Nodup:=by decide+kernel
def Lu:(["_law_where","_law_number","_law_bit"]:List Str).Nodup:=by decide+kernel
def II(T:Txt w K mg):uW.Ok P w K mg base 1 (Yv K):=by
  refine Rw.ok T.d_Z42.F T.d_Z42.S ?_;rintro vs H Q E ⟨a,l,k,rfl,hT,h0,aH,hk,q⟩;refine⟨rfl,fun _ _ _ _ hr hu nd=>⟨_,(ak (aD 2 nd (az pJ ai (pv 1))) (ak (yd (i:=3) (g:=(fT K 2 (cn (a8 0) (cn (a8 1) f7)))) ["_law_where", "_law_number", "_law_bit"] 2 [2] nd rfl (Or.inl rfl) rfl (dC uW) (Bl (pv 0)) (λcl C s₀ H₀ fp=>(gv (n:=2) rfl (cN (aN 0 LK) (cN (aN 1 LK) gy)))) (λcl C s₀ H₀ fp=>(iJ (a7 mm (az sq (pv 0) (pv 2)) ai))) (λcl C s₀ H₀ fp=>(bz (aa (az ki (pv 0) (pv 2)) (aa (pv 1) ag))))) (ao (aA (bz (aa (pv 3) (aa (eO (g:=(fT K 2 (cn (a8 0) (cn (a8 1) f7)))) ["_law_where", "_law_number", "_law_bit"] 2 [2] rfl (dC uW) (Bl (pv 0)) (λcl C s₀ H₀ fp=>(gv (n:=2) rfl (cN (aN 0 Lu) (cN (aN 1 Lu) gy)))) (λcl C s₀ H₀ fp=>(iJ (a7 oP (az sq (pv 0) (pv 2)) ai))) (λcl C s₀ H₀ fp=>(bz (aa (pv 0) (aa (pv 1) ag))))) ag))))))),?_⟩⟩
  exists _,rfl,_,_,rfl,rfl,⟨gD _,by lia,by decide⟩,?_;dsimp only;rw[qr];exists _,rfl,a,rfl,hT.tl.seq,?_;refine wK (λt=>fG k t) (λt=>(t.1-2^k,t.2)) hT.tl (by lia) [some (.int (2^k))] rfl (λt ht H2 R s2 r=>?_) (λt ht hp H2 R s2 r=>?_) λD ys H2 hD cg s1=>?_
  ·exists _,rfl,_,rfl,_,_,rfl,rfl,_,_,rfl,rfl,?_;dsimp only;rw[Pe (h0 t ht)];have e:decide ((0:Int)<if fG k t=true then 2^k else 0)=fG k t:=by
    cases fG k t
    ·rfl
    ·rw[aB rfl,mD];exact aR (Int.natCast_pos.mpr (pf k))
   rw[e];nomatch _,rfl,r
  ·nomatch _,rfl,_,rfl,_,_,rfl,rfl,_,rfl,bK,r
  ·exists _,rfl,_,rfl,a,rfl,(hT.keep s1).tl.seq,?_;refine wK (λt => !fG k t) (λt=>t) (hT.keep s1).tl (by omega) [some (.int (2^k))] rfl (λt ht H2 R s2 r=>?_) (λt ht hp H2 R s2 r=>?_) λD2 ys2 H3 J0 bE s2=>?_
   ·exists _,rfl,_,rfl,_,_,rfl,rfl,rfl,_,rfl,?_;rw[Hr (h0 t ht)];exact r
   ·nomatch _,rfl,_,rfl,bK,r
   ·rw[Ao]at bE;exists by show 2<=sizeLine;decide,λp hp=>?_;exact q p D D2 _ aq ((cg.keep s2).keep (af.upd hp)) (bE.keep (af.upd hp)) (s1.trans (s2.trans (af.upd hp)))
def Sx(K:Frag):Sp:=λvs H Q _=>∃(a b:Addr) (l m:ar) (s:Int),vs=[.ref a,.ref b,.int s]/\aI H a l/\aI H b m/\l.length+m.length<=5000/\fj (l++m)/\(∀t∈m,IntMulOk s t.2) /\
 ∀(c:Addr) (f:ar) (H':Hp),H c=none->aI H' c f->bf f (l++m.map λt=>(t.1,s*t.2))->af H H'->Q (.ref c) H'
def Li:(["_law_where","_law_number","_law_sign"]:List Str).Nodup:=by decide+kernel
def mQ(T:Txt w K mg):xV.Ok P w K mg base 2 (Sx K):=by
  refine Rw.ok T.d_Z44.F T.d_Z44.S ?_;rintro vs H Q E ⟨a,b,l,m,s,rfl,iw,gX,aH,h5,eZ,q⟩;refine⟨rfl,fun _ _ _ _ hr hu nd=>⟨_,(ao (aA (aC T.d_Z37 (Hy T) hr (aa (az tj (pV 0) (eO (g:=(fT K 2 (cn (a8 0) (cn (a8 1) f7)))) ["_law_where", "_law_number", "_law_sign"] 2 [2] rfl (dC xV) (dj (pV 1)) (λcl C s₀ H₀ fp=>(gv (n:=2) rfl (cN (aN 0 Li) (cN (aN 1 Li) gy)))) (λcl C s₀ H₀ fp=>jO) (λcl C s₀ H₀ fp=>(bz (aa (pV 0) (aa (az fW.c (pV 2) (pV 1)) ag)))))) ag)))),?_⟩⟩
  obtain⟨ps,ha,hp⟩:=id iw;exists gX.tl.seq,?_;refine B0 (λt=>(t.1,s*t.2)) gX.tl (by lia) [some (.int s)] rfl (λt ht H2 R s2 k=>?_) λD ys H2 hD cg s1=>?_
  ·nomatch eZ t ht,bK,k
  ·obtain⟨qs,hb,hq⟩:=id cg;have n1:=hp.length;have n2:=hq.length;rw[av]at n2;exists a,D,_,_,rfl,rfl,s1 _ _ ha,hb,(by rw[av,av];exact cj (bH (by lia))),λc hc=>?_;have bE:=aI.cat (a:=a) (b:=D) (c:=c) (hp.keep λb xs z=>s1 b _ z) hq (af.upd hc) aq;exists c,_,rfl,bE.tl,(by rw[aS,av];lia),KP h5 (λt ht=>?_),λx f H' hx j4 hF hl s'=>q x f H' (s1.free ((af.upd hc).free hx)) j4 hF (s1.trans ((af.upd hc).trans s'));rw[aT,bF];rcases bF.mp ht with z|z
   ·exact .inl (bW.mpr ⟨t,z,rfl⟩)
   ·obtain⟨u,hu,rfl⟩:=bW.mp z;exact .inr (bW.mpr ⟨u,hu,rfl⟩)
def Wf(K:Frag):Sp:=λvs H Q _=>∃(a b:Addr) (l m:ar),vs=[.ref a,.ref b]/\aI H a l/\aI H b m/\l.length*m.length<=5000/\fj (bC l m)/\(∀t∈l,∀u∈m,IntMulOk t.2 u.2) /\
 ∀(c:Addr) (f:ar) (H':Hp),H c=none->aI H' c f->bf f (bC l m)->af H H'->Q (.ref c) H'
def ON:(["_law_theirs","_law_own","_law_mine","_law_number"]:List Str).Nodup:=by decide+kernel
def zh(T:Txt w K mg):yG.Ok P w K mg base 2 (Wf K):=by
  refine Rw.ok T.d_Z57.F T.d_Z57.S ?_;rintro vs H Q E ⟨a,b,l,m,rfl,iw,gX,aH,h5,eZ,q⟩;refine⟨rfl,fun _ _ _ _ hr hu nd=>⟨_,(ak (aD 2 nd (bq ag)) (ak (eK df rfl (dj (pV 0)) (ig (n:=2) rfl (cL (aN 3 nd) (cL (aN 4 nd) ik))) (ao (aD 2 nd (az tj (pV 2) (eO (g:=(fT K 2 (cn (a8 0) (cn (a8 1) f7)))) ["_law_theirs","_law_own","_law_mine","_law_number"] 2 [3,4] rfl (dC yG) (dj (pV 1)) (λcl C s₀ H₀ fp=>(gv (n:=2) rfl (cN (aN 0 ON) (cN (aN 1 ON) gy)))) (λcl C s₀ H₀ fp=>jO) (λcl C s₀ H₀ fp=>(bz (aa (az wD.j (pV 2) (pV 0)) (aa (az fW.c (pV 3) (pV 1)) ag))))))))) (ao (aA (aC T.d_Z37 (Hy T) hr (aa (pV 2) ag)))))),?_⟩⟩
  obtain⟨ps,ha,hp⟩:=id iw;obtain⟨qs,hb,hq⟩:=id gX;exists bS _,λe he=>?_;have s0:af H (upd H e (.lst [])):=af.upd he;have t0:aI (upd H e (.lst [])) e []:=⟨[],aq,.nil⟩;generalize upd H e (.lst [])=H1 at s0 t0;exists ⟨_,aj.of (s0 _ _ ha)⟩,?_;refine jK (K:=K) (a:=a) (xs:=ps.map V.ref) (λi σ H2=>∃e v3 v4,σ=[some (.ref a),some (.ref b),some (.ref e),v3,v4]/\aI H2 e (bC (l.take i) m)/\af H H2)
   ⟨e,none,none,rfl,t0,s0⟩ (λi σ H2 _ ⟨_,_,_,_,_,s2⟩=>aj.of (s2 _ _ ha)) ?_ ?_
  ·rintro i y σ H2 hi ⟨e,v3,v4,rfl,bE,s2⟩;obtain⟨p,c6,rfl⟩:=fY hi;obtain⟨t,bg,cK⟩:=hp.at' c6;have iR:i<l.length:=(dS.mp bg).1;have bP:l.take (i+1)=l.take i++[t]:=by rw[dU,bg];rfl
   have vg:i*m.length+m.length<=l.length*m.length:=by rw[<-Nat.succ_mul];exact lS _ iR
   exists _,ay.of (s2 _ _ cK),rfl,?_;obtain⟨rs,hr,IL⟩:=id bE;have hm:m.length<=1000000:=by
    have:1<=l.length:=by lia
    have:1*m.length<=l.length*m.length:=lS _ this;lia
   exists (gX.keep s2).tl.seq,?_;refine B0 (λu=>(Builtin.bitOr t.1 u.1,t.2*u.2)) (gX.keep s2).tl hm [some (.int t.1),some (.int t.2)] rfl (λu hu H3 R s3 k=>?_) λD ys H3 hD gp s3=>?_
   ·nomatch eZ t (dr bg) u hu,bK,k
   ·obtain⟨us,hu,zp⟩:=id gp;have n1:=IL.length;have n2:=zp.length;rw[rW,dY,oK (cj iR)]at n1;rw[av]at n2;exists e,D,_,_,rfl,rfl,s3 _ _ hr,hu,(by rw[av,av];exact cj (bH (by lia))),λc hc=>?_;have kh:=aI.cat (a:=e) (b:=D) (c:=c) (IL.keep λb xs z=>s3 b _ z) zp (af.upd hc) aq;exists c,_,_,rfl,?_,s2.trans (s3.trans (af.upd hc));rw[bP,IS];exact kh
  ·rintro σ H2 ⟨e,v3,v4,rfl,bE,s2⟩;rw[av,hp.length,dO]at bE;exists e,_,rfl,bE.tl,(by rw[rW];lia),h5,λx f H' hx j4 hF hl s'=>q x f H' (s2.free hx) j4 hF (s2.trans s')
def UB(K:Frag):Sp:=λvs H Q _=>∃(a b:Addr) (l o:ar) (k:Nat),vs=[.ref a,.int (k:Int),.ref b]/\aI H a l/\aI H b o/\(∀t∈l,0<=t.1)/\(l.length<=64/\o.length<=64)/\fj (l++o)/\k<=100/\(∀t∈l,∀u∈o,IntMulOk t.2 u.2)/\(∀f,bf f (bC (gh k l) o)->∀t∈f,IntMulOk 1 t.2) /\
 ∀(c:Addr) (f:ar) (H':Hp),H c=none->aI H' c f->bf f (oJ k o l)->af H H'->Q (.ref c) H'
def Um(T:Txt w K mg):Et.Ok P w K mg base 3 (UB K):=by
  refine Rw.ok T.d_Z45.F T.d_Z45.S ?_;rintro vs H Q E ⟨a,b,l,o,k,rfl,hT,fk,h0,aH,h5,hk,eZ,h1m,q⟩;refine⟨rfl,fun _ _ _ _ hr hu nd=>⟨_,(ak (qm (aC T.d_Z42 (II T) hr.m (aa (pV 0) (aa (pV 1) ag))) (ig (n:=2) rfl (cL (aN 3 nd) (cL (aN 4 nd) ik)))) (ao (aA (aC T.d_Z44 (mQ T) hr (aa (pV 4) (aa (aC T.d_Z57 (zh T) hr (aa (pV 3) (aa (pV 2) ag))) (aa ai ag))))))),?_⟩⟩
  obtain⟨zs,z5,zz⟩:=h5;have zl:K5 zs l:=λt ht=>zz t (mS _ ht)
  have zo:K5 zs o:=λt ht=>zz t (fX _ ht)
  have n1:=A9 k l;have n2:=Ep k l;have n3:(gh k l).length*o.length<=64*64:=gC (by lia) aH.2;exists a,l,k,rfl,hT,h0,by lia,hk,λp c d H1 hp hc hd s1=>?_;exists _,ay.of hp,rfl,?_;exists c,b,gh k l,o,rfl,hc,fk.keep s1,by lia,⟨zs,z5,(zl.off k).prod zo⟩,(λt ht u hu=>?_),λe g H2 he bE eF s2=>?_
  ·obtain⟨_,v,hv,e,_⟩:=vP h0 ht;rw[e];exact eZ v hv u hu
  have Jx:K5 zs g:=((zl.off k).prod zo).of eF;have E6:=Jx.len eF.toIsForm z5;exists d,e,iW k l,g,1,rfl,hd.keep s2,bE,by lia,⟨zs,z5,(zl.out k).app Jx⟩,h1m g eF,λx f H3 hx gp hF s3=>?_;refine q x f H3 (s1.free (s2.free hx)) gp (lL hF.toIsForm λj=>?_) (s1.trans (s2.trans s3));rw[hF.val,cO,nI,ui,eF.val];unfold oJ;rw[cO]
def Mg(K:Frag)(d:Nat):Sp:=λvs H Q _=>∃(v:V) (s:Sm) (ls:List Nat),vs=[v]/\Is H v s.d/\s.ok (λk=>k∈ls)/\s.dp<d/\ls.length<=5/\(∀x∈ls,x<16)/\s.ln<=5 /\
 ∀(b:Addr) (f:ar) (H':Hp),H b=none->aI H' b f->bf f s.tl->af H H'->Q (.ref b) H'
def K0{w:Nat}{n:Int}(hw:w≠0)(hn:n=if w=1 then -1 else -2){l o p g f:ar}(hp:bf p (bC l o))(hg:bf g (l++o.map λt=>(t.1,1*t.2)))(hf:bf f (g++p.map λt=>(t.1,n*t.2))):bf f (gi w l o):=lL hf.toIsForm λk=>by
 have e:∀(x:ar),aQ (x.map λt=>(t.1,t.2*n)) k=aQ x k*n:=λx=>by rw[uE,uE,z9]
 unfold gi;rw[ax hw,<-hn,hf.val,cO,nI,hg.val,hp.val,cO,nI,cO,cO,e,ui,Int.mul_comm n]
def W9(T:Txt w K mg)(d:Nat):Ay.Ok P w K mg base (3+d) ((Mg K) d):=by
  induction d with
  |zero=>exact Rw.ok T.d_Z52.F T.d_Z52.S λvs H Q E h=>by obtain⟨v,s',ls,rfl,hI,hok,hd,bt,cM,gN,q⟩:=h;exact absurd hd (yy _)
  |succ d ih =>
  refine Rw.ok (k:=3+d) T.d_Z52.F T.d_Z52.S ?_;rintro vs H Q E ⟨v,s',ls,rfl,hI,hok,hd,bt,cM,gN,q⟩;refine⟨rfl,fun _ _ _ _ hr hu nd=>⟨_,(ak (bO (bM aV (xT (pV 0) ai) au) (ao (aA (bq (aa (bz (aa (az pJ.c ai (xT (pV 0) ai)) (aa ai ag))) ag)))) aM) (ak (bO (bM aV (xT (pV 0) ai) au) (ao (aA (k7 qK (bq (aa (bz (aa ai (aa ai ag))) ag)) nB (iu (xT (pV 0) ai))))) aM) (ak (aD 1 nd (aC T.d_Z52 ih hr (aa (xT (pV 0) ai) ag))) (ak (bO (bM aV (xT (pV 0) ai) au) (ao (aA (aC T.d_Z44 (mQ T) (hr.mono (by lia)) (aa (bq (aa (bz (aa ai (aa ai ag))) ag)) (aa (pV 1) (aa (az ki.j ai ai) ag)))))) aM)
   (ak (aD 2 nd (aC T.d_Z52 ih hr (aa (xT (pV 0) ai) ag))) (ak (aD 3 nd (aC T.d_Z57 (zh T) (hr.mono (by omega)) (aa (pV 1) (aa (pV 2) ag))))
   (ak (bO (bM aV (xT (pV 0) ai) au) (ao (aA (pV 3))) aM) (ak (bO (bM aV (xT (pV 0) ai) au) (ao (aA (aC T.d_Z44 (mQ T) (hr.mono (by omega)) (aa (aC T.d_Z44 (mQ T) (hr.mono (by omega)) (aa (pV 1) (aa (pV 2) (aa ai ag)))) (aa (pV 3) (aa (az ki.j ai ai) ag)))))) aM)
   (ao (aA (aC T.d_Z44 (mQ T) (hr.mono (by omega)) (aa (aC T.d_Z44 (mQ T) (hr.mono (by omega)) (aa (pV 1) (aa (pV 2) (aa ai ag)))) (aa (pV 3) (aa (az ki.j ai ai) ag)))))))))))))),?_⟩⟩
  have k5:∀{s:Sm}{f:ar},s.ok (λk=>k∈ls)->bf f s.tl->K5 ls f/\f.length<=32:=λh hF=>⟨(qE h).of hF,((qE h).of hF).len hF.toIsForm bt⟩
  cases s' with
  |bit k =>
   obtain⟨p,rfl,hp⟩:=mr hI;have hk:k<16:=cM k hok;exists _,ay.of hp,rfl,vy ?_;exists _,ay.of hp,rfl,⟨gD _,by lia,by decide⟩,bK,λt1 bg=>⟨du,λe1 fL=>?_⟩;dsimp only at bg fL ⊢;rw[qr]at fL ⊢;have b1:af H (upd H t1 (.tup [.int (2^k),.int 1])):=af.upd bg;have b2:af (upd H t1 (.tup [.int (2^k),.int 1])) (upd (upd H t1 (.tup [.int (2^k),.int 1])) e1 (.lst [.ref t1])):=af.upd fL;exact q e1 _ _ (kj b1 fL) ⟨[t1],aq,.cons (b2 _ _ aq) .nil⟩ (Dh (by decide)) (b1.trans b2)
  |fix c =>
   obtain⟨p,rfl,hp⟩:=mO hI;exists _,ay.of hp,rfl,vn ?_;exists _,ay.of hp,rfl,vy ?_;exists bK,λt1 bg=>⟨du,λe1 fL=>?_⟩;have b1:af H (upd H t1 (.tup [.int 0,.int 1])):=af.upd bg;have b2:af (upd H t1 (.tup [.int 0,.int 1])) (upd (upd H t1 (.tup [.int 0,.int 1])) e1 (.lst [.ref t1])):=af.upd fL;exists _,ay.of ((b1.trans b2) _ _ hp),rfl,e1,_,rfl,aj.of aq,λd1 lV=>?_;have b3:=(b1.trans b2).trans (af.upd (o:=.lst (gq [.ref t1] none (some c))) lV);have hc:c=0\/c=1:=hok;rcases hc with rfl|rfl
   ·exact q d1 [] _ (kj (b1.trans b2) lV) ⟨[],aq,.nil⟩ ⟨⟨.nil,λp hp=>by cases hp⟩,λk=>by simp[Sm.tl,aQ],λp hp=>by cases hp⟩ b3
   ·exact q d1 [(0,1)] _ (kj (b1.trans b2) lV) ⟨[t1],aq,.cons ((af.upd lV) _ _ (b2 _ _ aq)) .nil⟩ (Dh (by decide)) b3
  |no s1 =>
   obtain⟨p,x,rfl,hp,hx⟩:=lY hI;have lV:s1.dp<d:=by have:s1.dp+1<d+1:=hd;lia
   exists _,ay.of hp,rfl,vn ?_;exists _,ay.of hp,rfl,vn ?_;exists _,ay.of hp,rfl,x,s1,ls,rfl,hx,hok,lV,bt,cM,(by have h:s1.ln+1<=5:=gN;lia),λb f H1 _ cg dB mH=>?_;obtain⟨kf,kb⟩:=k5 (s:=s1) hok dB;have dM:=mH _ _ hp;exists _,ay.of dM,rfl,vy ?_;exists bK,λt1 bg=>⟨du,λe1 fL=>?_⟩;have b1:af H1 (upd H1 t1 (.tup [.int 0,.int 1])):=af.upd bg;have b2:af (upd H1 t1 (.tup [.int 0,.int 1])) (upd (upd H1 t1 (.tup [.int 0,.int 1])) e1 (.lst [.ref t1])):=af.upd fL;have B:=b1.trans b2;exists e1,b,[(0,1)],f,-1,rfl,⟨[t1],aq,.cons (b2 _ _ aq) .nil⟩,cg.keep B,(by show 1+f.length<=5000;lia),⟨ls,bt,(zZ 1).app kf⟩,(λt _=>gH (by decide) (by decide)),λc g H2 hc bE eF s2=>?_;exact q c g H2 (kj (mH.trans B) hc) bE (IK dB eF.toIsForm λk=>by rw[eF.val,cO,nI];lia) (mH.trans (B.trans s2))
  |two w s1 s2 =>
   obtain⟨p,x,y,rfl,hp,hx,hy⟩:=lU hI;obtain⟨nV,mB,nH⟩:=hok;have cq:s1.dp<d/\s2.dp<d:=by
    have h1:max s1.dp s2.dp+1<d+1:=hd;lia
   have El:s1.ln+s2.ln<=5:=gN;obtain⟨n1,n2,n3⟩:=tG (w:=w);exists _,ay.of hp,rfl,vN (by simpa using n1) ?_;exists _,ay.of hp,rfl,vN (by simpa using n2) ?_;exists _,ay.of hp,rfl,x,s1,ls,rfl,hx,mB,cq.1,bt,cM,by lia,λb f H1 _ cg dB t1=>?_;have dM:=t1 _ _ hp;exists _,ay.of dM,rfl,vN (by simpa using n3) ?_;exists _,ay.of dM,rfl,y,s2,ls,rfl,hy.keep t1,nH,cq.2,bt,cM,by lia,λb2 o H2 _ bE eF t2=>?_;have cm:=t2 _ _ dM;obtain⟨kf,l1⟩:=k5 mB dB;obtain⟨ko,l2⟩:=k5 nH eF;have j3:f.length*o.length<=32*32:=gC l1 l2;exists b,b2,f,o,rfl,cg.keep t2,bE,by lia,⟨ls,bt,kf.prod ko⟩,(λt ht u hu=>lO (AB mB (by lia) dB t ht) (AB nH (by lia) eF u hu)),λb3 pr H3 Ar gp ie t3=>?_;have ck:=t3 _ _ cm;have QH:=(cg.keep t2).keep t3;have OK:=bE.keep t3;have k3:K5 ls pr:=(kf.prod ko).of ie;have l3:=k3.len ie.toIsForm bt;have fin:∀(c:Addr) (g:ar) (H4:Hp),H c=none->aI H4 c g->bf g (gi w f o)->af H3 H4->Q (.ref c) H4:=λc g H4 Ug kh hV t4=>by
    exact q c g H4 Ug kh (Lw dB eF hV) (t1.trans (t2.trans (t3.trans t4)))
   obtain rfl|rfl|rfl:w=0\/w=1\/w=2:=by lia
   ·exists _,ay.of ck,rfl,vy ?_;exact fin b3 pr H3 (kj (t1.trans t2) Ar) gp (by unfold gi;rw[aB rfl];exact ie) (af.refl _)
   ·exists _,ay.of ck,rfl,vn ?_;exists _,ay.of ck,rfl,vy ?_;exists b,b2,f,o,1,rfl,QH,OK,by lia,⟨ls,bt,kf.app ko⟩,(λt _=>gH (by decide) (by decide)),λb4 g H4 yN kh hV t4=>?_;have kg:K5 ls g:=(kf.app (ko.map _)).of hV;have lg:=kg.len hV.toIsForm bt;exists b4,b3,g,pr,-1,rfl,kh,gp.keep t4,by lia,⟨ls,bt,kg.app k3⟩,(λt _=>gH (by decide) (by decide)),λb5 h H5 uf Cj Du t5=>?_;exact fin b5 h H5 (kj (t1.trans (t2.trans (t3.trans t4))) uf) Cj (K0 (by decide) (by decide) ie hV Du) (t4.trans t5)
   ·exists _,ay.of ck,rfl,vn ?_;exists _,ay.of ck,rfl,vn ?_;exists b,b2,f,o,1,rfl,QH,OK,by omega,⟨ls,bt,kf.app ko⟩,(λt _=>gH (by decide) (by decide)),λb4 g H4 yN kh hV t4=>?_;have kg:K5 ls g:=(kf.app (ko.map _)).of hV;have lg:=kg.len hV.toIsForm bt;exists b4,b3,g,pr,-2,rfl,kh,gp.keep t4,by omega,⟨ls,bt,kg.app k3⟩,(λt _=>gH (by decide) (by decide)),λb5 h H5 uf Cj Du t5=>?_;exact fin b5 h H5 (kj (t1.trans (t2.trans (t3.trans t4))) uf) Cj (K0 (by decide) (by decide) ie hV Du) (t4.trans t5)
def XR(T:Txt w K mg):Ay.Ok P w K mg base 25 ((Mg K) 22):=W9 T 22
def Rb(K:Frag):Sp:=λvs H Q _=>∃(a:Addr) (l:ar) (k:Nat) (b:Int),vs=[.ref a,.int (k:Int),.int b]/\aI H a l/\(∀t∈l,0<=t.1)/\l.length<=2000/\fj l/\k<=100/\(b=0\/b=1)/\(∀t∈l,IntMulOk b t.2) /\
 ∀(c:Addr) (f:ar) (H':Hp),H c=none->aI H' c f->bf f (nE k b l)->af H H'->Q (.ref c) H'
def SQ(T:Txt w K mg):CM.Ok P w K mg base 3 (Rb K):=by
  refine Rw.ok T.d_Z32.F T.d_Z32.S ?_;rintro vs H Q E ⟨a,l,k,b,rfl,hT,h0,aH,h5,hk,hb,eZ,q⟩;refine⟨rfl,fun _ _ _ _ hr hu nd=>⟨_,(ak (qm (aC T.d_Z42 (II T) hr.m (aa (pV 0) (aa (pV 1) ag))) (ig (n:=2) rfl (cL (aN 3 nd) (cL (aN 4 nd) ik)))) (ao (aA (aC T.d_Z44 (mQ T) hr (aa (pV 4) (aa (pV 3) (aa (pV 2) ag))))))),?_⟩⟩
  exists a,l,k,rfl,hT,h0,by lia,hk,λp c d H1 hp hc hd s1=>?_;exists _,ay.of hp,rfl,?_;have n1:=A9 k l;have n2:=Ep k l;exists d,c,iW k l,gh k l,b,rfl,hd,hc,by lia,(let ⟨ls,z5,z⟩:=h5; ⟨ls,z5,(z.out k).app (z.off k)⟩),(λt ht=>?_),λx f H2 hx bE hF s2=>?_
  ·obtain⟨_,v,hv,e,_⟩:=vP h0 ht;rw[e];exact eZ v hv
  refine q x f H2 (s1.free hx) bE (lL hF.toIsForm λj=>?_) (s1.trans s2);rw[hF.val,cO,nI];unfold nE;rw[cO];rcases hb with rfl|rfl
  ·rw[aB rfl];simp[aQ]
  ·rw[ax (by decide),ui]
def Wv(K:Frag):Sp:=λvs H Q _=>∃(w:Nat) (a b:Addr) (l m:ar),vs=[.str (gG w),.ref a,.ref b]/\w<3/\aI H a l/\aI H b m/\(l.length<=64/\m.length<=64)/\(∃ls,ls.length<=5/\K5 ls l/\K5 ls m)/\(w=2->∀t∈l,∀u∈m,IntMulOk t.2 u.2) /\
 ∀(c:Addr) (f:ar) (H':Hp),H c=none->aI H' c f->bf f (C7 w l m)->af H H'->Q (.ref c) H'
def Wa(T:Txt w K mg):E1.Ok P w K mg base 3 (Wv K):=by
  refine Rw.ok T.d_Z41.F T.d_Z41.S ?_;rintro vs H Q E ⟨wo,a,b,l,m,rfl,hw,iw,gX,aH,h5,eZ,q⟩;refine⟨rfl,fun _ _ _ _ hr hu nd=>⟨_,(ak (bO (bM aV (pV 0) au) (ao (aA (aC T.d_Z57 (zh T) hr (aa (pV 1) (aa (pV 2) ag))))) aM) (ao (aA (aC T.d_Z44 (mQ T) hr (aa (pV 1) (aa (pV 2) (aa (az ki.j ai (az fW.c ai (gE Hf rfl T.n_int sv (aa (km aV (pV 0) au) ag)))) ag))))))),?_⟩⟩
  obtain⟨ls,z5,zl,zm⟩:=h5;have j3:l.length*m.length<=64*64:=gC aH.1 aH.2;obtain rfl|rfl|rfl:wo=0\/wo=1\/wo=2:=by omega
  ·refine vn ?_;refine .inr ⟨_,rfl,?_⟩;exists gH (by decide) (by decide),a,b,l,m,1,rfl,iw,gX,by lia,⟨ls,z5,zl.app zm⟩,(λt _=>gH (by decide) (by decide)),λc f H1 hc hT hF s1=>q c f H1 hc hT (lL hF.toIsForm λk=>?_) s1;show _=aQ (l++m) k;rw[hF.val,cO,cO,nI,ui]
  ·refine vn ?_;refine .inr ⟨_,rfl,?_⟩;exists gH (by decide) (by decide),a,b,l,m,-1,rfl,iw,gX,by omega,⟨ls,z5,zl.app zm⟩,(λt _=>gH (by decide) (by decide)),λc f H1 hc hT hF s1=>q c f H1 hc hT (lL hF.toIsForm λk=>?_) s1;show _=aQ (l++m.map λt=>(t.1,-t.2)) k;rw[hF.val,cO,cO,nI,ow];lia
  ·refine vy ?_;nomatch a,b,l,m,rfl,iw,gX,by lia,⟨ls,z5,zl.prod zm⟩,eZ rfl,λc f H1 hc hT hF s1=>q c f H1 hc hT hF s1
def WG(K:Frag):Sp:=λvs H Q _=>∃(a:Addr) (l:ar),vs=[.ref a]/\aI H a l/\l.length<=64/\fj l/\(∀t∈l,∀u∈l,IntMulOk t.2 u.2) /\
 (∀H',af H H'->kJ l->Q (.bl true) H')/\(∀H',af H H'->¬kJ l->Q (.bl false) H')
def NO(T:Txt w K mg):GH.Ok P w K mg base 3 (WG K):=by
  refine Rw.ok T.d_Z61.F T.d_Z61.S ?_;rintro vs H Q E ⟨a,l,rfl,hT,aH,h5,eZ,q⟩;exists rfl,λ_ _ _ _ hr hu nd=>⟨_,(ao (aA (km (OD (A1 hr)) (aC T.d_Z57 (zh T) hr (aa (pV 0) (aa (pV 0) ag))) (pV 0)))),?_⟩;have n3:l.length*l.length<=64*64:=gC aH aH;exists a,a,l,l,rfl,hT,hT,by lia,(let ⟨ls,z5,z⟩:=h5; ⟨ls,z5,z.prod z⟩),eZ,λc f H1 hc cg dB s1=>?_;exists dF f,dF l,cg.is,(hT.keep s1).is,aW (OP f) (by decide),?_;rw[Oa];by_cases z:f=l
  ·rw[aR z];exact q.1 H1 s1 ⟨f,dB,z⟩
  ·rw[bj z];refine q.2 H1 s1 λ⟨g,hg,eg⟩=>z ?_
   rw[<-eg];exact bf.unique dB (eg ▸ hg) λk=>rfl
def Yz(K:Frag):Sp:=λvs H Q _=>∃(d p:Addr) (st:cH) (c:bh) (ls:List Nat),vs=[.ref d,.ref p]/\pj H d st/\gW H p c/\(∀nf∈st,c7 ls nf.2)/\jF ls [] c/\ls.length<=5/\(∀x∈ls,x<16) /\
 (∀e H',eV ls st c .name->H' e=some (.lst [.str "name"])->af H H'->Q (.ref e) H')/\(∀e H',eV ls st c .yesno->H' e=some (.lst [.str "yes no"])->af H H'->Q (.ref e) H')/\(∀e f H',eV ls st c (.form f)->(H e=none\/∃y z,H p=some (.tup [y,.ref e,z]))->aI H' e f->af H H'->Q (.ref e) H')
def Su(T:Txt w K mg):GI.Ok P w K mg base 26 (Yz K):=by
  refine Rw.ok T.d_Z30.F T.d_Z30.S ?_;rintro vs H Q E ⟨d,p,st,c,ls,rfl,hD,hp,bc,hc,bt,cM,q⟩;refine⟨rfl,fun _ _ _ _ hr hu nd=>⟨_,(ak (qm (pV 1) (ig (n:=3) rfl (cL (aN 2 nd) (cL (aN 3 nd) (cL (aN 4 nd) ik))))) (ak (bO (bM aV (pV 2) au) (ao (aA (pV 3))) aM) (ak (bO (bM aV (pV 2) au) (ao (aA (aC T.d_Z52 (XR T) hr (aa (pV 3) ag)))) aM) (ak (bp (sD (xj hu (xT (pV 3) ai) (pV 0))) (ao (aA (bq (aa au ag)))) aM) (ak (bO (bM aV (pV 2) au) (ao (aA (aC T.d_Z32 (SQ T) hr.m (aa (gM hu (pV 0) (xT (pV 3) ai)) (aa (xT (pV 3) ai) (aa (xT (pV 3) ai) ag)))))) aM) (ak (bp (sD (xj hu (xT (pV 3) ai) (pV 0))) (ao (aA (bq (aa au ag)))) aM) (ak (bO (bM jM (pV 2) au) (ao (aA (aC T.d_Z41 (Wa T) hr.m (aa (pV 2) (aa (gM hu (pV 0) (xT (pV 3) ai)) (aa (gM hu (pV 0) (xT (pV 3) ai)) ag)))))) aM) (ak (bp (kn (gk (aC T.d_Z61 (NO T) hr.m (aa (gM hu (pV 0) (xT (pV 3) ai)) ag)))) (ao (aA (bq (aa au ag)))) aM) (ao (aA (aC T.d_Z45 (Um T) hr.m (aa (gM hu (pV 0) (xT (pV 3) ai)) (aa (xT (pV 3) ai) (aa (gM hu (pV 0) (xT (pV 3) ai)) ag)))))))))))))),?_⟩⟩
  obtain⟨x,dM,hx⟩:=id hp;exists _,ay.of dM,rfl,?_;have qn:eV ls st c .name->∀e,H e=none->Q (.ref e) (upd H e (.lst [.str "name"])):=λhm e he=>q.1 e _ hm aq (af.upd he)
  obtain⟨kvs,hd,hk⟩:=id hD;have hg:=λn=>c8.k (k:=Sum.inr (S n)) hd
  cases c with
  |form n t =>
   refine vY (show decide (V.str (ofString "form")=V.str (ofString "form"))=true from by decide) ?_;obtain⟨a,f,rfl,hT,ht⟩:=hx;exact q.2.2 a f H ⟨f,rfl,ht⟩ (.inr ⟨_,_,dM⟩) hT (af.refl _)
  |stat n s =>
   refine vN (show ¬decide (V.str (ofString "statement")=V.str (ofString "form"))=true from by decide) ?_;refine vY (show decide (V.str (ofString "statement")=V.str (ofString "statement"))=true from by decide) ?_;obtain⟨hn,ho,hl⟩:=hc;have sJ:=sV s;have jh:=qN s;nomatch x,s,ls,rfl,hx,ho,by lia,bt,cM,hl,λb f H1 hb hT hF s1=>q.2.2 b f H1 ⟨f,rfl,hF⟩ (.inl hb) hT s1
  |fixd n a k b =>
   refine vN (show ¬decide (V.str (ofString "fixed")=V.str (ofString "form"))=true from by decide) ?_;refine vN (show ¬decide (V.str (ofString "fixed")=V.str (ofString "statement"))=true from by decide) ?_;obtain⟨r,rfl,jQ⟩:=hx;obtain⟨_,_,ni,hb,_⟩:=hc;exists _,ay.of jQ,rfl,d,_,rfl,hg a,_,rfl,?_;have mF:=hg a;rcases lJ hk a with ⟨h1,h2⟩|⟨b1,l,h1,h2,h3⟩
   ·refine aY (by rw[h1];rfl) ?_;nomatch du,qn (.inl ⟨h2,rfl⟩)
   refine aK (by rw[h1];simp) ?_;rw[h1]at mF;have hF:=dz bc h2;have kb:=hF.len bt;refine vY (show decide (V.str (ofString "fixed")=V.str (ofString "fixed"))=true from by decide) ?_;exists _,ay.of jQ,rfl,_,mF,_,ay.of jQ,rfl,_,ay.of jQ,rfl,b1,l,k,b,rfl,h3,(λt ht=>(hF.2.1 t ht).1),by lia,⟨ls,bt,hF.2.1⟩,by lia,hb,(λt _=>gH (by lia) (by lia)),λe f H1 he cg dB s1=>?_;exact q.2.2 e f H1 (.inr ⟨l,f,h2,rfl,dB⟩) (.inl he) cg s1
  |put n a k b =>
   refine vN (show ¬decide (V.str (ofString "put")=V.str (ofString "form"))=true from by decide) ?_;refine vN (show ¬decide (V.str (ofString "put")=V.str (ofString "statement"))=true from by decide) ?_;obtain⟨r,rfl,jQ⟩:=hx;obtain⟨_,_,_,ni,_⟩:=hc;exists _,ay.of jQ,rfl,d,_,rfl,hg a,_,rfl,?_;have mF:=hg a;have o8:=hg b;rcases lJ hk a with ⟨h1,h2⟩|⟨b1,l,h1,h2,h3⟩
   ·refine aY (by rw[h1];rfl) ?_;nomatch du,qn (.inl ⟨h2,rfl⟩)
   refine aK (by rw[h1];simp) ?_;rw[h1]at mF;refine vN (show ¬decide (V.str (ofString "put")=V.str (ofString "fixed"))=true from by decide) ?_;exists _,ay.of jQ,rfl,d,_,rfl,hg b,_,rfl,?_;rcases lJ hk b with ⟨k1,k2⟩|⟨b2,o,k1,k2,k3⟩
   ·refine aY (by rw[k1];rfl) ?_;nomatch du,qn (.inr (.inl ⟨l,h2,k2,rfl⟩))
   refine aK (by rw[k1];simp) ?_;rw[k1]at o8;have hF:=dz bc h2;have kb:=hF.len bt;have hO:=dz bc k2;have CC:=hO.len bt;refine vN (show ¬(!decide (V.str (ofString "put")=V.str (ofString "put")))=true from by decide) ?_;exists _,ay.of jQ,rfl,_,o8,b2,o,rfl,k3,by omega,⟨ls,bt,hO.2.1⟩,(λt ht u hu=>lO (hO.2.2 t ht) (hO.2.2 u hu)),λH1 s1 hy=>?_,λH1 s1 hy=>?_
   ·exists true,rfl,eP ?_;have ox:=s1 _ _ jQ;have ga:=c8.k (k:=Sum.inr (S a)) (s1 _ _ hd);have gb:=c8.k (k:=Sum.inr (S b)) (s1 _ _ hd);rw[h1]at ga;rw[k1]at gb;exists _,ay.of ox,rfl,_,ga,_,ay.of ox,rfl,_,ay.of ox,rfl,_,gb,b1,b2,l,o,k,rfl,h3.keep s1,k3.keep s1,(λt ht=>(hF.2.1 t ht).1),⟨by lia,by omega⟩,⟨ls,bt,hF.2.1.app hO.2.1⟩,by lia,(λt ht u hu=>lO (hF.2.2 t ht) (hO.2.2 u hu)),(λf _ t _=>gH (by decide) (by decide)),λe f H2 he bE eF s2=>?_;exact q.2.2 e f H2 (.inr (.inr ⟨l,o,h2,k2,.inr ⟨hy,f,rfl,eF⟩⟩)) (.inl (kj s1 he)) bE (s1.trans s2)
   ·exists false,rfl,ff ?_;nomatch du,λe he=>q.2.1 e _ (.inr (.inr ⟨l,o,h2,k2,.inl ⟨hy,rfl⟩⟩)) aq (s1.trans (af.upd he))
  |two wo n a b =>
   obtain⟨r,rfl,jQ⟩:=hx;obtain⟨_,_,_,hw,_⟩:=hc;have dw:(bh.two wo n a b).dw=gG wo:=rfl;have n1:¬(decide (V.str (gG wo)=V.str "form")=true)/\¬(decide (V.str (gG wo)=V.str "statement")=true)/\¬(decide (V.str (gG wo)=V.str "fixed")=true):=by
    obtain rfl|rfl|rfl:wo=0\/wo=1\/wo=2:=by lia
    all_goals exact⟨by decide,by decide,by decide⟩
   have n2:(!decide (V.str (gG wo)=V.str "put"))=true:=by
    obtain rfl|rfl|rfl:wo=0\/wo=1\/wo=2:=by omega
    all_goals decide
   refine vN n1.1 ?_;refine vN n1.2.1 ?_;exists _,ay.of jQ,rfl,d,_,rfl,hg a,_,rfl,?_;have mF:=hg a;have o8:=hg b;rcases lJ hk a with ⟨h1,h2⟩|⟨b1,l,h1,h2,h3⟩
   ·refine aY (by rw[h1];rfl) ?_;nomatch du,qn (.inl ⟨h2,rfl⟩)
   refine aK (by rw[h1];simp) ?_;rw[h1]at mF;refine vN n1.2.2 ?_;exists _,ay.of jQ,rfl,d,_,rfl,hg b,_,rfl,?_;rcases lJ hk b with ⟨k1,k2⟩|⟨b2,o,k1,k2,k3⟩
   ·refine aY (by rw[k1];rfl) ?_;nomatch du,qn (.inr (.inl ⟨l,h2,k2,rfl⟩))
   refine aK (by rw[k1];simp) ?_;rw[k1]at o8;have hF:=dz bc h2;have kb:=hF.len bt;have hO:=dz bc k2;have CC:=hO.len bt;refine vY n2 ?_;exists _,ay.of jQ,rfl,_,mF,_,ay.of jQ,rfl,_,o8,wo,b1,b2,l,o,rfl,hw,h3,k3,⟨by omega,by omega⟩,⟨ls,bt,hF.2.1,hO.2.1⟩,(λ_ t ht u hu=>lO (hF.2.2 t ht) (hO.2.2 u hu)),λe f H1 he cg dB s1=>?_;exact q.2.2 e f H1 (.inr (.inr ⟨l,o,f,h2,k2,rfl,dB⟩)) (.inl he) cg s1
def YS(T:Txt w K mg):Gv.Ok P w K mg base 1 (LR K):=by
  refine Rw.ok T.d_Z31.F T.d_Z31.S ?_;rintro vs H Q E ⟨a,l,rfl,⟨ps,hS,hT⟩,h0,q⟩;refine⟨rfl,fun _ _ _ _ hr hu nd=>⟨_,(ak (aD 1 nd ai) (ak (eK df rfl (dj (pV 0)) (ig (n:=2) rfl (cL (aN 2 nd) (cL (aN 3 nd) ik))) (ao (aD 1 nd (az wD.j (pV 1) (pV 2))))) (ao (aA (pV 1))))),?_⟩⟩
  exists ⟨_,hS⟩,?_;refine jK (K:=K) (a:=a) (xs:=ps.map V.ref) (λi σ H2=>∃v2 v3,σ=[some (.ref a),some (.int (cy (l.take i) 0:Nat)),v2,v3]/\H2=H)
   ⟨none,none,rfl,rfl⟩ (λi σ H2 _ ⟨_,_,_,e⟩=>by rw[e];exact hS) ?_ ?_
  ·rintro i y σ H2 hi ⟨v2,v3,rfl,rfl⟩;obtain⟨p,c6,rfl⟩:=fY hi;obtain⟨t,bg,cK⟩:=hT.at' c6;have iT:=dr bg;have bP:l.take (i+1)=l.take i++[t]:=by rw[dU,bg];rfl
   have e:((t.1.toNat:Nat):Int)=t.1:=gF (h0 t iT);exists _,ay.of cK,rfl,?_;exists some (.int t.1),some (.int t.2),?_,rfl;rw[bP,EX];show [some (.ref a),some (V.int (Builtin.bitOr ((cy (l.take i) 0:Nat):Int) t.1)),_,_]=_;rw[<-e,uQ,e]
  ·rintro σ H2 ⟨v2,v3,rfl,rfl⟩;rw[av,hT.length,dO];exact q
def Y2(K:Frag):Sp:=λvs H Q _=>∃m:Nat,vs=[.int (m:Int)]/\m<2^16/\∀H',af H H'->Q (.int ((pc m:Nat):Int)) H'
def W0:(["_law_k","_law_one"]:List Str).Nodup:=by decide+kernel
def za3(T:Txt w K mg):Bo.Ok P w K mg base 1 (Y2 K):=by
  refine Rw.ok T.d_Z49.F T.d_Z49.S ?_;rintro vs H Q E ⟨m,rfl,hm,q⟩;refine⟨rfl,fun _ _ _ _ hr hu nd=>⟨_,(ao (aA (bD gd (by rfl) T.n_len dI (aa (eO (g:=(a8 0)) ["_law_k", "_law_one"] 1 [0] rfl (dC Bo) (kB rfl T.n_range (aa ai ag))
    (λcl C s₀ H₀ fp=>(aN 0 W0)) (λcl C s₀ H₀ fp=>(iJ (a7 aV (az bQ.c (az gU.c (pV 1) (az pJ.c ai (pV 0))) ai) ai))) (λcl C s₀ H₀ fp=>(pV 0))) ag)))),?_⟩⟩
  exists _,rfl,by decide,by decide,?_;refine zC (lo:=0) (n:=(60:Int).toNat) (λi ys σ G=>∃v0:Option V,σ=[v0,some (.int (m:Int))]/\ys=((List.range i).filter λk=>m.testBit k).map (λk:Nat=>V.int (k:Int))/\G=H)
   ⟨none,rfl,rfl,rfl⟩ (λi ys σ G ⟨_,_,e,_⟩=>by rw[e,av];exact aW (jR _ _) (by simp)) (by decide) ?_ ?_
  ·rintro i ys σ G hi ⟨v0,rfl,rfl,rfl⟩;have ir:i<60:=hi;unfold a8;have e0:(1:Int)*2^((0+(i:Int))).toNat=((2^i:Nat):Int):=by rw[rB,qr,mD]
   have bA:(2:Nat)^i<=2^60:=dX (by decide) (by lia);have lW:=pf i;exists ⟨by lia,by lia,by decide⟩,(by rw[e0];exact iU (by lia) (by lia)),(by show (0:Int)<2;decide),_,rfl,?_;have eb:(m:Int)/(1*2^((0+(i:Int))).toNat)%2=if m.testBit i=true then 1 else 0:=by
    rw[e0,rS]
    have:((m:Int)/((2^i:Nat):Int)%2)=((m/2^i%2:Nat):Int):=by norm_cast
    rw[this];by_cases y:m/2^i%2=1
    ·simp[y]
    ·have:m/2^i%2=0:=by omega
     simp[this]
   show if decide (V.int ((m:Int)/(1*2^((0+(i:Int))).toNat)%2)=V.int 1)=true then _ else _
   rw[eb];cases hc:m.testBit i
   ·refine aK (by decide) ⟨_,rfl,?_,rfl⟩;rw[qC,fV];simp[hc]
   ·refine aY (by decide) ?_;exists _,rfl,?_,rfl;rw[qC,fV];simp[hc]
  ·rintro ys σ G ⟨v0,rfl,rfl,rfl⟩ E hE;exists E,_,rfl,.inl (aj.of aq),?_;have e:((((List.range (60:Int).toNat).filter λk=>m.testBit k).map λk:Nat=>V.int (k:Int)).length)=pc m:=by
    rw[av];exact Xv (m:=60) (dH hm (by decide))
   rw[e];exact q _ (af.upd hE)
open Classical in
noncomputable def Ii(f:ar):An:=if kJ f then (if 10<fw f then .many else .txt (Txt.num (sA (fw f) f)))else .yesno
def UU(K:Frag):Sp:=λvs H Q _=>∃(a:Addr) (f:ar) (ls:List Nat),vs=[.ref a,.int ((fw f:Nat):Int)]/\aI H a f/\c7 ls f/\ls.length<=5/\(∀x∈ls,x<16)/\tF H Q (Ii f)
def Mj:(["_law_where","_law_number","_law_many"]:List Str).Nodup:=by decide+kernel
def zbW(T:Txt w K mg):yP.Ok P w K mg base 4 (UU K):=by
  refine Rw.ok T.d_Z59.F T.d_Z59.S ?_;rintro vs H Q E ⟨a,f,ls,rfl,hT,hF,h5,bN,q⟩;refine⟨rfl,fun _ _ _ _ hr hu nd=>⟨_,(ak (bp (kn (gk (aC T.d_Z61 (NO T) hr (aa (pV 0) ag)))) (ao (aA (bq (aa au ag)))) aM) (ak (bp (a7 mm.j (pV 1) ai) (ao (aA (bq (aa au ag)))) aM)
   (ao (aA (gE lj rfl T.n_str kU (aa (bD (vj rfl) (by rfl) T.n_sum uY (aa (eO (g:=(fT K 2 (cn (a8 0) (cn (a8 1) f7)))) ["_law_where", "_law_number", "_law_many"] 2 [1] rfl (dC yP) (dj (pV 0))
    (λcl C s₀ H₀ fp=>(gv (n:=2) rfl (cN (aN 0 Mj) (cN (aN 1 Mj) gy)))) (λcl C s₀ H₀ fp=>jO) (λcl C s₀ H₀ fp=>(az gU.c (az fW.c (pV 1) (az pJ.c ai (pV 2))) (az pJ.c ai (aC T.d_Z49 (za3 T) hr.m (aa (pV 0) ag)))))) ag)) ag)))))),?_⟩⟩
  have aH:=hF.len h5;unfold Ii at q;exists a,f,rfl,hT,aW aH (by decide),⟨ls,h5,hF.2.1⟩,(λt ht u hu=>lO (hF.2.2 t ht) (hF.2.2 u hu)),λH1 s1 hy=>?_,λH1 s1 hy=>?_
  rotate_left
  ·exists _,rfl,ff ?_;rw[ax hy]at q;nomatch du,λe he=>q e _ aq (s1.trans (af.upd he))
  rw[aB hy]at q;exists _,rfl,eP ?_;exists _,rfl,?_;by_cases hm:10<fw f
  ·rw[aB hm]at q;refine aY (aR (by lia)) ?_;nomatch du,λe he=>q e _ aq (s1.trans (af.upd he))
  rw[ax hm]at q;refine aK (λz=>hm (by have:=bG z;lia)) ?_;obtain⟨ps,hS,hP⟩:=id (hT.keep s1);have cD:=hP.length;exists ⟨_,aj.of hS⟩,?_;refine jj (K:=K) (a:=a) (xs:=ps.map V.ref) (λi ys σ G=>∃v0 v1,σ=[v0,v1,some (.int ((fw f:Nat):Int))]/\ys=((f.take i).map λt=>t.2*2^(fw f-pc t.1.toNat)).map V.int/\af H1 G)
   ⟨none,none,rfl,rfl,af.refl _⟩ (λi ys σ G hi ⟨_,_,_,e1,e2⟩=>⟨aj.of (e2 _ _ hS),by rw[e1,av,av,dY];lia⟩) (by rw[av,cD];exact cj (bH (by lia))) ?_ ?_
  ·rintro i y ys σ G hi ⟨v0,v1,rfl,rfl,sG⟩;obtain⟨p,c6,rfl⟩:=fY hi;obtain⟨t,bg,cK⟩:=hP.at' c6;have iT:=dr bg;obtain⟨k0,k1⟩:=hF.keysM t iT;obtain⟨_,k16⟩:=hF.2.1.low bN t iT;have bP:f.take (i+1)=f.take i++[t]:=by rw[dU,bg];rfl
   have e1:((t.1.toNat:Nat):Int)=t.1:=gF k0;have em:((2:Int)^fw f)=((2^fw f:Nat):Int):=by norm_cast
   have hp:pc t.1.toNat<=fw f:=FL _ _ (by lia);exists p,_,rfl,ay.of (sG _ _ cK),rfl,_,_,rfl,_,_,rfl,rfl,?_;refine tt ?_;have hm2:(2:Nat)^fw f<=2^10:=dX (by decide) (by lia);have cm:(2:Nat)^pc t.1.toNat<=2^10:=dX (by decide) (by lia);have lW:=pf (pc t.1.toNat);have e2:∀k:Nat,(1:Int)*2^((k:Int)).toNat=((2^k:Nat):Int):=λk=>by rw[qr,mD]
   have t10:2^10<10^60:=by decide
   exists ⟨by lia,by lia,by decide⟩,lO (hF.2.2 t iT) (by rw[e2,tM];lia),t.1.toNat,(by rw[e1];rfl),by lia,λH2 s2=>?_;exists ⟨by lia,by lia,by decide⟩,(by rw[e2 (pc t.1.toNat)];exact iU (by lia) (by omega)),_,_,rfl,?_,sG.trans s2;rw[bP,aT,aT];show _++[V.int (t.2*(1*2^((fw f:Int)).toNat)/(1*2^((pc t.1.toNat:Int)).toNat))]=_;rw[qr,qr,ZU hp];rfl
  ·rintro ys σ G ⟨v0,v1,rfl,rfl,sG⟩ D hD;rw[av,cD,dO];exists D,_,rfl,aj.of aq,?_;nomatch _,rfl,hF.wsumF h5 (by lia),q _ (s1.trans (sG.trans (af.upd hD)))
noncomputable def oZ(m:Nat)(f:ar):ar:=if m=0 then f else sf (m:Int) f
def Sg(K:Frag):Sp:=λvs H Q _=>∃(a:Addr) (f:ar) (m:Nat),vs=[.ref a,.int (m:Int)]/\aI H a f/\(∀t∈f,t.1.natAbs.log2<1920)/\Q (.str (AL (oZ m f))) H
def IZ(T:Txt w K mg):Em.Ok P w K mg base 1 (Sg K):=by
  refine Rw.ok T.d_Z43.F T.d_Z43.S ?_;rintro vs H Q E ⟨a,f,m,rfl,hT,hk,q⟩;refine⟨rfl,fun _ _ _ _ hr hu nd=>⟨_,(ak (eK df rfl (dj (pV 0)) (ig (n:=2) rfl (cL (aN 2 nd) (cL (aN 3 nd) ik))) (ao (bp (PW.pt (lE (a7 aV (pV 1) ai) (mq (a7 jM (az bQ.c (pV 3) (pV 1)) ai)))) (ao (aA (gE lj rfl T.n_str kU (aa (pV 2) ag)))) aM))) (ao (aA au))),?_⟩⟩
  obtain⟨ps,hS,hP⟩:=id hT;have cD:=hP.length;exists ⟨_,aj.of hS⟩,?_;refine jK (K:=K) (a:=a) (xs:=ps.map V.ref) (λi σ G=>∃v2 v3:Option V,σ=[some (.ref a),some (.int (m:Int)),v2,v3]/\oZ m f=oZ m (f.drop i)/\G=H)
   ⟨none,none,rfl,by rw[tD],rfl⟩ (λi σ G _ ⟨_,_,_,_,e⟩=>by rw[e];exact aj.of hS) ?_ ?_
  ·rintro i y σ G hi ⟨v2,v3,rfl,gx,rfl⟩;obtain⟨p,c6,rfl⟩:=fY hi;obtain⟨t,bg,cK⟩:=hP.at' c6;have ed:f.drop i=t::f.drop (i+1):=by
    rw[tO (dS.mp bg).1];congr 1;exact (dS.mp bg).2
   have zQ:=hk t (dr bg);rw[ed]at gx;exists _,ay.of cK,rfl,?_;exists _,rfl,?_;by_cases hm:m=0
   ·refine aY (aR (by rw[hm];rfl)) (ff ?_);rw[gx]at q;unfold oZ at q;rw[aB hm]at q;nomatch _,rfl,zQ,q
   ·refine aK (λz=>hm (by have:=bG z;injection this with this;lia)) ?_;exists (by show (0:Int)<m;lia),_,rfl,?_;unfold oZ sf at gx q;rw[ax hm,ax hm]at gx;rw[ax hm,gx]at q;by_cases z:t.2%(m:Int)=0
    ·refine aK (by simp[z]) ?_;exists _,_,rfl,?_,rfl;unfold oZ sf;rw[ax hm,ax hm,gx,mW,ax (by simp[z])]
    ·refine aY (by simp[z]) ?_;rw[mW,aB (by simp[z])]at q;nomatch _,rfl,zQ,q
  ·rintro σ G ⟨v2,v3,rfl,gx,rfl⟩;rw[av,cD,zO]at gx;rw[gx]at q;have e:oZ m []=[]:=by unfold oZ sf;split<;>rfl
   rw[e]at q;exact q
def Qn:(["_law_one","_law_number","_law_given"]:List Str).Nodup:=by decide+kernel
def UM(T:Txt w K mg):Bb.Ok P w K mg base 1 (Pb K):=by
  refine Rw.ok T.d_Z60.F T.d_Z60.S ?_;rintro vs H Q E ⟨a,l,g,rfl,⟨ps,hS,hT⟩,aH,q⟩;refine⟨rfl,fun _ _ _ _ hr hu nd=>⟨_,(ao (aA (bD (vj rfl) (by rfl) T.n_sum uY (aa (eO (g:=(fT K 2 (cn (a8 0) (cn (a8 1) f7)))) ["_law_one", "_law_number", "_law_given"] 2 [1] rfl (dC Bb) (dj (pV 0))
    (λcl C s₀ H₀ fp=>(gv (n:=2) rfl (cN (aN 0 Qn) (cN (aN 1 Qn) gy)))) (λcl C s₀ H₀ fp=>(iJ (a7 aV (az sq.j (pV 0) (pV 2)) (pV 0)))) (λcl C s₀ H₀ fp=>(pV 1))) ag)))),?_⟩⟩
  exists ⟨_,hS⟩,?_;refine jj (K:=K) (a:=a) (xs:=ps.map V.ref) (λi ys σ H2=>∃v0 v1,σ=[v0,v1,some (.int g)]/\H2=H/\ys=(((l.take i).filter λt=>decide (Builtin.bitAnd t.1 g=t.1)).map (·.2)).map V.int)
   ⟨none,none,rfl,rfl,rfl⟩ (λi ys σ H2 hi ⟨_,_,_,e,e2⟩=>⟨by rw[e];exact hS,by
    rw[e2,av,av];exact aW (jR _ _) (by rw[dY];omega)⟩) (by rw[av,hT.length];exact cj (bH (by omega))) ?_ ?_
  ·rintro i y ys σ H2 hi ⟨v0,v1,rfl,rfl,rfl⟩;obtain⟨p,c6,rfl⟩:=fY hi;obtain⟨t,bg,cK⟩:=hT.at' c6;have bP:l.take (i+1)=l.take i++[t]:=by rw[dU,bg];rfl
   exists p,_,rfl,ay.of cK,rfl,_,_,rfl,_,_,rfl,rfl,?_;exists _,rfl,?_;refine eR (λh1=>?_) (λh1=>?_)
   ·have bT:Builtin.bitAnd t.1 g=t.1:=by have:=bG h1;injection this
    exists _,_,rfl,rfl,?_;rw[bP,fV,aT,aT];simp[bT]
   ·have bT:¬Builtin.bitAnd t.1 g=t.1:=λz=>h1 (aR (congrArg V.int z))
    exists _,_,rfl,rfl,?_;rw[bP,fV,aT,aT];simp[bT]
  ·rintro ys σ H2 ⟨v0,v1,rfl,rfl,rfl⟩ D hD;exists D,_,rfl,aj.of aq,?_
   have:=q _ (af.upd (o:=.lst ((((l.take (ps.map V.ref).length).filter λt=>decide (Builtin.bitAnd t.1 g=t.1)).map (·.2)).map V.int)) hD)
   rw[av,hT.length,dO]at this ⊢;exact this
def zcr(K:Frag):Sp:=λvs H Q _=>∃(t e:Addr) (st:cH) (q:Ask) (ls:List Nat),vs=[.ref t,.ref e]/\pj H t st/\C6 H e q/\ls.length<=5/\(∀x∈ls,x<16)/\(∀nf∈st,c7 ls nf.2)/\q.ok/\tF H Q (q.tells st)
def Ask.no1{st:cH}{q:Ask}(h:cb st q.n1=none):q.tells st=.name:=by
 cases q<;>(unfold Ask.tells;dsimp only [Ask.n1]at h ⊢;rw[h])
def Ask.no2{st:cH}{q:Ask}{b:List Nat}(e:q.n2=some b)(h:cb st b=none):q.tells st=.name:=by
 cases q with
 |ali a c=>cases e;unfold Ask.tells;dsimp only;cases cb st a<;>simp[h]
 |rst a c m=>cases e;unfold Ask.tells;dsimp only;cases cb st a<;>simp[h]
 |_=>cases e
def tF.up{H H1:Hp}{Q:VK}{r:An}(h:tF H Q r)(s:af H H1):tF H1 Q r:=by
 cases r with
 |txt x=>exact λH' s'=>h H' (s.trans s')
 |_=>exact λe H' h1 s'=>h e H' h1 (s.trans s')
def zb7(T:Txt w K mg):Hi.Ok P w K mg base 5 (zcr K):=by
  refine Rw.ok T.d_Z29.F T.d_Z29.S ?_;rintro vs H Q E ⟨t,e,st,q0,ls,rfl,ht,he,h5,bN,bc,hok,q⟩;refine⟨rfl,fun _ _ _ _ hr hu nd=>⟨_,(ak (qm (pV 1) (ig (n:=3) rfl (cL (aN 2 nd) (cL (aN 3 nd) (cL (aN 4 nd) ik))))) (ak (ke (bp (PW.pt (lE (sD (xj hu (xT (pV 3) ai) (pV 0))) (mq (PW.pt (iO (nJ nY (pV 2) (bq (aa au (aa au ag))) rfl) (jy (sD (xj hu (xT (pV 3) ai) (pV 0))))))))) (ao (aA (bq (aa au ag)))) aM)) (ak (aD 5 nd (gM hu (pV 0) (xT (pV 3) ai))) (ak (aD 6 nd (aC T.d_Z31 (YS T) hr.m (aa (pV 5) ag))) (ak (aD 7 nd (gL Bh AH yV Ba (pV 6))) (ak (bO (bM aV (pV 2) au) (ao (aA (aC T.d_Z48 (L3 T) hr.m (aa (pV 5) ag)))) aM) (ak (bO (bM aV (pV 2) au) (ao (aA (gE lj rfl T.n_str kU (aa (aC T.d_Z60 (UM T) hr.m (aa (pV 5) (aa (xT (pV 3) ai) ag))) ag)))) aM) (ak (bO (bM aV (pV 2) au) (ao (aA (aC T.d_Z43 (IZ T) hr.m (aa (aC T.d_Z44 (mQ T) hr.m (aa (pV 5) (aa (gM hu (pV 0) (xT (pV 3) ai)) (aa (az ki.j ai ai) ag)))) (aa ai ag))))) aM) (ak (bO (bM aV (pV 2) au) (ao (aA (aC T.d_Z43 (IZ T) hr.m (aa (aC T.d_Z44 (mQ T) hr.m (aa (pV 5) (aa (gM hu (pV 0) (xT (pV 3) ai)) (aa (az ki.j ai ai) ag)))) (aa (xT (pV 3) ai) ag))))) aM) (ak (bO (bM aV (pV 2) au) (ao (aA (xL (bq (aa (aC T.d_Z36 (Qr T) hr.m (aa (pV 6) ag)) (aa au ag))) (gE Hf rfl T.n_int sv (aa (km aV (pV 6) ai) ag))))) aM) (ao (aA (aC T.d_Z59 (zbW T) hr (aa (pV 5) (aa (pV 7) ag))))))))))))))),?_⟩⟩
  obtain⟨kvs,hd,hk⟩:=ht;obtain⟨pp,fL,jJ⟩:=he;have hg:=λn=>c8.k (k:=Sum.inr (S n)) hd
  exists _,ay.of fL,rfl,?_;exists λσ G=>σ=[some (.ref t),some (.ref e),some (.str q0.wd),some (.ref pp),some (.str (S (aX 32 (q0.wl::q0.ws)))),none,none,none]/\af H G/\(∃l,cb st q0.n1=some l)/\∀b,q0.n2=some b->∃o,cb st b=some o,?_,?_
  ·exists _,ay.of jJ,bo (j:=0) rfl,t,_,rfl,hg q0.n1,_,rfl,?_;rcases lJ hk q0.n1 with ⟨h1,h2⟩|⟨b1,l,h1,h2,h3⟩
   ·refine aY (by rw[h1];rfl) (ff ?_);rw[Ask.no1 h2]at q;nomatch du,λe he=>q e _ aq (af.upd he)
   refine aK (by rw[h1];simp) ?_;exists bK,λl0 iq=>?_;have s0:af H (upd H l0 (.lst [.str "alike",.str "rest"])):=af.upd iq;exists l0,_,rfl,.inl (aj.of aq),rfl,rfl,_,rfl,?_;cases e2:q0.n2 with
   |none =>
    refine aK ?_ (eP ?_)
    ·show ¬gf (V.str q0.wd) [.str "alike",.str "rest"]=true;rw[Ask.in2,e2];decide
    exact⟨rfl,s0,⟨l,h2⟩,λb z=>by cases z⟩
   |some b =>
    refine aY ?_ ?_
    ·show gf (V.str q0.wd) [.str "alike",.str "rest"]=true;rw[Ask.in2,e2];rfl
    obtain⟨r,hr⟩:=Ask.p2_of e2;rw[hr]at jJ;exists _,ay.of (s0 _ _ jJ),bo (j:=1) rfl,t,_,rfl,c8.k (k:=Sum.inr (S b)) (s0 _ _ hd),_,rfl,?_;rcases lJ hk b with ⟨k1,k2⟩|⟨b2,o,k1,k2,k3⟩
    ·refine aY (by rw[k1];rfl) ?_;rw[Ask.no2 e2 k2]at q;nomatch du,λe he=>q e _ aq (s0.trans (af.upd he))
    ·refine aK (by rw[k1];simp) ?_;exact⟨rfl,s0,⟨l,h2⟩,λc z=>by cases z;exact⟨o,k2⟩⟩
  ·rintro σ G ⟨rfl,sG,⟨l,hl⟩,hb⟩;have q:=q.up sG;obtain⟨kvs,hd,hk⟩:=pj.keep ⟨kvs,hd,hk⟩ sG;have jJ:=sG _ _ jJ;have mF:=c8.k (k:=Sum.inr (S q0.n1)) hd;rcases lJ hk q0.n1 with ⟨h1,h2⟩|⟨b1,l',h1,h2,hT⟩
   ·rw[hl]at h2;cases h2
   cases hl.symm.trans h2;rw[h1]at mF;have hF:=dz bc hl;have aH:=hF.len h5;have h0:∀t∈l,0<=t.1:=λt ht=>(hF.2.1 t ht).1
   have two:∀b,q0.n2=some b->∃b2 o,cb st b=some o/\aI G b2 o/\c8 G t (.str (S b)) (some (.ref b2)):=λb z=>by
    obtain⟨o,ho⟩:=hb b z;rcases lJ hk b with ⟨k1,k2⟩|⟨b2,o',k1,k2,k3⟩
    ·rw[ho]at k2;cases k2
    have:=c8.k (k:=Sum.inr (S b)) hd
    rw[k1]at this;nomatch b2,o',k2,k3,this
   exists _,ay.of jJ,bo (j:=0) rfl,_,mF,?_;exists b1,l,rfl,hT.tl,h0,?_;exists rfl,_,rfl,rfl,?_;unfold Ask.tells at q;cases q0 with
   |shw n =>
    have ew:(Ask.shw n).wd=ofString "show" := rfl;dsimp only at q;rw[show cb st n=some l from hl]at q;refine vY (by rw[ew];decide) ?_;nomatch b1,l,rfl,hT,hF.say bN,aW aH (by decide),λH1 s1=>q H1 s1
   |wor n g =>
    have ew:(Ask.wor n g).wd=ofString "worth" := rfl;dsimp only at q;rw[show cb st n=some l from hl]at q;refine vN (by rw[ew];decide) ?_;refine vY (by rw[ew];decide) ?_;exists _,ay.of jJ,bo (j:=1) rfl,b1,l,(g:Int),rfl,hT.tl,by omega,λH1 s1=>?_;nomatch _,rfl,hF.worth h5 _,q H1 s1
   |ali n m =>
    have ew:(Ask.ali n m).wd=ofString "alike" := rfl;obtain⟨b2,o,ho,fk,o8⟩:=two m rfl;dsimp only at q;rw[show cb st n=some l from hl]at q;dsimp only at q;rw[ho]at q;have hO:=dz bc ho;have CC:=hO.len h5;refine vN (by rw[ew];decide) ?_;refine vN (by rw[ew];decide) ?_;refine vY (by rw[ew];decide) ?_;exists _,ay.of jJ,bo (j:=1) rfl,_,o8,b1,b2,l,o,-1,rfl,hT,fk,by lia,⟨ls,h5,hF.2.1.app hO.2.1⟩,(λt _=>gH (by decide) (by decide)),λc f H1 hc og ly s1=>?_;have e:f=nP l o:=D1 (lL ly.toIsForm λk=>by rw[ly.val,cO,cO,ow,nI];lia);subst e;exists c,_,0,rfl,og,BB (hF.minus hO) bN,?_;exact q H1 s1
   |rst n m k =>
    have ew:(Ask.rst n m k).wd=ofString "rest" := rfl;obtain⟨b2,o,ho,fk,o8⟩:=two m rfl;dsimp only at q;rw[show cb st n=some l from hl]at q;dsimp only at q;rw[ho]at q;have hO:=dz bc ho;have CC:=hO.len h5;have qU:k≠0:=by have:=hok.2.2.1;lia
    refine vN (by rw[ew];decide) ?_;refine vN (by rw[ew];decide) ?_;refine vN (by rw[ew];decide) ?_;refine vY (by rw[ew];decide) ?_;exists _,ay.of jJ,bo (j:=1) rfl,_,o8,b1,b2,l,o,-1,rfl,hT,fk,by omega,⟨ls,h5,hF.2.1.app hO.2.1⟩,(λt _=>gH (by decide) (by decide)),λc f H1 hc og ly s1=>?_;have e:f=nP l o:=D1 (lL ly.toIsForm λk=>by rw[ly.val,cO,cO,ow,nI];omega);subst e;exists _,ay.of (s1 _ _ jJ),bo (j:=2) rfl,c,_,k,rfl,og,BB (hF.minus hO) bN,?_;unfold oZ;rw[ax qU];exact q H1 s1
   |unk n =>
    have ew:(Ask.unk n).wd=ofString "unknowns" := rfl;dsimp only at q;rw[show cb st n=some l from hl]at q;refine vN (by rw[ew];decide) ?_;refine vN (by rw[ew];decide) ?_;refine vN (by rw[ew];decide) ?_;refine vN (by rw[ew];decide) ?_;refine vY (by rw[ew];decide) ?_;exists cy l 0,rfl,hF.any bN,λH1 s1=>⟨bK,λl1 ft=>?_⟩;by_cases z:cy l 0=0
    ·refine .inr ⟨_,rfl,.str "none",aj.of aq,?_,?_⟩
     ·rw[z];rfl
     ·dsimp only at q;rw[aB z]at q;exact q _ (s1.trans (af.upd ft))
    ·refine .inr ⟨_,rfl,.str (S (cz (cy l 0))),aj.of aq,?_,?_⟩
     ·rw[ax (by simpa using z)];rfl
     ·dsimp only at q;rw[ax z]at q;exact q _ (s1.trans (af.upd ft))
   |way n =>
    have ew:(Ask.way n).wd=ofString "ways" := rfl;dsimp only at q;rw[show cb st n=some l from hl]at q;refine vN (by rw[ew];decide) ?_;refine vN (by rw[ew];decide) ?_;refine vN (by rw[ew];decide) ?_;refine vN (by rw[ew];decide) ?_;refine vN (by rw[ew];decide) ?_;nomatch b1,l,ls,rfl,hT,hF,h5,bN,q
end
open PySem L2 OF
section
variable{P:Program}{w:World}{K:Frag}{mg:Str->Option Value}{base:Heap}
inductive Dd where
 |mk (c:bh)|ask (q:Ask)|bad (l:List Nat)
def mC(H:Hp)(e:Addr):Dd->Prop
 |.mk c=>gW H e c
 |.ask q=>C6 H e q
 |.bad l=>H e=some (.tup [.str "bad",.non,.str (S l)])
def oG(ls:List Nat)(n:List Nat):Dd->Prop
 |.mk c=>jF ls [] c/\c.nm=n
 |.ask q=>q.ok
 |.bad l=>cE l=none/\kM l/\(∀c∈l,c<128)/\l.length<=9000
noncomputable def Dd.wo:Dd->Str
 |.mk c=>c.dw|.ask q=>q.wd|.bad _ => "bad"
noncomputable def Dd.l:Dd->List Nat
 |.mk c=>c.line|.ask q=>aX 32 (q.wl::q.ws)|.bad l=>l
noncomputable def Dd.mks:Dd->Bool
 |.mk _=>true|.ask _=>false|.bad _=>false
noncomputable def Dd.isBad:Dd->Bool
 |.mk _=>false|.ask _=>false|.bad _=>true
def mC.tup(h:mC H e dd):∃x,H e=some (.tup [.str dd.wo,x,.str (S dd.l)]):=by
 cases dd with
 |mk c=>exact let ⟨x,h1,_⟩:=h; ⟨x,h1⟩
 |ask q=>exact let ⟨x,h1,_⟩:=h; ⟨_,h1⟩
 |bad l=>nomatch _,h
def mC.keep(h:mC H e dd)(s:af H H'):mC H' e dd:=by
 cases dd with
 |mk c=>exact gW.keep h s
 |ask q=>exact let ⟨x,h1,h2⟩:=h; ⟨x,s _ _ h1,s _ _ h2⟩
 |bad l=>exact s _ _ h
def oG.maker(h:oG ls n dd):gf (.str dd.wo) Kg=dd.mks/\decide (V.str dd.wo=V.str "bad")=dd.isBad:=by
 cases dd with
 |bad l=>exact⟨by kernel_rfl,by kernel_rfl⟩
 |ask q=>cases q<;>exact⟨by kernel_rfl,by kernel_rfl⟩
 |mk c =>
  cases c with
  |two w n a b =>
   obtain⟨_,_,_,hw,_⟩:=h.1;obtain rfl|rfl|rfl:w=0\/w=1\/w=2:=by lia
   all_goals exact⟨by kernel_rfl,by kernel_rfl⟩
  |_=>exact⟨by kernel_rfl,by kernel_rfl⟩
noncomputable def Hb(W:List Addr)(H:Hp):Hp:=λa=>if a∈W then none else H a
def k6(h:Hb W H a=some o):a∉W:=λz=>by unfold Hb at h;rw[aB z]at h;cases h
def jw(hw:a∉W)(h:H a=some o):Hb W H a=some o:=by unfold Hb;rw[ax hw];exact h
def dD:af (Hb W H) H:=λa o h=>by
 have:=k6 h
 unfold Hb at h;rw[ax this]at h;exact h
def c5(W:List Addr)(H H':Hp):Prop:=∀a o,a∉W->H a=some o->H' a=some o
def c5.of(s:af H H'):c5 W H H':=λa o _ h=>s a o h
def c5.trans(s:c5 W H H')(s':c5 W H' H''):c5 W H H'':=λa o w h=>s' a o w (s a o w h)
def c5.upd(h:a∈W):c5 W H (L2.upd H a o):=λb o' n e=>by rw[aJ λz=>n (by rw[z];exact h)];exact e
def c5.hb(m:c5 W H H'):af (Hb W H) (Hb W H'):=λa o h=>jw (k6 h) (m a o (k6 h) (dD a o h))
def jt(W:List Addr)(H:Hp):Prop:=∀w∈W,(∃kvs,H w=some (.dK kvs))\/∃l,H w=some (.lst l)
def jt.keep(h:jt W H)(s:af H H'):jt W H':=λw z=>by
 rcases h w z with ⟨k,y⟩|⟨k,y⟩
 ·exact .inl ⟨k,s _ _ y⟩
 ·exact .inr ⟨k,s _ _ y⟩
def jt.no(h:jt W H)(e:H a=none):a∉W:=λz=>by
 rcases h a z with ⟨_,y⟩|⟨_,y⟩<;>(rw[e]at y;cases y)
def jt.tup(h:jt W H):∀b xs,H b=some (.tup xs)->Hb W H b=some (.tup xs):=λb xs e=>jw (λz=>by
 rcases h b z with ⟨_,y⟩|⟨_,y⟩<;>(rw[e]at y;cases y)) e
def aI.hb(h:aI H a l)(hW:jt W H)(ha:a∉W):aI (Hb W H) a l:=let ⟨ps,h1,h2⟩:=h; ⟨ps,jw ha h1,h2.keep hW.tup⟩
def Sm.keepT(k:∀b xs,H b=some (.tup xs)->H' b=some (.tup xs)):∀{s:Sm}{v:V},Is H v s.d->Is H' v s.d
 |.bit n,v,h=>by obtain⟨p,rfl,h1⟩:=mr h;exact iG (k _ _ h1) (cC.mpr rfl) (kO.mpr rfl)
 |.fix b,v,h=>by obtain⟨p,rfl,h1⟩:=mO h;exact iG (k _ _ h1) (cC.mpr rfl) (kO.mpr rfl)
 |.no s,v,h=>by obtain⟨p,x,rfl,h1,h2⟩:=lY h;exact iG (k _ _ h1) (cC.mpr rfl) (Sm.keepT k h2)
 |.two w s u,v,h=>by obtain⟨p,x,y,rfl,h1,h2,h3⟩:=lU h;exact xh (k _ _ h1) (cC.mpr rfl) (Sm.keepT k h2) (Sm.keepT k h3)
def Part.out(h:Part (Hb W H) (.ref a) c):a∉W:=by
 cases c with
 |form n t=>obtain⟨b,f,e,⟨ps,h1,_⟩,_⟩:=h;cases e;exact k6 h1
 |stat n s =>
  have h:Is (Hb W H) (.ref a) s.d:=h;cases s with
  |bit k=>obtain⟨p,e,h1⟩:=mr h;cases e;exact k6 h1
  |fix b=>obtain⟨p,e,h1⟩:=mO h;cases e;exact k6 h1
  |no s=>obtain⟨p,x,e,h1,_⟩:=lY h;cases e;exact k6 h1
  |two w s t=>obtain⟨p,x,y,e,h1,_⟩:=lU h;cases e;exact k6 h1
 |_=>obtain⟨q,e,h1⟩:=h;cases e;exact k6 h1
structure Sd where
 p:Addr
 d:Addr
 kd:Addr
 t:Addr
 L:Addr
def wU(B:Hp)(q:Addr)(x:List Nat×Dd):Prop:=∃e,B q=some (.tup [.str (S x.1),.ref e])/\mC B e x.2
def mU(W:List Addr)(H:Hp)(d:Addr)(st:cH):Prop:=∃kvs,H d=some (.dK kvs)/\Paired (lQ (Hb W H)) kvs st
def EZ(h:Paired (lQ H) kvs st)(s:af H H'):Paired (lQ H') kvs st:=Paired.mapP h λp q ⟨e,a,ea,hT⟩=>⟨e,a,ea,hT.keep s⟩
def mU.to(h:mU W H d st):pj H d st:=let ⟨kvs,h1,h2⟩:=h; ⟨kvs,h1,EZ h2 dD⟩
def mU.keep(h:mU W H d st)(m:c5 W H H')(e:∀o,H d=some o->H' d=some o):mU W H' d st:=let ⟨kvs,h1,h2⟩:=h; ⟨kvs,e _ h1,EZ h2 m.hb⟩
def mU.put(h:mU W H d st)(h1:H d=some (.dK kvs))(m:c5 W H H')(e:H' d=some (.dK (dq kvs (Sum.inr (S n)) (.ref b))))(hT:aI (Hb W H') b f):mU W H' d (oj st n f):=by
 obtain⟨k,h2,h3⟩:=h;rw[h1]at h2;cases h2;nomatch _,e,TK (EZ h3 m.hb) hT
structure ij(C:Addr)(W:List Addr)(H:Hp)(s:Sd)(st:cH)(lv:List (List Nat×Dd)):Prop where
 ob:∃dx,Hb W H s.p=some (.ins C dx [("forms",.ref s.d)])
 kd:Hb W H s.kd=some (.dK [(Sum.inr "there",.ref s.t),(Sum.inr "late",.ref s.L)])
 dd:mU W H s.d st
 tt:mU W H s.t st
 ll:∃qs,H s.L=some (.lst (qs.map V.ref))/\Paired (wU (Hb W H)) qs lv
def HJ(h:Paired (wU H) qs lv)(s:af H H'):Paired (wU H') qs lv:=Paired.mapP h λp q ⟨e,h1,h2⟩=>⟨e,s _ _ h1,h2.keep s⟩
def ij.desk(h:ij C W H s st lv):lx C H s.p s.d st:=⟨let ⟨dx,e⟩:=h.ob; ⟨dx,dD _ _ e⟩,h.dd.to⟩
def ij.keepW(h:ij C W H s st lv)(m:c5 W H H')(k:∀x,x=s.d\/x=s.t\/x=s.L->∀o,H x=some o->H' x=some o):ij C W H' s st lv :=
 ⟨let ⟨dx,e⟩:=h.ob; ⟨dx,m.hb _ _ e⟩,m.hb _ _ h.kd,h.dd.keep m (k _ (.inl rfl)),h.tt.keep m (k _ (.inr (.inl rfl))),let ⟨qs,h1,h2⟩:=h.ll; ⟨qs,k _ (.inr (.inr rfl)) _ h1,HJ h2 m.hb⟩⟩
def wz(s:Sd)(H H':Hp):Prop:=∀a o,a≠s.d->a≠s.t->a≠s.L->H a=some o->H' a=some o
def ij.neL(h:ij C W H s st lv):s.d≠s.L/\s.t≠s.L:=by
 obtain⟨qs,h1,_⟩:=h.ll;obtain⟨_,h2,_⟩:=h.dd;obtain⟨_,h3,_⟩:=h.tt;nomatch (λz=>by rw[z,h1]at h2;cases h2),(λz=>by rw[z,h1]at h3;cases h3)
def ij.late(h:ij C W H s st lv)(hW:jt W H)(wL:s.L∈W):∃qs:List Addr,H s.L=some (.lst (qs.map V.ref))/\qs.length=lv.length/\∀{G:Hp}{q e:Addr}{n:List Nat}{dd:Dd},af H G->G q=none->mC (Hb W H) e dd ->
  ij C W (upd (upd G q (.tup [.str (S n),.ref e])) s.L (.lst (qs.map V.ref++[.ref q]))) s st (lv++[(n,dd)])/\wz s H (upd (upd G q (.tup [.str (S n),.ref e])) s.L (.lst (qs.map V.ref++[.ref q]))):=by
 obtain⟨n1,n2⟩:=h.neL;obtain⟨qs,h1,h2⟩:=h.ll;exists qs,h1,er h2,fun {G q e n dd} sG hq he=>?_;have s1:af H (upd G q (.tup [.str (S n),.ref e])):=sG.trans (af.upd hq);have m:c5 W H (upd (upd G q (.tup [.str (S n),.ref e])) s.L (.lst (qs.map V.ref++[.ref q]))):=(c5.of s1).trans (c5.upd wL);have qW:q∉W:=(hW.keep sG).no hq;have k:∀x o,x≠s.L->H x=some o->upd (upd G q (.tup [.str (S n),.ref e])) s.L (.lst (qs.map V.ref++[.ref q])) x=some o:=λx o z y=>by rw[aJ z];exact s1 _ _ y
 exists ⟨let ⟨dx,e⟩:=h.ob; ⟨dx,m.hb _ _ e⟩,m.hb _ _ h.kd,h.dd.keep m λo=>k _ o n1,h.tt.keep m λo=>k _ o n2,qs++[q],(by rw[aq,aT];rfl),pK (HJ h2 m.hb) ⟨e,jw qW ?_,he.keep m.hb⟩⟩,λa o _ _ z y=>k a o z y;rw[aJ λz=>qW (by rw[z];exact wL)];exact aq
def ij.make(h:ij C W H s st lv)(hW:jt W H)(wd:s.d∈W)(wt:s.t∈W)(Az:s.d≠s.t)(hd:H s.d=some (.dK Kh))(ht:H s.t=some (.dK rg))(s1:af H H1)(hb:H b=none)(hT:aI H1 b f)(hA:aI (Hb W H) a f)
  (s2:af (upd H1 s.d (.dK (dq Kh (Sum.inr (S n)) (.ref b)))) H2):H2 s.t=some (.dK rg)/\ij C W (upd H2 s.t (.dK (dq rg (Sum.inr (S n)) (.ref a)))) s (oj st n f) lv/\wz s H (upd H2 s.t (.dK (dq rg (Sum.inr (S n)) (.ref a)))):=by
 obtain⟨n1,n2⟩:=h.neL;have m1:c5 W H1 (upd H2 s.t (.dK (dq rg (Sum.inr (S n)) (.ref a)))):=((c5.upd wd).trans (c5.of s2)).trans (c5.upd wt);have m:=(c5.of s1).trans m1;have k:∀x o,x≠s.d->x≠s.t->H x=some o->upd H2 s.t (.dK (dq rg (Sum.inr (S n)) (.ref a))) x=some o:=λx o z y e=>by rw[aJ y];exact s2 _ _ (by rw[aJ z];exact s1 _ _ e)
 exists s2 _ _ (by rw[aJ Az.symm];exact s1 _ _ ht),⟨let ⟨dx,e⟩:=h.ob; ⟨dx,m.hb _ _ e⟩,m.hb _ _ h.kd,h.dd.put hd m (by rw[aJ Az];exact s2 _ _ aq) ((aI.hb hT (hW.keep s1) (hW.no hb)).keep m1.hb),h.tt.put ht m aq (hA.keep m.hb),let ⟨qs,h1,h2⟩:=h.ll; ⟨qs,k _ _ n1.symm n2.symm h1,HJ h2 m.hb⟩⟩,λa o z y _ e=>k a o z y e
def KQ(ls:List Nat)(st:cH)(lv:List (List Nat×Dd))(n:List Nat)(dd:Dd)(cu:cH)(ku:List (List Nat×Dd)):Prop:=(cu=st/\(ku=lv\/ku=lv++[(n,dd)]))\/∃c f,dd=.mk c/\eV ls st c (.form f)/\cu=oj st n f/\ku=lv
def VC(K:Frag)(C:Addr):Sp:=λvs H Q _=>∃W s e st lv dd n ls,vs=[.ref s.p,.ref s.kd,.str (S n),.ref e]/\ij C W H s st lv/\jt W H/\(s.d∈W/\s.t∈W/\s.L∈W/\s.d≠s.t)/\lv.length<=100/\mC (Hb W H) e dd/\ls.length<=5/\(∀x∈ls,x<16)/\(∀nf∈st,c7 ls nf.2)/\st.length<=900/\oG ls n dd/\(∀c f,dd=.mk c->eV ls st c (.form f)->c7 ls f) /\
 ∀H' cu ku,ij C W H' s cu ku->KQ ls st lv n dd cu ku->wz s H H'->Q (.bl true) H'
def Ld(ls:List Nat)(st:cH):Dd->Er->Prop
 |.bad _,k=>k=.line
 |.mk c,k=>(k=.name/\eV ls st c .name)\/(k=.yesno/\eV ls st c .yesno)
 |.ask q,k=>(k=.name/\q.tells st=.name)\/(k=.yesno/\q.tells st=.yesno)\/(k=.many/\q.tells st=.many)
def Sq(W:List Addr)(ls:List Nat)(st:cH)(dd:Dd)(G:Hp)(x:V):Prop:=(∃k a,Ld ls st dd k/\x=.ref a/\G a=some (.lst [.str k.wo]))\/(∃c f a,dd=.mk c/\eV ls st c (.form f)/\x=.ref a/\aI G a f/\aI (Hb W G) a f)\/∃q s,dd=.ask q/\q.tells st=.txt s/\x=.str s
noncomputable def mx:List D:=[.lst [.str "line"],.lst [.str "name"],.lst [.str "yes no"],.lst [.str "many"]]
def Ri(k:Er):(mx.any λd=>dR d (.lst [.str k.wo]))=true:=by cases k<;>kernel_rfl
def YQ(f:ar):(mx.any λd=>dR d (dF f))=false:=by
 cases f with
 |nil=>kernel_rfl
 |cons t r=>kernel_rfl
def Zu(s:Str):(mx.any λd=>dR d (.str s))=false:=by kernel_rfl
def Cs:∀d∈mx,jP d<=50:=λd hd=>by
 rcases (show d=.lst [.str "line"]\/d=.lst [.str "name"]\/d=.lst [.str "yes no"]\/d=.lst [.str "many"] by simpa [mx] using hd)with rfl|rfl|rfl|rfl<;>decide
theorem MV(c:Nat):∀ws:List (List Nat),(∀w∈ws,w.length<=18)->(aX c ws).length<=19*ws.length
 |[],_=>bS _
 |[w],h=>by have:=h w (by simp);show w.length<=19*1;lia
 |w::v::r,h=>by
  have ih:=MV c (v::r) λx hx=>h x (by simp[aZ.mp hx])
  have:=h w (by simp)
  show (w++c::aX c (v::r)).length<=_;rw[aS];simp only[br]at ih ⊢;lia
def C8{q:Ask}(h:q.ok):(∀c∈aX 32 (q.wl::q.ws),c<128)/\(aX 32 (q.wl::q.ws)).length<=80:=by
 have dg:∀{n:Nat},n<10^18->(bX n).length<=18/\∀c∈bX n,c<128:=λh=>⟨oA (k:=17) h,λc hc=>by have:=tm hc;lia⟩
 have nm:∀{a:List Nat},bb a=true->a.length<=18/\∀c∈a,c<128:=λh=>⟨aW (cZ h).1 (by decide),(cZ h).2⟩
 have key:∀w∈q.wl::q.ws,w.length<=18/\∀c∈w,c<128:=λw hw=>by
  rcases aZ.mp hw with rfl|hw
  ·cases q<;>(dsimp only [Ask.wl];decide)
  ·cases q with
   |shw a=>rw[bu.mp hw];exact nm h
   |wor a g =>
    rcases (show w=a\/w=bX g by simpa [Ask.ws] using hw)with rfl|rfl
    ·exact nm h.1
    ·exact dg h.2
   |ali a b =>
    rcases (show w=a\/w=b by simpa [Ask.ws] using hw)with rfl|rfl
    ·exact nm h.1
    ·exact nm h.2
   |rst a b m =>
    rcases (show w=a\/w=b\/w=bX m by simpa [Ask.ws] using hw)with rfl|rfl|rfl
    ·exact nm h.1
    ·exact nm h.2.1
    ·exact dg h.2.2.2
   |unk a=>rw[bu.mp hw];exact nm h
   |way a=>rw[bu.mp hw];exact nm h
 exists E8 _ λw z=>(key w z).2,aW (MV 32 _ λw z=>(key w z).1) ?_
 have:q.ws.length<=3:=by cases q<;>simp[Ask.ws]
 rw[br];lia
def zaL{K:Frag}{C p d:Addr}{G:Hp}{Q':VK}{E':XK}{st:cH}{dd:Dd}{k:Er}{n ls:List Nat}(hD:lx C G p d st)(hok:oG ls n dd)(hk:Ld ls st dd k)(h5:ls.length<=5)(bN:∀x∈ls,x<16)(bc:∀nf∈st,c7 ls nf.2)(ue:st.length<=900)(hQ:mY G Q' k):Kf K C [.ref p,.str (S dd.l)] G Q' E':=by
 cases dd with
 |bad l =>
  cases (show k=.line from hk);obtain⟨h1,h2,h3,h4⟩:=hok;nomatch p,d,st,l,ls,rfl,hD,h3,h4,h5,bN,bc,by lia,.inr (.inr ⟨h1,h2,hQ⟩)
 |mk c =>
  obtain⟨hc,_⟩:=hok;obtain⟨gP,CA,Gk,C4⟩:=hc.line bN;exists p,d,st,c.line,ls,rfl,hD,C4,Gk,h5,bN,bc,by lia,.inl ⟨c,gP,CA,?_,?_,?_⟩
  all_goals rcases hk with ⟨rfl,hm⟩|⟨rfl,hm⟩
  ·exact λ_=>hQ
  ·exact λz=>by cases qP hm z
  ·exact λz=>by cases qP hm z
  ·exact λ_=>hQ
  ·exact λf z=>by cases qP hm z
  ·exact λf z=>by cases qP hm z
 |ask q0 =>
  obtain⟨ha,hl⟩:=C8 hok;exists p,d,st,_,ls,rfl,hD,ha,aW hl (by decide),h5,bN,bc,by lia,.inr (.inl ⟨q0,Ask.line hok,hok,?_⟩);rcases hk with ⟨rfl,hm⟩|⟨rfl,hm⟩|⟨rfl,hm⟩<;>(rw[hm];exact hQ)
def JJ(T:Txt w K mg):HI.Ok P w K mg base 27 (VC K d7):=by
  refine Rw.ok T.d_Z54.F T.d_Z54.S ?_;rintro vs H Q E ⟨W,s,e,st,lv,dd,n,ls,rfl,hS,hW,⟨wd,wt,wL,Az⟩,hlv,he,h5,bN,bc,ue,hok,Xi,q⟩;refine⟨rfl,fun _ _ _ _ hr hu nd=>⟨_,(ak (aD 4 nd (gM hu (pV 1) au)) (ak (ke (bp (a7 aV (xT (pV 3) ai) au) (ao (aD 5 nd (bq (aa au ag)))) (ao (bp (gk (aC T.d_Z34 (B3 T) hr.m (aa (pV 3) ag))) (ao (aD 5 nd (aC T.d_Z30 (Su T) hr (aa (pV 4) (aa (pV 3) ag))))) (ao (aD 5 nd (aC T.d_Z29 (zb7 T) hr.m (aa (pV 4) (aa (pV 3) ag))))))))) (ak (aD 6 nd (tL (WY (A1 hr)) (pV 5) (bq (aa (bq (aa au ag)) (aa (bq (aa au ag)) (aa (bq (aa au ag)) (aa (bq (aa au ag)) ag))))) rfl)) (ak (aD 7 nd (pV 5)) (ak (bp (PW.pt (iO (gk (aC T.d_Z34 (B3 T) hr.m (aa (pV 3) ag))) (jy (kn (gk (pV 6)))))) (ao (aD 7 nd au)) aM) (ak (bp (a7 (Xz (A1 hr)) (aC T.d_Z47 (zba T) hr.m (aa (pV 0) (aa (xT (pV 3) ai) ag))) (pV 7)) (ao (aA oS)) aM) (ak (bp (gk (pV 6)) (ao (d6 (bY cB fI fJ fK (gM hu (pV 1) au) (aa (bz (aa (pV 2) (aa (pV 3) ag))) ag)))) (ao (bp (gk (aC T.d_Z34 (B3 T) hr.m (aa (pV 3) ag))) (ao (uh hu (pV 4) (pV 2) (pV 5) rfl)) aM))) (ao (aA oS))))))))),?_⟩⟩
  obtain⟨w0,w1⟩:=hok.maker;obtain⟨x0,QP⟩:=he.tup;have ju:=dD _ _ QP;have Lk:=he.keep dD;have hK:=dD _ _ hS.kd;exists _,c8.k (k:=Sum.inr "there") hK,?_;exists λσ G=>∃x,σ=[some (.ref s.p),some (.ref s.kd),some (.str (S n)),some (.ref e),some (.ref s.t),some x,none,none]/\af H G/\Sq W ls st dd G x,?_,?_
  ·exists _,ay.of ju,rfl,_,rfl,?_;cases dd with
   |bad l=>exact aY w1 ⟨du,λa ha=>⟨_,rfl,af.upd ha,.inl ⟨.line,a,rfl,rfl,aq⟩⟩⟩
   |mk c =>
    refine aK (nb w1) ?_;exists e,_,_,_,rfl,ju,λH1 s1=>?_;exists _,rfl,?_;refine aY w0 ?_;exists s.t,e,st,c,ls,rfl,hS.tt.to.keep s1,gW.keep Lk s1,bc,hok.1,h5,bN,λa G hm y s=>?_,λa G hm y s=>?_,λa f G hm Ff y s=>?_
    ·nomatch _,rfl,s1.trans s,.inl ⟨.name,a,.inl ⟨rfl,hm⟩,rfl,y⟩
    ·nomatch _,rfl,s1.trans s,.inl ⟨.yesno,a,.inr ⟨rfl,hm⟩,rfl,y⟩
    ·exists _,rfl,s1.trans s,.inr (.inl ⟨c,f,a,rfl,hm,rfl,y,aI.hb y (hW.keep (s1.trans s)) ?_⟩);rcases Ff with z|⟨_,_,z⟩
     ·exact (hW.keep s1).no z
     ·obtain⟨x,e1,e2⟩:=he;rw[s1 _ _ (dD _ _ e1)]at z;cases z;exact e2.out
   |ask q0 =>
    refine aK (nb w1) ?_;exists e,_,_,_,rfl,ju,λH1 s1=>?_;exists _,rfl,?_;refine aK (nb w0) ?_;exists s.t,e,st,q0,ls,rfl,hS.tt.to.keep s1,mC.keep (dd:=.ask q0) Lk s1,h5,bN,bc,hok,?_;cases hr0:q0.tells st with
    |txt s=>exact λG sG=>⟨_,rfl,s1.trans sG,.inr (.inr ⟨q0,s,rfl,hr0,rfl⟩)⟩
    |name=>exact λa G y sG=>⟨_,rfl,s1.trans sG,.inl ⟨.name,a,.inl ⟨rfl,hr0⟩,rfl,y⟩⟩
    |yesno=>exact λa G y sG=>⟨_,rfl,s1.trans sG,.inl ⟨.yesno,a,.inr (.inl ⟨rfl,hr0⟩),rfl,y⟩⟩
    |many=>exact λa G y sG=>⟨_,rfl,s1.trans sG,.inl ⟨.many,a,.inr (.inr ⟨rfl,hr0⟩),rfl,y⟩⟩
  ·rintro σ G ⟨x,rfl,sG,hdu⟩;have one:∀{H1:Hp}{y:Str},(1:Nat)<=sizeLine:=fun {_ _}=>by decide
   exists one (H1:=G) (y := ""),λa1 Z6=>⟨one (H1:=G) (y := ""),λa2 Vm=>⟨one (H1:=G) (y := ""),λa3 Ta=>⟨one (H1:=G) (y := ""),λa4 Us=>⟨AM,λa5 R5=>?_⟩⟩⟩⟩;have u1:af G (upd G a1 (.lst [.str "line"])):=af.upd Z6;have y1:upd G a1 (.lst [.str "line"]) a1=some (.lst [.str "line"]):=aq;generalize upd G a1 (.lst [.str "line"])=G1 at *;have u2:af G1 (upd G1 a2 (.lst [.str "name"])):=af.upd Vm;have y2:upd G1 a2 (.lst [.str "name"]) a2=some (.lst [.str "name"]):=aq;generalize upd G1 a2 (.lst [.str "name"])=G2 at *;have u3:af G2 (upd G2 a3 (.lst [.str "yes no"])):=af.upd Ta;have y3:upd G2 a3 (.lst [.str "yes no"]) a3=some (.lst [.str "yes no"]):=aq;generalize upd G2 a3 (.lst [.str "yes no"])=G3 at *;have u4:af G3 (upd G3 a4 (.lst [.str "many"])):=af.upd Us;have y4:upd G3 a4 (.lst [.str "many"]) a4=some (.lst [.str "many"]):=aq;generalize upd G3 a4 (.lst [.str "many"])=G4 at *;have u5:af G4 (upd G4 a5 (.lst [.ref a1,.ref a2,.ref a3,.ref a4])):=af.upd R5;have y5:upd G4 a5 (.lst [.ref a1,.ref a2,.ref a3,.ref a4]) a5=some (.lst ([a1,a2,a3,a4].map V.ref)):=aq;have U5:af G (upd G4 a5 (.lst [.ref a1,.ref a2,.ref a3,.ref a4])):=u1.trans (u2.trans (u3.trans (u4.trans u5)));have m9:ba (upd G4 a5 (.lst [.ref a1,.ref a2,.ref a3,.ref a4])) ([a1,a2,a3,a4].map V.ref) mx:=by
    unfold mx ba;exists _,_,rfl,qL ((u2.trans (u3.trans (u4.trans u5))) _ _ y1),?_;unfold ba;exists _,_,rfl,qL ((u3.trans (u4.trans u5)) _ _ y2),?_;unfold ba;exists _,_,rfl,qL ((u4.trans u5) _ _ y3),?_;unfold ba;exists _,_,rfl,qL (u5 _ _ y4),?_;unfold ba;rfl
   change ∃p as ds e,_
   generalize upd G4 a5 (.lst [.ref a1,.ref a2,.ref a3,.ref a4])=G5 at *;have S5:=sG.trans U5;obtain⟨qs,hL,Fq,bA⟩:=hS.late hW wL;have Eg:=S5 _ _ ju;rcases hdu with ⟨k,a,hk,rfl,ya⟩|⟨c,f,a,rfl,hm,rfl,yT,yB⟩|⟨q0,s',rfl,hs,rfl⟩
   ·exists a5,_,mx,.lst [.str k.wo],rfl,y5,m9,qL (U5 _ _ ya),Cs,?_;rw[Ri];exists e,_,_,_,rfl,Eg,λG6 s6=>⟨_,rfl,?_⟩;have S6:=S5.trans s6;refine eR (λ_=>⟨true,rfl,aK dJ ?_⟩) (λ_=>aK dJ ?_)
    all_goals
     exists _,ay.of (S6 _ _ ju),rfl,zaL (K:=K) (E':=E) (hS.desk.keep S6) hok hk h5 bN bc ue λe7 G7 y7 s7=>?_;have S7:=S6.trans s7;exists .lst [.str k.wo],.lst [.str k.wo],qL y7,qL ((U5.trans (s6.trans s7)) _ _ ya),(by cases k<;>decide),_,rfl,?_;rw[vS];refine aK (by decide) ?_;exists true,rfl,ff ?_;exists _,c8.k (k:=Sum.inr "late") (S7 _ _ hK),.inl ⟨rfl,_,aj.of (S7 _ _ hL)⟩,bK,λq8 Fw=>?_;exists _,(af.upd Fw) _ _ (S7 _ _ hL),bH (by rw[av,Fq];lia),?_;exact q _ st _ (bA S7 Fw he).1 (.inl ⟨rfl,.inr rfl⟩) (bA S7 Fw he).2
   ·exists a5,_,mx,dF f,rfl,y5,m9,(yT.keep U5).is,Cs,?_;rw[YQ];exists e,_,_,_,rfl,Eg,λG6 s6=>⟨_,rfl,?_⟩;have S6:=S5.trans s6;refine aY w0 ⟨false,rfl,aY rfl ?_⟩;obtain⟨Bc,uc⟩:=hok;subst uc;obtain⟨gP,CA,Gk,C4⟩:=Bc.line bN;obtain⟨rg,ht,zQ⟩:=id hS.tt;have gT:rg.length=st.length:=er zQ;have hF:=Xi c f rfl hm;exists _,ay.of (S6 _ _ ju),rfl,s.p,s.d,st,c.line,ls,rfl,hS.desk.keep S6,C4,Gk,h5,bN,bc,by lia,.inl ⟨c,gP,CA,(λz=>by cases qP hm z),(λz=>by cases qP hm z),λf' yL=>?_⟩;cases qP hm yL;exists ⟨aW (hF.len h5) (by decide),λu hu=>px (hF.2.2 u hu) (by decide+kernel)⟩,λKh b H7 hd hb hT s7=>?_;exists .str "ok",.str "ok",cC.mpr rfl,cC.mpr rfl,(by decide),_,rfl,?_;refine aK (by decide) ?_;exists false,rfl,eP ?_;have YF:=hS.keepW (c5.of S6) λx _ o=>S6 x o
    exists e,_,_,_,rfl,(by rw[aJ λz=>k6 QP (by rw[z];exact wd)];exact s7 _ _ (S6 _ _ ju)),λH8 s8=>⟨_,rfl,?_⟩;refine aY w0 ?_;obtain⟨g1,g2,g3⟩:=YF.make (hW.keep S6) wd wt Az hd (S6 _ _ ht) s7 hb hT (yB.keep (c5.of (U5.trans s6)).hb) s8;exists s.t,_,rfl,mI.k (k:=Sum.inr (S c.nm)) g1 (bH (by lia)),?_;exact q _ _ lv g2 (.inr ⟨c,f,rfl,hm,rfl,rfl⟩) λa o z1 z2 z3 h=>g3 a o z1 z2 z3 (S6 _ _ h)
   ·exists a5,_,mx,.str s',rfl,y5,m9,cC.mpr rfl,Cs,?_;rw[Zu];exists e,_,_,_,rfl,Eg,λG6 s6=>⟨_,rfl,?_⟩;have S6:=S5.trans s6;refine aK (nb w0) ?_;obtain⟨ha,hl⟩:=C8 hok;exists _,ay.of (S6 _ _ ju),rfl,s.p,s.d,st,_,ls,rfl,hS.desk.keep S6,ha,aW hl (by decide),h5,bN,bc,by lia,.inr (.inl ⟨q0,Ask.line hok,hok,?_⟩);rw[hs];intro G7 s7;exists .str s',.str s',cC.mpr rfl,cC.mpr rfl,bS _,_,rfl,?_;rw[vS];refine aK (by decide) ?_;exists false,rfl,eP ?_;have S7:=S6.trans s7;exists e,_,_,_,rfl,S7 _ _ ju,λH8 s8=>⟨_,rfl,?_⟩;refine aK (nb w0) ?_;have S8:=S7.trans s8;exact q _ st lv (hS.keepW (c5.of S8) λx _ o=>S8 x o) (.inl ⟨rfl,.inl rfl⟩) λa o _ _ _ h=>S8 _ _ h
def Oi{W:List Addr}{H H':Hp}{w:Addr}(hn:H w=none)(s:af H H'):af (Hb W H) (Hb (w::W) H'):=λa o h=>jw (λz=>by
 rcases aZ.mp z with rfl|z
 ·rw[dD _ _ h]at hn;cases hn
 ·exact k6 h z) (s _ _ (dD _ _ h))
structure Wn(W:List Addr)(H:Hp):Prop where
 nd:W.Nodup
 ok:jt W H
def Wn.keep(h:Wn W H)(s:af H H'):Wn W H':=⟨h.nd,h.ok.keep s⟩
def Wn.add{W:List Addr}{H H':Hp}{w:Addr}(h:Wn W H)(hn:H w=none)(s:af H H')(e:(∃kvs,H' w=some (.dK kvs))\/∃l,H' w=some (.lst l)):Wn (w::W) H':=⟨jB.mpr ⟨h.ok.no hn,h.nd⟩,λx hx=>by
 rcases aZ.mp hx with rfl|z
 ·exact e
 ·exact h.ok.keep s x z⟩
noncomputable def jl(H:Hp)(kd t L:Addr):Hp:=upd (upd (upd (upd H kd (.dK [])) t (.dK [])) L (.lst [])) kd (.dK [(Sum.inr "there",.ref t),(Sum.inr "late",.ref L)])
def Ki(x y:V):sH [] [(Sum.inr "there",x),(Sum.inr "late",y)]=([(Sum.inr "there",x),(Sum.inr "late",y)]:List (bJ×V)):=by
 have e:decide ((Sum.inr (ofString "there"):bJ)=Sum.inr (ofString "late"))=false:=by decide
 show dq ([]++[((Sum.inr (ofString "there"):bJ),x)]) (Sum.inr (ofString "late")) y=_;unfold dq;rw[List.nil_append,md,e];rfl
def Jc{W:List Addr}{H:Hp}{kd t L:Addr}(h1:H kd=none)(h2:upd H kd (.dK []) t=none)(h3:upd (upd H kd (.dK [])) t (.dK []) L=none)(hW:Wn W H) :
  upd (upd (upd H kd (.dK [])) t (.dK [])) L (.lst []) kd=some (.dK [])/\af H (jl H kd t L)/\af (Hb W H) (Hb (L::t::W) (jl H kd t L))/\Hb (L::t::W) (jl H kd t L) kd=some (.dK [(Sum.inr "there",.ref t),(Sum.inr "late",.ref L)])/\jl H kd t L t=some (.dK [])/\jl H kd t L L=some (.lst [])/\Wn (L::t::W) (jl H kd t L):=by
 have n1:t≠kd:=(cP (aq) h2).symm;have n2:L≠t:=(cP (aq) h3).symm;have n3:L≠kd:=(cP (by rw[aJ n1.symm];exact aq) h3).symm;have ht:H t=none:=by rw[aJ n1]at h2;exact h2
 have hL:H L=none:=by rw[aJ n2,aJ n3]at h3;exact h3
 have s:af H (jl H kd t L):=((af.upd h1).trans ((af.upd h2).trans (af.upd h3))).write h1;have e1:jl H kd t L t=some (.dK []):=by unfold jl;rw[aJ n1,aJ n2.symm];exact aq
 have e2:jl H kd t L L=some (.lst []):=by unfold jl;rw[aJ n3];exact aq
 have w1:=hW.add ht s (.inl ⟨_,e1⟩);have sR:=af.refl (jl H kd t L);have w2:Wn (L::t::W) (jl H kd t L):=⟨jB.mpr ⟨λz=>by
  rcases aZ.mp z with y|y
  ·exact n2 y
  ·exact hW.ok.no hL y,w1.nd⟩,λx hx=>by
  rcases aZ.mp hx with rfl|z
  ·exact .inr ⟨_,e2⟩
  ·exact w1.ok x z⟩
 exists by rw[aJ n3.symm,aJ n1.symm];exact aq,s,λa o h=>jw (λz=>?_) (s _ _ (dD _ _ h)),jw (λz=>?_) aq,e1,e2,w2
 ·have y:=dD _ _ h;rcases aZ.mp z with rfl|z
  ·rw[hL]at y;cases y
  ·rcases aZ.mp z with rfl|z
   ·rw[ht]at y;cases y
   ·exact k6 h z
 ·rcases aZ.mp z with y|z
  ·exact n3 y.symm
  ·rcases aZ.mp z with y|z
   ·exact n1 y.symm
   ·exact hW.ok.no h1 z
def wC(s:Sd)(x:Addr):Prop:=x=s.d\/x=s.t\/x=s.L
structure WS(W:List Addr)(s:Nat->Sd):Prop where
 mem:∀j,j<2->(s j).d∈W/\(s j).t∈W/\(s j).L∈W/\(s j).d≠(s j).t
 ne:∀i j,i<2->j<2->i≠j->∀x,wC (s i) x->¬wC (s j) x
 of:∀w∈W,∃j,j<2/\wC (s j) w
structure kS(C:Addr)(W:List Addr)(G:Hp)(nA lA cA dA kA:Addr)(s:Nat->Sd)(eQ:List (List Nat))(ls:List Nat)(cs:List Int)(st:Nat->cH)(lv:Nat->List (List Nat×Dd)):Prop where
 nh:Hb W G nA=some (.lst (eQ.map λx=>V.str (S x)))
 lh:Hb W G lA=some (.lst (cV ls))
 ch:Hb W G cA=some (.lst (cs.map V.int))
 da:Hb W G dA=some (.lst [.ref (s 0).p,.ref (s 1).p])
 ka:Hb W G kA=some (.lst [.ref (s 0).kd,.ref (s 1).kd])
 wk:jt W G
 sd:∀j,j<2->ij C W G (s j) (st j) (lv j)
section
variable{C:Addr}{W:List Addr}{G G':Hp}{nA lA cA dA kA:Addr}{s:Nat->Sd}{eQ:List (List Nat)}{ls:List Nat}{cs:List Int}{st:Nat->cH}{lv:Nat->List (List Nat×Dd)}
def kS.keep(h:kS C W G nA lA cA dA kA s eQ ls cs st lv)(k:af G G'):kS C W G' nA lA cA dA kA s eQ ls cs st lv :=
 have m:=(c5.of k:c5 W G G').hb
 ⟨m _ _ h.nh,m _ _ h.lh,m _ _ h.ch,m _ _ h.da,m _ _ h.ka,h.wk.keep k,λj hj=>(h.sd j hj).keepW (c5.of k) λx _ o=>k x o⟩
noncomputable def sS{α:Type}(f:Nat->α)(j:Nat)(x:α):Nat->α:=λi=>if i=j then x else f i
def WS.same(ws:WS W s)(hj:j<2)(k:wz (s j) G G'):c5 W G G':=λa o n e =>
 have h:=ws.mem j hj
 k a o (λz=>n (by rw[z];exact h.1)) (λz=>n (by rw[z];exact h.2.1)) (λz=>n (by rw[z];exact h.2.2.1)) e
def kS.step(h:kS C W G nA lA cA dA kA s eQ ls cs st lv)(ws:WS W s)(hj:j<2)(hS:ij C W G' (s j) cu ku)(k:wz (s j) G G'):kS C W G' nA lA cA dA kA s eQ ls cs (sS st j cu) (sS lv j ku):=by
 have mw:=ws.same hj k;have m:=mw.hb;have ko:∀i,i<2->i≠j->∀x,wC (s i) x->∀o,G x=some o->G' x=some o:=λi hi z x hx o e=>by
  have y:=ws.ne i j hi hj z x hx;exact k x o (λz=>y (.inl z)) (λz=>y (.inr (.inl z))) (λz=>y (.inr (.inr z))) e
 exists m _ _ h.nh,m _ _ h.lh,m _ _ h.ch,m _ _ h.da,m _ _ h.ka,λw hw=>?_,λi hi=>?_
 ·obtain⟨i,hi,hx⟩:=ws.of w hw;by_cases z:i=j
  ·subst z;rcases hx with rfl|rfl|rfl
   ·obtain⟨kv,e,_⟩:=hS.dd;exact .inl ⟨kv,e⟩
   ·obtain⟨kv,e,_⟩:=hS.tt;exact .inl ⟨kv,e⟩
   ·obtain⟨kv,e,_⟩:=hS.ll;exact .inr ⟨_,e⟩
  ·rcases h.wk w hw with ⟨o,e⟩|⟨o,e⟩
   ·exact .inl ⟨o,ko i hi z w hx _ e⟩
   ·exact .inr ⟨o,ko i hi z w hx _ e⟩
 ·unfold sS;by_cases z:i=j
  ·subst z;rw[aB rfl,aB rfl];exact hS
  ·rw[ax z,ax z];exact (h.sd i hi).keepW mw (ko i hi z)
end
def pR(ls:List Nat)(B:Nat)(f:ar):Prop:=IsForm f/\K5 ls f/\pO B f
def kF(ls:List Nat)(B i:Nat)(st:cH)(lv:List (List Nat×Dd)):Prop:=(∀nf∈st,pR ls B nf.2)/\st.length<=i/\lv.length<=i/\∀x∈lv,oG ls x.1 x.2
def kF.fok(h:kF ls B i st lv)(h5:ls.length<=5)(hB:B*2^32<10^60):∀nf∈st,c7 ls nf.2:=λnf hn=>let ⟨a,b,c⟩:=h.1 nf hn;DD a b h5 c hB
def pR.up(h:pR ls B f)(hB:B<=B'):pR ls B' f:=⟨h.1,h.2.1,λg=>aW (h.2.2 g) hB⟩
def kF.left(h:kF ls B i st lv)(hl:KQ ls st lv n dd cu ku)(hok:oG ls n dd)(hf:∀c f,dd=.mk c->eV ls st c (.form f)->pR ls B' f)(hB:B<=B'):kF ls B' (i+1) cu ku:=by
 obtain⟨h1,h2,h3,h4⟩:=h;have bT:∀nf∈st,pR ls B' nf.2:=λnf hn=>(h1 nf hn).up hB
 rcases hl with ⟨rfl,rfl|rfl⟩|⟨c,f,e,hm,rfl,rfl⟩
 ·nomatch bT,by lia,by lia,h4
 ·exists bT,by lia,(by rw[aS];show _+1<=_;lia),λx hx=>?_;rcases bF.mp hx with z|z
  ·exact h4 x z
  ·rw[bu.mp z];exact hok
 ·have:=VD st n f
  nomatch RJ bT (hf c f e hm),by lia,by lia,h4
def B4(f:Nat->V)(i:Nat):di [f 0,f 1] ((0+(i:Int))%2)=some (f (i%2)):=by
 rcases Nat.mod_two_eq_zero_or_one i with z|z
 ·rw[z,show (0+(i:Int))%2=((0:Nat):Int) by lia];rfl
 ·rw[z,show (0+(i:Int))%2=((1:Nat):Int) by lia];rfl
def gW.hb(h:gW G e c)(hW:jt W G)(hn:∀n t,c=.form n t->∀y a z,G e=some (.tup [y,.ref a,z])->a∉W):gW (Hb W G) e c:=by
 obtain⟨x,h1,h2⟩:=h;exists x,hW.tup _ _ h1,?_;cases c with
 |form n t=>obtain⟨a,f,rfl,hT,hf⟩:=h2;nomatch a,f,rfl,aI.hb hT hW (hn n t rfl _ _ _ h1),hf
 |stat n s=>exact Sm.keepT hW.tup h2
 |_=>obtain⟨q,rfl,h3⟩:=h2;nomatch q,rfl,hW.tup _ _ h3
def bh.short(h:jF ls st c)(hc:c.some):c.line.length<=80:=by
 cases c with
 |form n t=>exact hc.elim
 |stat n s=>exact hc.elim
 |fixd n a k b =>
  have h1:=(cZ h.1).1;have h2:=(cZ h.2.1).1;show (aX 32 [n,[61],ji,a,[97+k],[48+b.toNat]]).length<=80;simp[aX,ji];lia
 |put n a k b =>
  have h1:=(cZ h.1).1;have h2:=(cZ h.2.1).1;have h3:=(cZ h.2.2.1).1;show (aX 32 [n,[61],jk,a,[97+k],b]).length<=80;simp[aX,jk];lia
 |two w n a b =>
  have h1:=(cZ h.1).1;have h2:=(cZ h.2.1).1;have h3:=(cZ h.2.2.1).1;have h4:(gR w).length<=5:=by unfold gR;split<;>(try split)<;>decide
  show (aX 32 [n,[61],gR w,a,b]).length<=80;simp[aX];lia
noncomputable def Dt:List V:=[.str "form",.str "statement"]
def Dd.ends(h:oG ls n dd)(hb:∀l,dd≠.bad l)(bN:∀x∈ls,x<16):(gf (.str dd.wo) Dt=true)\/(gf (.str dd.wo) Dt=false/\dd.l.length<=80/\(∀c∈dd.l,c<128)/\∀x,32∉x->cE (dd.l++32::x)=none/\kM (dd.l++32::x)):=by
 cases dd with
 |bad l=>exact absurd rfl (hb l)
 |ask q =>
  obtain⟨h1,h2⟩:=C8 h;exact .inr ⟨by cases q<;>kernel_rfl,h2,h1,λx hx=>Ask.bad h hx⟩
 |mk c =>
  cases c with
  |form n t=>exact .inl (by kernel_rfl)
  |stat n s=>exact .inl (by kernel_rfl)
  |fixd n a k b=>exact .inr ⟨by kernel_rfl,bh.short h.1 trivial,(h.1.line bN).2.2.2,λx hx=>bh.bad h.1 trivial hx⟩
  |put n a k b=>exact .inr ⟨by kernel_rfl,bh.short h.1 trivial,(h.1.line bN).2.2.2,λx hx=>bh.bad h.1 trivial hx⟩
  |two w n a b =>
   have hw:=h.1.2.2.2.1;refine .inr ⟨?_,bh.short h.1 trivial,(h.1.line bN).2.2.2,λx hx=>bh.bad h.1 trivial hx⟩;obtain rfl|rfl|rfl:w=0\/w=1\/w=2:=by omega
   all_goals kernel_rfl
noncomputable def FU:List V:=[.str " A",.str " -1",.str " 00",.str " "]
def zag(z:Int):∃y,32∉y/\y.length<=2/\(∀c∈y,c<128)/\di FU (z%4)=some (.str (S (32::y))):=by
 have key:∀k:Nat,k<4->∃y∈[[65],[45,49],[48,48],[]],FU[k]?=some (.str (S (32::y))):=λk hk=>by
  obtain rfl|rfl|rfl|rfl:k=0\/k=1\/k=2\/k=3:=by lia
  ·exact⟨[65],by decide,by kernel_rfl⟩
  ·exact⟨[45,49],by decide,by kernel_rfl⟩
  ·exact⟨[48,48],by decide,by kernel_rfl⟩
  ·exact⟨[],by decide,by kernel_rfl⟩
 obtain⟨y,hy,e⟩:=key (z%4).toNat (by lia);have h:∀y∈([[65],[45,49],[48,48],[]]:List (List Nat)),32∉y/\y.length<=2/\∀c∈y,c<128:=by decide
 obtain⟨h1,h2,h3⟩:=h y hy;exists y,h1,h2,h3,?_;rw[show z%4=(((z%4).toNat:Nat):Int) by lia];exact bo e
def kF.up(h:kF ls B i st lv)(hi:i<=i'):kF ls B i' st lv:=⟨h.1,aW h.2.1 hi,aW h.2.2.1 hi,h.2.2.2⟩
def YR{α β:Type}{R:α->β->Prop}{l:List α}{m:List β}{i:Nat}{p:α}(h:Paired R l m)(e:l[i]?=some p):∃x,x∈m/\R p x:=by
 induction h generalizing i with
 |nil=>cases e
 |cons j8 _ ih =>
  cases i with
  |zero=>cases e;nomatch _,ng,j8
  |succ i=>obtain⟨x,h1,h2⟩:=ih e;nomatch x,eJ _ h1,h2
def Ib:("show " : Str)=S [115,104,111,119,32]:=by decide+kernel
def Ready(W:List Addr)(G:Hp)(ls:List Nat)(st:cH)(n:List Nat)(e:Addr)(dd:Dd):Prop:=mC (Hb W G) e dd/\oG ls n dd/\∀c f,dd=.mk c->eV ls st c (.form f)->pR ls (10^44) f
def Ready.keep(h:Ready W G ls st n e dd)(s:af G G'):Ready W G' ls st n e dd:=⟨h.1.keep (c5.of s).hb,h.2⟩
def zby:(["_law_one"]:List Str).Nodup:=by decide+kernel
def S0(T:Txt w K mg):oB.Ok P w K mg base 103 (Jr K):=by
  refine Rw.ok T.d_law.F T.d_law.S ?_;rintro vs H Q E ⟨a,ns,rfl,hS,aH,LS,kq⟩;refine⟨rfl,fun _ _ _ _ hr hu nd=>⟨_,(ak (aD 1 nd (aC T.d_Z39 (Qw T) hr.m (aa (aC T.d_Z27 (Rl T) hr.m (aa (pV 0) (aa ai ag))) (aa ai ag)))) (ak (aD 2 nd (aC T.d_Z40 (Uj T) hr.m (aa (pV 1) ag))) (ak (aD 3 nd (bD (RE rfl) (by rfl) T.n_sorted Am (aa (aC T.d_Z35 (Yw T) hr.m (aa (az gU.c (pV 1) ai) (aa (az fz.j ai (az bQ.c (az gU.c (pV 1) ai) ai)) ag))) ag)))
   (ak (aD 4 nd (bq (aa (O8 T.mk_Desk (Pt T) hr.m rfl T.g_Desk T.d_Desk_init.b .nil HN) (aa (O8 T.mk_Desk (Pt T) hr.m rfl T.g_Desk T.d_Desk_init.b .nil HN) ag)))) (ak (aD 5 nd (bq (aa (NK (yZ au qF (yZ au (bq ag) Mx)) rfl rfl (by intro z;cases z) (by decide)) (aa (NK (yZ au qF (yZ au (bq ag) Mx)) rfl rfl (by intro z;cases z) (by decide)) ag))))
   (ak (aD 6 nd (k7 qK (pV 0) (iu ai) (iu ai)))
   (ak (eK df rfl (kB rfl T.n_range (aa (bD gd (by rfl) T.n_len dI (aa (pV 6) ag)) ag)) (aN 7 nd)
    (ak (aD 8 nd (aC T.d_Z55 (Rg T) hr.m (aa (xL (pV 6) (pV 7)) (aa (az fz.j (pV 7) ai) ag)))) (ak (qm (aC T.d_Z38 (zcy T) hr (aa (gM hu (xL (pV 5) (az bQ.c (pV 7) ai)) au) (aa (pV 2) (aa (pV 3) (aa (pV 8) ag))))) (ig (n:=2) rfl (cL (aN 9 nd) (cL (aN 10 nd) ik)))) (ak (ke (bp (a7 aV (az bQ.c (xL (pV 8) ai) ai) ai) (ao (aD 10 nd (aC T.d_Z46 (zbj T) hr.m (aa (pV 2) (aa (pV 8) ag))))) aM)) (ak (ke (bp (PW.pt (iO (a7 aV (az bQ.c (xL (pV 8) ai) ai) ai) (jy (nJ zcs (xT (pV 10) ai) (bq (aa au (aa au ag))) rfl)))) (ao (aD 10 nd (bz (aa au (aa iP (aa (az gc (xT (pV 10) ai) (xL (bq (aa au (aa au (aa au (aa au ag))))) (az bQ.c (xL (pV 8) ai) ai))) ag)))))) aM)) (ao (bp (kn (gk (aC T.d_Z54 (JJ T) hr.m (aa (xL (pV 4) (az bQ.c (pV 7) ai)) (aa (xL (pV 5) (az bQ.c (pV 7) ai)) (aa (pV 9) (aa (pV 10) ag))))))) (ao (aA oS)) aM)))))))
   (ak (eK df rfl (kB rfl T.n_range (aa ai ag)) (aN 7 nd) (ak (aD 11 nd (k7 qK (eO (g:=(a8 0)) ["_law_one"] 1 [] rfl (dC oB) (dj (gM hu (xL (pV 5) (pV 7)) au)) (λcl C s₀ H₀ fp=>(aN 0 zby)) (λcl C s₀ H₀ fp=>(iJ (a7 jM (mh (Qe K rfl) (mh (Qe K rfl) (pV 0) ai) ai) au))) (λcl C s₀ H₀ fp=>(pV 0))) nB (iu ai))) (ao (eK df rfl (dj (az tj (pV 11) (bq (aa (bz (aa (xL (pV 2) ai) (aa (bz (aa au (aa (bz (aa (xL (pV 2) ai) ag)) (aa (az gc au (xL (pV 2) ai)) ag)))) ag))) ag)))) (ig (n:=2) rfl (cL (aN 9 nd) (cL (aN 10 nd) ik))) (ao (bp (kn (gk (aC T.d_Z54 (JJ T) hr.m (aa (xL (pV 4) (pV 7)) (aa (xL (pV 5) (pV 7)) (aa (pV 9) (aa (pV 10) ag))))))) (ao (aA oS)) aM)))))) (ao (aA oS)))))))))),?_⟩⟩
  refine sh λN0 g0=>?_
  exists a,ns,0,rfl,hS,_,1,rfl,by decide,by decide,λr r0 r1=>?_;refine g0 _ _ (sh λN1 g1=>?_);exists r,rfl,r0,λnA eQ H1 hN jh nM s1=>?_;refine g1 _ _ (sh λN2 g2=>?_);have m0:=iC (r/16) (show (4:Int)≠0 by decide);have m1:=iz (r/16) (show (0:Int)<4 by decide);obtain⟨mo,em,Vb⟩:∃mo:Nat,1+r/16%4=(mo:Int)/\1<=mo/\mo<=4:=⟨(1+r/16%4).toNat,by lia,by lia,by lia⟩;exists iU (by decide) (by decide),iU (by decide) (by decide),(by show (0:Int)<4;decide),r/64,mo,(by show [V.int (r/64),V.int (1+r/16%4)]=_;rw[em]),by lia,λl0 Oj H2 iq FJ T4 UJ hll0 s2=>?_;exists l0,Oj.map λk:Nat=>(k:Int),rfl,aj.of (by rw[FJ];unfold cV;rw[fE];rfl),(by rw[av];lia),λlA iF Z9 KN _=>?_;obtain⟨ls,vL,cD⟩:∃ls:List Nat,iF.map V.int=cV ls/\ls.Perm Oj:=by
   exists iF.map Int.toNat,?_,?_
   ·unfold cV;rw[fE];refine xU λz hz=>?_
    obtain⟨k,_,rfl⟩:=bW.mp (KN.mem_iff.mp hz);rfl
   ·have:=KN.map Int.toNat
    rw[fE,show (Int.toNat ∘ λk:Nat=>(k:Int))=id from funext λk=>rfl,List.map_id]at this;exact this
  have rE:=cD.nodup_iff.mpr T4;have cM:∀x∈ls,x<16:=λx hx=>UJ x (cD.mem_iff.mp hx)
  have j3:ls.length=mo:=cD.length_eq.trans hll0;generalize eU:upd H2 lA _=H3;obtain⟨s3,hL⟩:=nw eU Z9;rw[vL]at hL;have S3:=s1.trans (s2.trans s3);have bt:ls.length<=5:=by lia
  refine g2 _ _ (sh λN3 g3=>?_);refine λp0 Vv GF Tf hne0=>⟨p0,Vv,rfl,aq,λd0 H4 pW ZM qU=>⟨rfl,?_⟩⟩
  refine λp1 VZ dM YU hne1=>⟨p1,VZ,rfl,aq,λd1 H5 lV zd zF=>⟨rfl,?_⟩⟩
  have de:∀{H H':Hp}{p d dx:Addr},H p=none->H dx=none->upd (upd H dx (.own p)) p (.ins d7 dx []) d=none->(∀b o,upd (upd H dx (.own p)) p (.ins d7 dx []) b=some o->b≠p->H' b=some o)->af H H'/\H d=none:=fun {H H' p d dx} h1 h2 h3 h4=>by
   have s:af H H':=λb o hb=>h4 b o (by rw[aJ (cP hb h1),aJ (cP hb h2)];exact hb) (cP hb h1)
   exists s,?_;cases z:H d with
   |none=>rfl
   |some o=>rw[aJ (cP z h1),aJ (cP z h2),z]at h3;cases h3
  obtain⟨s4,f0⟩:=de GF Tf pW qU;obtain⟨s5,f1⟩:=de dM YU lV zF;obtain⟨⟨ox0,o0⟩,kv0,e0,q0⟩:=ZM;obtain⟨⟨ox1,o1⟩,kv1,e1,q1⟩:=zd;cases q0;cases q1;have Ov:Wn [d0] H4:=Wn.add ⟨Bu,λw hw=>by cases hw⟩ f0 s4 (.inl ⟨_,e0⟩);have Cw:=Ov.add f1 s5 (.inl ⟨_,e1⟩);have ins:∀{W:List Addr}{H:Hp}{p dx:Addr}{fs:List (Str×V)},jt W H->H p=some (.ins d7 dx fs)->Hb W H p=some (.ins d7 dx fs):=λhW h=>jw (λz=>by
   rcases hW _ z with ⟨_,y⟩|⟨_,y⟩<;>(rw[h]at y;cases y)) h
  have b4:af (Hb [] H3) (Hb [d0] H4):=Oi f0 s4;have b5:af (Hb [d0] H4) (Hb [d1,d0] H5):=Oi f1 s5;have i0:=b5 _ _ (ins Ov.ok o0);have i1:=ins Cw.ok o1;exists bK,λdA Jo=>?_;generalize eU:upd H5 dA _=H6;obtain⟨s6,y6⟩:=nw eU Jo;have Sl:=Cw.keep s6;have b6:af (Hb [d1,d0] H5) (Hb [d1,d0] H6):=(c5.of s6).hb;have iA:=jw (Cw.ok.no Jo) y6;refine g3 _ _ (sh λN4 g4=>?_);refine λk0 qU t0 ht0=>⟨bS _,λL0 FJ=>?_⟩
  obtain⟨c0,s7,b7,MI,x0,z0,P5⟩:=Jc qU ht0 FJ Sl;exists c0,[(Sum.inr "there",.ref t0),(Sum.inr "late",.ref L0)],rfl,(by show 2<=15;decide),?_;generalize eU:upd (upd (upd (upd H6 k0 _) t0 _) L0 _) k0 _=H7;rw[Ki]at eU;rw[show jl H6 k0 t0 L0=H7 from eU]at s7 b7 MI x0 z0 P5;refine λk1 zF t1 bg=>⟨bS _,λL1 ZK=>?_⟩
  obtain⟨c1,s8,b8,QL,x1,z1,FE⟩:=Jc zF bg ZK P5;exists c1,[(Sum.inr "there",.ref t1),(Sum.inr "late",.ref L1)],rfl,(by show 2<=15;decide),?_;generalize eU:upd (upd (upd (upd H7 k1 _) t1 _) L1 _) k1 _=H8;rw[Ki]at eU;rw[show jl H7 k1 t1 L1=H8 from eU]at s8 b8 QL x1 z1 FE;exists bK,λkA Kn=>?_;generalize eU:upd H8 kA _=H9;obtain⟨s9,y9⟩:=nw eU Kn;refine g4 _ _ (sh λN5 g5=>?_);exists a,_,rfl,(S3.trans (s4.trans (s5.trans (s6.trans (s7.trans (s8.trans s9)))))).seq hS,λcA QG=>?_;obtain⟨cs,Si,jv⟩:∃cs:List Int,gq (ns.map V.int) (some 1) (some 63)=cs.map V.int/\cs.length<=ns.length:=by
   unfold gq;rw[<-EM,<-EC];exact⟨_,rfl,by rw[dY,ml];lia⟩
  generalize eU:upd H9 cA _=H10;obtain⟨Bj,MP⟩:=nw eU QG;rw[Si]at MP;obtain⟨sd,o7,nU⟩:∃s:Nat->Sd,s 0=⟨p0,d0,k0,t0,L0⟩/\s 1=⟨p1,d1,k1,t1,L1⟩:=⟨λj=>if j=0 then ⟨p0,d0,k0,t0,L0⟩else ⟨p1,d1,k1,t1,L1⟩,rfl,rfl⟩;have two:∀{j:Nat},j<2->j=0\/j=1:=λh=>by lia
  have nd:=FE.nd;obtain⟨W,eW⟩:∃W,W=[L1,t1,L0,t0,d1,d0]:=⟨_,rfl⟩;have ws:WS W sd:=by
   rw[eW];simp only[jB,aZ,jT,jS,not_or]at nd;obtain⟨⟨n1,n2,n3,n4,n5⟩,⟨n6,n7,n8,n9⟩,⟨m1,m2,m3⟩,⟨m4,m5⟩,m6,_⟩:=nd;have key:∀x,(x=d0\/x=t0\/x=L0)->(x=d1\/x=t1\/x=L1)->False:=by
    rintro x (rfl|rfl|rfl) (z|z|z)
    ·exact m6 z.symm
    ·exact n9 z.symm
    ·exact n5 z.symm
    ·exact m4 z
    ·exact n7 z.symm
    ·exact n3 z.symm
    ·exact m2 z
    ·exact n6 z.symm
    ·exact n2 z.symm
   exists λj hj=>?_,λi j hi hj sI x hx hy=>?_,λw hw=>?_
   ·rcases two hj with rfl|rfl
    ·rw[o7];nomatch by simp,by simp,by simp,λz=>m5 z.symm
    ·rw[nU];nomatch by simp,by simp,by simp,λz=>n8 z.symm
   ·unfold wC at hx hy;rcases two hi with rfl|rfl<;>rcases two hj with rfl|rfl
    ·exact sI rfl
    ·rw[o7]at hx;rw[nU]at hy;exact key x hx hy
    ·rw[nU]at hx;rw[o7]at hy;exact key x hy hx
    ·exact sI rfl
   ·simp only[aZ,jT,jS]at hw;rcases hw with rfl|rfl|rfl|rfl|rfl|rfl
    ·nomatch 1,by decide,.inr (.inr (by rw[nU]))
    ·nomatch 1,by decide,.inr (.inl (by rw[nU]))
    ·nomatch 0,by decide,.inr (.inr (by rw[o7]))
    ·nomatch 0,by decide,.inr (.inl (by rw[o7]))
    ·nomatch 1,by decide,.inl (by rw[nU])
    ·nomatch 0,by decide,.inl (by rw[o7])
  have b9:af (Hb [L1,t1,L0,t0,d1,d0] H8) (Hb W H10):=by rw[eW];exact (c5.of (s9.trans Bj)).hb
  have S7:=b7.trans (b8.trans b9);have Eh:Wn W H8:=by rw[eW];exact FE
  have wn10:=Eh.keep (s9.trans Bj);have Ml:kS d7 W H10 nA lA cA dA kA sd eQ ls cs (λ_=>[]) λ_=>[]:=by
   have B:=b4.trans (b5.trans (b6.trans S7));exists B _ _ (jw (by simp) ((s2.trans s3) _ _ hN)),B _ _ (jw (by simp) hL),jw ((Eh.keep s9).ok.no QG) MP,by rw[o7,nU];exact S7 _ _ iA,?_,wn10.ok,λj hj=>?_
   ·rw[o7,nU];exact jw (Eh.ok.no Kn) (Bj _ _ y9)
   ·have t9:=s9.trans Bj;have t7:=s6.trans (s7.trans (s8.trans t9));rcases two hj with rfl|rfl
    ·rw[o7];nomatch ⟨_,S7 _ _ (b6 _ _ i0)⟩,(b8.trans b9) _ _ MI,⟨_,(s5.trans t7) _ _ e0,.nil⟩,⟨_,(s8.trans t9) _ _ x0,.nil⟩,[],(s8.trans t9) _ _ z0,.nil
    ·rw[nU];nomatch ⟨_,S7 _ _ (b6 _ _ i1)⟩,b9 _ _ QL,⟨_,t7 _ _ e1,.nil⟩,⟨_,t9 _ _ x1,.nil⟩,[],t9 _ _ z1,.nil
  refine g5 _ _ (sh λN6 g6=>?_);exists cA,_,rfl,.inl (aj.of (dD _ _ Ml.ch)),((cs.map V.int).length:Int),rfl,by lia,by rw[av];omega,?_;have Cp:∀{xs:List Int},xs.length=12->∀i:Nat,i<12->∃z:Int,di (xs.map V.int) (i:Int)=some (V.int z):=fun {xs} hl i hi=>⟨xs[i]'(by lia),bo (by rw[dE,eC (by omega)];rfl)⟩
  refine pI (n:=(cs.map V.int).length) (λi σ G=>∃(st:Nat->cH) (lv:Nat->List (List Nat×Dd)) (v7 v8 v9 v10 v11:Option V),σ=[some (.ref a),some (.int r),some (.ref nA),some (.ref lA),some (.ref dA),some (.ref kA),some (.ref cA),v7,v8,v9,v10,v11]/\kS d7 W G nA lA cA dA kA sd eQ ls cs st lv/\∀j,j<2->kF ls (10^44) i (st j) (lv j))
   ⟨_,_,none,none,none,none,none,rfl,Ml,λj _=>⟨(λnf h=>by cases h),aO _,aO _,λx h=>by cases h⟩⟩ ?_ ?_
  ·rintro i σ G hi ⟨st,lv,v7,v8,v9,v10,v11,rfl,hJ,hG⟩;rw[av]at hi;obtain⟨x,hx⟩:∃x,cs[i]?=some x:=⟨_,eC hi⟩;have mT:di (cs.map V.int) (0+(i:Int))=some (V.int x):=by rw[rB];exact bo (by rw[dE,hx];rfl)
   have hj:i%2<2:=ub _ (by decide);have bc:=(hG _ hj).fok bt (by decide+kernel);refine sh λN8 g8=>?_
   exists V.int x,aj.of (dD _ _ hJ.ch),mT,x,(0+(i:Int))+1,rfl,by lia,λX xs G1 hX LP r9 t1=>?_;refine g8 _ _ (sh λN9 g9=>?_);have qT:=hJ.keep t1;exists (by show (0:Int)<2;decide),_,aj.of (dD _ _ qT.ka),B4 (λj=>.ref (sd j).kd) i,_,c8.k (k:=Sum.inr "there") (dD _ _ (qT.sd _ hj).kd),(sd (i%2)).t,nA,lA,X,st (i%2),eQ,ls,xs,rfl,(qT.sd _ hj).tt.to,dD _ _ qT.nh,dD _ _ qT.lh,LP,bc,⟨jh,nM⟩,⟨rE,by lia,bt,cM⟩,⟨r9.1,λx hx=>(r9.2 x hx).1⟩,λp2 e c G2 cm hde Bc uc Ff t2=>?_;have pM:=qT.keep t2;exists _,ay.of cm,rfl,?_;refine g9 _ _ (sh λN10 RZ=>?_);have kR:Ready W G2 ls (st (i%2)) c.nm e (.mk c):=⟨gW.hb hde pM.wk λn t z y a' z' w=>qT.wk.no (Ff n t z y a' z' w),⟨Bc.bare,rfl⟩,λc' f e hm=>by cases e;exact Bc.lowM cM bt bc hm⟩;have zA:=t2 _ _ LP;obtain⟨vJ,zM⟩:=Cp r9.1 11 (by decide);obtain⟨x7,e7⟩:=Cp r9.1 7 (by decide);obtain⟨x6,e6⟩:=Cp r9.1 6 (by decide);exists λσ G=>∃(e:Addr) (dd:Dd),σ=[some (.ref a),some (.int r),some (.ref nA),some (.ref lA),some (.ref dA),some (.ref kA),some (.ref cA),some (.int (0+(i:Int))),some (.ref X),some (.str (S c.nm)),some (.ref e),v11]/\kS d7 W G nA lA cA dA kA sd eQ ls cs st lv/\Ready W G ls (st (i%2)) c.nm e dd/\(∀l,dd≠.bad l)/\G X=some (.lst (xs.map V.int)),?_,?_
   ·exists _,aj.of zA,zM,(by show (0:Int)<2;decide),_,rfl,?_;refine eR (λ_=>?_) λ_=>⟨e,.mk c,rfl,pM,kR,(λl z=>by cases z),zA⟩
    exists nA,X,eQ,xs,rfl,dD _ _ pM.nh,zA,jh,nM,r9.1,r9.2,λe3 q3 G3 hA hok s3=>?_;have qx:=pM.keep s3;obtain⟨p3,a1,a2⟩:=hA;nomatch e3,.ask q3,rfl,qx,⟨⟨p3,qx.wk.tup _ _ a1,qx.wk.tup _ _ a2⟩,hok,λc f z=>by cases z⟩,(λl z=>by cases z),s3 _ _ zA
   rintro σ G3 ⟨e,dd,rfl,qx,kR,Rn,Im⟩;refine RZ _ _ (sh λN11 SU=>?_);exists λσ G=>∃(e:Addr) (dd:Dd),σ=[some (.ref a),some (.int r),some (.ref nA),some (.ref lA),some (.ref dA),some (.ref kA),some (.ref cA),some (.int (0+(i:Int))),some (.ref X),some (.str (S c.nm)),some (.ref e),v11]/\kS d7 W G nA lA cA dA kA sd eQ ls cs st lv/\Ready W G ls (st (i%2)) c.nm e dd,?_,?_
   ·exists _,aj.of Im,e7,(by show (0:Int)<8;decide),_,rfl,?_;refine eR (λ_=>?_) λ_=>⟨e,dd,rfl,qx,kR⟩
    obtain⟨x0,ju⟩:=kR.1.tup;have fL:=dD _ _ ju;exists _,ay.of fL,rfl,bK,λl5 Hg=>⟨l5,Dt,rfl,.inl (aj.of aq),rfl,rfl,_,rfl,?_⟩;generalize eU:upd G3 l5 _=G5;have s5:=(nw eU Hg).1;have RF:=qx.keep s5;rcases Dd.ends kR.2.1 Rn cM with z|⟨z,l1,l2,l3⟩
    ·refine aK (by rw[z];decide) ⟨e,dd,rfl,RF,kR.keep s5⟩
    refine aY (by rw[z];decide) ?_;obtain⟨y,y1,y2,y3,y4⟩:=zag x6;exists _,ay.of (s5 _ _ fL),rfl,?_;exists AM,λl6 Bp=>?_;generalize eU:upd G5 l6 _=G6;have s6:=(nw eU Bp).1;have w6:G6 l6=some (.lst FU):=(nw eU Bp).2;have S6:=s5.trans s6;exists _,aj.of (S6 _ _ Im),e6,(by show (0:Int)<4;decide),_,aj.of w6,y4,_,_,rfl,rfl,?_,?_
    ·rw[aG,aG,br];exact aW (show _<=100 by lia) (by decide)
    exists cY,λp7 Ij=>?_;obtain⟨r1,r2⟩:=l3 y y1;refine⟨p7,.bad (dd.l++32::y),rfl,qx.keep (S6.trans (af.upd Ij)),jw ((qx.wk.keep S6).no Ij) (by rw[aq,cG]),⟨r1,r2,λc hc=>?_,(by rw[aS,br];lia)⟩,λc f z=>by cases z⟩;rcases bF.mp hc with w|w
    ·exact l2 c w
    ·rcases aZ.mp w with rfl|w
     ·decide
     ·exact y3 c w
   rintro σ G4 ⟨e,dd,rfl,uZ,kR⟩;refine SU _ _ ?_;exists (by show (0:Int)<2;decide),_,aj.of (dD _ _ uZ.da),B4 (λj=>.ref (sd j).p) i,(by show (0:Int)<2;decide),_,aj.of (dD _ _ uZ.ka),B4 (λj=>.ref (sd j).kd) i,W,sd (i%2),e,st (i%2),lv (i%2),dd,c.nm,ls,rfl,uZ.sd _ hj,uZ.wk,ws.mem _ hj,(by have:=(hG _ hj).2.2.1;lia),kR.1,bt,cM,bc,(by have:=(hG _ hj).2.1;lia),kR.2.1,(λc f z hm=>let ⟨f1,f2,f3⟩:=kR.2.2 c f z hm;DD f1 f2 bt f3 (by decide+kernel)),λG5 cu ku E4 hl hk=>?_;exists true,rfl,eP ?_;exists _,_,_,_,_,_,_,rfl,uZ.step ws hj E4 hk,λj jm=>?_;unfold sS;by_cases z:j=i%2
   ·rw[aB z,aB z];exact (hG _ hj).left hl kR.2.1 kR.2.2 (aO _)
   ·rw[ax z,ax z];exact (hG j jm).up (BY _)
  ·rintro σ G ⟨st,lv,v7,v8,v9,v10,v11,rfl,hJ,hG⟩;refine g6 _ _ (sh λN7 g7=>?_);rw[av]at hG;exists 2,rfl,by decide,by decide,?_;refine pI (n:=(2:Int).toNat) (λk σ G=>∃(st:Nat->cH) (lv:Nat->List (List Nat×Dd)) (v7 v8 v9 v10 v11:Option V),σ=[some (.ref a),some (.int r),some (.ref nA),some (.ref lA),some (.ref dA),some (.ref kA),some (.ref cA),v7,v8,v9,v10,v11]/\kS d7 W G nA lA cA dA kA sd eQ ls cs st lv/\∀j,k<=j->j<2->kF ls (10^44) 63 (st j) (lv j))
    ⟨st,lv,_,_,_,_,_,rfl,hJ,λj _ hj=>(hG j hj).up (by lia)⟩ ?_ ?_
   ·rintro k σ G hk ⟨st,lv,v7,v8,v9,v10,v11,rfl,hJ,hG⟩;have eE:k<2:=hk;have hS:=hJ.sd k eE;have pq:=hG k (aO _) eE;obtain⟨qs,hL,hP⟩:=hS.ll;have Fq:qs.length=(lv k).length:=er hP;have hl63:=pq.2.2.1;have GO:∀f:Nat->V,di [f 0,f 1] (0+(k:Int))=some (f k):=λf=>by
     rcases two eE with rfl|rfl<;>rfl
    refine sh λN12 V7=>?_
    exists _,aj.of (dD _ _ hJ.ka),GO (λj=>.ref (sd j).kd),_,c8.k (k:=Sum.inr "late") (dD _ _ hS.kd),?_;exists ⟨_,aj.of hL⟩,?_;refine jj (K:=K) (a:=(sd k).L) (xs:=qs.map V.ref) (λi ys σ G'=>∃(v0:Option V) (q2:List Addr),σ=[v0]/\ys=q2.map V.ref/\q2.length<=i/\(∀q∈q2,∃x,x∈lv k/\wU (Hb W G) q x/\x.2.wo ≠ "times")/\G'=G)
     ⟨none,[],rfl,rfl,aO _,(λq h=>by cases h),rfl⟩ (λi ys σ G' hi ⟨_,q2,_,e1,e2,_,e3⟩=>⟨by rw[e3];exact aj.of hL,by rw[e1,av];exact e2⟩) (by rw[av];exact cj (bH (by lia))) ?_ ?_
    ·rintro i y ys σ G' hi ⟨v0,q2,rfl,rfl,JV,hq,rfl⟩;obtain⟨p,c6,rfl⟩:=fY hi;obtain⟨x,xX,hx⟩:=YR hP c6;obtain⟨e,Df,XF⟩:=id hx;obtain⟨x0,ju⟩:=XF.tup;exists _,ay.of (dD _ _ Df),rfl,_,ay.of (dD _ _ ju),rfl,_,rfl,?_;by_cases z:x.2.wo = "times"
     ·exact aK (by simp[z]) ⟨_,q2,rfl,rfl,by lia,hq,rfl⟩
     ·refine aY (by simp[z]) ⟨_,q2++[p],rfl,(by rw[aT];rfl),(by rw[aS];show _+1<=_;lia),λq d9=>?_,rfl⟩;rcases bF.mp d9 with w|w
      ·exact hq q w
      ·rw[bu.mp w];nomatch x,xX,hx,z
    ·rintro ys σ G' ⟨v0,q2,rfl,rfl,JV,hq,rfl⟩ D hD;obtain⟨q3,e3,h3l,h3⟩:∃q3:List Addr,gq (q2.map V.ref) none (some 5)=q3.map V.ref/\q3.length<=5/\∀q∈q3,q∈q2:=by
      unfold gq;rw[<-EM,<-EC];exists _,rfl,?_,λq hq=>zx (List.mem_of_mem_take hq);rw[dY,show HT.sIx (q2.map V.ref).length (q2.map V.ref).length (some 5)=_ from HT.sIx_nat _ _ 5];lia
     exists D,_,rfl,aj.of aq,λE2 hE2=>?_;generalize eU:upd _ E2 _=G2;obtain⟨s2,w2⟩:=nw eU hE2;rw[e3]at w2
     replace s2:=(af.upd hD).trans s2
     refine V7 _ _ ?_;have pM:=hJ.keep s2;obtain⟨n0,T9,mK⟩:∃n0,eQ[0]?=some n0/\bb n0=true:=⟨eQ[0]'(by lia),eC _,nM _ (jH _)⟩;have nat:di (eQ.map λx=>V.str (S x)) 0=some (V.str (S n0)):=bo (j:=0) (by rw[dE,T9];rfl);have CP:=dD _ _ pM.nh;exists _,aj.of CP,nat,_,aj.of CP,nat,du,λp5 hp5=>?_;generalize eU:upd G2 p5 _=G5;obtain⟨s5,w5⟩:=nw eU hp5;exists _,aj.of (s5 _ _ CP),nat,_,_,rfl,rfl,?_,?_
     ·have:=(cZ mK).1
      rw[Ib,aG,aG];exact aW (show 5+n0.length<=100 by lia) (by decide)
     exists cY,λe6 he6=>?_;generalize eU:upd G5 e6 _=G6;obtain⟨s6,w6⟩:=nw eU he6;rw[Ib,cG]at w6;exists bK,λq7 RQ=>?_;generalize eU:upd G6 q7 _=G7;obtain⟨s7,w7⟩:=nw eU RQ;exists du,λl8 MF=>?_;generalize eU:upd G7 l8 _=G8;obtain⟨s8,w8⟩:=nw eU MF;have S8:=s5.trans (s6.trans (s7.trans s8));exists E2,l8,_,_,rfl,rfl,S8 _ _ w2,w8,(by rw[av];exact cj (bH (by show q3.length+1<=_;lia))),λa9 DN=>?_;generalize eU:upd G8 a9 _=G9;have s9:=(nw eU DN).1;have w9:G9 a9=some (.lst ((q3++[q7]).map V.ref)):=by rw[(nw eU DN).2,aT];rfl
     have S9:=S8.trans s9;have OO:=pM.keep S9;have v9':Hb W G9 a9=some (.lst ((q3++[q7]).map V.ref)):=jw ((pM.wk.keep S8).no DN) w9;have ah:∀q∈q3++[q7],∃x:List Nat×Dd,wU (Hb W G9) q x/\oG ls x.1 x.2/\x.2.wo ≠ "times" := λq d9=>by
      rcases bF.mp d9 with z|z
      ·obtain⟨x,x1,⟨e,x2,x3⟩,x4⟩:=hq q (h3 q z);have m:=(c5.of (s2.trans S9):c5 W G' G9).hb;nomatch x,⟨e,m _ _ x2,x3.keep m⟩,pq.2.2.2 x x1,x4
      ·rw[bu.mp z];have wt:=OO.wk.tup;exact⟨(n0,.ask (.shw n0)),⟨e6,wt _ _ ((s8.trans s9) _ _ w7),p5,wt _ _ ((s7.trans (s8.trans s9)) _ _ w6),wt _ _ ((s6.trans (s7.trans (s8.trans s9))) _ _ w5)⟩,mK,by show ofString "show" ≠ ofString "times";decide⟩
     exists ⟨_,aj.of w9⟩,?_;refine jK (K:=K) (a:=a9) (xs:=(q3++[q7]).map V.ref) (λi σ G=>∃(st:Nat->cH) (lv:Nat->List (List Nat×Dd)) (v9 v10:Option V),σ=[some (.ref a),some (.int r),some (.ref nA),some (.ref lA),some (.ref dA),some (.ref kA),some (.ref cA),some (.int (0+(k:Int))),v8,v9,v10,some (.ref E2)]/\kS d7 W G nA lA cA dA kA sd eQ ls cs st lv/\af (Hb W G9) (Hb W G)/\kF ls (10^44*2^i) (63+i) (st k) (lv k)/\∀j,k+1<=j->j<2->kF ls (10^44) 63 (st j) (lv j))
      ⟨st,lv,_,_,rfl,OO,af.refl _,pq,λj hj=>hG j (Nat.le_of_succ_le hj)⟩ (λi σ G hi ⟨_,_,_,_,_,_,sB,_⟩=>aj.of (dD _ _ (sB _ _ v9'))) ?_ ?_
     ·rintro i y σ G hi ⟨st,lv,v9,v10,rfl,hJ,sB,pq,hG⟩;obtain⟨q,sQ,rfl⟩:=fY hi;have hi6:i<6:=by
       have:=(dS.mp sQ).1
       rw[aS]at this
       have:i<q3.length+1:=this
       lia
      obtain⟨⟨n,dd⟩,⟨e,x1,x2⟩,hok,VW⟩:=ah q (dr sQ);have hB:10^44*2^i<=10^44*2^6:=B2 _ (dX (by decide) (by lia));have bc:=pq.fok bt (lB (lS _ hB) (by decide+kernel));have Qb:∀c f,dd=.mk c->eV ls (st k) c (.form f)->pR ls (10^44*2^(i+1)) f:=λc f z hm=>by
       subst z;have p0:=pf i;refine hok.1.low cM bt bc hm (W:=10^44*2^i) (λa _ l e=>(dz pq.1 e).2.2) (by rw[jU];lia) (by rw[jU];lia) λz=>absurd z VW
      exists _,ay.of (dD _ _ (sB _ _ x1)),rfl,?_;exists _,aj.of (dD _ _ hJ.da),GO (λj=>.ref (sd j).p),_,aj.of (dD _ _ hJ.ka),GO (λj=>.ref (sd j).kd),W,sd k,e,st k,lv k,dd,n,ls,rfl,hJ.sd _ eE,hJ.wk,ws.mem _ eE,(by have:=pq.2.2.1;lia),x2.keep sB,bt,cM,bc,(by have:=pq.2.1;lia),hok,(λc f z hm=>let ⟨f1,f2,f3⟩:=Qb c f z hm;DD f1 f2 bt f3 (lB (lS _ (B2 _ (dX (by decide) (show i+1<=7 by lia)))) (by decide+kernel))),λG5 cu ku E4 hl nj=>?_;exists true,rfl,eP ?_;exists _,_,_,_,rfl,hJ.step ws eE E4 nj,sB.trans (ws.same eE nj).hb,?_,λj hj jm=>?_
      ·unfold sS;rw[aB rfl,aB rfl];exact pq.left hl hok Qb (by rw[jU];lia)
      ·unfold sS;rw[ax (by lia),ax (by omega)];exact hG j hj jm
     ·rintro σ G ⟨st,lv,v9,v10,rfl,hJ,_,_,hG⟩;nomatch st,lv,_,_,_,_,_,rfl,hJ,hG
   ·rintro σ G ⟨st,lv,v7,v8,v9,v10,v11,rfl,hJ,hG⟩;exact g7 _ _ (kq _)
end
set_option maxHeartbeats 0 in
set_option tactic.hygienic true in
def RD(X:(K w.params).In h)(G:h.Ns mainGlobals mg):Txt w (K w.params) mg:=by
 constructor
 case nf_Desk_forms=>show _=_;kernel_rfl
 case q_MADE_0=>exact jX ["name","name"] [793,794] rfl (by decide) (by kernel_rfl)
 case q_MADE_1=>exact jX ["name","name"] [796,797] rfl (by decide) (by kernel_rfl)
 case q_MADE_2=>exact jX ["name","name"] [799,800] rfl (by decide) (by kernel_rfl)
 case q_MADE_3=>exact jX ["name","letter","bit"] [802,803,804] rfl (by decide) (by kernel_rfl)
 case q_MADE_4=>exact jX ["name","letter","name"] [806,807,808] rfl (by decide) (by kernel_rfl)
 case q_MADE=>exact pA.of (ts:=[792,795,798,801,805]) (n:=5) rfl rfl (by decide+kernel) (by kernel_rfl)
 case q_ASKED_0=>exact jX ["name"] [767] rfl (by decide) (by kernel_rfl)
 case q_ASKED_1=>exact jX ["name","number"] [769,770] rfl (by decide) (by kernel_rfl)
 case q_ASKED_2=>exact jX ["name","name"] [772,773] rfl (by decide) (by kernel_rfl)
 case q_ASKED_3=>exact jX ["name","name","divisor"] [775,776,777] rfl (by decide) (by kernel_rfl)
 case q_ASKED_4=>exact jX ["name"] [779] rfl (by decide) (by kernel_rfl)
 case q_ASKED_5=>exact jX ["name"] [781] rfl (by decide) (by kernel_rfl)
 case q_ASKED_6=>exact jX ["name"] [783] rfl (by decide) (by kernel_rfl)
 case q_ASKED=>exact pA.of (ts:=[766,768,771,774,778,780,782]) (n:=7) rfl rfl (by decide+kernel) (by kernel_rfl)
 case q_SPACED=>exact jX ["not "," and "," or "," xor "] [595,596,597,598] rfl (by decide) (by kernel_rfl)
 case q_JOINING=>exact jX ["and","or","xor"] [591,592,593] rfl (by decide) (by kernel_rfl)
 all_goals first
  |exact Def.of X G (by first|exact JH λ_=>rfl|exact Pl λ_ _=>rfl|exact P1 λ_ _ _=>rfl|exact MH λ_ _ _ _=>rfl|exact us0 rfl) (by kernel_rfl) (by kernel_rfl) (by kernel_rfl) (by kernel_rfl) (by kernel_rfl)
  |exact qp.of (by first|exact JH λ_=>rfl|exact Pl λ_ _=>rfl|exact P1 λ_ _ _=>rfl|exact MH λ_ _ _ _=>rfl) (by kernel_rfl) (by kernel_rfl) (by kernel_rfl) (by kernel_rfl) (by kernel_rfl) (by kernel_rfl)
  |exact PySem.W.mg_none_of X G (by kernel_rfl)
  |exact PySem.W.mg_of X G (by kernel_rfl)
  |exact⟨by kernel_rfl,by kernel_rfl,by kernel_rfl,by kernel_rfl⟩
  |kernel_rfl
def Sb{q:Program}{loose:List Str}{XP:(Str->Option Value)->Heap->Prop}{d:DefRec}(HW:d.params.defaults=[])(nM:d.name = "law") :
  PySem.W.WalkO q loose XP (PySem.W.InK K) PySem.Challenge.rw_onceform_k86_whole_desk.row.toRowW d [] (λf vs=>PySem.call f vs) :=
 L2.Tj (l:=PySem.Challenge.rw_onceform_k86_whole_desk) (n:=63) (k:=103) (x := "_law_script") (CX:=λ_=>qM) (sp:=λw=>Jr (K w.params)) rfl (by decide) HW ⟨rfl,by decide,by decide⟩ (λw h Y=>Y) (λw mg fa h KX G zk=>by
  have T:=RD KX G;rw[nM]at zk;cases zk.symm.trans T.d_law.m;nomatch oB.fd,λs v=>.of_eq rfl,λbase _ _=>S0 T) (λ_ _ a ns hl hb _ hS=>⟨a,ns,rfl,hS,hl,hb,λ_=>rfl⟩) λ_ _ _ _ _ z=>z
end My
open PySem PySem.W PyProof.Rows
set_option maxRecDepth 100000 in
set_option maxHeartbeats 0 in
set_option tactic.hygienic true in
theorem PySem.Challenge.cw_onceform_k86_whole_desk_holds : PySem.Challenge.rw_onceform_k86_whole_desk.Holds := by
 w_on
 refine PySem.W.holds_law My.F8 λF8=>?_
 refine PySem.W.holds_open (q:=My.Q) (loose:=My.lo) (Xt:=My.Xq) (XP:=PySem.W.XL My.Q []) (Yf:=My.Hk.obs) (Ya:=My.Hk.val) (YP:=PySem.W.InK My.K) (N:=11046) (d:=⟨"law",L2.wq My.oB.s,L2.ou My.oB.s,L2.dy My.oB.s,My.zan My.oB.s⟩) (kwd:=[]) My.left My.Hk.of My.Hk.keeps
  (λs e=>PySem.W.xl_of s (xC.mp e).1) PySem.W.XL.keeps (by kernel_rfl) (by kernel_rfl) (by kernel_rfl) (λs e=>PySem.W.recFacts_of (xC.mp e).2) (by kernel_rfl) F8 (by decide+kernel) ⟨rfl,rfl,rfl,rfl,rfl,by decide+kernel⟩ ?hw ?hc
 case hw=>w_witness2
 exact My.Sb rfl rfl
#print axioms PySem.Challenge.cw_onceform_k86_whole_desk_holds
