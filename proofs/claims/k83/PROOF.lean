import PyProof.Rows.All
import Wide.All
import OpenK.AllK
import Wide.FinOn
import Lean
import PyProof.EqAt
import PyProof.EqKinds
import PyProof.TupleCall
import PyProof.NeKinds
import PyProof.WalksEnum
import PyProof.EnumMake
import PyProof.AttrMissHeap
import KE.KDictOf
import PyProof.ListNew
import PyProof.ZipIter
import PyProof.Rows.ZipGen
import KE.KIntText
import PyProof.StrLawsTight
import KE.KRevIter
import KE.KDictList
import KE.KEqDict
import PyProof.DictCopy
import KE.KSortTup
import PySem.Challenge.RW_onceform_k83_desk_makes
set_option genSizeOf false
set_option Elab.async false
set_option linter.all false
set_option maxRecDepth 100000
set_option maxHeartbeats 4000000
noncomputable abbrev jaa:=@List.length_map
noncomputable abbrev jab:=@List.length_append
noncomputable abbrev jac:=@List.map_append
noncomputable abbrev jad:=@List.mem_singleton
noncomputable abbrev jae:=@List.length_cons
noncomputable abbrev jaf:=@PySem.F.plainAttrs_list
noncomputable abbrev jag:=@Nat.le_refl
noncomputable abbrev jah:=@List.mem_append
noncomputable abbrev jai:=@List.size_toArray
noncomputable abbrev jaj:=@List.mem_cons
noncomputable abbrev jak:=@Nat.le_trans
noncomputable abbrev jal:=@PySem.Heap.get?_push_of_some
noncomputable abbrev jam:=@List.getElem?_eq_some_iff
noncomputable abbrev jan:=@PySem.Heap.lt_size
noncomputable abbrev jao:=@List.mem_of_getElem?
noncomputable abbrev jap:=@PySem.F.slot_list_append
noncomputable abbrev jaq:=@PySem.F.type_list_append
noncomputable abbrev jar:=@List.getElem?_eq_getElem
noncomputable abbrev jas:=@Nat.lt_of_lt_of_le
noncomputable abbrev jat:=@List.map_cons
noncomputable abbrev jau:=@List.mem_map
noncomputable abbrev jav:=@PySem.Heap.get?_push_size
noncomputable abbrev jaw:=@List.find?_cons
noncomputable abbrev jax:=@List.mem_cons_of_mem
noncomputable abbrev jay:=@Bool.false_ne_true
noncomputable abbrev jaz:=@PySem.F.plainAttrs_str
noncomputable abbrev jaA:=@List.mem_append_right
noncomputable abbrev jaB:=@Nat.le_of_lt
noncomputable abbrev jaC:=@List.getElem?_map
noncomputable abbrev jaD:=@Option.some.inj
noncomputable abbrev jaE:=@Nat.zero_le
noncomputable abbrev jaF:=@PySem.boot_len
noncomputable abbrev jaG:=@PySem.PassesOwn.never
noncomputable abbrev jaH:=@Nat.pow_le_pow_right
noncomputable abbrev jaI:=@List.take_add_one
noncomputable abbrev jaJ:=@List.length_take
noncomputable abbrev jaK:=@List.take_length
noncomputable abbrev jaL:=@PySem.Paired.length
noncomputable abbrev jaM:=@Int.natCast_nonneg
noncomputable abbrev jaN:=@Int.emod_lt_of_pos
noncomputable abbrev jaO:=@List.filter_append
noncomputable abbrev jaP:=@List.append_assoc
noncomputable abbrev jaQ:=@PySem.F.slot_list_pop
noncomputable abbrev jaR:=@PySem.F.type_list_pop
noncomputable abbrev jaS:=@Nat.mul_le_mul
noncomputable abbrev jaT:=@Bool.and_eq_true
noncomputable abbrev jaU:=@Nat.ne_of_lt
noncomputable abbrev jaV:=@Int.emod_nonneg
noncomputable abbrev jaW:=@PyProof.Rows.boot_isinstance
noncomputable abbrev jaX:=@List.all_eq_true
noncomputable abbrev jaY:=@List.flatMap_cons
noncomputable abbrev jaZ:=@List.append_nil
noncomputable abbrev ja0:=@List.length_filter_le
noncomputable abbrev ja1:=@Nat.testBit_eq_decide_div_mod_eq
noncomputable abbrev ja2:=@List.take_of_length_le
noncomputable abbrev ja3:=@List.map_map
noncomputable abbrev ja4:=@List.mem_append_left
noncomputable abbrev ja5:=@Int.toNat_of_nonneg
noncomputable abbrev ja6:=@List.eq_nil_of_length_eq_zero
noncomputable abbrev ja7:=@List.not_mem_nil
noncomputable abbrev ja8:=@List.mem_filter
noncomputable abbrev ja9:=@PySem.F.slot_str_join
noncomputable abbrev jba:=@PyProof.Rows.callWith_type1
noncomputable abbrev jbb:=@PySem.F.type_str_join
noncomputable abbrev jbc:=@List.length_drop
noncomputable abbrev jbd:=@List.nodup_cons
noncomputable abbrev jbe:=@List.reverse_append
noncomputable abbrev jbf:=@Int.toNat_natCast
noncomputable abbrev jbg:=@List.flatten_cons
noncomputable abbrev jbh:=@List.mem_cons_self
noncomputable abbrev jbi:=@List.pairwise_cons
noncomputable abbrev jbj:=@Nat.lt_of_le_of_lt
noncomputable abbrev jbk:=@List.dropLast_concat
noncomputable abbrev jbl:=@List.getElem_mem
noncomputable abbrev jbm:=@PySem.mem_of_lookup
noncomputable abbrev jbn:=@List.length_range
noncomputable abbrev jbo:=@Nat.min_eq_left
noncomputable abbrev jbp:=@List.length_dropLast
noncomputable abbrev jbq:=@Nat.testBit_two_pow
noncomputable abbrev jbr:=@List.sum_append
noncomputable abbrev jbs:=@Nat.testBit_lt_two_pow
noncomputable abbrev jbt:=@List.getElem?_set_self
noncomputable abbrev jbu:=@PySem.F.slot_tuple_iterator_next
noncomputable abbrev jbv:=@PyProof.Rows.boot_int
noncomputable abbrev jbw:=@Nat.lt_irrefl
noncomputable abbrev jbx:=@PyProof.Rows.boot_abs
noncomputable abbrev jby:=@PySem.F.slot_dict_get
noncomputable abbrev jbz:=@Nat.ge_two_pow_of_testBit
noncomputable abbrev jbA:=@List.mem_range
noncomputable abbrev jbB:=@Nat.lt_pow_two_of_testBit
noncomputable abbrev jbC:=@List.drop_eq_getElem_cons
noncomputable abbrev jbD:=@Bool.and_eq_true_iff
noncomputable abbrev jbE:=@Nat.mul_le_mul_right
noncomputable abbrev jbF:=@List.length_nil
noncomputable abbrev jbG:=@Bool.eq_iff_iff
noncomputable abbrev jbH:=@List.flatten_append
noncomputable abbrev jbI:=@Int.eq_ofNat_of_zero_le
noncomputable abbrev jbJ:=@Array.length_toList
noncomputable abbrev jbK:=@List.any_cons
noncomputable abbrev jbL:=@Nat.add_le_add_left
noncomputable abbrev jbM:=@List.lookup_cons
noncomputable abbrev jbN:=@Nat.testBit_or
noncomputable abbrev jbO:=@PySem.Heap.size_push
noncomputable abbrev jbP:=@PySem.Calls.callWith_builtin
noncomputable abbrev jbQ:=@Option.map_eq_some_iff
noncomputable abbrev jbR:=@List.length_set
noncomputable abbrev jbS:=@PyProof.Rows.boot_str
noncomputable abbrev jbT:=@PySem.F.type_str_startswith
noncomputable abbrev jbU:=@PySem.F.slot_str_startswith
noncomputable abbrev jbV:=@Nat.two_pow_add_eq_or_of_lt
noncomputable abbrev jbW:=@List.range_succ
noncomputable abbrev jbX:=@List.length_replicate
noncomputable abbrev jbY:=@Nat.pow_succ
noncomputable abbrev jbZ:=@List.map_nil
noncomputable abbrev jb0:=@Option.isSome_map
noncomputable abbrev jb1:=@List.sum_cons
noncomputable abbrev jb2:=@Nat.eq_of_testBit_eq
noncomputable abbrev jb3:=@PySem.Calls.evalArgs_plain
noncomputable abbrev jb4:=@Bool.and_false
noncomputable abbrev jb5:=@List.filter_cons
noncomputable abbrev jb6:=@List.any_eq_true
noncomputable abbrev jb7:=@Nat.min_eq_right
noncomputable abbrev jb8:=@List.map_congr_left
noncomputable abbrev jb9:=@List.filterMap_cons
noncomputable abbrev jca:=@PyProof.Rows.boot_sorted
noncomputable abbrev jcb:=@PySem.Calls.spliced_cons
noncomputable abbrev jcc:=@List.filter_cons_of_neg
noncomputable abbrev jcd:=@Bool.true_and
noncomputable abbrev jce:=@Nat.two_pow_pos
noncomputable abbrev jcf:=@Bool.false_eq_true
noncomputable abbrev jcg:=@List.mem_filterMap
noncomputable abbrev jch:=@List.pairwise_iff_forall_sublist
noncomputable abbrev jci:=@PyProof.Rows.slot_int_bit_length
noncomputable abbrev jcj:=@PyProof.Rows.type_int_bit_length
noncomputable abbrev jck:=@PySem.F.type_str_split
noncomputable abbrev jcl:=@PySem.F.entry_dict_get
noncomputable abbrev jcm:=@PySem.F.slot_str_split
noncomputable abbrev jcn:=@List.drop_of_length_le
noncomputable abbrev jco:=@Bool.eq_false_iff
noncomputable abbrev jcp:=@PyProof.Rows.slot_tuple_getitem
noncomputable abbrev jcq:=@List.reverse_cons
noncomputable abbrev jcr:=@List.pairwise_map
noncomputable abbrev jcs:=@List.drop_zero
noncomputable abbrev jct:=@PySem.F.slot_str_find
noncomputable abbrev jcu:=@Nat.lt_or_ge
noncomputable abbrev jcv:=@Array.getElem?_toList
noncomputable abbrev jcw:=@List.getElem?_eq_none
noncomputable abbrev jcx:=@PySem.F.type_str_find
noncomputable abbrev jcy:=@PySem.F.typeOf_object_class
noncomputable abbrev jcz:=@Nat.ne_of_gt
noncomputable abbrev jcA:=@List.cons_append
noncomputable abbrev jcB:=@Option.getD_some
noncomputable abbrev jcC:=@List.mem_flatMap
noncomputable abbrev jcD:=@List.getElem?_set_ne
noncomputable abbrev jcE:=@PySem.Heap.get?_none_of_le
noncomputable abbrev jcF:=@PySem.W.hideAll_none
noncomputable abbrev jcG:=@PySem.F.args_tuple_iterator_next_1
noncomputable abbrev jcH:=@PySem.W.plainGet_of
noncomputable abbrev jcI:=@PySem.SeqAt.EqAt.same
noncomputable abbrev jcJ:=@Nat.not_lt_zero
noncomputable abbrev jcK:=@List.length_reverse
noncomputable abbrev jcL:=@List.takeWhile_cons
noncomputable abbrev jcM:=@PySem.F.entry_tuple_iterator_next
noncomputable abbrev jcN:=@PySem.W.hideAll_get
noncomputable abbrev jcO:=@List.replicate_zero
noncomputable abbrev jcP:=@PySem.F.slot_zip_next
noncomputable abbrev jcQ:=@List.forIn_cons
noncomputable abbrev jcR:=@List.getD_eq_getElem?_getD
noncomputable abbrev jcS:=@List.getElem?_append_right
noncomputable abbrev jcT:=@PySem.Calls.Name_function_global
noncomputable abbrev jcU:=@PySem.W.of_hideAll
noncomputable abbrev jcV:=@Int.zero_add
noncomputable abbrev jcW:=@PySem.W.callWith_K
noncomputable abbrev jcX:=@Nat.lt_trans
noncomputable abbrev jcY:=@PySem.F.args_str_split_2
noncomputable abbrev jcZ:=@Bool.false_and
noncomputable abbrev jc0:=@List.getElem?_append_left
noncomputable abbrev jc1:=@Array.getElem?_eq_getElem
noncomputable abbrev jc2:=@List.filterMap_cons_none
noncomputable abbrev jc3:=@List.filterMap_cons_some
noncomputable abbrev jc4:=@List.Pairwise.map
noncomputable abbrev jc5:=@PySem.F.slot_list_insert
noncomputable abbrev jc6:=@Option.isSome_iff_exists
noncomputable abbrev jc7:=@PySem.F.args_tuple_add_2
noncomputable abbrev jc8:=@PySem.F.entry_str_split
noncomputable abbrev jc9:=@PySem.F.type_list_insert
noncomputable abbrev jda:=@PySem.Calls.spliced_nil
noncomputable abbrev jdb:=@Nat.toDigits_of_lt_base
noncomputable abbrev jdc:=@List.getElem?_replicate
noncomputable abbrev jdd:=@PySem.F.entry_tuple_add
noncomputable abbrev jde:=@Nat.add_sub_cancel_left
noncomputable abbrev jdf:=@PySem.F.args_dict_get_3
noncomputable abbrev jdg:=@PySem.F.plainAttrs_dict
noncomputable abbrev jdh:=@Int.one_mul
noncomputable abbrev jdi:=@List.filter_cons_of_pos
noncomputable abbrev jdj:=@PySem.StrLaws.subAt_eq
noncomputable abbrev jdk:=@PySem.F.slot_str_split
noncomputable abbrev jdl:=@Int.max_eq_right
noncomputable abbrev jdm:=@Nat.lt_succ_self
noncomputable abbrev jdn:=@List.drop_length
noncomputable abbrev jdo:=@Nat.testBit_xor
noncomputable abbrev jdp:=@List.of_mem_zip
noncomputable abbrev jdq:=@Bool.or_eq_true
noncomputable abbrev jdr:=@Nat.mod_lt
noncomputable abbrev jds:=@List.nodup_nil
noncomputable abbrev jdt:=@Int.natAbs_mul
noncomputable abbrev jdu:=@Nat.add_le_add
noncomputable abbrev jdv:=@Nat.log2_lt
noncomputable abbrev jdw:=@Sum.inr.inj
noncomputable abbrev jdx:=@List.cons.inj
noncomputable abbrev jdy:=@Bool.or_false
noncomputable abbrev jdz:=@List.all_cons
namespace L2
open PySem
noncomputable def zgk (s:Stmt) (j:Nat):Stmt:=match s with
 | .ClassDef _ _ _ body _ _ _ _ _ _ _=>body.getD j (.Pass ⟨0,0,0,0⟩)
 | _=>.Pass ⟨0,0,0,0⟩
noncomputable def zf3 (s:Stmt):Arguments:=match s with
 | .FunctionDef _ a _ _ _ _ _ _ _ _=>a
 | _=>{ posonlyargs:=[],args:=[],vararg:=none,kwonlyargs:=[],kw_defaults:=[],kwarg:=none,defaults:=[] }
noncomputable def zda (s:Stmt):List Stmt:=match s with
 | .FunctionDef _ _ b _ _ _ _ _ _ _=>b
 | _=>[]
noncomputable def zaC (s:Stmt):Scope:=match s with
 | .FunctionDef _ _ _ _ _ _ sc _ _ _=>sc
 | _=>{ kind := .function,names:=[],isGenerator:=false,isCoroutine:=false }
end L2
set_option maxHeartbeats 1000000
namespace My
open PySem L2
noncomputable def hdS:List Stmt->Stmt
 | x :: _=>x
 | []=>.Pass ⟨0,0,0,0⟩
noncomputable def tlS:List Stmt->List Stmt
 | _ :: r=>r
 | []=>[]
noncomputable def zrw (s:Stmt):Pos:=match s with
 | .FunctionDef _ _ _ _ _ _ _ _ _ p=>p
 | _=>⟨0,0,0,0⟩
structure Rw where
 n:Str
 q:Str
 N:List Str
 k:Nat
 s:Stmt
 a:Addr
 m:Value
 t:Nat
 l:Nat
 x:Nat
namespace Rw
noncomputable abbrev ps (r:Rw):List Str:=r.N.take r.k
noncomputable abbrev fd (r:Rw):FuncData:=PySem.W.fnOf r.n r.q (zf3 r.s) (zda r.s) (zaC r.s) .none .none .none r.m none (.ref (r.a-1)) .none
noncomputable def cut:Str := "/claim/cut.py"
noncomputable def z (n:Nat):Value := .int (Int.ofNat n) 0
noncomputable def few (r:Rw):Bool:=Nat.beq r.x 3
noncomputable def rows (r:Rw):List (Addr × Obj) :=
 [(r.a-1,⟨.type "code",none,.fields #[.str r.n r.t,.str r.q (r.t+1),.str cut (r.t+2),z r.l,z r.k,z 0,z 0,z 3,.ref (bif r.few then r.a-4 else r.a-6),.bool true,z 181,.ref (bif r.few then r.a-3 else r.a-5),.none,
   bif r.few then .none else .ref (r.a-4),bif r.few then .none else .ref (r.a-3),.ref (r.a-2),z (r.t+r.x),z r.l,.str cut (r.t+r.x+1)],#[]⟩),
  (r.a,⟨.type "function",none,.func r.fd,#[]⟩)]
end Rw
noncomputable abbrev en (P:Params) (x:Str) (t:Nat) (v:Value):DictEntry:=⟨PyData.keyHash P x,.str x t,v⟩
end My
namespace OH
open PySem PySem.W PyProof.Rows
noncomputable def zqZ (tb:String->Option Builtin) (p:Program) (w:World) (n₀:Nat) (ann:Option Value):Nat->SharedT->Thread->Option SharedT
 | 0,_,_=>none
 | n+1,s,t=>match through t with
  | true=>some s
  | false=>match stepOk n₀ ann t with
   | false=>none
   | true=>match stepT (denote tb) p w s t with
    | some x=>zqZ tb p w n₀ ann n x.1 x.2
    | none=>none
theorem znQ {tb:String->Option Builtin}{p:Program}{w:World}{n₀:Nat}{ann:Option Value}{n:Nat}:∀ {s r:SharedT}{t:Thread},zqZ tb p w n₀ ann n s t=some r->topRun tb p w n₀ ann n s.abs t=some r.abs:=by
 induction n with
 | zero=>intro s r t h;cases h
 | succ n ih =>
  intro s r t h;unfold zqZ at h;unfold topRun;cases a:through t with
  | true=>rw[a] at h;cases h;rfl
  | false =>
   rw[a] at h;cases b:stepOk n₀ ann t with
   | false=>rw[b] at h;cases h
   | true =>
    rw[b] at h;cases c:stepT (denote tb) p w s t with
    | none=>rw[c] at h;cases h
    | some x=>rw[c] at h;rw[stepT_spec c];exact ih h
noncomputable def zsd (p:Program) (w:World) (n₀:Nat) (ann:Option Value):Nat->SharedT->Thread->Option SharedT
 | 0,_,_=>none
 | n+1,s,t=>match through t with
  | true=>some s
  | false=>match PySem.W.Fast.tw6613529449190102663 n₀ ann t with
   | false=>none
   | true=>match PySem.W.Fast.tw10156331382660048174 (PySem.W.Fast.tw11892475500146522536 PySem.W.Fast.tw14364793385576792824) p w s t with
    | some x=>zsd p w n₀ ann n x.1 x.2
    | none=>none
theorem zpZ {p:Program}{w:World}{n₀:Nat}{ann:Option Value}{n:Nat}:∀ {s:SharedT}{t:Thread},zsd p w n₀ ann n s t=zqZ treeTable p w n₀ ann n s t:=by
 induction n with
 | zero=>intro s t;rfl
 | succ n ih =>
  intro s t;unfold zsd zqZ;rw[<- PySem.W.Fast.te6613529449190102663,<- PySem.W.Fast.te10156331382660048174,<- PySem.W.Fast.te11892475500146522536,<- PySem.W.Fast.te14364793385576792824];cases through t <;> cases stepOk n₀ ann t <;> try rfl
  cases stepT (denote treeTable) p w s t with
  | none=>rfl
  | some x=>exact ih
noncomputable def zpY (P:Params):BT :=
 .node (boot_o_0 P)
  (.node (boot_o_1 P) (.node (boot_o_3 P) (.node (boot_o_7 P) .nil .nil) .nil) (.node (boot_o_5 P) (.node (boot_o_9 P) .nil .nil) .nil))
  (.node (boot_o_2 P) (.node (boot_o_4 P) (.node (boot_o_8 P) .nil .nil) .nil) (.node (boot_o_6 P) (.node (boot_o_10 P) .nil .nil) .nil))
theorem zqo (P:Params):boot_heap P=absHeap (zpY P) 11 (boot_heap P).life:=by kernel_rfl
theorem zmf (w:World):((boot_heap w.params).isNs mainGlobals,(boot_heap w.params).objs.size,(boot_heap w.params).nsMap mainGlobals "__annotations__")=(true,11,some (.ref 6)):=by kernel_rfl
noncomputable abbrev zpt (P:Params) (os:OsState):SharedT:=⟨zpY P,11,(boot_heap P).life,#[],boot_drawn,boot_toks,os⟩
theorem left {p q:Program}{loose:List Str}{Xt:Shared->Bool} {α : Type}{Yf:Shared -> α}{Ya:World -> α}{N:Nat}
  (e:opening p=plainProg p.main.scope.names) (hN:Nat.ble 600 N=true) (f:∀ s,fenceModules? p s=some s)
  (run:∀ w:World,(fun os=>(zsd p w 11 (some (.ref 6)) N (zpt w.params os) (topStub p)).map fun s =>
    (staticsOk (importedModules p.main.body) (boot_heap w.params) s.abs.heap && namesBound p s.abs.heap && gensDone s.abs && laidKept (boot_heap w.params) s.abs.heap,
     PySem.W.Fast.tw4187177175401517315 q loose (importedModules p.main.body) Xt true s.abs,Yf s.abs))=fun _=>some (true,openGood q loose,Ya w)):LeftO p q loose Xt Yf Ya N:=fun w=>by
 obtain⟨⟨h,gs,d,k,os⟩,x,x'⟩:=jbQ.mp (boot_open e hN f w);obtain⟨rfl,rfl,rfl,rfl⟩:h=boot_heap w.params/\gs=Array.mk []/\d=boot_drawn/\k=boot_toks:=by simpa using x'
 obtain⟨z1,z2,z3⟩:_/\_/\_:=by simpa only [Prod.mk.injEq] using zmf w
 obtain⟨s,r,l⟩:=jbQ.mp (congrFun (run w) os);rw[<- PySem.W.Fast.te4187177175401517315] at l;obtain⟨l1,l2,l3⟩:_/\_/\_:=by simpa only [Prod.mk.injEq] using l
 have t:=znQ (zpZ.symm.trans r);have b:(zpt w.params os).abs=⟨boot_heap w.params,Array.mk [],boot_drawn,boot_toks,os⟩:=by
  show (⟨absHeap (zpY w.params) 11 (boot_heap w.params).life,_,_,_,_⟩:Shared)=_;rw[<- zqo]
 rw[b] at t;have y:topFrom treeTable p w N ⟨boot_heap w.params,Array.mk [],boot_drawn,boot_toks,os⟩=some s.abs:=by
  unfold topFrom;dsimp only;rw[z1,z2,z3,t];show (match staticsOk (importedModules p.main.body) (boot_heap w.params) s.abs.heap && namesBound p s.abs.heap && gensDone s.abs && laidKept (boot_heap w.params) s.abs.heap with | true=>_ | false=>_)=_;rw[l1]
 unfold openEnds;rw[x];show (topFrom treeTable p w N _).map _=_;rw[y];exact congrArg some (Prod.ext l2 l3)
end OH
set_option maxHeartbeats 4000000
namespace My
open PySem L2
noncomputable def bd0 : List Stmt := PySem.Challenge.pw_onceform_k83_desk_makes.main.body
noncomputable def bd1:List Stmt:=tlS bd0
noncomputable def bd2:List Stmt:=tlS bd1
noncomputable def bd3:List Stmt:=tlS bd2
noncomputable def bd4:List Stmt:=tlS bd3
noncomputable def bd5:List Stmt:=tlS bd4
noncomputable def bd6:List Stmt:=tlS bd5
noncomputable def bd7:List Stmt:=tlS bd6
noncomputable def bd8:List Stmt:=tlS bd7
noncomputable def bd9:List Stmt:=tlS bd8
noncomputable def zuX:List Stmt:=tlS bd9
noncomputable def zvG:List Stmt:=tlS zuX
noncomputable def zuO:List Stmt:=tlS zvG
noncomputable def zud:List Stmt:=tlS zuO
noncomputable def zu1:List Stmt:=tlS zud
noncomputable def zuT:List Stmt:=tlS zu1
noncomputable def zuc:List Stmt:=tlS zuT
noncomputable def zuN:List Stmt:=tlS zuc
noncomputable def zul:List Stmt:=tlS zuN
noncomputable def zuF:List Stmt:=tlS zul
noncomputable def zvN:List Stmt:=tlS zuF
noncomputable def zu3:List Stmt:=tlS zvN
noncomputable def zvu:List Stmt:=tlS zu3
noncomputable def zvy:List Stmt:=tlS zvu
noncomputable def zvl:List Stmt:=tlS zvy
noncomputable def zvq:List Stmt:=tlS zvl
noncomputable def zv3:List Stmt:=tlS zvq
noncomputable def zvn:List Stmt:=tlS zv3
noncomputable def zv9:List Stmt:=tlS zvn
noncomputable def zv2:List Stmt:=tlS zv9
noncomputable def zuZ:List Stmt:=tlS zv2
noncomputable def zvW:List Stmt:=tlS zuZ
noncomputable def zwe:List Stmt:=tlS zvW
noncomputable def zvg:List Stmt:=tlS zwe
noncomputable def zvs:List Stmt:=tlS zvg
noncomputable def zuS:List Stmt:=tlS zvs
noncomputable def zvK:List Stmt:=tlS zuS
noncomputable def zvA:List Stmt:=tlS zvK
noncomputable def zvw:List Stmt:=tlS zvA
noncomputable def zv0:List Stmt:=tlS zvw
noncomputable def zvr:List Stmt:=tlS zv0
noncomputable def zvM:List Stmt:=tlS zvr
noncomputable def zvJ:List Stmt:=tlS zvM
noncomputable def zv5:List Stmt:=tlS zvJ
noncomputable def zv8:List Stmt:=tlS zv5
noncomputable def zvB:List Stmt:=tlS zv8
noncomputable def zuG:List Stmt:=tlS zvB
noncomputable def zua:List Stmt:=tlS zuG
noncomputable def zvO:List Stmt:=tlS zua
noncomputable def zu2:List Stmt:=tlS zvO
noncomputable def zvY:List Stmt:=tlS zu2
noncomputable def zva:List Stmt:=tlS zvY
noncomputable def zuE:List Stmt:=tlS zva
noncomputable def zuw:List Stmt:=tlS zuE
noncomputable def zup:List Stmt:=tlS zuw
noncomputable def zuQ:List Stmt:=tlS zup
noncomputable def zuD:List Stmt:=tlS zuQ
noncomputable def zuH:List Stmt:=tlS zuD
noncomputable def zuu:List Stmt:=tlS zuH
noncomputable def zuK:List Stmt:=tlS zuu
noncomputable def zuM:List Stmt:=tlS zuK
noncomputable def zux:List Stmt:=tlS zuM
noncomputable def zvD:List Stmt:=tlS zux
noncomputable def zvh:List Stmt:=tlS zvD
noncomputable def zuW:List Stmt:=tlS zvh
noncomputable def zui:List Stmt:=tlS zuW
noncomputable def zuC:List Stmt:=tlS zui
noncomputable def zuo:List Stmt:=tlS zuC
noncomputable def zt8:List Stmt:=tlS zuo
noncomputable def zuh:List Stmt:=tlS zt8
noncomputable def zt6:List Stmt:=tlS zuh
noncomputable def zuR:List Stmt:=tlS zt6
noncomputable def zve:List Stmt:=tlS zuR
noncomputable def zu0:List Stmt:=tlS zve
noncomputable def zvF:List Stmt:=tlS zu0
noncomputable def zwb:List Stmt:=tlS zvF
noncomputable def zt3:List Stmt:=tlS zwb
noncomputable def zur:List Stmt:=tlS zt3
noncomputable def zus:List Stmt:=tlS zur
noncomputable def zuP:List Stmt:=tlS zus
noncomputable def zt5:List Stmt:=tlS zuP
noncomputable def zuB:List Stmt:=tlS zt5
noncomputable def zun:List Stmt:=tlS zuB
noncomputable def zvp:List Stmt:=tlS zun
noncomputable def zvI:List Stmt:=tlS zvp
noncomputable def zvR:List Stmt:=tlS zvI
noncomputable def zqD:List Stmt:=tlS zvR
noncomputable def zug:List Stmt:=tlS zqD
noncomputable def zuf:List Stmt:=tlS zug
noncomputable def zt4:List Stmt:=tlS zuf
noncomputable def zuv:List Stmt:=tlS zt4
noncomputable def zuA:List Stmt:=tlS zuv
noncomputable def zvc:List Stmt:=tlS zuA
noncomputable def zv4:List Stmt:=tlS zvc
noncomputable def zvt:List Stmt:=tlS zv4
noncomputable def zuL:List Stmt:=tlS zvt
noncomputable def zuz:List Stmt:=tlS zuL
noncomputable def zue:List Stmt:=tlS zuz
noncomputable def zuj:List Stmt:=tlS zue
noncomputable def zt9:List Stmt:=tlS zuj
noncomputable def zsr:List Stmt:=tlS zt9
noncomputable def ztK:List Stmt:=tlS zsr
noncomputable def ztl:List Stmt:=tlS ztK
noncomputable def zqF:List Stmt:=tlS ztl
noncomputable def zrR:List Stmt:=tlS zqF
noncomputable def zrx:List Stmt:=tlS zrR
noncomputable def zru:List Stmt:=tlS zrx
noncomputable def zrY:List Stmt:=tlS zru
noncomputable def zrh:List Stmt:=tlS zrY
noncomputable def zsL:List Stmt:=tlS zrh
noncomputable def zrA:List Stmt:=tlS zsL
noncomputable def zsh:List Stmt:=tlS zrA
noncomputable def zrq:List Stmt:=tlS zsh
noncomputable def zrG:List Stmt:=tlS zrq
noncomputable def zrL:List Stmt:=tlS zrG
noncomputable def zsz:List Stmt:=tlS zrL
noncomputable def zso:List Stmt:=tlS zsz
noncomputable def zsf:List Stmt:=tlS zso
noncomputable def zs1:List Stmt:=tlS zsf
noncomputable def zrK:List Stmt:=tlS zs1
noncomputable def zsM:List Stmt:=tlS zrK
noncomputable def zro:List Stmt:=tlS zsM
noncomputable def ztq:List Stmt:=tlS zro
noncomputable abbrev M0:Value := .str "onceform.bits" 187
noncomputable abbrev M1:Value := .str "onceform.forms" 214
noncomputable abbrev M2:Value := .str "onceform.changes" 294
noncomputable abbrev M3:Value := .str "onceform.tables" 488
noncomputable abbrev M4:Value := .str "onceform.words" 560
noncomputable abbrev M5:Value := .str "onceform.statements" 587
noncomputable abbrev M6:Value := .str "onceform.text" 694
noncomputable abbrev M7:Value := .str "onceform.lines" 762
noncomputable abbrev M8:Value := .str "onceform.desk" 877
noncomputable abbrev M9:Value := .str "law_onceform_k83_desk_makes" 1001
noncomputable abbrev zee:Rw:=⟨"_law_mixed", "_law_mixed",["_law_cell", "_law_k", "_law_number"],2,hdS zuz,608,M9,1011,430,6⟩
noncomputable abbrev zcd:Rw:=⟨"_law_names", "_law_names",["_law_number", "_law_letters_here", "_law_tail", "_law_names_here"],1,hdS zrY,677,M9,1109,524,3⟩
noncomputable abbrev zc4:Rw:=⟨"_law_letters", "_law_letters",["_law_number", "_law_many", "_law_found", "_law_k", "_law_at_here"],2,hdS zsr,634,M9,1050,472,8⟩
noncomputable abbrev zc9:Rw:=⟨"__init__", "Desk.__init__",["self"],1,zgk (hdS zqD) 0,512,M8,891,350,4⟩
noncomputable abbrev zhp:Rw:=⟨"_law_at", "_law_at",["_law_script", "_law_k"],2,hdS zuL,601,M9,1003,426,5⟩
noncomputable abbrev zc3:Rw:=⟨"_law_small", "_law_small",["_law_form"],1,hdS zso,730,M9,1178,580,3⟩
noncomputable abbrev zdE:Rw:=⟨"_law_made", "_law_made",["_law_some", "_law_numbers", "_law_one", "_law_number"],1,hdS zuj,620,M9,1032,447,3⟩
noncomputable abbrev zbI:Rw:=⟨"_law_told_form", "_law_told_form",["_law_xs", "_law_letters_here", "_law_some", "_law_j", "_law_where"],2,hdS zsf,735,M9,1184,582,3⟩
noncomputable abbrev zci:Rw:=⟨"_law_statement", "_law_statement",["_law_numbers", "_law_letters_here", "_law_stack", "_law_number", "_law_other", "_law_one"],2,hdS zt9,627,M9,1038,452,9⟩
noncomputable abbrev zbz:Rw:=⟨"_law_letters_of", "_law_letters_of",["_law_one"],1,hdS zrx,665,M9,1092,509,3⟩
noncomputable abbrev zei:Rw:=⟨"_law_shown", "_law_shown",["_law_form", "_law_words", "_law_one", "_law_number", "_law_figures"],1,hdS zru,672,M9,1098,511,8⟩
noncomputable abbrev zdG:Rw:=⟨"_law_text", "_law_text",["_law_statement_here", "_law_one"],1,hdS zrR,660,M9,1084,500,5⟩
noncomputable abbrev zcf:Rw:=⟨"_law_bracketed", "_law_bracketed",["_law_statement_here"],1,hdS zqF,653,M9,1077,496,4⟩
noncomputable abbrev zec:Rw:=⟨"_law_maker", "_law_maker",["_law_there", "_law_names_here", "_law_letters_here", "_law_xs", "_law_first", "_law_second", "_law_letter", "_law_sign", "_law_name", "_law_way", "_law_fine", "_law_form", "_law_statement_here", "_law_line", "_law_word"],4,hdS zsM,756,M9,1210,609,18⟩
noncomputable abbrev zbZ:Rw:=⟨"_law_parted", "_law_parted",["_law_form", "_law_k", "_law_bit", "_law_ones"],2,hdS zrA,692,M9,1127,538,3⟩
noncomputable abbrev zdK:Rw:=⟨"_law_plus", "_law_plus",["_law_one", "_law_other", "_law_sign"],3,hdS zrh,682,M9,1115,531,3⟩
noncomputable abbrev zcV:Rw:=⟨"_law_times", "_law_times",["_law_one", "_law_other", "_law_some", "_law_mine", "_law_number"],2,hdS zsL,687,M9,1121,533,3⟩
noncomputable abbrev zf7:Rw:=⟨"_law_put", "_law_put",["_law_form", "_law_k", "_law_other", "_law_ones", "_law_others"],3,hdS zrq,706,M9,1144,545,8⟩
noncomputable abbrev zcr:Rw:=⟨"_law_stated", "_law_stated",["_law_statement_here", "_law_one", "_law_other", "_law_both"],1,hdS zrL,720,M9,1162,550,7⟩
noncomputable abbrev zej:Rw:=⟨"_law_fixed", "_law_fixed",["_law_form", "_law_k", "_law_bit", "_law_ones", "_law_others"],3,hdS zsh,699,M9,1133,542,8⟩
noncomputable abbrev zdu:Rw:=⟨"_law_of_two", "_law_of_two",["_law_word", "_law_one", "_law_other"],3,hdS zs1,742,M9,1190,588,6⟩
noncomputable abbrev zdw:Rw:=⟨"_law_yes_no", "_law_yes_no",["_law_form"],1,hdS zrG,713,M9,1155,548,4⟩
noncomputable abbrev zcC:Rw:=⟨"_law_due_form", "_law_due_form",["_law_there", "_law_deed", "_law_word", "_law_part", "_law_line"],2,hdS zrK,749,M9,1199,592,8⟩
noncomputable abbrev zeR:Rw:=⟨"is_name", "is_name",["word"],1,hdS zuB,486,M7,855,338,3⟩
noncomputable abbrev zdd:Rw:=⟨"is_number", "is_number",["word"],1,hdS zun,491,M7,861,340,3⟩
noncomputable abbrev zjz:Rw:=⟨"is_of", "is_of",["kind", "word"],2,hdS zt5,481,M7,847,330,5⟩
noncomputable abbrev zdm:Rw:=⟨"thing_read", "thing_read",["kind", "word"],2,hdS zuP,474,M7,839,322,5⟩
noncomputable abbrev zcb:Rw:=⟨"things_read", "things_read",["kinds", "words"],2,hdS zus,467,M7,833,318,3⟩
noncomputable abbrev zea:Rw:=⟨"kept_read", "kept_read",["name", "sign", "text", "words"],3,hdS zur,462,M7,823,313,7⟩
noncomputable abbrev zd5:Rw:=⟨"line_read", "line_read",["line", "words"],1,hdS zt3,455,M7,815,308,5⟩
noncomputable abbrev zd7:Rw:=⟨"kept", "Desk.kept",["self", "name"],2,zgk (hdS zqD) 2,526,M8,910,362,5⟩
noncomputable abbrev zcS:Rw:=⟨"form_from", "form_from",["numbers"],1,hdS bd5,38,M1,216,16,3⟩
noncomputable abbrev zje:Rw:=⟨"times", "times",["one", "other", "numbers", "members", "number", "others", "factor", "both"],2,hdS bd9,66,M1,248,27,11⟩
noncomputable abbrev zlA:Rw:=⟨"made", "made",["some", "numbers", "members", "number"],1,hdS bd6,45,M1,222,18,7⟩
noncomputable abbrev zmR:Rw:=⟨"plus", "plus",["one", "other"],2,hdS bd7,52,M1,232,23,5⟩
noncomputable abbrev zfI:Rw:=⟨"scaled", "scaled",["form", "number"],2,hdS zuX,71,M1,262,34,3⟩
noncomputable abbrev zmS:Rw:=⟨"less", "less",["one", "other"],2,hdS bd8,59,M1,240,25,5⟩
noncomputable abbrev ze2:Rw:=⟨"combined", "combined",["word", "one", "other"],3,hdS zt4,568,M8,962,397,6⟩
noncomputable abbrev zcX:Rw:=⟨"read_number", "read_number",["figures", "letters", "number", "figure"],2,hdS zt6,427,M6,741,285,7⟩
noncomputable abbrev zgx:Rw:=⟨"doubled", "doubled",["many", "size", "turn"],1,hdS bd1,21,M0,189,2,6⟩
noncomputable abbrev zfh:Rw:=⟨"read_set", "read_set",["letters", "members", "last", "letter", "k"],1,hdS zuR,434,M6,751,294,8⟩
noncomputable abbrev zdr:Rw:=⟨"read_tuple", "read_tuple",["sign", "word", "letters", "number"],2,hdS zuh,420,M6,731,279,7⟩
noncomputable abbrev zgu:Rw:=⟨"is_form", "is_form",["some", "last", "members", "number"],1,hdS zud,90,M1,284,43,7⟩
noncomputable abbrev zc5:Rw:=⟨"form_read", "form_read",["text", "words", "form"],1,hdS zt8,413,M6,725,264,3⟩
noncomputable abbrev zeV:Rw:=⟨"token_at", "token_at",["text", "place", "token"],2,hdS zuH,356,M5,650,211,6⟩
noncomputable abbrev zd9:Rw:=⟨"tokens_of", "tokens_of",["text", "tokens", "place", "token"],1,hdS zuD,349,M5,640,203,7⟩
noncomputable abbrev zcD:Rw:=⟨"with_joining", "with_joining",["part", "begun"],2,hdS zux,384,M5,686,244,5⟩
noncomputable abbrev zek:Rw:=⟨"with_nots", "with_nots",["part", "begun"],2,hdS zuM,377,M5,678,240,5⟩
noncomputable abbrev zen:Rw:=⟨"part_from", "part_from",["token", "begun", "k"],2,hdS zuu,363,M5,659,216,6⟩
noncomputable abbrev zdl:Rw:=⟨"part_after", "part_after",["token", "part", "begun", "word"],3,hdS zuK,370,M5,668,226,7⟩
noncomputable abbrev zlQ:Rw:=⟨"read", "read",["text", "begun", "part", "token"],1,hdS zuQ,342,M5,630,189,7⟩
noncomputable abbrev ze9:Rw:=⟨"parts_of", "parts_of",["statement", "parts", "waiting", "part"],1,hdS zuw,328,M5,611,174,7⟩
noncomputable abbrev zfg:Rw:=⟨"unknowns", "unknowns",["form", "together", "members", "number"],1,hdS zuO,83,M1,274,38,7⟩
noncomputable abbrev zcl:Rw:=⟨"paired_tables", "paired_tables",["one", "other", "many"],2,hdS zuS,254,M3,502,98,6⟩
noncomputable abbrev zhR:Rw:=⟨"joined", "joined",["word", "one", "other", "both", "taken"],3,hdS zua,312,M4,576,150,8⟩
noncomputable abbrev zcE:Rw:=⟨"form_of_word", "form_of_word",["word", "parts", "tables"],2,hdS zuG,305,M4,570,143,3⟩
noncomputable abbrev zbB:Rw:=⟨"form_of_statement", "form_of_statement",["statement", "forms", "part", "word", "last"],1,hdS zuE,321,M5,600,160,8⟩
noncomputable abbrev zfS:Rw:=⟨"bits_in", "bits_in",["statement", "bits", "part"],1,hdS zup,335,M5,621,183,6⟩
noncomputable abbrev zcB:Rw:=⟨"form_of_text", "form_of_text",["text", "statement"],1,hdS zug,554,M8,947,388,5⟩
noncomputable abbrev zeP:Rw:=⟨"without", "without",["form", "bit"],2,hdS zuT,95,M2,296,51,3⟩
noncomputable abbrev zhx:Rw:=⟨"freed", "freed",["form", "bit"],2,hdS zuc,100,M2,302,53,3⟩
noncomputable abbrev zji:Rw:=⟨"fixed", "fixed",["form", "k", "bit", "own"],3,hdS zuN,107,M2,308,55,7⟩
noncomputable abbrev zhN:Rw:=⟨"put_in", "put_in",["form", "k", "other", "own"],3,hdS zuF,121,M2,325,62,7⟩
noncomputable abbrev zeb:Rw:=⟨"is_yes_no", "is_yes_no",["form"],1,hdS zul,114,M2,318,60,4⟩
noncomputable abbrev zhl:Rw:=⟨"yes_no", "yes_no",["form"],1,hdS zuf,561,M8,955,393,4⟩
noncomputable abbrev zcg:Rw:=⟨"form_for", "Desk.form_for",["self", "word", "things", "form"],3,zgk (hdS zqD) 3,533,M8,918,367,7⟩
noncomputable abbrev zbX:Rw:=⟨"refuse_great", "refuse_great",["form", "bound"],1,hdS zuv,573,M8,971,403,3⟩
noncomputable abbrev zdv:Rw:=⟨"shown_sign", "shown_sign",["number"],1,hdS zui,396,M6,704,256,4⟩
noncomputable abbrev zgm:Rw:=⟨"bits_of", "bits_of",["given", "many", "bits", "k"],2,hdS bd2,28,M0,198,7,7⟩
noncomputable abbrev zfA:Rw:=⟨"listed", "listed",["members"],1,hdS bd3,33,M0,208,13,3⟩
noncomputable abbrev zcU:Rw:=⟨"shown_set", "shown_set",["members"],1,hdS zuo,408,M6,719,262,3⟩
noncomputable abbrev zc7:Rw:=⟨"shown_tuple", "shown_tuple",["members", "number"],2,hdS zuC,403,M6,711,258,5⟩
noncomputable abbrev zcx:Rw:=⟨"form_shown", "form_shown",["form", "parts", "ahead"],1,hdS zuW,389,M6,698,250,3⟩
noncomputable abbrev zgp:Rw:=⟨"told_of", "told_of",["word", "form", "found"],2,hdS zuA,580,M8,977,409,6⟩
noncomputable abbrev zdb:Rw:=⟨"answer", "Desk.answer",["self", "word", "things", "form"],3,zgk (hdS zqD) 4,540,M8,928,379,7⟩
noncomputable abbrev ze5:Rw:=⟨"say", "Desk.say",["self", "line", "name", "word", "things", "form"],2,zgk (hdS zqD) 1,519,M8,898,353,9⟩
noncomputable abbrev zdB:Rw:=⟨"_law_says", "_law_says",["_law_desk", "_law_line", "_law_caught", "_law_found", "e", "_law_sorts"],2,hdS zsz,725,M9,1172,565,3⟩
noncomputable abbrev zdk:Rw:=⟨"_law_stream", "_law_stream",["_law_cell", "_law_k", "_law_found", "_law_left", "_law_j", "_law_number"],2,hdS zue,615,M9,1020,434,9⟩
noncomputable abbrev ze1:Rw:=⟨"_law_show", "_law_show",["_law_desk", "_law_there", "_law_name", "_law_due"],3,hdS zro,763,M9,1231,630,7⟩
noncomputable abbrev zhM:Rw:=⟨"law", "law",["_law_script", "_law_number", "_law_names_here", "_law_letters_here", "_law_desk", "_law_there", "_law_cells", "_law_k", "_law_name", "_law_deed", "_law_due", "_law_found"],1,hdS ztq,768,M9,1241,635,3⟩
noncomputable def rws:List Rw:=[zee,zcd,zc4,zc9,zhp,zc3,zdE,zbI,zci,zbz,zei,zdG,zcf,zec,zbZ,zdK,zcV,zf7,zcr,zej,zdu,zdw,zcC,zeR,zdd,zjz,zdm,zcb,zea,zd5,zd7,zcS,zje,zlA,zmR,zfI,zmS,ze2,zcX,zgx,zfh,zdr,zgu,zc5,zeV,zd9,zcD,zek,zen,zdl,zlQ,ze9,zfg,zcl,zhR,zcE,zbB,zfS,zcB,zeP,zhx,zji,zhN,zeb,zhl,zcg,zbX,zdv,zgm,zfA,zcU,zc7,zcx,zgp,zdb,ze5,zdB,zdk,ze1,zhM]
noncomputable def K (P:Params):PySem.W.Frag:=(3,⟨.type "dict",none,.dict #[en P "__name__" 165 (.str "law_onceform_k83_desk_makes" 1001),en P "__doc__" 166 .none,en P "__package__" 167 .none,en P "__loader__" 168 (.builtin "__main__.__loader__#opaque"),en P "__spec__" 169 .none,en P "__annotations__" 170 (.ref 6),en P "__builtins__" 171 (.ref 4),en P "__file__" 173 (.str "/claim/cut.py" 172),en P "__cached__" 174 .none,en P "doubled" 197 (.ref 21),en P "bits_of" 207 (.ref 28),en P "listed" 213 (.ref 33),en P "form_from" 221 (.ref 38),en P "made" 231 (.ref 45),en P "plus" 239 (.ref 52),en P "less" 247 (.ref 59),en P "times" 261 (.ref 66),en P "scaled" 267 (.ref 71),en P "worth" 273 (.ref 76),en P "unknowns" 283 (.ref 83),en P "is_form" 293 (.ref 90),en P "without" 301 (.ref 95),en P "freed" 307 (.ref 100),en P "fixed" 317 (.ref 107),en P "is_yes_no" 324 (.ref 114),en P "put_in" 334 (.ref 121),en P "unlike" 342 (.ref 128),en P "unlike_by" 348 (.ref 133),en P "first_set" 355 (.ref 140),en P "FormError" 375 (.ref 150),en P "NoStatement" 391 (.ref 163),en P "NoPull" 407 (.ref 175),en P "NoForm" 423 (.ref 187),en P "NoLine" 439 (.ref 199),en P "NoName" 455 (.ref 211),en P "NoYesNo" 471 (.ref 223),en P "TooMany" 487 (.ref 235),en P "gathered" 495 (.ref 242),en P "table_of" 501 (.ref 247),en P "paired_tables" 510 (.ref 254),en P "form_of" 516 (.ref 259),en P "whole_sum" 522 (.ref 264),en P "holders" 530 (.ref 271),en P "floor" 538 (.ref 276),en P "least" 544 (.ref 281),en P "paper_for" 553 (.ref 288),en P "heaviest" 559 (.ref 293),en P "bit_of_word" 569 (.ref 300),en P "form_of_word" 575 (.ref 305),en P "joined" 586 (.ref 312),en P "LETTERS" 590 (.str "abcdefghijklmnop" 589),en P "JOINING" 594 (.ref 313),en P "SPACED" 599 (.ref 314),en P "form_of_statement" 610 (.ref 321),en P "parts_of" 620 (.ref 328),en P "bits_in" 629 (.ref 335),en P "read" 639 (.ref 342),en P "tokens_of" 649 (.ref 349),en P "token_at" 658 (.ref 356),en P "part_from" 667 (.ref 363),en P "part_after" 677 (.ref 370),en P "with_nots" 685 (.ref 377),en P "with_joining" 693 (.ref 384),en P "FIGURES" 697 (.str "0123456789" 696),en P "form_shown" 703 (.ref 389),en P "shown_sign" 710 (.ref 396),en P "shown_tuple" 718 (.ref 403),en P "shown_set" 724 (.ref 408),en P "form_read" 730 (.ref 413),en P "read_tuple" 740 (.ref 420),en P "read_number" 750 (.ref 427),en P "read_set" 761 (.ref 434),en P "SMALL_LETTERS" 765 (.str "abcdefghijklmnopqrstuvwxyz" 764),en P "ASKED" 791 (.ref 435),en P "MADE" 814 (.ref 443),en P "line_read" 822 (.ref 455),en P "kept_read" 832 (.ref 462),en P "things_read" 838 (.ref 467),en P "thing_read" 846 (.ref 474),en P "is_of" 854 (.ref 481),en P "is_name" 860 (.ref 486),en P "is_number" 866 (.ref 491),en P "ways" 876 (.ref 498),en P "Desk" 946 (.ref 543),en P "form_of_text" 954 (.ref 554),en P "yes_no" 961 (.ref 561),en P "combined" 970 (.ref 568),en P "refuse_great" 976 (.ref 573),en P "told_of" 985 (.ref 580),en P "few_unknowns" 993 (.ref 587),en P "told_place" 1000 (.ref 594),en P "_law_at" 1010 (.ref 601),en P "_law_mixed" 1019 (.ref 608),en P "_law_stream" 1031 (.ref 615),en P "_law_made" 1037 (.ref 620),en P "_law_statement" 1049 (.ref 627),en P "_law_letters" 1060 (.ref 634),en P "_law_holds_at" 1070 (.ref 641),en P "_law_spread" 1076 (.ref 646),en P "_law_bracketed" 1083 (.ref 653),en P "_law_text" 1091 (.ref 660),en P "_law_letters_of" 1097 (.ref 665),en P "_law_shown" 1108 (.ref 672),en P "_law_names" 1114 (.ref 677),en P "_law_plus" 1120 (.ref 682),en P "_law_times" 1126 (.ref 687),en P "_law_parted" 1132 (.ref 692),en P "_law_fixed" 1143 (.ref 699),en P "_law_put" 1154 (.ref 706),en P "_law_yes_no" 1161 (.ref 713),en P "_law_stated" 1171 (.ref 720),en P "_law_says" 1177 (.ref 725),en P "_law_small" 1183 (.ref 730),en P "_law_told_form" 1189 (.ref 735),en P "_law_of_two" 1198 (.ref 742),en P "_law_due_form" 1209 (.ref 749),en P "_law_maker" 1230 (.ref 756),en P "_law_show" 1240 (.ref 763),en P "law" 1246 (.ref 768)] 119,#[]⟩) :: (rws.flatMap Rw.rows ++
 [(149,⟨.type "dict",none,.dict #[en P "__module__" 365 (.str "onceform.errors" 356),en P "__firstlineno__" 369 (.int 72 368),en P "__static_attributes__" 370 (.ref 148),en P "__weakref__" 372 (.ref 151),en P "__doc__" 373 .none] 3,#[]⟩),
 (150,⟨.type "type",none,.cls ⟨"FormError",[.type "ValueError"],[.ref 150,.type "ValueError",.type "Exception",.type "BaseException",.type "object"],149, "FormError",true,[],[.ref 163,.ref 175,.ref 187,.ref 199,.ref 211,.ref 223,.ref 235],false,none,false⟩,#[some (.ref 141),none,some (.str "FormError" 358),some (.str "FormError" 366),some (.builtin "ValueError.__new__"),some (.bool true)]⟩),
 (162,⟨.type "dict",none,.dict #[en P "__module__" 383 (.str "onceform.errors" 356),en P "__firstlineno__" 387 (.int 74 386),en P "__static_attributes__" 388 (.ref 161),en P "__doc__" 389 .none] 2,#[]⟩),
 (163,⟨.type "type",none,.cls ⟨"NoStatement",[.ref 150],[.ref 163,.ref 150,.type "ValueError",.type "Exception",.type "BaseException",.type "object"],162, "NoStatement",true,[],[],false,none,false⟩,#[some (.ref 154),none,some (.str "NoStatement" 376),some (.str "NoStatement" 384),some (.builtin "ValueError.__new__"),some (.bool true)]⟩),
 (174,⟨.type "dict",none,.dict #[en P "__module__" 399 (.str "onceform.errors" 356),en P "__firstlineno__" 403 (.int 76 402),en P "__static_attributes__" 404 (.ref 173),en P "__doc__" 405 .none] 2,#[]⟩),
 (175,⟨.type "type",none,.cls ⟨"NoPull",[.ref 150],[.ref 175,.ref 150,.type "ValueError",.type "Exception",.type "BaseException",.type "object"],174, "NoPull",true,[],[],false,none,false⟩,#[some (.ref 166),none,some (.str "NoPull" 392),some (.str "NoPull" 400),some (.builtin "ValueError.__new__"),some (.bool true)]⟩),
 (186,⟨.type "dict",none,.dict #[en P "__module__" 415 (.str "onceform.errors" 356),en P "__firstlineno__" 419 (.int 78 418),en P "__static_attributes__" 420 (.ref 185),en P "__doc__" 421 .none] 2,#[]⟩),
 (187,⟨.type "type",none,.cls ⟨"NoForm",[.ref 150],[.ref 187,.ref 150,.type "ValueError",.type "Exception",.type "BaseException",.type "object"],186, "NoForm",true,[],[],false,none,false⟩,#[some (.ref 178),none,some (.str "NoForm" 408),some (.str "NoForm" 416),some (.builtin "ValueError.__new__"),some (.bool true)]⟩),
 (198,⟨.type "dict",none,.dict #[en P "__module__" 431 (.str "onceform.errors" 356),en P "__firstlineno__" 435 (.int 80 434),en P "__static_attributes__" 436 (.ref 197),en P "__doc__" 437 .none] 2,#[]⟩),
 (199,⟨.type "type",none,.cls ⟨"NoLine",[.ref 150],[.ref 199,.ref 150,.type "ValueError",.type "Exception",.type "BaseException",.type "object"],198, "NoLine",true,[],[],false,none,false⟩,#[some (.ref 190),none,some (.str "NoLine" 424),some (.str "NoLine" 432),some (.builtin "ValueError.__new__"),some (.bool true)]⟩),
 (210,⟨.type "dict",none,.dict #[en P "__module__" 447 (.str "onceform.errors" 356),en P "__firstlineno__" 451 (.int 82 450),en P "__static_attributes__" 452 (.ref 209),en P "__doc__" 453 .none] 2,#[]⟩),
 (211,⟨.type "type",none,.cls ⟨"NoName",[.ref 150],[.ref 211,.ref 150,.type "ValueError",.type "Exception",.type "BaseException",.type "object"],210, "NoName",true,[],[],false,none,false⟩,#[some (.ref 202),none,some (.str "NoName" 440),some (.str "NoName" 448),some (.builtin "ValueError.__new__"),some (.bool true)]⟩),
 (222,⟨.type "dict",none,.dict #[en P "__module__" 463 (.str "onceform.errors" 356),en P "__firstlineno__" 467 (.int 84 466),en P "__static_attributes__" 468 (.ref 221),en P "__doc__" 469 .none] 2,#[]⟩),
 (223,⟨.type "type",none,.cls ⟨"NoYesNo",[.ref 150],[.ref 223,.ref 150,.type "ValueError",.type "Exception",.type "BaseException",.type "object"],222, "NoYesNo",true,[],[],false,none,false⟩,#[some (.ref 214),none,some (.str "NoYesNo" 456),some (.str "NoYesNo" 464),some (.builtin "ValueError.__new__"),some (.bool true)]⟩),
 (234,⟨.type "dict",none,.dict #[en P "__module__" 479 (.str "onceform.errors" 356),en P "__firstlineno__" 483 (.int 86 482),en P "__static_attributes__" 484 (.ref 233),en P "__doc__" 485 .none] 2,#[]⟩),
 (235,⟨.type "type",none,.cls ⟨"TooMany",[.ref 150],[.ref 235,.ref 150,.type "ValueError",.type "Exception",.type "BaseException",.type "object"],234, "TooMany",true,[],[],false,none,false⟩,#[some (.ref 226),none,some (.str "TooMany" 472),some (.str "TooMany" 480),some (.builtin "ValueError.__new__"),some (.bool true)]⟩),
 (313,⟨.type "tuple",none,.seq #[.str "and" 591,.str "or" 592,.str "xor" 593] 0,#[]⟩),
 (314,⟨.type "tuple",none,.seq #[.str "not " 595,.str " and " 596,.str " or " 597,.str " xor " 598] 0,#[]⟩),
 (435,⟨.type "dict",none,.dict #[en P "show" 766 (.ref 436),en P "worth" 768 (.ref 437),en P "alike" 771 (.ref 438),en P "rest" 774 (.ref 439),en P "least" 778 (.ref 440),en P "ways" 780 (.ref 441),en P "unknowns" 782 (.ref 442)] 7,#[]⟩),
 (436,⟨.type "tuple",none,.seq #[.str "name" 767] 0,#[]⟩),
 (437,⟨.type "tuple",none,.seq #[.str "name" 769,.str "number" 770] 0,#[]⟩),
 (438,⟨.type "tuple",none,.seq #[.str "name" 772,.str "name" 773] 0,#[]⟩),
 (439,⟨.type "tuple",none,.seq #[.str "name" 775,.str "name" 776,.str "divisor" 777] 0,#[]⟩),
 (440,⟨.type "tuple",none,.seq #[.str "name" 779] 0,#[]⟩),
 (441,⟨.type "tuple",none,.seq #[.str "name" 781] 0,#[]⟩),
 (442,⟨.type "tuple",none,.seq #[.str "name" 783] 0,#[]⟩),
 (443,⟨.type "dict",none,.dict #[en P "plus" 792 (.ref 444),en P "less" 795 (.ref 445),en P "times" 798 (.ref 446),en P "fixed" 801 (.ref 447),en P "put" 805 (.ref 448)] 5,#[]⟩),
 (444,⟨.type "tuple",none,.seq #[.str "name" 793,.str "name" 794] 0,#[]⟩),
 (445,⟨.type "tuple",none,.seq #[.str "name" 796,.str "name" 797] 0,#[]⟩),
 (446,⟨.type "tuple",none,.seq #[.str "name" 799,.str "name" 800] 0,#[]⟩),
 (447,⟨.type "tuple",none,.seq #[.str "name" 802,.str "letter" 803,.str "bit" 804] 0,#[]⟩),
 (448,⟨.type "tuple",none,.seq #[.str "name" 806,.str "letter" 807,.str "name" 808] 0,#[]⟩),
 (542,⟨.type "dict",none,.dict #[en P "__module__" 886 (.str "onceform.desk" 877),en P "__firstlineno__" 890 (.int 348 889),en P "__init__" 897 (.ref 512),en P "say" 909 (.ref 519),en P "kept" 917 (.ref 526),en P "form_for" 927 (.ref 533),en P "answer" 937 (.ref 540),en P "__static_attributes__" 939 (.ref 541),en P "__dict__" 941 (.ref 544),en P "__weakref__" 943 (.ref 545),en P "__doc__" 944 .none] 4,#[]⟩),
 (543,⟨.type "type",none,.cls ⟨"Desk",[.type "object"],[.ref 543,.type "object"],542, "Desk",true,[],[],false,none,false⟩,#[none,none,some (.str "Desk" 879),some (.str "Desk" 887),some (.builtin "object.__new__"),some (.bool true)]⟩)])
noncomputable def as:List Addr:=3 :: (rws.flatMap (fun r=>[r.a-1,r.a]) ++ [149,150,162,163,174,175,186,187,198,199,210,211,222,223,234,235,313,314,435,436,437,438,439,440,441,442,443,444,445,446,447,448,542,543])
noncomputable def lo:List Str := "doubled" :: "bits_of" :: "listed" :: "form_from" :: "made" :: "plus" :: "less" :: "times" :: "scaled" :: "worth" :: "unknowns" :: "is_form" :: "without" :: "freed" :: "fixed" :: "is_yes_no" :: "put_in" :: "unlike" :: "unlike_by" :: "first_set" :: "FormError" :: "NoStatement" :: "NoPull" :: "NoForm" :: "NoLine" :: "NoName" :: "NoYesNo" :: "TooMany" :: "gathered" :: "table_of" :: "paired_tables" :: "form_of" :: "whole_sum" :: "holders" :: "floor" :: "least" :: "paper_for" :: "heaviest" :: "bit_of_word" :: "form_of_word" :: "joined" :: "LETTERS" :: "JOINING" :: "SPACED" :: "form_of_statement" :: "parts_of" :: "bits_in" :: "read" :: "tokens_of" :: "token_at" :: "part_from" :: "part_after" :: "with_nots" :: "with_joining" :: "FIGURES" :: "form_shown" :: "shown_sign" :: "shown_tuple" :: "shown_set" :: "form_read" :: "read_tuple" :: "read_number" :: "read_set" :: "SMALL_LETTERS" :: "ASKED" :: "MADE" :: "line_read" :: "kept_read" :: "things_read" :: "thing_read" :: "is_of" :: "is_name" :: "is_number" :: "ways" :: "Desk" :: "form_of_text" :: "yes_no" :: "combined" :: "refuse_great" :: "told_of" :: "few_unknowns" :: "told_place" :: "_law_at" :: "_law_mixed" :: "_law_stream" :: "_law_made" :: "_law_statement" :: "_law_letters" :: "_law_holds_at" :: "_law_spread" :: "_law_bracketed" :: "_law_text" :: "_law_letters_of" :: "_law_shown" :: "_law_names" :: "_law_plus" :: "_law_times" :: "_law_parted" :: "_law_fixed" :: "_law_put" :: "_law_yes_no" :: "_law_stated" :: "_law_says" :: "_law_small" :: "_law_told_form" :: "_law_of_two" :: "_law_due_form" :: "_law_maker" :: "_law_show" :: []
noncomputable abbrev Pg : Program := PySem.Challenge.rw_onceform_k83_desk_makes.row.toRowW.prog
noncomputable abbrev Q:Program:=PySem.W.view Pg [122]
theorem ztG (P:Params):as=(K P).map (·.1):=by kernel_rfl
noncomputable abbrev Hk:PySem.W.Hook:=PySem.W.kHook K as ztG
noncomputable abbrev Xq : Shared -> Bool := fun s => PySem.W.xlAt Q [] s && PySem.W.recOk (PySem.W.RowW.records PySem.Challenge.rw_onceform_k83_desk_makes.row.toRowW) s
open PySem.W PyProof.Rows in
noncomputable abbrev zq9 (w:World):Prop:=(fun os=>(OH.zsd Pg w 11 (some (.ref 6)) 10554 (OH.zpt w.params os) (topStub Pg)).map fun s =>
  (staticsOk (importedModules Pg.main.body) (boot_heap w.params) s.abs.heap && namesBound Pg s.abs.heap && gensDone s.abs && laidKept (boot_heap w.params) s.abs.heap,
   PySem.W.Fast.tw4187177175401517315 Q lo (importedModules Pg.main.body) Xq true s.abs,Hk.obs s.abs))=fun _=>some (true,openGood Q lo,Hk.val w)
set_option maxHeartbeats 0 in
theorem zwa (w:World):zq9 (w.withFollow "special-get-raises" false):=by kernel_rfl
set_option maxHeartbeats 0 in
theorem zvk (w:World):zq9 (w.withFollow "special-get-raises" true):=by kernel_rfl
set_option maxHeartbeats 0 in
theorem left:PySem.W.LeftO Pg Q lo Xq Hk.obs Hk.val 10554:=OH.left (by kernel_rfl) (by decide) (fun s=>by kernel_rfl) (PySem.W.byRow2 "special-get-raises" zwa zvk)
set_option maxHeartbeats 0 in
theorem ztp : PySem.Challenge.rw_onceform_k83_desk_makes.wellSaid = true := (congrFun PySem.W.Fast.te9446332074065402090 _).trans (by kernel_rfl)
end My
namespace L2
open PySem PySem.Spec PyProof.Rows
noncomputable abbrev Key:=Sum Int Str
noncomputable def zkU:Key->Value->Bool
 | .inl k,v=>Value.isInt k v
 | .inr x,v=>Value.isStrOf x v
noncomputable def zv1 (w:World):Key->Int
 | .inl k=>hashInt k
 | .inr x=>hashStr w x
theorem zbg:∀ {k:Key}{v:Value},zkU k v=true->(∃ i t,k=Sum.inl i/\v=Value.int i t)\/(∃ x t,k=Sum.inr x/\v=Value.str x t)
 | .inl i,v,h=>by
  obtain⟨t,e⟩:=Value.isInt_shape (k:=i) (v:=v) h;exact .inl ⟨i,t,rfl,e⟩
 | .inr x,v,h=>by
  obtain⟨t,e⟩:=Value.isStrOf_shape (x:=x) (v:=v) h;exact .inr ⟨x,t,rfl,e⟩
theorem zlF (i:Int) (t:Tok):zkU (.inl i) (.int i t)=true:=by simp[zkU,Value.isInt]
theorem zlg (x:Str) (t:Tok):zkU (.inr x) (.str x t)=true:=by simp[zkU,Value.isStrOf]
theorem zsE (a b:Int):decide ((Sum.inl a:Key)=Sum.inl b)=(a == b):=by
 by_cases e:a=b
 ·subst e;simp
 ·have h:¬ (Sum.inl a:Key)=Sum.inl b:=fun q=>e (Sum.inl.inj q)
  rw[decide_eq_false h];exact (beq_eq_false_iff_ne.mpr e).symm
theorem zrn (a b:Str):decide ((Sum.inr a:Key)=Sum.inr b)=decide (a=b):=by
 by_cases e:a=b
 ·subst e;simp
 ·have h:¬ (Sum.inr a:Key)=Sum.inr b:=fun q=>e (jdw q)
  rw[decide_eq_false h,decide_eq_false e]
theorem zq3 (a:Int) (b:Str):decide ((Sum.inl a:Key)=Sum.inr b)=false:=decide_eq_false (fun q=>nomatch q)
theorem zqG (a:Str) (b:Int):decide ((Sum.inr a:Key)=Sum.inl b)=false:=decide_eq_false (fun q=>nomatch q)
noncomputable def zbf (prog:Program) (w:World):PySem.KeyKind prog w Key where
 is:=zkU
 hash:=zv1 w
 inj:=fun v a b ha hb=>by
  rcases zbg ha with ⟨i,t,rfl,rfl⟩ | ⟨x,t,rfl,rfl⟩
  ·rcases zbg hb with ⟨j,u,rfl,e⟩ | ⟨y,u,rfl,e⟩
   ·injection e with e1 _;rw[e1]
   ·exact nomatch e
  ·rcases zbg hb with ⟨j,u,rfl,e⟩ | ⟨y,u,rfl,e⟩
   ·exact nomatch e
   ·injection e with e1 _;rw[e1]
 byValue:=fun k v h=>by
  rcases zbg h with ⟨i,t,rfl,rfl⟩ | ⟨x,t,rfl,rfl⟩ <;> rfl
 pyHash:=fun hv h=>by
  rcases zbg hv with ⟨i,t,rfl,rfl⟩ | ⟨x,t,rfl,rfl⟩
  ·exact wpAny_pyHash_int h
  ·exact wpAny_pyHash_str h
 eqBool:=fun hu hv h=>by
  rcases zbg hu with ⟨i,t,rfl,rfl⟩ | ⟨x,t,rfl,rfl⟩
  ·rcases zbg hv with ⟨j,u,rfl,rfl⟩ | ⟨y,u,rfl,rfl⟩
   ·rw[zsE] at h;exact wpAny_eqBool_int h
   ·rw[zq3] at h;exact SeqAt.EqAt.int_str i t y u _ _ _ _ h
  ·rcases zbg hv with ⟨j,u,rfl,rfl⟩ | ⟨y,u,rfl,rfl⟩
   ·rw[zqG] at h;exact SeqAt.EqAt.str_int x t j u _ _ _ _ h
   ·rw[zrn] at h;exact wpAny_eqBool_str h
 «strs» := fun k x t v h=>by
  rcases zbg h with ⟨i,u,rfl,e⟩ | ⟨y,u,rfl,e⟩
  ·exact nomatch e
  ·injection e with e1 _
   subst e1;cases v <;> rfl
theorem zjo (prog:Program) (w:World) (i:Int) (t:Tok):(zbf prog w).is (.inl i) (.int i t)=true:=zlF i t
theorem zbV (prog:Program) (w:World) (x:Str) (t:Tok):(zbf prog w).is (.inr x) (.str x t)=true:=zlg x t
end L2
namespace L2
open PySem PySem.Spec PyProof.Rows
inductive V where
 | non | bl (b:Bool) | int (i:Int) | str (x:Str) | byt (b:Array UInt8) | flt (b:UInt64) | ref (a:Addr) | ty (n:String)
 deriving DecidableEq
noncomputable def zbm:V->Value->Prop
 | .non,u=>u=Value.none
 | .bl b,u=>u=Value.bool b
 | .int i,u=>∃ t,u=Value.int i t
 | .str x,u=>∃ t,u=Value.str x t
 | .byt b,u=>∃ t,u=Value.bytes b t
 | .flt b,u=>∃ t,u=Value.float b t
 | .ref a,u=>u=Value.ref a
 | .ty n,u=>u=Value.type n
noncomputable abbrev zba:List V->List Value->Prop:=Paired zbm
theorem zba.length {xs:List V}{us:List Value} (r:zba xs us):xs.length=us.length:=jaL r
theorem zba.get:∀ {xs:List V}{us:List Value}{i:Nat}{x:V},zba xs us->xs[i]? = some x->∃ u,us[i]? = some u/\zbm x u
 | _,_,_,_,.nil,e=>by simp at e
 | _,_,0,_,.cons r _,e=>by simp at e;subst e;exact⟨_,rfl,r⟩
 | _,_,i+1,x,.cons _ t,e=>by
  obtain⟨u,h1,h2⟩:=zba.get (i:=i) (x:=x) t (by simpa using e);exact⟨u,by simpa using h1,h2⟩
theorem zba.set {x:V}{u:Value} (r:zbm x u):∀ {xs:List V}{us:List Value} (i:Nat),zba xs us->zba (xs.set i x) (us.set i u)
 | _,_,_,.nil=>.nil
 | _,_,0,.cons _ t=>.cons r t
 | _,_,i+1,.cons q t=>.cons q (zba.set r i t)
theorem zba.append:∀ {xs ys:List V}{us ws:List Value},zba xs us->zba ys ws->zba (xs++ys) (us++ws)
 | _,_,_,_,.nil,s=>s
 | _,_,_,_,.cons r t,s=>.cons r (zba.append t s)
theorem zba.take:∀ {xs:List V}{us:List Value} (n:Nat),zba xs us->zba (xs.take n) (us.take n)
 | _,_,0,_=>.nil
 | _,_,_+1,.nil=>.nil
 | _,_,n+1,.cons r t=>.cons r (zba.take n t)
theorem zba.drop:∀ {xs:List V}{us:List Value} (n:Nat),zba xs us->zba (xs.drop n) (us.drop n)
 | _,_,0,r=>r
 | _,_,_+1,.nil=>.nil
 | _,_,n+1,.cons _ t=>zba.drop n t
noncomputable def zh1:Option V->Option Value->Prop
 | some v,some u=>zbm v u
 | none,none=>True
 | _,_=>False
noncomputable def KV {κ : Type}:List (κ × V)->List (κ × Value)->Prop:=Paired fun (p : κ × V) (q : κ × Value)=>p.1=q.1/\zbm p.2 q.2
noncomputable def kV:Key->V
 | .inl i=>.int i
 | .inr x=>.str x
inductive HO where
  | lst (xs:List V)
  | tup (xs:List V)
  | dK (kvs:List (Key × V)) | dT (kvs:List (List Key × V))
  | set (S:Int->Bool) (n:Nat)
  | ins (C dx:Addr) (fs:List (Str × V))
  | own (x:Addr)
  | xd (fs:List (Str × V))
  | met (f x:Addr)
  | rng (lo hi:Int)
  | frz (o:Obj) (u:HO)
  | tbl (ps:Array Value)
  | ext (φ : Heap->Prop)
noncomputable abbrev Hp:=Addr->Option HO
noncomputable def upd (H:Hp) (a:Addr) (o:HO):Hp:=fun b=>if b=a then some o else H b
theorem zac {H:Hp}{a:Addr}{o:HO}:upd H a o a=some o:=by unfold upd;rw[if_pos rfl]
theorem zan {H:Hp}{a b:Addr}{o:HO} (h:b≠a):upd H a o b=H b:=by unfold upd;rw[if_neg h]
theorem zhJ {H:Hp}{a:Addr}{o u:HO}:upd (upd H a o) a u=upd H a u:=by
 funext b;unfold upd;split <;> rfl
theorem zpO {H:Hp}{a b:Addr}{o u:HO} (h:H a=some o) (h':H b=some u) (d:o≠u):a≠b:=by
 intro e;subst e;rw[h] at h';exact d (jaD h')
theorem zat {H:Hp}{a b:Addr}{o:HO} (h:H a=some o) (h':H b=none):a≠b:=by
 intro e;subst e;rw[h] at h';cases h'
section
variable (P:Program) (w:World)
noncomputable def zbJ (H:Hp) (h:Heap) (a:Addr):HO->Prop
 | .lst xs=>xs.length<=sizeLine/\∃ (its:List Value) (n:Nat),zba xs its/\h.get? a=some { cls := .type "list",data := .seq its.toArray n }
 | .tup xs=>xs.length<=sizeLine/\∃ its:List Value,zba xs its/\IsTup h a its.toArray
 | .dK kvs=>kvs.length<=sizeLine/\(a == sysModules)=false/\∃ vs,KV kvs vs/\h.DictOf (zbf P w) a vs
 | .dT kvs=>kvs.length<=sizeLine/\(a == sysModules)=false/\∃ xs:List (List Key × Addr × Value),
   Paired (fun (p:List Key × V) (q:List Key × Addr × Value)=>p.1=q.1/\H q.2.1=some (.tup (p.1.map kV))/\zbm p.2 q.2.2) kvs xs /\
   ∃ o es ep,h.get? a=some o/\o.ExactDict/\o.data = .dict es ep/\es.toList=xs.map (entryOfKey (tupleKind (zbf P w)))/\(xs.map (·.1)).Nodup
 | .set S n=>h.SetOf (intKind P w) a S n
 | .ins C dx fs=>H dx=some (.own a)/\fs.length<=1000/\dx≠a/\h.get? a=some (PySem.W.instObj C dx) /\
   ∃ mA,h.Ns1 dx mA/\(∀ f,zh1 (fs.lookup f) (mA f))/\PySem.Within mA (fs.map (·.1))
 | .own _=>∃ o,h.get? a=some o
 | .xd fs=>∃ mA,h.Ns1 a mA/\∀ f,zh1 (fs.lookup f) (mA f)
 | .rng lo hi=>∃ t u v,h.get? a=some { cls := .type "range",data := .fields #[.int lo t,.int hi u,.int 1 v] }
 | .frz o u=>h.get? a=some o/\zbJ H h a u
 | .tbl ps=>h.get? a=some { cls := .none,data := .fields ps }
 | .met f x=>h.get? a=some (PySem.W.methodObj (.ref f) (.ref x))
 | .ext φ => φ h/\(∃ o,h.get? a=some o)/\∀ h1 h2:Heap,φ h1->(∀ o,h1.get? a=some o->h2.get? a=some o) -> φ h2
noncomputable def HOk (H:Hp) (h:Heap):Prop:=∀ a o,H a=some o->zbJ P w H h a o
end
section
variable {P:Program}{w:World}{H H':Hp}{h h':Heap}{a:Addr}{o:HO}
theorem zbJ.lt (x:zbJ P w H h a o):a<h.objs.size:=by
 cases o with
 | lst xs=>obtain⟨_,_,_,_,e⟩:=x;exact jan e
 | tup xs=>obtain⟨_,_,_,p⟩:=x;exact p.lt
 | dK kvs=>obtain⟨_,_,_,_,o,_,_,e,_⟩:=x;exact jan e
 | dT kvs=>obtain⟨_,_,_,_,o,_,_,e,_⟩:=x;exact jan e
 | set S n=>obtain⟨o,_,_,_,e,_⟩:=x;exact jan e
 | ins C dx fs=>obtain⟨_,_,_,e,_⟩:=x;exact jan e
 | own y=>obtain⟨_,e⟩:=x;exact jan e
 | xd fs=>obtain⟨_,⟨_,_,_,e,_⟩,_⟩:=x;exact jan e
 | rng lo hi=>obtain⟨_,_,_,e⟩:=x;exact jan e
 | frz ob u=>obtain⟨e,_⟩:=x;exact jan e
 | tbl ps=>exact jan (show h.get? a=some _ from x)
 | met f y=>exact jan (show h.get? a=some _ from x)
 | ext φ => obtain⟨_,⟨_,e⟩,_⟩:=x;exact jan e
theorem Paired.mapP {α β : Type}{F G : α -> β -> Prop}:∀ {l₁:List α}{l₂:List β},Paired F l₁ l₂->(∀ a b,F a b->G a b)->Paired G l₁ l₂
 | _,_,.nil,_=>.nil
 | _,_,.cons r t,f=>.cons (f _ _ r) (Paired.mapP t f)
theorem zbJ.stay (x:zbJ P w H h a o) (k:∀ b u,(b=a\/H b=some (.own a))->h.get? b=some u->h'.get? b=some u)
  (ho:∀ b,H b=some (.own a)->H' b=some (.own a)) (ht:∀ b xs,H b=some (.tup xs)->H' b=some (.tup xs)):zbJ P w H' h' a o:=by
 induction o with
 | lst xs=>obtain⟨z,its,n,r,e⟩:=x;exact⟨z,its,n,r,k _ _ (.inl rfl) e⟩
 | tup xs=>obtain⟨z,its,r,ob,e,c⟩:=x;exact⟨z,its,r,ob,k _ _ (.inl rfl) e,c⟩
 | dK kvs=>obtain⟨z,y,vs,r,ob,es,ep,e,c⟩:=x;exact⟨z,y,vs,r,ob,es,ep,k _ _ (.inl rfl) e,c⟩
 | dT kvs =>
  obtain⟨z,y,xs,r,ob,es,ep,e,c⟩:=x;exact⟨z,y,xs,Paired.mapP r fun p q z=>⟨z.1,ht _ _ z.2.1,z.2.2⟩,ob,es,ep,k _ _ (.inl rfl) e,c⟩
 | set S n=>obtain⟨ob,es,ep,t,e,c⟩:=x;exact⟨ob,es,ep,t,k _ _ (.inl rfl) e,c⟩
 | ins C dx fs =>
  obtain⟨d,z,ne,e,mA,⟨od,es,ep,e2,c⟩,r⟩:=x;exact⟨ho _ d,z,ne,k _ _ (.inl rfl) e,mA,⟨od,es,ep,k _ _ (.inr d) e2,c⟩,r⟩
 | own y=>obtain⟨ob,e⟩:=x;exact⟨ob,k _ _ (.inl rfl) e⟩
 | xd fs=>obtain⟨mA,⟨od,es,ep,e,c⟩,r⟩:=x;exact⟨mA,⟨od,es,ep,k _ _ (.inl rfl) e,c⟩,r⟩
 | rng lo hi=>obtain⟨t,u,v,e⟩:=x;exact⟨t,u,v,k _ _ (.inl rfl) e⟩
 | frz ob u ih=>obtain⟨e,q⟩:=x;exact⟨k _ _ (.inl rfl) e,ih q⟩
 | tbl ps =>
  have e:h.get? a=some { cls := .none,data := .fields ps }:=x;show h'.get? a=some { cls := .none,data := .fields ps };exact k a _ (.inl rfl) e
 | met f y =>
  have e:h.get? a=some (PySem.W.methodObj (.ref f) (.ref y)):=x;show h'.get? a=some (PySem.W.methodObj (.ref f) (.ref y));exact k a _ (.inl rfl) e
 | ext φ => obtain⟨p,⟨o,e⟩,st⟩:=x;exact⟨st _ _ p fun o q=>k _ _ (.inl rfl) q,⟨o,k _ _ (.inl rfl) e⟩,st⟩
theorem HOk.lt (x:HOk P w H h) (e:H a=some o):a<h.objs.size:=(x a o e).lt
theorem HOk.fresh (x:HOk P w H h) (e:h.objs.size<=a):H a=none:=by
 cases q:H a with
 | none=>rfl
 | some u=>exact absurd (jas (x.lt q) e) (jbw _)
theorem HOk.kept (x:HOk P w H h) (k:∀ b u,h.get? b=some u->h'.get? b=some u):HOk P w H h':=fun a o e =>
 (x a o e).stay (fun b u _ q=>k b u q) (fun _ q=>q) fun _ _ q=>q
theorem HOk.laid (x:HOk P w H h) (k:∀ b u,h.get? b=some u->h'.get? b=some u) (hp:h.objs.size<=a) (new:zbJ P w (upd H a o) h' a o):HOk P w (upd H a o) h':=fun b u e=>by
 have hn:=x.fresh hp;by_cases hb:b=a
 ·subst hb;rw[zac] at e;cases e;exact new
 ·rw[zan hb] at e;exact (x b u e).stay (fun c v _ q=>k c v q) (fun c q=>by rw[zan (zat q hn)];exact q) fun c xs q=>by rw[zan (zat q hn)];exact q
end
noncomputable def Rd (H:Hp) (a:Addr) (u:HO):Prop:=H a=some u\/∃ o,H a=some (.frz o u)
theorem Rd.ok {P:Program}{w:World}{H:Hp}{h:Heap}{a:Addr}{u:HO} (r:Rd H a u) (x:HOk P w H h):zbJ P w H h a u:=by
 rcases r with r | ⟨o,r⟩
 ·exact x a u r
 ·obtain⟨_,q⟩:=x a _ r;exact q
noncomputable def Mut:Option HO->Prop
 | some (.lst _)=>True
 | some (.dK _)=>True
 | some (.dT _)=>True
 | some (.set _ _)=>True
 | some (.ins _ _ _)=>True
 | some (.ext _)=>True
 | _=>False
section
variable {P:Program}{w:World}{H:Hp}{h h':Heap}{x e:Addr}{o':HO}
theorem HOk.write (ok:HOk P w H h) (mu:Mut (H x)) (he:e=x\/H e=some (.own x)) (k:∀ b u,b≠e->h.get? b=some u->h'.get? b=some u) (heo:∃ u,h'.get? e=some u)
  (new:zbJ P w (upd H x o') h' x o'):HOk P w (upd H x o') h':=fun b u q=>by
 have nown:∀ c y,H c=some (.own y)->c≠x:=fun c y r z=>by subst z;rw[r] at mu;exact mu
 have ntup:∀ c xs,H c=some (.tup xs)->c≠x:=fun c xs r z=>by subst z;rw[r] at mu;exact mu
 by_cases hb:b=x
 ·subst hb;rw[zac] at q;cases q;exact new
 ·rw[zan hb] at q;by_cases hbe:b=e
  ·have q':H b=some (.own x):=by
    rcases he with z | z
    ·exact absurd (hbe.trans z) hb
    ·rw[hbe];exact z
   rw[q] at q';cases q';obtain⟨v,hv⟩:=heo;exact⟨v,by rw[hbe];exact hv⟩
  ·refine (ok b u q).stay (fun c v hc r=>k c v ?_ r) (fun c r=>by rw[zan (nown c b r)];exact r) fun c xs r=>by rw[zan (ntup c xs r)];exact r
   rcases hc with rfl | hc
   ·exact hbe
   ·rintro rfl;rcases he with z | z
    ·exact nown c b hc z
    ·rw[hc] at z;cases z;exact hb rfl
end
structure Un (fs ex:List Addr) (H H':Hp) (h h':Heap):Prop where
 keep:∀ b o,h.get? b=some o->H b=none->b ∉ fs->b ∉ ex->h'.get? b=some o
 slot:∀ b o,h.get? b=some o->H b=none->b∈fs->b ∉ ex->∃ sl,h'.get? b=some { o with slots:=sl }
 free:∀ b o,h.get? b=some o->H b=none->b ∉ ex->H' b=none
 there:∀ b o,h.get? b=some o->b ∉ ex->∃ o',h'.get? b=some o'
 tups:∀ b xs,H b=some (.tup xs)->H' b=some (.tup xs)
 frzs:∀ b o u,H b=some (.frz o u)->H' b=some (.frz o u)
 tbls:∀ b ps,H b=some (.tbl ps)->∃ more,H' b=some (.tbl (ps++more))
section
variable {fs fs' ex ex':List Addr}{H H1 H2:Hp}{h h1 h2 h':Heap}{a x e:Addr}{o:HO}
theorem Un.any (u:Un fs ex H H1 h h1) {b:Addr}{ob:Obj} (q:h.get? b=some ob) (n:H b=none) (hx:b ∉ ex):∃ sl,h1.get? b=some { ob with slots:=sl }:=by
 by_cases hb:b∈fs
 ·exact u.slot b ob q n hb hx
 ·exact⟨ob.slots,u.keep b ob q n hb hx⟩
theorem Un.kept (k:∀ b u,h.get? b=some u->h'.get? b=some u):Un fs ex H H h h' :=
 ⟨fun b ob q _ _ _=>k b ob q,fun b ob q _ _ _=>⟨ob.slots,k b ob q⟩,fun _ _ _ n _=>n,fun b ob q _=>⟨ob,k b ob q⟩,fun _ _ q=>q,fun _ _ _ q=>q,fun _ ps q=>⟨#[],by rw[q];simp⟩⟩
theorem Un.refl:Un fs ex H H h h:=Un.kept fun _ _ q=>q
theorem Un.laid (k:∀ b u,h.get? b=some u->h'.get? b=some u) (hp:h.objs.size<=a) (hn:H a=none):Un fs ex H (upd H a o) h h' where
 keep:=fun b u q _ _ _=>k b u q
 slot:=fun b u q _ _ _=>⟨u.slots,k b u q⟩
 free:=fun b u q n _=>by rw[zan (jaU (jas (jan q) hp))];exact n
 there:=fun b u q _=>⟨u,k b u q⟩
 tups:=fun b xs q=>by rw[zan (zat q hn)];exact q
 frzs:=fun b u xs q=>by rw[zan (zat q hn)];exact q
 tbls:=fun b ps q=>⟨#[],by rw[zan (zat q hn),q];simp⟩
theorem Un.write (mu:Mut (H x)) (he:e=x\/H e=some (.own x)) (k:∀ b u,b≠e->h.get? b=some u->h'.get? b=some u) (heo:∃ u,h'.get? e=some u):Un fs ex H (upd H x o) h h':=by
 have hx:∀ b,H b=none->b≠x:=fun b n z=>by subst z;rw[n] at mu;exact mu
 have hb:∀ b,H b=none->b≠e:=fun b n z=>by
  subst z;rcases he with r | r
  ·exact hx b n r
  ·rw[n] at r;cases r
 have hm:∀ b u,H b=some u->¬ Mut (some u)->b≠x:=fun b u q nm z=>by subst z;rw[q] at mu;exact nm mu
 refine⟨fun b u q n _ _=>k b u (hb b n) q,fun b u q n _ _=>⟨u.slots,k b u (hb b n) q⟩,fun b u q n _=>by rw[zan (hx b n)];exact n,fun b u q _=>?_,
  fun b xs q=>by rw[zan (hm b _ q fun z=>z)];exact q,fun b u xs q=>by rw[zan (hm b _ q fun z=>z)];exact q,fun b ps q=>⟨#[],by rw[zan (hm b _ q fun z=>z),q];simp⟩⟩
 by_cases hbe:b=e
 ·subst hbe;exact heo
 ·exact⟨u,k b u hbe q⟩
end
noncomputable def trk (h:Heap) (H:Hp):List Addr:=(List.range h.objs.size).filter fun a=>(H a).isSome
noncomputable def znJ (h:Heap) (H:Hp):Heap:=PySem.W.hideAll h (trk h H)
theorem zmb (h:Heap) (H:Hp):(znJ h H).objs.size=h.objs.size:=PySem.W.hideAll_size _ _
theorem zoc {h:Heap}{H:Hp}{b:Addr}{o:Obj} (e:h.get? b=some o) (n:H b=none):(znJ h H).get? b=some o :=
 jcN _ e fun hm=>by
  have q:(H b).isSome=true:=(ja8.mp hm).2;rw[n] at q;simp at q
theorem zpD {h:Heap}{H:Hp}{b:Addr}{o:Obj} (e:(znJ h H).get? b=some o):h.get? b=some o/\H b=none:=by
 have e':h.get? b=some o:=jcU (trk h H) e;refine⟨e',?_⟩;cases q:H b with
 | none=>rfl
 | some x =>
  have hm:b∈trk h H:=ja8.mpr ⟨jbA.mpr (jan e'),by simp[q]⟩;have z:(znJ h H).get? b=none:=jcF (trk h H) hm;rw[z] at e;cases e
end L2
namespace L2
open PySem PySem.Spec PyProof.Rows
structure Mod (K:PySem.W.Frag) (mg:Str->Option Value) (base:Heap):Prop where
 kin:K.In base
 glob:base.Ns mainGlobals mg
 blt:∃ mb,base.Ns builtinsNs mb/\∀ x:Str,x ≠ "__name__" -> mb x=bootBuiltins x
 nolimit:base.NoLimit
structure Cx where
 prog:Program
 w:World
 K:PySem.W.Frag
 mg:Str->Option Value
 base:Heap
 A:Around
 N:List Str
 s₀:Shared
 H₀:Hp
 env:Env
 outer:List Env
 stack:List Env
 ex:List Addr
 fn:Str->Bool
 calm:Bool
 pn:List (Addr × Obj)
 xe:Value->Shared->Prop
noncomputable def frs (l:List Env):List Addr:=l.filterMap (·.frame)
noncomputable abbrev Cx.fs (X:Cx):List Addr:=frs X.outer
noncomputable def Vis (sc:Scope) (x:Str):Prop:=sc.names.lookup x=some .local\/sc.names.lookup x=some .cell\/sc.names.lookup x=some .free
noncomputable def Loc (sc:Scope) (x:Str):Prop:=sc.names.lookup x=some .local\/sc.names.lookup x=some .cell
noncomputable def zuJ (env:Env) (h:Heap) (m:Str->Option Value) (x:Str) (u:Value):Prop :=
 (env.kindOf x=some .local/\m x=some u)\/((env.kindOf x=some .cell\/env.kindOf x=some .free)/\∃ c,env.cells.lookup x=some c/\h.IsCell c (some u))
structure Cx.Ok (X:Cx):Prop where
 mod:Mod X.K X.mg X.base
 kind:X.env.scope.kind = .function
 glob:X.env.globals=mainGlobals
 blt:X.env.builtins=builtinsNs
 above:X.s₀.heap.objs.size<=X.env.locals
 inj:∀ x y c,X.env.cells.lookup x=some c->X.env.cells.lookup y=some c->x=y
 has:∀ x,(X.env.kindOf x=some .cell\/X.env.kindOf x=some .free)->∃ c,X.env.cells.lookup x=some c
 cab:∀ x c,X.fn x=true->X.env.cells.lookup x=some c->X.s₀.heap.objs.size<=c
 hd:X.calm=true->X.A.handled=none
 frames:X.A.frames=some X.stack
 stk:X.stack=X.outer\/(X.stack=X.env :: X.outer/\X.env.frame=some X.env.locals)
 exf:∀ b∈X.ex,b≠X.env.locals/\∀ x c,X.env.cells.lookup x=some c->c≠b
 bs:∀ b o,X.base.get? b=some o->X.s₀.heap.get? b=some o/\X.H₀ b=none
 bsz:X.base.objs.size<=X.s₀.heap.objs.size
 noex:∀ b o,X.base.get? b=some o->b ∉ X.ex
 exfs:∀ b∈X.ex,b ∉ X.fs
 funs:X.s₀.heap.FunFrames X.base X.outer
 frf:∀ b∈X.fs,X.H₀ b=none
structure Inv (X:Cx) (pins:List (Addr × Obj)) (σ:List (Option V)) (H:Hp) (s:Shared):Prop where
 ok:X.Ok
 os:s.os=X.s₀.os
 bare:AllBare s.gens
 base:Un X.fs X.ex X.H₀ H X.s₀.heap s.heap
 loc:∃ m,s.heap.Ns X.env.locals m/\∀ (i:Nat) (x:Str) (v:V),X.N[i]? = some x -> σ[i]? = some (some v)->Vis X.env.scope x->∃ u,zbm v u/\zuJ X.env s.heap m x u
 cell:∀ x c,X.env.cells.lookup x=some c->∃ v,s.heap.IsCell c v
 free:H X.env.locals=none
 freeC:∀ x c,X.env.cells.lookup x=some c->H c=none
 pin:∀ p∈X.pn++pins,s.heap.get? p.1=some p.2/\H p.1=none/\p.1≠X.env.locals/\p.1 ∉ X.fs/\∀ v,p.2.data ≠ .cell v
 hok:HOk X.prog X.w H s.heap
 len : σ.length=X.N.length
section
variable {X:Cx}{pins:List (Addr × Obj)} {σ:List (Option V)}{H H':Hp}{s:Shared}{h':Heap}
theorem Cx.Ok.nofr (ok:X.Ok) {b:Addr}{o:Obj} (e:X.base.get? b=some o):b ∉ X.fs:=fun hb=>by
 have:=(ok.funs.mem hb).1
 rw[e] at this;cases this
theorem Inv.bs (I:Inv X pins σ H s):∀ b o,X.base.get? b=some o->s.heap.get? b=some o/\H b=none:=fun b o e =>
 ⟨I.base.keep b o (I.ok.bs b o e).1 (I.ok.bs b o e).2 (I.ok.nofr e) (I.ok.noex b o e),I.base.free b o (I.ok.bs b o e).1 (I.ok.bs b o e).2 (I.ok.noex b o e)⟩
theorem Inv.bk (I:Inv X pins σ H s):∀ b o,X.base.get? b=some o->s.heap.get? b=some o:=fun b o e=>(I.bs b o e).1
theorem Inv.mod (I:Inv X pins σ H s):Mod X.K X.mg X.base:=I.ok.mod
theorem Inv.kIn (I:Inv X pins σ H s):X.K.In s.heap:=I.ok.mod.kin.keeps I.bk
theorem Inv.lt (I:Inv X pins σ H s):X.env.locals<s.heap.objs.size:=let ⟨_,hn,_⟩:=I.loc;hn.lt
theorem Inv.sz (I:Inv X pins σ H s):X.s₀.heap.objs.size<=s.heap.objs.size:=jak I.ok.above (jaB I.lt)
theorem Inv.nofs (I:Inv X pins σ H s) {a:Addr} (h:s.heap.objs.size<=a):a ∉ X.fs:=fun hb=>by
 obtain⟨_,o,ho,_⟩:=I.ok.funs.mem hb;exact absurd (jas (jan ho) (jak I.sz h)) (jbw _)
theorem Inv.cne (I:Inv X pins σ H s):∀ x c,X.env.cells.lookup x=some c->c≠X.env.locals:=fun x c e z=>by
 obtain⟨v,o,ho,hd⟩:=I.cell x c e;obtain⟨m,⟨o',es,ep,ho',hd',_⟩,_⟩:=I.loc;rw[z,ho'] at ho;cases ho;rw[hd'] at hd;cases hd
theorem Inv.funs (I:Inv X pins σ H s):s.heap.FunFrames X.base X.outer:=by
 have all:∀ (l:List Env),(∀ b∈frs l,b∈X.fs)->X.s₀.heap.FunFrames X.base l->s.heap.FunFrames X.base l:=by
  intro l;induction l with
  | nil=>intro _ _;trivial
  | cons env r ih =>
   intro hs hl;obtain⟨hk,⟨L,o,hf,hn,ho,hd⟩,hr⟩:=hl;have hL:L∈X.fs:=hs L (by unfold frs;rw[jb9,hf];exact jbh);obtain⟨sl,e⟩:=I.base.slot L o ho (I.ok.frf L hL) hL fun z=>I.ok.exfs L z hL
   exact⟨hk,⟨L,_,hf,hn,e,hd⟩,ih (fun b hb=>hs b (by unfold frs;rw[jb9,hf];exact jax _ hb)) hr⟩
 exact all X.outer (fun _ hb=>hb) I.ok.funs
theorem Inv.stack (I:Inv X pins σ H s):s.heap.FunFrames X.base X.stack:=by
 rcases I.ok.stk with e | ⟨e,hf⟩
 ·rw[e];exact I.funs
 ·rw[e];obtain⟨m,hn,_⟩:=I.loc;refine .cons (by rw[I.ok.kind];decide) hf hn ?_ I.funs;exact jcE (jak I.ok.bsz I.ok.above)
theorem Inv.stkSub (I:Inv X pins σ H s):∀ b∈frs X.stack,b∈X.env.locals :: X.fs:=fun b hb=>by
 rcases I.ok.stk with e | ⟨e,hf⟩
 ·rw[e] at hb;exact jax _ hb
 ·rw[e] at hb;unfold frs at hb;rw[jb9,hf] at hb;exact hb
theorem Inv.stkFree (I:Inv X pins σ H s):∀ b∈frs X.stack,H b=none:=fun b hb=>by
 rcases jaj.mp (I.stkSub b hb) with e | hb
 ·rw[e];exact I.free
 ·obtain⟨_,o,ho,_⟩:=I.ok.funs.mem hb;exact I.base.free b o ho (I.ok.frf b hb) fun z=>I.ok.exfs b z hb
theorem Inv.step {g':Array GenState}{t':Nat}{d':Drawn}{ch:List Addr} (I:Inv X pins σ H s)
  (hch:∀ b∈ch,(b∈X.ex\/X.s₀.heap.objs.size<=b)/\b≠X.env.locals/\(∀ x c,X.env.cells.lookup x=some c->c≠b)/\∀ p∈X.pn++pins,p.1≠b)
  (keep:∀ b o,b≠X.env.locals->b ∉ X.fs->b ∉ ch->s.heap.get? b=some o->H b=none->h'.get? b=some o)
  (slot:∀ b o,b≠X.env.locals->b∈X.fs->b ∉ ch->s.heap.get? b=some o->H b=none->∃ sl,h'.get? b=some { o with slots:=sl }) (free:∀ b o,b ∉ ch->s.heap.get? b=some o->H b=none->H' b=none)
  (there:∀ b o,b ∉ ch->s.heap.get? b=some o->∃ o',h'.get? b=some o')
  (tups:∀ b xs,H b=some (.tup xs)->H' b=some (.tup xs)) (frzs:∀ b o u,H b=some (.frz o u)->H' b=some (.frz o u)) (tbls:∀ b ps,H b=some (.tbl ps)->∃ more,H' b=some (.tbl (ps++more)))
  (ns:∀ m,s.heap.Ns X.env.locals m->h'.Ns X.env.locals m) (hok:HOk X.prog X.w H' h') (hg:AllBare g') :
  Inv X pins σ H' { s with heap:=h',gens:=g',drawn:=d',toks:=t' }:=by
 have neL:∀ b o,X.s₀.heap.get? b=some o->b≠X.env.locals:=fun b o e=>jaU (jas (jan e) I.ok.above)
 have neC:∀ b o,X.s₀.heap.get? b=some o->b ∉ X.ex->b ∉ ch:=fun b o e hx hb=>by
  rcases (hch b hb).1 with z | z
  ·exact hx z
  ·exact absurd (jas (jan e) z) (jbw _)
 have cellK:∀ x c,X.env.cells.lookup x=some c->∀ v,s.heap.IsCell c v->h'.IsCell c v:=fun x c e v ⟨o,ho,hd⟩=>by
  have nch:c ∉ ch:=fun z=>(hch c z).2.2.1 x c e rfl
  by_cases hc:c∈X.fs
  ·obtain⟨sl,q⟩:=slot c o (I.cne x c e) hc nch ho (I.freeC x c e);exact⟨_,q,hd⟩
  ·exact⟨o,keep c o (I.cne x c e) hc nch ho (I.freeC x c e),hd⟩
 refine⟨I.ok,I.os,hg,⟨fun b o e n hb hx=>?_,fun b o e n hb hx=>?_,fun b o e n hx=>?_,fun b o e hx=>?_,fun b xs e=>tups b xs (I.base.tups b xs e),fun b o xs e=>frzs b o xs (I.base.frzs b o xs e),fun b ps e=>?_⟩,?_,fun x c e=>?_,?_,fun x c e=>?_,fun p hp=>?_,hok,I.len⟩
 ·exact keep b o (neL b o e) hb (neC b o e hx) (I.base.keep b o e n hb hx) (I.base.free b o e n hx)
 ·obtain⟨sl,e1⟩:=I.base.slot b o e n hb hx;obtain⟨sl',e2⟩:=slot b _ (neL b o e) hb (neC b o e hx) e1 (I.base.free b o e n hx);exact⟨sl',e2⟩
 ·obtain⟨o',e1⟩:=I.base.there b o e hx;exact free b o' (neC b o e hx) e1 (I.base.free b o e n hx)
 ·obtain⟨o',e1⟩:=I.base.there b o e hx;exact there b o' (neC b o e hx) e1
 ·obtain⟨m1,e1⟩:=I.base.tbls b ps e;obtain⟨m2,e2⟩:=tbls b _ e1;exact⟨m1++m2,by rw[e2,Array.append_assoc]⟩
 ·obtain⟨m,hn,hl⟩:=I.loc;refine⟨m,ns m hn,fun i x v e1 e2 e3=>?_⟩;obtain⟨u,r,l⟩:=hl i x v e1 e2 e3;refine⟨u,r,?_⟩;rcases l with l | ⟨k,c,e,z⟩
  ·exact .inl l
  ·exact .inr ⟨k,c,e,cellK x c e _ z⟩
 ·obtain⟨v,z⟩:=I.cell x c e;exact⟨v,cellK x c e v z⟩
 ·obtain⟨m,⟨o,_,_,ho,_⟩,_⟩:=I.loc;exact free _ o (fun z=>(hch _ z).2.1 rfl) ho I.free
 ·obtain⟨v,o,ho,hd⟩:=I.cell x c e;exact free c o (fun z=>(hch c z).2.2.1 x c e rfl) ho (I.freeC x c e)
 ·obtain⟨e,n,ne,nf,d⟩:=I.pin p hp;have nch:p.1 ∉ ch:=fun z=>(hch p.1 z).2.2.2 p hp rfl
  exact⟨keep p.1 p.2 ne nf nch e n,free p.1 p.2 nch e n,ne,nf,d⟩
theorem Inv.un {t':Nat} (I:Inv X pins σ H s) (u:Un X.fs [] H H' s.heap h') (hok:HOk X.prog X.w H' h'):Inv X pins σ H' { s with heap:=h',toks:=t' }:=by
 obtain⟨m,⟨o,es,ep,ho,r⟩,_⟩:=id I.loc;obtain⟨sl,hL⟩:=u.any ho I.free (by simp);exact I.step (g':=s.gens) (d':=s.drawn) (ch:=[]) (fun _ z=>nomatch z) (fun b o _ hb _ e n=>u.keep b o e n hb (by simp)) (fun b o _ hb _ e n=>u.slot b o e n hb (by simp)) (fun b o _ e n=>u.free b o e n (by simp)) (fun b o _ e=>u.there b o e (by simp)) u.tups u.frzs u.tbls (fun m' hm=>by
  obtain⟨o',es',ep',ho',r'⟩:=hm;rw[ho] at ho';cases ho';exact⟨_,es',ep',hL,r'⟩) hok I.bare
theorem Inv.call {g':Array GenState}{t':Nat}{d':Drawn}{ch:List Addr} (I:Inv X pins σ H s) (u:Un (frs X.stack) ch H H' s.heap h') (hok:HOk X.prog X.w H' h') (hg:AllBare g')
  (hch:∀ b∈ch,(b∈X.ex\/X.s₀.heap.objs.size<=b)/\b≠X.env.locals/\(∀ x c,X.env.cells.lookup x=some c->c≠b)/\∀ p∈X.pn++pins,p.1≠b) :
  Inv X pins σ H' { s with heap:=h',gens:=g',drawn:=d',toks:=t' }:=by
 obtain⟨m,⟨o,es,ep,ho,r⟩,_⟩:=id I.loc;obtain⟨sl,hL⟩:=u.any ho I.free fun z=>(hch _ z).2.1 rfl
 exact I.step (ch:=ch) hch (fun b o hL hb hc e n=>u.keep b o e n (fun z=>(jaj.mp (I.stkSub b z)).elim hL hb) hc) (fun b o _ _ hc e n=>u.any e n hc) (fun b o hc e n=>u.free b o e n hc) (fun b o hc e=>u.there b o e hc) u.tups u.frzs u.tbls (fun m' hm=>by
  obtain⟨o',es',ep',ho',r'⟩:=hm;rw[ho] at ho';cases ho';exact⟨_,es',ep',hL,r'⟩) hok hg
theorem Inv.turned {t':Nat}{it:Addr} (I:Inv X pins σ H s) (k:∀ b o,b≠it->s.heap.get? b=some o->h'.get? b=some o) (hn:H it=none) (hL:it≠X.env.locals)
  (h1:it∈X.ex\/X.s₀.heap.objs.size<=it) (h2:∀ x c,X.env.cells.lookup x=some c->c≠it) (h3:∀ p∈X.pn++pins,p.1≠it):Inv X pins σ H { s with heap:=h',toks:=t' }:=by
 have nit:∀ b u,H b=some u->b≠it:=fun b u e z=>by rw[z,hn] at e;cases e
 refine I.step (g':=s.gens) (d':=s.drawn) (ch:=[it]) (fun b hb=>?_) (fun b o _ _ hc e _=>k b o (fun z=>hc (by simp[z])) e) (fun b o _ _ hc e _=>⟨o.slots,k b o (fun z=>hc (by simp[z])) e⟩) (fun _ _ _ _ n=>n)
  (fun b o hc e=>⟨o,k b o (fun z=>hc (by simp[z])) e⟩) (fun _ _ e=>e) (fun _ _ _ e=>e) (fun b ps e=>⟨#[],by rw[e];simp⟩) (fun m hm=>?_) (fun b u e=>?_) I.bare
 ·have e:b=it:=by simpa using hb
  subst e;exact⟨h1,hL,h2,h3⟩
 ·obtain⟨o,es,ep,ho,r⟩:=hm;exact⟨o,es,ep,k _ o (Ne.symm hL) ho,r⟩
 ·refine (I.hok b u e).stay (fun c v hc q=>k c v ?_ q) (fun _ q=>q) fun _ _ q=>q
  rcases hc with z | z
  ·rw[z];exact nit b u e
  ·exact nit c _ z
theorem Inv.tok (I:Inv X pins σ H s) (t:Nat):Inv X pins σ H { s with toks:=t }:=I.un (h':=s.heap) (t':=t) Un.refl I.hok
theorem Inv.kept {t':Nat} (I:Inv X pins σ H s) (k:∀ b u,s.heap.get? b=some u->h'.get? b=some u):Inv X pins σ H { s with heap:=h',toks:=t' }:=I.un (Un.kept k) (I.hok.kept k)
theorem Inv.laid {a:Addr}{o:HO}{t':Nat} (I:Inv X pins σ H s) (k:∀ b u,s.heap.get? b=some u->h'.get? b=some u) (hp:s.heap.objs.size<=a) (new:zbJ X.prog X.w (upd H a o) h' a o) :
  Inv X pins σ (upd H a o) { s with heap:=h',toks:=t' }:=I.un (Un.laid k hp (I.hok.fresh hp)) (I.hok.laid k hp new)
theorem Inv.write {x e:Addr}{o:HO}{t':Nat} (I:Inv X pins σ H s) (mu:Mut (H x)) (he:e=x\/H e=some (.own x)) (k:∀ b u,b≠e->s.heap.get? b=some u->h'.get? b=some u) (heo:∃ u,h'.get? e=some u)
  (new:zbJ X.prog X.w (upd H x o) h' x o):Inv X pins σ (upd H x o) { s with heap:=h',toks:=t' }:=I.un (Un.write mu he k heo) (I.hok.write mu he k heo new)
theorem Inv.pins_of {pins':List (Addr × Obj)} (I:Inv X pins σ H s) (h:∀ p∈pins',s.heap.get? p.1=some p.2/\H p.1=none/\p.1≠X.env.locals/\p.1 ∉ X.fs/\∀ v,p.2.data ≠ .cell v):Inv X pins' σ H s :=
 ⟨I.ok,I.os,I.bare,I.base,I.loc,I.cell,I.free,I.freeC,fun p hp=>(jah.mp hp).elim (fun z=>I.pin p (ja4 _ z)) (h p),I.hok,I.len⟩
theorem zhm {N:List Str} (hN:N.Nodup) {i j:Nat}{x:Str} (a:N[i]? = some x) (b:N[j]? = some x):i=j:=by
 obtain⟨h1,e1⟩:=jam.mp a;obtain⟨h2,e2⟩:=jam.mp b;exact (List.getElem_inj hN).mp (e1.trans e2.symm)
theorem zlW {M:Model}{A:Around}{E:Value->Shared->Prop}{i:Nat}{x:Str}{v:V}{u:Value}{Q:Unit->Shared->Prop} (I:Inv X pins σ H s) (hN:X.N.Nodup) (hi:X.N[i]? = some x) (hx:Loc X.env.scope x) (r:zbm v u)
  (h:∀ s',Inv X pins (σ.set i (some v)) H s'->(∃ a,Heap.SameBut a s.heap s'.heap/\(a=X.env.locals\/X.env.cells.lookup x=some a))->Q () s') (hf:X.fn x=true\/X.env.scope.names.lookup x=some .local:=by first | exact .inl rfl | exact .inr rfl | assumption):wpAny M A (storeName X.env x u) Q E s:=by
 obtain⟨m,hn,hl⟩:=id I.loc;have hcls:(X.env.scope.kind == .class || (X.env.scope.kind == .module && X.env.locals != X.env.globals))=false:=by rw[I.ok.kind];rfl
 have hiσ:i < σ.length:=by rw[I.len];exact (jam.mp hi).1
 have cne:=I.cne;have tracked:∀ {a:Addr}{h':Heap},(∃ o,s.heap.get? a=some o/\H a=none)->Heap.SameBut a s.heap h'->HOk X.prog X.w H h':=fun {a h'} ha hs b ob e=>by
  obtain⟨_,_,hfree⟩:=ha;refine (I.hok b ob e).stay (fun c w' hc q=>(hs.2 c ?_).trans q) (fun _ q=>q) fun _ _ q=>q
  rintro rfl;rcases hc with rfl | hc
  ·rw[hfree] at e;cases e
  ·rw[hfree] at hc;cases hc
 rcases hx with hk | hk
 ·refine wpAny_storeName_local hk hn (fun h' hn' hs=>?_) hcls;obtain⟨oL,_,_,hoL,_⟩:=id hn;refine h _ ⟨I.ok,I.os,I.bare,⟨fun b o e n hb hx=>?_,fun b o e n hb hx=>?_,I.base.free,fun b o e hx=>?_,I.base.tups,I.base.frzs,I.base.tbls⟩,⟨_,hn',fun j y v' e1 e2 e3=>?_⟩,fun y c e=>?_,I.free,I.freeC,fun p hp=>?_,tracked ⟨oL,hoL,I.free⟩ hs,by simpa using I.len⟩ ⟨_,hs,.inl rfl⟩
  ·exact (hs.2 b (jaU (jas (jan e) I.ok.above))).trans (I.base.keep b o e n hb hx)
  ·obtain⟨sl,e1⟩:=I.base.slot b o e n hb hx;exact⟨sl,(hs.2 b (jaU (jas (jan e) I.ok.above))).trans e1⟩
  ·obtain⟨o',e1⟩:=I.base.there b o e hx;exact⟨o',(hs.2 b (jaU (jas (jan e) I.ok.above))).trans e1⟩
  ·by_cases hj:j=i
   ·subst hj;rw[hi] at e1;cases e1;rw[jbt hiσ] at e2;cases e2;exact⟨u,r,.inl ⟨hk,by simp⟩⟩
   ·rw[jcD (Ne.symm hj)] at e2;obtain⟨u',r',q⟩:=hl j y v' e1 e2 e3;refine⟨u',r',?_⟩;rcases q with ⟨k,e⟩ | ⟨k,c,e,z⟩
    ·refine .inl ⟨k,?_⟩
     have:y≠x:=fun e=>hj (zhm hN e1 (e ▸ hi))
     simp[this,e]
    ·exact .inr ⟨k,c,e,z.sameBut hs (cne y c e)⟩
  ·obtain⟨w',z⟩:=I.cell y c e;exact⟨w',z.sameBut hs (cne y c e)⟩
  ·obtain⟨e,n,ne,nf,d⟩:=I.pin p hp;exact⟨(hs.2 p.1 ne).trans e,n,ne,nf,d⟩
 ·have hfn:X.fn x=true:=by
   rcases hf with z | z
   ·exact z
   ·rw[z] at hk;cases hk
  obtain⟨c,hc⟩:=I.ok.has x (.inl hk);obtain⟨w',z⟩:=I.cell x c hc;refine wpAny_storeName_cell I.ok.kind hk hc z (fun h' hc' hs=>?_);obtain⟨oc,hoc,hocd⟩:=id z;refine h { s with heap:=h' } ⟨I.ok,I.os,I.bare,⟨fun b o e n hb hx=>?_,fun b o e n hb hx=>?_,I.base.free,fun b o e hx=>?_,I.base.tups,I.base.frzs,I.base.tbls⟩,⟨m,hn.sameBut hs (Ne.symm (cne x c hc)),fun j y v' e1 e2 e3=>?_⟩,fun y c' e=>?_,I.free,I.freeC,fun p hp=>?_,tracked ⟨oc,hoc,I.freeC x c hc⟩ hs,by simpa using I.len⟩ ⟨c,hs,.inr hc⟩
  ·exact (hs.2 b (jaU (jas (jan e) (I.ok.cab x c hfn hc)))).trans (I.base.keep b o e n hb hx)
  ·obtain⟨sl,e1⟩:=I.base.slot b o e n hb hx;exact⟨sl,(hs.2 b (jaU (jas (jan e) (I.ok.cab x c hfn hc)))).trans e1⟩
  ·obtain⟨o',e1⟩:=I.base.there b o e hx;exact⟨o',(hs.2 b (jaU (jas (jan e) (I.ok.cab x c hfn hc)))).trans e1⟩
  ·by_cases hj:j=i
   ·subst hj;rw[hi] at e1;cases e1;rw[jbt hiσ] at e2;cases e2;exact⟨u,r,.inr ⟨.inl hk,c,hc,hc'⟩⟩
   ·rw[jcD (Ne.symm hj)] at e2;obtain⟨u',r',q⟩:=hl j y v' e1 e2 e3;refine⟨u',r',?_⟩;rcases q with q | ⟨k,c',e,z'⟩
    ·exact .inl q
    ·refine .inr ⟨k,c',e,z'.sameBut hs ?_⟩;rintro rfl;exact hj (zhm hN e1 (I.ok.inj _ _ _ e hc ▸ hi))
  ·by_cases hcc:c'=c
   ·subst hcc;exact⟨_,hc'⟩
   ·obtain⟨w2,z2⟩:=I.cell y c' e;exact⟨w2,z2.sameBut hs hcc⟩
  ·obtain⟨e,n,ne,nf,d⟩:=I.pin p hp;refine⟨(hs.2 p.1 ?_).trans e,n,ne,nf,d⟩;intro q;rw[q,hoc] at e;have q':oc=p.2:=jaD e;exact d w' (by rw[<- q'];exact hocd)
theorem zez {M:Model}{A:Around}{E:Value->Shared->Prop}{i:Nat}{x:Str}{v:V}{u:Value}{Q:Unit->Shared->Prop} (I:Inv X pins σ H s) (hN:X.N.Nodup) (hi:X.N[i]? = some x) (hx:Loc X.env.scope x) (r:zbm v u)
  (h:∀ s',Inv X pins (σ.set i (some v)) H s'->Q () s') (hf:X.fn x=true\/X.env.scope.names.lookup x=some .local:=by first | exact .inl rfl | exact .inr rfl | assumption):wpAny M A (storeName X.env x u) Q E s :=
 zlW I hN hi hx r (fun s' I' _=>h s' I') hf
theorem Inv.call' {s':Shared}{ch:List Addr} (I:Inv X pins σ H s) (ho:s'.os=s.os) (u:Un (frs X.stack) ch H H' s.heap s'.heap) (hok:HOk X.prog X.w H' s'.heap) (hg:AllBare s'.gens)
  (hch:∀ b∈ch,(b∈X.ex\/X.s₀.heap.objs.size<=b)/\b≠X.env.locals/\(∀ x c,X.env.cells.lookup x=some c->c≠b)/\∀ p∈X.pn++pins,p.1≠b):Inv X pins σ H' s':=by
 obtain⟨h',g',d',t',o'⟩:=s';have e:o'=s.os:=ho;subst e;exact I.call (g':=g') (t':=t') (d':=d') u hok hg hch
end
noncomputable abbrev XK:=Value->Option Addr->Hp->Prop
noncomputable abbrev St:=List (Option V)
noncomputable abbrev VK:=V->Hp->Prop
noncomputable abbrev TE:=St->Hp->VK->Prop
noncomputable abbrev TT:=St->Hp->(Bool->Hp->Prop)->Prop
noncomputable abbrev TA:=St->Hp->(List V->Hp->Prop)->Prop
structure zld where
 nx:St->Hp->Prop
 rt:VK
 bk:St->Hp->Prop:=fun _ _=>False
 ct:St->Hp->Prop:=fun _ _=>False
noncomputable abbrev TS:=zld->St->Hp->Prop
noncomputable def EP (X:Cx) (pins:List (Addr × Obj)) (σ:St) (Q:VK) (u:Value) (s':Shared):Prop:=∃ v H',Inv X pins σ H' s'/\zbm v u/\Q v H'
noncomputable def TP (X:Cx) (pins:List (Addr × Obj)) (σ:St) (Q:Bool->Hp->Prop) (b:Bool) (s':Shared):Prop:=∃ H',Inv X pins σ H' s'/\Q b H'
noncomputable def AP (X:Cx) (pins:List (Addr × Obj)) (σ:St) (Q:List V->Hp->Prop) (us:List Value) (s':Shared):Prop:=∃ vs H',Inv X pins σ H' s'/\zba vs us/\Q vs H'
noncomputable def SP (X:Cx) (pins:List (Addr × Obj)) (D:zld) (f:Flow) (s':Shared):Prop :=
 match f with
 | .next=>∃ σ' H',Inv X pins σ' H' s'/\D.nx σ' H'
 | .brk=>∃ σ' H',Inv X pins σ' H' s'/\D.bk σ' H'
 | .cont=>∃ σ' H',Inv X pins σ' H' s'/\D.ct σ' H'
 | .ret u=>∃ v σ' H',Inv X pins σ' H' s'/\zbm v u/\D.rt v H'
noncomputable def PE (X:Cx) (e:Expr) (t:TE):Prop :=
 ∀ (pins:List (Addr × Obj)) (s:Shared) (σ:St) (H:Hp) (Q:VK),Inv X pins σ H s->t σ H Q->wpAny (model X.prog X.w) X.A (eval e X.env) (EP X pins σ Q) X.xe s
noncomputable def PT (X:Cx) (e:Expr) (t:TT):Prop :=
 ∀ (pins:List (Addr × Obj)) (s:Shared) (σ:St) (H:Hp) (Q:Bool->Hp->Prop),Inv X pins σ H s->t σ H Q->wpAny (model X.prog X.w) X.A (isTrue e X.env (eval e X.env)) (TP X pins σ Q) X.xe s
noncomputable def PW (X:Cx) (e:Expr) (t:TT):Prop :=
 ∀ (whole:Sem Value) (pins:List (Addr × Obj)) (s:Shared) (σ:St) (H:Hp) (Q:Bool->Hp->Prop),Inv X pins σ H s->t σ H Q->wpAny (model X.prog X.w) X.A (isTrue e X.env whole) (TP X pins σ Q) X.xe s
theorem PW.pt {X:Cx}{e:Expr}{t:TT} (h:PW X e t):PT X e t:=h _
noncomputable def PA (X:Cx) (es:List Expr) (t:TA):Prop :=
 ∀ (pos:Pos) (pins:List (Addr × Obj)) (s:Shared) (σ:St) (H:Hp) (Q:List V->Hp->Prop),Inv X pins σ H s->t σ H Q->wpAny (model X.prog X.w) X.A (spliced (backTo pos (starEach es X.env))) (AP X pins σ Q) X.xe s
noncomputable def PS (X:Cx) (st:Stmt) (t:TS):Prop :=
 ∀ (pins:List (Addr × Obj)) (s:Shared) (σ:St) (H:Hp) (D:zld),Inv X pins σ H s->t D σ H->wpAny (model X.prog X.w) X.A (exec st X.env) (SP X pins D) X.xe s
noncomputable def PSs (X:Cx) (st:List Stmt) (t:TS):Prop :=
 ∀ (pins:List (Addr × Obj)) (s:Shared) (σ:St) (H:Hp) (D:zld),Inv X pins σ H s->t D σ H->wpAny (model X.prog X.w) X.A (execs st X.env) (SP X pins D) X.xe s
theorem thn {α : Type}{t:Sem α}{Q Q' : α -> Shared->Prop}{M:Model}{A:Around}{E:Value->Shared->Prop}{s:Shared} (h:wpAny M A t Q E s) (hQ:∀ a s,Q a s->Q' a s):wpAny M A t Q' E s:=wpAny_mono h hQ fun _ _ x=>x
end L2
namespace L2
open PySem PySem.Spec PyProof.Rows
section
variable {X:Cx}
noncomputable def zlo (i:Nat):TE:=fun σ H Q=>∃ v,σ[i]? = some (some v)/\Q v H
noncomputable def tC (v:V):TE:=fun _ H Q=>Q v H
theorem zoP {i:Nat}{x:Str}{pos:Pos} (hN:X.N[i]? = some x) (hv:Vis X.env.scope x) (hd:(x == ("__debug__" : Str))=false:=by decide) (hcd:(x == ("__classdict__" : Str))=false:=by decide):PE X (.Name x pos) (zlo i):=by
 intro pins s σ H Q I h;obtain⟨v,e,h⟩:=h;obtain⟨m,hn,hl⟩:=I.loc;obtain⟨u,r,l⟩:=hl i x v hN e hv;have fin:EP X pins σ Q u s:=⟨v,H,I,r,h⟩;rcases l with ⟨hk,hm⟩ | ⟨hk,c,hc,hcell⟩
 ·exact wpAny_Name (wpAny_loadName_local I.ok.kind hk hn hm fin) hd
 ·rcases hk with hk | hk
  ·exact wpAny_Name (wpAny_loadName_cell I.ok.kind hk hc hcell fin) hd
  ·exact wpAny_Name (wpAny_loadName_free I.ok.kind hk hc hcell fin hcd) hd
theorem zaf {i j pos}:PE X (.Constant (.int i) j pos) (tC (.int i)):=fun _ _ _ H _ I h=>wpAny_Constant_int ⟨.int i,H,I.tok _,⟨_,rfl⟩,h⟩
theorem zjj {b j pos}:PE X (.Constant (.bool b) j pos) (tC (.bl b)):=fun _ _ _ H _ I h=>Constant_bool ⟨.bl b,H,I,rfl,h⟩
theorem zcI {j pos}:PE X (.Constant .none j pos) (tC .non):=fun _ _ _ H _ I h=>Constant_none ⟨.non,H,I,rfl,h⟩
theorem zaj {x j pos}:PE X (.Constant (.str x) j pos) (tC (.str x)):=fun _ _ _ H _ I h=>Calls.Constant_str ⟨.str x,H,I.tok _,⟨_,rfl⟩,h⟩
noncomputable def Gl (X:Cx) (x:Str):Prop:=X.env.kindOf x=some .globalImplicit
theorem zgg {E:Value->Shared->Prop}{pins:List (Addr × Obj)}{s:Shared} {σ:St}{H:Hp}{x:Str}{u:Value}{pos:Pos}{Q:Value->Shared->Prop} (I:Inv X pins σ H s) (hg:Gl X x) (hm:X.mg x=some u) (h:Q u s)
  (hd:(x == ("__debug__" : Str))=false:=by decide):wpAny (model X.prog X.w) X.A (eval (.Name x pos) X.env) Q E s :=
 jcT I.ok.kind hg (Calls.loadGlobal_global (by rw[I.ok.glob];exact I.mod.glob.keeps I.bk) hm h) hd
theorem zfm {E:Value->Shared->Prop}{pins:List (Addr × Obj)}{s:Shared} {σ:St}{H:Hp}{x:Str}{u:Value}{pos:Pos}{Q:Value->Shared->Prop} (I:Inv X pins σ H s) (hg:Gl X x) (hm:X.mg x=none) (hv:bootBuiltins x=some u) (h:Q u s)
  (hn:x ≠ "__name__" := by decide) (hd:(x == ("__debug__" : Str))=false:=by decide):wpAny (model X.prog X.w) X.A (eval (.Name x pos) X.env) Q E s:=by
 obtain⟨mb,h1,h2⟩:=I.mod.blt;exact jcT I.ok.kind hg (Calls.loadGlobal_builtin (by rw[I.ok.glob];exact I.mod.glob.keeps I.bk) hm (by rw[I.ok.blt];exact h1.keeps I.bk) ((h2 x hn).trans hv) h) hd
theorem za5 {x:Str}{v:V}{u:Value}{pos:Pos} (hg:Gl X x) (hm:X.mg x=some u) (r:zbm v u) (hd:(x == ("__debug__" : Str))=false:=by decide):PE X (.Name x pos) (tC v) :=
 fun _ _ _ H _ I h=>zgg I hg hm ⟨v,H,I,r,h⟩ hd
theorem zp2 {x:Str}{v:V}{u:Value}{pos:Pos} (hg:Gl X x) (hm:X.mg x=none) (hv:bootBuiltins x=some u) (r:zbm v u) (hn:x ≠ "__name__" := by decide) (hd:(x == ("__debug__" : Str))=false:=by decide):PE X (.Name x pos) (tC v) :=
 fun _ _ _ H _ I h=>zfm I hg hm hv ⟨v,H,I,r,h⟩ hn hd
variable {a b:Expr}{ta tb:TE}{pos:Pos}
noncomputable def PC (X:Cx) (op:CmpOp) (a b:Expr) (t:TE):Prop :=
 ∀ (pins:List (Addr × Obj)) (s:Shared) (σ:St) (H:Hp) (Q:VK),Inv X pins σ H s->t σ H Q ->
  wpAny (model X.prog X.w) X.A (eval a X.env) (fun v s₁=>wpAny (model X.prog X.w) X.A (eval b X.env) (fun u s₂=>wpAny (model X.prog X.w) X.A (compareOp op v u) (EP X pins σ Q) X.xe s₂) X.xe s₁) X.xe s
noncomputable def tB (t:TE):TT:=fun σ H Q=>t σ H fun x H1=>∃ c,x = .bl c/\Q c H1
theorem zie {op:CmpOp}{t:TE} (h:PC X op a b t) (h1:behindInMarks op b=false:=by first | exact nobehind _ (by decide) (by decide) | rfl):PT X (.Compare a [op] [b] pos) (tB t):=by
 intro pins s σ H Q I hw;refine wpAny_isTrue_Compare1 (thn (h pins s σ H _ I hw) fun v s1 h1=>thn h1 fun u s2 h2=>thn h2 fun c s3 ⟨x,H1,I1,r1,q1⟩=>?_) h1;obtain⟨d,rfl,q⟩:=q1;cases r1;exact wpAny_truthy_bool ⟨H1,I1,q⟩
theorem zcs {e:Expr}{t:TE} (h:PE X e t) (he:∀ whole,isTrue e X.env whole=(do let v <- whole;standAt e.pos;holding [v] (truthy v)):=by intro _;rfl):PT X e (tB t):=by
 intro pins s σ H Q I hw;refine isTrue_plain (thn (h pins s σ H _ I hw) fun v s1 ⟨x,H1,I1,r1,q1⟩=>?_) (he _);obtain⟨d,rfl,q⟩:=q1;cases r1;exact wpAny_truthy_bool ⟨H1,I1,q⟩
variable {tA tB':TT}{rest:List Expr}
noncomputable def zvE (t u:TT):TT:=fun σ H Q=>t σ H fun c H1=>if c=true then u σ H1 Q else Q false H1
noncomputable def tOr (t u:TT):TT:=fun σ H Q=>t σ H fun c H1=>if c=true then Q true H1 else u σ H1 Q
noncomputable def zv6 (t:TT):TT:=fun σ H Q=>t σ H fun c H1=>Q (!c) H1
theorem zb5 (ha:PT X a tA):PW X (.BoolOp .And [a] pos) tA:=by
 intro wh pins s σ H Q I h;refine isTrue_and (thn (ha pins s σ H Q I h) fun c s1 e=>?_);cases c with
 | true=>exact isTrue_and_nil e
 | false=>exact e
theorem zeq (ha:PT X a tA):PW X (.BoolOp .Or [a] pos) tA:=by
 intro wh pins s σ H Q I h;refine isTrue_or (thn (ha pins s σ H Q I h) fun c s1 e=>?_);cases c with
 | false=>exact isTrue_or_nil e
 | true=>exact e
theorem zcO (ha:PT X a tA) (hb:PW X (.BoolOp .And (b :: rest) pos) tB'):PW X (.BoolOp .And (a :: b :: rest) pos) (zvE tA tB'):=by
 intro wh pins s σ H Q I h;refine isTrue_and (thn (ha pins s σ H _ I h) fun c s1 ⟨H1,I1,q1⟩=>?_);cases c with
 | true=>exact hb wh pins s1 σ H1 Q I1 q1
 | false=>exact⟨H1,I1,q1⟩
theorem zgN (ha:PT X a tA) (hb:PW X (.BoolOp .Or (b :: rest) pos) tB'):PW X (.BoolOp .Or (a :: b :: rest) pos) (tOr tA tB'):=by
 intro wh pins s σ H Q I h;refine isTrue_or (thn (ha pins s σ H _ I h) fun c s1 ⟨H1,I1,q1⟩=>?_);cases c with
 | true=>exact⟨H1,I1,q1⟩
 | false=>exact hb wh pins s1 σ H1 Q I1 q1
theorem zd0 (ha:PT X a tA):PT X (.UnaryOp .Not a pos) (zv6 tA):=by
 intro pins s σ H Q I h;exact isTrue_not (ha pins s σ H (fun c H1=>Q (!c) H1) I h)
noncomputable def ztJ (ta tb:TE):TE:=fun σ H Q=>ta σ H fun x H1=>∃ c,x = .bl c/\if c=true then tb σ H1 Q else Q (.bl false) H1
noncomputable def zvb (ta tb:TE):TE:=fun σ H Q=>ta σ H fun x H1=>∃ c,x = .bl c/\if c=true then Q (.bl true) H1 else tb σ H1 Q
noncomputable def ztU (ta:TE):TE:=fun σ H Q=>ta σ H fun x H1=>∃ c,x = .bl c/\Q (.bl (!c)) H1
theorem zgd {op}{t:TE} (h:PE X a t):PE X (.BoolOp op [a] pos) t:=fun pins s σ H Q I hw=>BoolOp_one (h pins s σ H Q I hw)
theorem zg4 (ha:PE X a ta) (hb:PE X (.BoolOp .And (b :: rest) pos) tb):PE X (.BoolOp .And (a :: b :: rest) pos) (ztJ ta tb):=by
 intro pins s σ H Q I h;refine BoolOp_and (thn (ha pins s σ H _ I h) fun v s1 ⟨x,H1,I1,r1,q1⟩=>?_);obtain⟨c,rfl,q1⟩:=q1;cases r1;refine wpAny_truthy_bool ?_;cases c with
 | true=>exact hb pins s1 σ H1 Q I1 q1
 | false=>exact⟨.bl false,H1,I1,rfl,q1⟩
theorem zts (ha:PE X a ta) (hb:PE X (.BoolOp .Or (b :: rest) pos) tb):PE X (.BoolOp .Or (a :: b :: rest) pos) (zvb ta tb):=by
 intro pins s σ H Q I h;refine BoolOp_or (thn (ha pins s σ H _ I h) fun v s1 ⟨x,H1,I1,r1,q1⟩=>?_);obtain⟨c,rfl,q1⟩:=q1;cases r1;refine wpAny_truthy_bool ?_;cases c with
 | false=>exact hb pins s1 σ H1 Q I1 q1
 | true=>exact⟨.bl true,H1,I1,rfl,q1⟩
theorem zss (ha:PE X a ta):PE X (.UnaryOp .Not a pos) (ztU ta):=by
 intro pins s σ H Q I h;refine UnaryOp_ (thn (ha pins s σ H _ I h) fun v s1 ⟨x,H1,I1,r1,q1⟩=>?_);obtain⟨c,rfl,q1⟩:=q1;cases r1;exact not_of (wpAny_truthy_bool ⟨.bl (!c),H1,I1,rfl,q1⟩)
noncomputable def tIf (t:TT) (ta tb:TE):TE:=fun σ H Q=>t σ H fun c H1=>if c=true then ta σ H1 Q else tb σ H1 Q
theorem zfK {c:Expr} (hc:PT X c tA) (ha:PE X a ta) (hb:PE X b tb):PE X (.IfExp c a b pos) (tIf tA ta tb):=by
 intro pins s σ H Q I h;refine wpAny_IfExp (thn (hc pins s σ H _ I h) fun d s1 ⟨H1,I1,q1⟩=>?_);cases d with
 | true=>exact ha pins s1 σ H1 Q I1 q1
 | false=>exact hb pins s1 σ H1 Q I1 q1
end
end L2
namespace L2
open PySem PySem.Spec PyProof.Rows
noncomputable def SqL (K:PySem.W.Frag) (H:Hp) (a:Addr) (xs:List V):Prop :=
 Rd H a (.lst xs) \/
  ∃ (o:Obj) (its:Array Value) (n:Nat),K.lookup a=some o/\o.cls = .type "list" /\ o.dict=none/\o.data = .seq its n/\its.size<=sizeLine/\zba xs its.toList
noncomputable def SqT (K:PySem.W.Frag) (H:Hp) (a:Addr) (xs:List V):Prop :=
 Rd H a (.tup xs) \/
  ∃ (o:Obj) (its:Array Value) (n:Nat),K.lookup a=some o/\o.cls = .type "tuple" /\ o.data = .seq its n/\its.size<=sizeLine/\zba xs its.toList
noncomputable def zwc:Value->Option V
 | .none=>some .non
 | .bool b=>some (.bl b)
 | .int i _=>some (.int i)
 | .str x _=>some (.str x)
 | .bytes b _=>some (.byt b)
 | .float b _=>some (.flt b)
 | .ref a=>some (.ref a)
 | .type n=>some (.ty n)
 | _=>none
theorem zbm.abs {x:V}{u:Value} (r:zbm x u):zwc u=some x:=by
 cases x with
 | non=>cases r;rfl
 | bl _=>cases r;rfl
 | int _=>obtain⟨t,rfl⟩:=r;rfl
 | str _=>obtain⟨t,rfl⟩:=r;rfl
 | byt _=>obtain⟨t,rfl⟩:=r;rfl
 | flt _=>obtain⟨t,rfl⟩:=r;rfl
 | ref _=>cases r;rfl
 | ty _=>cases r;rfl
theorem zbm.inj {x y:V}{u:Value} (r:zbm x u) (q:zbm y u):x=y:=jaD (r.abs.symm.trans q.abs)
theorem zba.inj {xs ys:List V}{us:List Value} (h:zba xs us) (h':zba ys us):xs=ys:=by
 induction h generalizing ys with
 | nil=>cases h';rfl
 | cons r t ih=>cases h' with | cons r' t'=>rw[r.inj r',ih t']
section
variable {X:Cx}{pins:List (Addr × Obj)} {σ:St}{H:Hp}{s:Shared}{a:Addr}{xs ys:List V}
theorem SqL.of {K:PySem.W.Frag} (h:H a=some (.lst xs)):SqL K H a xs := .inl (.inl h)
theorem SqT.of {K:PySem.W.Frag} (h:H a=some (.tup xs)):SqT K H a xs := .inl (.inl h)
theorem Inv.list (I:Inv X pins σ H s) (h:SqL X.K H a xs):∃ its:List Value,zba xs its/\PlainL s.heap a its.toArray/\xs.length<=sizeLine:=by
 rcases h with h | ⟨o,its,n,hk,hc,hd,hs,hz,r⟩
 ·obtain⟨z,its,n,r,e⟩:=h.ok I.hok;exact⟨its,r,⟨_,n,e,rfl,rfl,rfl⟩,z⟩
 ·refine⟨its.toList,r,⟨o,n,I.kIn a o hk,hc,hd,by simpa using hs⟩,?_⟩;have e:=r.length;simp only[jbJ] at e;omega
theorem Inv.tuple (I:Inv X pins σ H s) (h:SqT X.K H a xs):∃ its:List Value,zba xs its/\IsTup s.heap a its.toArray/\xs.length<=sizeLine:=by
 rcases h with h | ⟨o,its,n,hk,hc,hs,hz,r⟩
 ·obtain⟨z,its,r,p⟩:=h.ok I.hok;exact⟨its,r,p,z⟩
 ·refine⟨its.toList,r,⟨o,I.kIn a o hk,hc,n,by simpa using hs⟩,?_⟩;have e:=r.length;simp only[jbJ] at e;omega
theorem Inv.list_inj (I:Inv X pins σ H s) (h:SqL X.K H a xs) (h':SqL X.K H a ys):xs=ys:=by
 obtain⟨its,r,⟨o,n,e,_,_,d⟩,_⟩:=I.list h;obtain⟨its',r',⟨o',n',e',_,_,d'⟩,_⟩:=I.list h';rw[e] at e';cases e';rw[d] at d';injection d' with d1 _
 have:its=its':=by simpa using congrArg Array.toList d1
 subst this;exact r.inj r'
theorem Inv.tuple_inj (I:Inv X pins σ H s) (h:SqT X.K H a xs) (h':SqT X.K H a ys):xs=ys:=by
 obtain⟨its,r,⟨o,e,_,n,d⟩,_⟩:=I.tuple h;obtain⟨its',r',⟨o',e',_,n',d'⟩,_⟩:=I.tuple h';rw[e] at e';cases e';rw[d] at d';injection d' with d1 _
 have:its=its':=by simpa using congrArg Array.toList d1
 subst this;exact r.inj r'
end
noncomputable abbrev Cx.wish (X:Cx) (E:Value->Shared->Prop):Cx:={ X with xe:=E }
noncomputable abbrev Cx.nox (X:Cx):Cx:=X.wish fun _ _=>False
theorem Cx.Ok.wish {X:Cx} (ok:X.Ok) (E:Value->Shared->Prop):(X.wish E).Ok :=
 ⟨ok.mod,ok.kind,ok.glob,ok.blt,ok.above,ok.inj,ok.has,ok.cab,ok.hd,ok.frames,ok.stk,ok.exf,ok.bs,ok.bsz,ok.noex,ok.exfs,ok.funs,ok.frf⟩
theorem Cx.Ok.unwish {X:Cx}{E:Value->Shared->Prop} (ok:(X.wish E).Ok):X.Ok :=
 ⟨ok.mod,ok.kind,ok.glob,ok.blt,ok.above,ok.inj,ok.has,ok.cab,ok.hd,ok.frames,ok.stk,ok.exf,ok.bs,ok.bsz,ok.noex,ok.exfs,ok.funs,ok.frf⟩
section
variable {X:Cx}{pins:List (Addr × Obj)} {σ:St}{H:Hp}{s:Shared}{E:Value->Shared->Prop}
theorem Inv.wish (I:Inv X pins σ H s) (E:Value->Shared->Prop):Inv (X.wish E) pins σ H s:=⟨I.ok.wish E,I.os,I.bare,I.base,I.loc,I.cell,I.free,I.freeC,I.pin,I.hok,I.len⟩
theorem Inv.unwish (I:Inv (X.wish E) pins σ H s):Inv X pins σ H s:=⟨I.ok.unwish,I.os,I.bare,I.base,I.loc,I.cell,I.free,I.freeC,I.pin,I.hok,I.len⟩
theorem SP.unwish {D:zld}{f:Flow}{s':Shared} (h:SP (X.wish E) pins D f s'):SP X pins D f s':=by
 cases f with
 | next=>obtain⟨σ',H',I,q⟩:=h;exact⟨σ',H',I.unwish,q⟩
 | brk=>obtain⟨σ',H',I,q⟩:=h;exact⟨σ',H',I.unwish,q⟩
 | cont=>obtain⟨σ',H',I,q⟩:=h;exact⟨σ',H',I.unwish,q⟩
 | ret u=>obtain⟨v,σ',H',I,r,q⟩:=h;exact⟨v,σ',H',I.unwish,r,q⟩
theorem PSs.nox {st:List Stmt}{t:TS} (h:PSs X.nox st t):PSs X st t:=fun pins s σ H D I hw =>
 wpAny_mono (h pins s σ H D (I.wish _) hw) (fun _ _ q=>q.unwish) fun _ _ z=>False.elim z
end
section
variable {X:Cx}{st:Stmt}{rest:List Stmt}{t u:TS}{e:Expr}{te:TE}{pos:Pos}
noncomputable def ztP:TS:=fun D σ H=>D.nx σ H
noncomputable def zt0 (t u:TS):TS:=fun D σ H=>t { D with nx:=u D } σ H
theorem zam:PSs X [] ztP:=fun _ _ σ H _ I h=>wpAny_execs_nil ⟨σ,H,I,h⟩
theorem zab (h1:PS X st t) (h2:PSs X rest u):PSs X (st :: rest) (zt0 t u):=by
 intro pins s σ H D I h;refine wpAny_execs_cons (thn (h1 pins s σ H { D with nx:=u D } I h) fun f s1 q=>?_);cases f with
 | next =>
  obtain⟨σ',H',I',q⟩:=q;exact h2 pins s1 σ' H' D I' q
 | ret v=>exact q
 | brk=>exact q
 | cont=>exact q
theorem zae (h1:PS X st t):PSs X [st] t:=by
 intro pins s σ H D I h;refine wpAny_execs_cons (thn (h1 pins s σ H D I h) fun f s1 q=>?_);cases f with
 | next=>exact wpAny_execs_nil q
 | ret v=>exact q
 | brk=>exact q
 | cont=>exact q
theorem Inv.quiet {pins:List (Addr × Obj)} {σ:St}{H:Hp}{s:Shared} (I:Inv X pins σ H s):interactive X.env=false:=by simp[interactive,I.ok.kind]
noncomputable def ztI (te:TE):TS:=fun D σ H=>te σ H fun _ H1=>D.nx σ H1
theorem zaU (he:PE X e te) (hs:swapsWith e none pos.line X.env=pure false:=by rfl):PS X (.Expr e pos) (ztI te):=by
 intro pins s σ H D I h;exact wpAny_Expr_any (thn (he pins s σ H _ I h) fun v s1 ⟨x,H1,I1,r1,q1⟩=>⟨σ,H1,I1,q1⟩) I.quiet hs
noncomputable def ztc (te:TE):TS:=fun D σ H=>te σ H D.rt
theorem zak (he:PE X e te):PS X (.Return (some e) pos) (ztc te):=by
 intro pins s σ H D I h;exact wpAny_Return_some (thn (he pins s σ H _ I h) fun v s1 ⟨x,H1,I1,r1,q1⟩=>⟨x,σ,H1,I1,r1,q1⟩)
noncomputable def zvj (c:TT) (t u:TS):TS:=fun D σ H=>c σ H fun b H1=>if b=true then t D σ H1 else u D σ H1
theorem zay {c:Expr}{a b:List Stmt}{tc:TT} (hc:PT X c tc) (ha:PSs X a t) (hb:PSs X b u):PS X (.If c a b pos) (zvj tc t u):=by
 intro pins s σ H D I h;refine wpAny_If (thn (hc pins s σ H _ I h) fun d s1 ⟨H1,I1,q1⟩=>?_);cases d with
 | true=>exact ha pins s1 σ H1 D I1 q1
 | false=>exact hb pins s1 σ H1 D I1 q1
end
noncomputable abbrev TG:=V->St->Hp->(St->Hp->Prop)->Prop
noncomputable abbrev TGs:=List V->St->Hp->(St->Hp->Prop)->Prop
noncomputable def PG (X:Cx) (target:Expr) (t:TG):Prop :=
 ∀ (pins:List (Addr × Obj)) (s:Shared) (σ:St) (H:Hp) (v:V) (u:Value) (Q:St->Hp->Prop),Inv X pins σ H s->zbm v u->t v σ H Q ->
  wpAny (model X.prog X.w) X.A (assign target X.env u) (fun _ s'=>∃ σ' H',Inv X pins σ' H' s'/\Q σ' H') X.xe s
noncomputable def PGs (X:Cx) (ts:List Expr) (t:TGs):Prop :=
 ∀ (pins:List (Addr × Obj)) (s:Shared) (σ:St) (H:Hp) (vs:List V) (us:List Value) (Q:St->Hp->Prop),Inv X pins σ H s->zba vs us->t vs σ H Q ->
  wpAny (model X.prog X.w) X.A (assignInOrder ((assignEach ts X.env).map (·.2)) us) (fun _ s'=>∃ σ' H',Inv X pins σ' H' s'/\Q σ' H') X.xe s
noncomputable abbrev ztN:=V->V->V->Hp->(Hp->Prop)->Prop
noncomputable def zuI (X:Cx) (t:ztN):Prop :=
 ∀ (pins:List (Addr × Obj)) (s:Shared) (σ:St) (H:Hp) (o i v:V) (ov iv u:Value) (Q:Hp->Prop),Inv X pins σ H s->zbm o ov->zbm i iv->zbm v u->t o i v H Q ->
  wpAny (model X.prog X.w) X.A (setItem ov iv u) (fun _ s'=>∃ H',Inv X pins σ H' s'/\Q H') X.xe s
section
variable {X:Cx}{pos:Pos}
noncomputable def zaH (i:Nat):TG:=fun v σ H Q=>Q (σ.set i (some v)) H
theorem zm9 {i:Nat}{x:Str} (hN:X.N.Nodup) (hi:X.N[i]? = some x) (hx:Loc X.env.scope x) (hf:X.fn x=true\/X.env.scope.names.lookup x=some .local:=by first | exact .inl rfl | exact .inr rfl | assumption):PG X (.Name x pos) (zaH i):=by
 intro pins s σ H v u Q I r h;exact wpAny_assign_Name (zez I hN hi hx r (fun s' I'=>⟨_,H,I',h⟩) hf)
noncomputable def ziZ:TGs:=fun vs σ H Q=>vs=[]/\Q σ H
noncomputable def zbD (t:TG) (u:TGs):TGs:=fun vs σ H Q=>∃ v r,vs=v :: r/\t v σ H fun σ' H'=>u r σ' H' Q
theorem zaT:PGs X [] ziZ:=by
 intro pins s σ H vs us Q I r h;obtain⟨e,h⟩:=h;subst e;cases r;exact assignInOrder_nil ⟨σ,H,I,h⟩
theorem zap {e:Expr}{es:List Expr}{t:TG}{u:TGs} (h1:PG X e t) (h2:PGs X es u)
  (hs:(assignEach (e :: es) X.env).map (·.2)=assign e X.env :: (assignEach es X.env).map (·.2):=by rfl):PGs X (e :: es) (zbD t u):=by
 intro pins s σ H vs us Q I r h;obtain⟨v,vr,e1,h⟩:=h;subst e1;cases r with
 | cons r rr =>
  rw[hs];refine assignInOrder_cons (thn (h1 pins s σ H _ _ _ I r h) fun _ s1 ⟨σ1,H1,I1,q1⟩=>?_);exact h2 pins s1 σ1 H1 _ _ Q I1 rr q1
noncomputable def zi1 (K:PySem.W.Frag) (n:Nat) (t:TGs):TG:=fun v σ H Q=>∃ a xs,v = .ref a/\SqT K H a xs/\xs.length=n/\t xs σ H Q
theorem zbe {es:List Expr}{k:Nat}{t:TGs}{n:Nat} (hc:X.calm=true) (h:PGs X es t)
  (hn:(assignEach es X.env).length=n:=by rfl) (hst:(assignEach es X.env).findIdx? (·.1)=none:=by rfl):PG X (.Tuple es k pos) (zi1 X.K n t):=by
 intro pins s σ H v u Q I r hw;obtain⟨a,xs,e1,hq,hl,hw⟩:=hw;subst e1;cases r;obtain⟨its,rv,ht,hz⟩:=I.tuple hq;refine assign_Tuple_tuple (I.ok.hd hc) ht (by simp[hn,<- hl,rv.length]) hst fun h' hx=>?_
 have I1:Inv X pins σ H { s with heap:=h' }:=I.kept (t':=s.toks) fun b o e=>hx b o (jaU (jan e)) e
 exact h pins _ σ H xs _ Q I1 (by simpa using rv) hw
noncomputable def zu7 (to ti:TE) (t:ztN):TG:=fun v σ H Q=>to σ H fun o H1=>ti σ H1 fun i H2=>t o i v H2 fun H3=>Q σ H3
theorem zoV {o i:Expr}{to ti:TE}{t:ztN} (ho:PE X o to) (hi:PE X i ti) (hs:zuI X t)
  (ha:∀ v,assign (.Subscript o i pos) X.env v=(do
   let ov <- holding [v] (eval o X.env)
   let iv <- holding [v,ov] (eval i X.env)
   standAt pos
   holding [v,ov,iv] (setItem ov iv v)
   release [v,ov,iv] []):=by intro _;rfl):PG X (.Subscript o i pos) (zu7 to ti t):=by
 intro pins s σ H v u Q I r h;rw[ha];refine wpAny_bind (wpAny_holding (thn (ho pins s σ H _ I h) fun ov s1 ⟨x,H1,I1,r1,q1⟩=>?_));refine wpAny_bind (wpAny_holding (thn (hi pins s1 σ H1 _ I1 q1) fun iv s2 ⟨y,H2,I2,r2,q2⟩=>?_));refine wpAny_bind (wpAny_standAt (wpAny_bind (wpAny_holding (thn (hs pins s2 σ H2 x y v ov iv u _ I2 r1 r2 r q2) fun _ s3 ⟨H3,I3,q3⟩=>?_))));exact wpAny_release ⟨σ,H3,I3,q3⟩
noncomputable def zpA (te:TE) (g:TG):TS:=fun D σ H=>te σ H fun x H1=>g x σ H1 D.nx
theorem zgi {tg e:Expr}{te:TE}{g:TG} (he:PE X e te) (hg:PG X tg g) (hs:swapsWithSole [tg] e pos.line X.env=pure false:=by rfl) (hw:swappedStores [tg] e X.env=pure none:=by rfl)
  (h1:(assignEach [tg] X.env).map (·.2)=[assign tg X.env]:=by rfl):PS X (.Assign [tg] e pos) (zpA te g):=by
 intro pins s σ H D I h;refine wpAny_Assign_stores (thn (he pins s σ H _ I h) fun v s1 ⟨x,H1,I1,r1,q1⟩=>?_) hs hw;rw[h1];exact thn (hg pins s1 σ H1 x v _ I1 r1 q1) fun _ s2 q=>q
theorem zoR {i:Nat}{x:Str}{e:Expr}{te:TE}{pos':Pos} (hN:X.N.Nodup) (hi:X.N[i]? = some x) (hx:Loc X.env.scope x) (he:PE X e te) (hs:swapsWith e (some (.Name x pos')) pos.line X.env=pure false:=by rfl) (hf:X.fn x=true\/X.env.scope.names.lookup x=some .local:=by first | exact .inl rfl | exact .inr rfl | assumption) :
  PS X (.Assign [.Name x pos'] e pos) (zpA te (zaH i)):=by
 intro pins s σ H D I h;refine wpAny_Assign_Name (thn (he pins s σ H _ I h) fun v s1 ⟨y,H1,I1,r1,q1⟩=>?_) hs;exact zez I1 hN hi hx r1 (fun s2 I2=>⟨_,H1,I2,q1⟩) hf
end
section
variable {X:Cx}{pos:Pos}
noncomputable def zrF (c:TT) (tb:TS):TS:=fun D σ H=>∃ W:Nat->St->Hp->Prop,(∃ m,W m σ H)/\∀ m σ H,W m σ H ->
 c σ H fun b H1=>if b=true then ∃ N:St->Hp->Prop,(∀ σ' H',N σ' H'->∃ m',m'<m/\W m' σ' H')/\tb { D with nx:=N,ct:=N,bk:=D.nx } σ H1 else D.nx σ H1
theorem zeT {c:Expr}{body:List Stmt}{tc:TT}{tb:TS} (hp:PassesOwn (model X.prog X.w) X.A X.env X.xe) (hc:PT X c tc) (hb:PSs X body tb):PS X (.While c body [] pos) (zrF tc tb):=by
 intro pins s σ H D I h;obtain⟨W,⟨m0,w0⟩,turn⟩:=h;refine wpAny_While (codeAny_whileLoop (fun n s'=>∃ σ' H',Inv X pins σ' H' s'/\W n σ' H') ?_ m0 ⟨σ,H,I,w0⟩);rintro n s1 ⟨σ1,H1,I1,w1⟩;refine wpAny_passesOwn hp (thn (hc pins s1 σ1 H1 _ I1 (turn n σ1 H1 w1)) fun b s2 ⟨H2,I2,q2⟩=>?_);cases b with
 | true =>
  obtain⟨N,hN,q2⟩:=q2;rw[if_pos rfl];refine wpAny_passesOwn hp (thn (hb pins s2 σ1 H2 _ I2 q2) fun f s3 q3=>?_);cases f with
  | next =>
   obtain⟨σ3,H3,I3,n3⟩:=q3;obtain⟨m',hm,w3⟩:=hN σ3 H3 n3;exact⟨m',hm,σ3,H3,I3,w3⟩
  | cont =>
   obtain⟨σ3,H3,I3,n3⟩:=q3;obtain⟨m',hm,w3⟩:=hN σ3 H3 n3;exact⟨m',hm,σ3,H3,I3,w3⟩
  | brk=>exact q3
  | ret v=>exact q3
 | false =>
  rw[if_neg jay];exact wpAny_execs_nil ⟨σ1,H2,I2,q2⟩
end
structure It where
 go:Nat->Hp->Prop
 yld:Nat->Hp->V->Hp->Prop
 stop:Nat->Hp->Prop
noncomputable def zi0 (X:Cx) (pins:List (Addr × Obj)) (H:Hp) (b:Addr):Prop :=
 H b=none/\b≠X.env.locals/\b ∉ X.fs/\(b∈X.ex\/X.s₀.heap.objs.size<=b)/\(∀ x c,X.env.cells.lookup x=some c->c≠b)/\∀ p∈X.pn++pins,p.1≠b
theorem Inv.fpOk {X:Cx}{pins:List (Addr × Obj)} {σ:St}{H H':Hp}{s:Shared}{b:Addr} (I:Inv X pins σ H s) (hb:s.heap.objs.size<=b) (hn:H' b=none):zi0 X pins H' b:=by
 refine⟨hn,jcz (jas I.lt hb),I.nofs hb,.inr (jak I.sz hb),fun x c e z=>?_,fun p hp z=>?_⟩
 ·obtain⟨v,q⟩:=I.cell x c e;exact absurd (jas q.lt (by rw[z];exact hb)) (jbw _)
 ·exact absurd (jas (jan (I.pin p hp).1) (by rw[z];exact hb)) (jbw _)
structure znc (P:Program) (w:World) (K:PySem.W.Frag) (tg:Expr) (J:It) (fp:List Addr) (it:Addr) (tn:Nat->Heap->Prop):Prop where
 mem:it∈fp
 obj:∀ i h,tn i h->∀ b∈fp,∃ o,h.get? b=some o/\∀ v,o.data ≠ .cell v
 keep:∀ i h h',tn i h->(∀ b∈fp,∀ o,h.get? b=some o->h'.get? b=some o)->tn i h'
 item:∀ (X:Cx),X.prog=P->X.w=w->X.K=K->X.calm=true->∀ (i:Nat) (pins:List (Addr × Obj)) (s:Shared) (σ:St) (H:Hp) (E:Value->Shared->Prop),Inv X pins σ H s->(∀ b∈fp,zi0 X pins H b)->tn i s.heap->J.go i H ->
  wpAny (model P w) X.A (pyNext (.ref it)) (fun r s1=>∃ u,r=some u /\
   wpAny (model P w) X.A (letOwnedTupleGo tg (.ref it) u) (fun _ s2=>∃ x H',Inv X pins σ H' s2/\zbm x u/\J.yld i H x H'/\tn (i+1) s2.heap/\∀ b∈fp,H' b=none) E s1) E s
 done:∀ (X:Cx),X.prog=P->X.w=w->X.K=K->X.calm=true->∀ (i:Nat) (pins:List (Addr × Obj)) (s:Shared) (σ:St) (H:Hp) (E:Value->Shared->Prop),Inv X pins σ H s->(∀ b∈fp,zi0 X pins H b)->tn i s.heap->J.stop i H ->
  wpAny (model P w) X.A (pyNext (.ref it)) (fun r s1=>r=none/\Inv X pins σ H s1) E s
 self:∀ (A:Around) (i:Nat) (s:Shared) (Q:Value->Shared->Prop) (E:Value->Shared->Prop),tn i s.heap->Q (.ref it) s->wpAny (model P w) A (pyIter (.ref it)) Q E s
noncomputable abbrev TI:=St->Hp->(It->Hp->Prop)->Prop
noncomputable def PIE (X:Cx) (pins:List (Addr × Obj)) (σ:St) (tg:Expr) (R:It->Hp->Prop) (itv:Value) (s2:Shared):Prop :=
 ∃ (it:Addr) (fp:List Addr) (tn:Nat->Heap->Prop) (J:It) (H':Hp),itv = .ref it/\Inv X pins σ H' s2/\znc X.prog X.w X.K tg J fp it tn/\tn 0 s2.heap/\(∀ b∈fp,zi0 X pins H' b)/\R J H'
noncomputable def PI (X:Cx) (tg iter:Expr) (wi:TI):Prop :=
 ∀ (pins:List (Addr × Obj)) (s:Shared) (σ:St) (H:Hp) (R:It->Hp->Prop),Inv X pins σ H s->wi σ H R ->
  wpAny (model X.prog X.w) X.A (eval iter X.env) (fun v s1=>wpAny (model X.prog X.w) X.A (pyIter v) (PIE X pins σ tg R) X.xe s1) X.xe s
theorem zll {M:Model}{A:Around}{E:Value->Shared->Prop}{s:Shared}{tg:Expr}{it:Addr}{u:Value}{o:Obj}{n:String}{vs:Array Value}{Q:Unit->Shared->Prop} (ho:s.heap.get? it=some o) (hc:o.cls = .type n) (hd:o.data = .fields vs)
    (hn : ["enumerate", "zip", "dict_itemiterator", "dict_reverseitemiterator", "odict_iterator", "itertools.zip_longest", "itertools.pairwise"].contains n=false) (hQ:Q () s) : wpAny M A (letOwnedTupleGo tg (.ref it) u) Q E s:=by
  unfold letOwnedTupleGo;cases tg <;> first
    | exact wpAny_pure hQ
    | (cases u <;> first
        | exact wpAny_pure hQ
        | (refine wpAny_bind (wpAny_load ho ?_)
           rw [hc,hd]
           show wpAny M A (if (["enumerate", "zip", "dict_itemiterator", "dict_reverseitemiterator", "odict_iterator", "itertools.zip_longest", "itertools.pairwise"].contains n && vs[0]? == some (rawInt _))=true then _ else _) Q E s
           rw [if_neg (by intro h;rw [hn,jcZ] at h;cases h)]
           exact wpAny_pure hQ))
noncomputable def Itl (K:PySem.W.Frag) (a:Addr):It :=
 ⟨fun i H=>∃ xs x,SqL K H a xs/\xs[i]? = some x,fun i H x H'=>H'=H/\∀ xs,SqL K H a xs->xs[i]? = some x,fun i H=>∃ xs,SqL K H a xs/\xs.length<=i⟩
noncomputable def Itt (K:PySem.W.Frag) (a:Addr):It :=
 ⟨fun i H=>∃ xs x,SqT K H a xs/\xs[i]? = some x,fun i H x H'=>H'=H/\∀ xs,SqT K H a xs->xs[i]? = some x,fun i H=>∃ xs,SqT K H a xs/\xs.length<=i⟩
noncomputable def Itr (lo:Int) (n:Nat):It:=⟨fun i _=>i<n,fun i H x H'=>H'=H/\x = .int (lo+i),fun i _=>n<=i⟩
theorem zmC {P:Program}{w:World}{K:PySem.W.Frag}{tg:Expr} (a it:Addr):znc P w K tg (Itl K a) [it] it (fun i h=>h.IsListIter it a i) where
 mem:=by simp
 obj:=fun i h st b hb=>by
  have e:b=it:=by simpa using hb
  subst e;obtain⟨o,e,c,d⟩:=st;exact⟨o,e,fun v z=>by rw[d] at z;cases z⟩
 keep:=fun i h h' st k=>st.at fun o e=>k it (by simp) o e
 item:=by
  intro X hP hw hK hc i pins s σ H E I hf st hg;subst hP hw hK;obtain⟨xs,x,hq,hx⟩:=hg;obtain⟨its,rv,p,hz⟩:=I.list hq;obtain⟨u,hu,ru⟩:=rv.get hx;obtain⟨f0,f1,f2,f3,f4,f5⟩:=hf it (by simp);refine wpAny_pyNext_list_item st p.isList (x:=u) (by simpa using hu) fun h' st' sb=>?_
  have I1:Inv X pins σ H { s with heap:=h' }:=I.turned (t':=s.toks) (fun b o hb e=>(sb.2 b hb).trans e) f0 f1 f3 f4 f5;obtain⟨o,e,c,d⟩:=id st';exact⟨u,rfl,zll (s:={ s with heap:=h' }) e c d (by decide) ⟨x,H,I1,ru,⟨rfl,fun ys hy=>by rw[I.list_inj hy hq];exact hx⟩,st',fun b hb=>(hf b hb).1⟩⟩
 done:=by
  intro X hP hw hK hc i pins s σ H E I hf st hg;subst hP hw hK;obtain⟨xs,hq,hx⟩:=hg;obtain⟨its,rv,p,hz⟩:=I.list hq;obtain⟨f0,f1,f2,f3,f4,f5⟩:=hf it (by simp);have hl:=rv.length;exact wpAny_pyNext_list_end (I.ok.hd hc) st p.isList (by simp;omega) fun h' eb=>⟨rfl,I.turned (t':=s.toks) (fun b o hb e=>eb b o hb e) f0 f1 f3 f4 f5⟩
 self:=fun _ _ _ _ _ st h=>wpAny_pyIter_listiter st h
theorem zkZ {P:Program}{w:World}{K:PySem.W.Frag}{tg:Expr} (a it:Addr):znc P w K tg (Itt K a) [it] it (fun i h=>h.IsTupleIter it a i) where
 mem:=by simp
 obj:=fun i h st b hb=>by
  have e:b=it:=by simpa using hb
  subst e;obtain⟨o,e,c,d⟩:=st;exact⟨o,e,fun v z=>by rw[d] at z;cases z⟩
 keep:=fun i h h' st k=>st.at fun o e=>k it (by simp) o e
 item:=by
  intro X hP hw hK hc i pins s σ H E I hf st hg;subst hP hw hK;obtain⟨xs,x,hq,hx⟩:=hg;obtain⟨its,rv,p,hz⟩:=I.tuple hq;obtain⟨u,hu,ru⟩:=rv.get hx;obtain⟨f0,f1,f2,f3,f4,f5⟩:=hf it (by simp);refine wpAny_pyNext_tuple_item st (show s.heap.IsTuple a its.toArray from p) (x:=u) (by simpa using hu) fun h' st' sb=>?_
  have I1:Inv X pins σ H { s with heap:=h' }:=I.turned (t':=s.toks) (fun b o hb e=>(sb.2 b hb).trans e) f0 f1 f3 f4 f5;obtain⟨o,e,c,d⟩:=id st';exact⟨u,rfl,zll (s:={ s with heap:=h' }) e c d (by decide) ⟨x,H,I1,ru,⟨rfl,fun ys hy=>by rw[I.tuple_inj hy hq];exact hx⟩,st',fun b hb=>(hf b hb).1⟩⟩
 done:=by
  intro X hP hw hK hc i pins s σ H E I hf st hg;subst hP hw hK;obtain⟨xs,hq,hx⟩:=hg;obtain⟨its,rv,p,hz⟩:=I.tuple hq;obtain⟨f0,f1,f2,f3,f4,f5⟩:=hf it (by simp);have hl:=rv.length;exact wpAny_pyNext_tuple_end (I.ok.hd hc) st (show s.heap.IsTuple a its.toArray from p) (by simp;omega) fun h' eb=>⟨rfl,I.turned (t':=s.toks) (fun b o hb e=>eb b o hb e) f0 f1 f3 f4 f5⟩
 self:=fun _ _ _ _ _ st h=>wpAny_pyIter_tupleiter st h
theorem zla {P:Program}{w:World}{K:PySem.W.Frag}{tg:Expr} (it:Addr) (lo:Int) (n:Nat):znc P w K tg (Itr lo n) [it] it (fun i h=>IsRangeIter h it (lo+(i:Nat) * 1) ((n:Int)-(i:Nat)) 1) where
 mem:=by simp
 obj:=fun i h st b hb=>by
  have e:b=it:=by simpa using hb
  subst e;exact⟨_,st,fun v z=>by
   have z':Data.fields _=Data.cell v:=z;cases z'⟩
 keep:=fun i h h' st k=>k it (by simp) _ st
 item:=by
  intro X hP hw hK hc i pins s σ H E I hf st hg;subst hP hw hK;obtain⟨f0,f1,f2,f3,f4,f5⟩:=hf it (by simp);have W:=Walks.range (prog:=X.prog) (w:=X.w) (I.ok.hd hc) it lo 1 n;refine W.item i s _ _ hg st fun v h' tk hv st' kk=>?_
  obtain⟨t,rfl⟩:=hv;have I1:Inv X pins σ H { s with heap:=h',toks:=tk }:=I.turned (fun b o hb e=>kk b o (by simpa using hb) e) f0 f1 f3 f4 f5;refine⟨_,rfl,zll (s:={ s with heap:=h',toks:=tk }) (n := "range_iterator") st' rfl rfl (by decide) ⟨.int (lo+i),H,I1,⟨t,?_⟩,⟨rfl,rfl⟩,st',fun b hb=>(hf b hb).1⟩⟩;rw[Int.mul_one]
 done:=by
  intro X hP hw hK hc i pins s σ H E I hf st hg;subst hP hw hK;obtain⟨f0,f1,f2,f3,f4,f5⟩:=hf it (by simp);exact wpAny_pyNext_range_end (I.ok.hd hc) st (by have:n<=i:=hg;omega) fun h' eb=>⟨rfl,I.turned (t':=s.toks) (fun b o hb e=>eb b o hb e) f0 f1 f3 f4 f5⟩
 self:=fun _ _ _ _ _ st h=>wpAny_pyIter_rangeiter st h
end L2
namespace L2
open PySem PySem.Spec PyProof.Rows
section
variable {X:Cx}{tg:Expr}
noncomputable def ztX (K:PySem.W.Frag) (tl:TE):TI:=fun σ H R=>tl σ H fun x H1=>∃ a,x = .ref a/\(∃ xs,SqL K H1 a xs)/\R (Itl K a) H1
noncomputable def zwd (K:PySem.W.Frag) (tl:TE):TI:=fun σ H R=>tl σ H fun x H1=>∃ a,x = .ref a/\(∃ xs,SqT K H1 a xs)/\R (Itt K a) H1
theorem zaR {l:Expr}{tl:TE} (hl:PE X l tl):PI X tg l (ztX X.K tl):=by
 intro pins s σ H R I h;refine thn (hl pins s σ H _ I h) fun v s1 ⟨x,H1,I1,r1,q1⟩=>?_
 obtain⟨a,e,⟨xs,hq⟩,q⟩:=q1;subst e;cases r1;obtain⟨its,rv,p,hz⟩:=I1.list hq;refine wpAny_pyIter_list p.isList ?_;refine⟨s1.heap.objs.size,[s1.heap.objs.size],_,_,H1,rfl,I1.kept (t':=s1.toks) fun b o e=>jal _ e,zmC a _,⟨_,jav _ rfl,rfl,rfl⟩,fun b hb=>?_,q⟩;have e:b=s1.heap.objs.size:=by simpa using hb
 subst e;exact I1.fpOk (jag _) (I1.hok.fresh (jag _))
theorem zq6 {l:Expr}{tl:TE} (hl:PE X l tl):PI X tg l (zwd X.K tl):=by
 intro pins s σ H R I h;refine thn (hl pins s σ H _ I h) fun v s1 ⟨x,H1,I1,r1,q1⟩=>?_
 obtain⟨a,e,⟨xs,hq⟩,q⟩:=q1;subst e;cases r1;obtain⟨its,rv,p,hz⟩:=I1.tuple hq;refine wpAny_pyIter_tuple (show s1.heap.IsTuple a its.toArray from p) ?_;refine⟨s1.heap.objs.size,[s1.heap.objs.size],_,_,H1,rfl,I1.kept (t':=s1.toks) fun b o e=>jal _ e,zkZ a _,⟨_,jav _ rfl,rfl,rfl⟩,fun b hb=>?_,q⟩;have e:b=s1.heap.objs.size:=by simpa using hb
 subst e;exact I1.fpOk (jag _) (I1.hok.fresh (jag _))
theorem zog {pins:List (Addr × Obj)} {σ:St}{H:Hp}{s:Shared}{R:It->Hp->Prop}{E:Value->Shared->Prop}{lo hi:Int}{t u v:Tok}{tk:Nat} (I:Inv X pins σ H s) (h1 : -(2^62)<=lo) (h2:lo<2^62) (h3 : -(2^62)<=hi) (h4:hi<2^62)
  (q:R (Itr lo (hi-lo).toNat) H):wpAny (model X.prog X.w) X.A (pyIter (.ref s.heap.objs.size)) (PIE X pins σ tg R) E { s with heap:=s.heap.push { cls := .type "range",data := .fields #[.int lo t,.int hi u,.int 1 v] },toks:=tk }:=by
 refine wpAny_pyIter_range (IsRange.new ..) (small_one h1 h2 h3 h4) ?_;have I1:Inv X pins σ H { s with heap:=s.heap.push { cls := .type "range",data := .fields #[.int lo t,.int hi u,.int 1 v] },toks:=tk }:=I.kept fun b o e=>jal _ e
 refine⟨(s.heap.push { cls := .type "range",data := .fields #[.int lo t,.int hi u,.int 1 v] }).objs.size,[(s.heap.push { cls := .type "range",data := .fields #[.int lo t,.int hi u,.int 1 v] }).objs.size],_,_,H,rfl,
  I1.kept (t':=tk) fun b o e=>jal _ e,zla _ lo (hi-lo).toNat,?_,fun b hb=>?_,q⟩
 ·have e1:lo+((0:Nat):Int) * 1=lo:=by simp
  have e2:(((hi-lo).toNat:Nat):Int)-((0:Nat):Int)=Builtin.Range.rangeSize lo hi 1:=by rw[rangeSize_one];split <;> omega
  show IsRangeIter _ _ (lo+((0:Nat):Int) * 1) ((((hi-lo).toNat:Nat):Int)-((0:Nat):Int)) 1;rw[e1,e2];exact jav _ rfl
 ·have e:b=(s.heap.push { cls := .type "range",data := .fields #[.int lo t,.int hi u,.int 1 v] }).objs.size:=by simpa using hb
  subst e;exact I1.fpOk (jag _) (I1.hok.fresh (jag _))
noncomputable def ztW (ta:TA):TI:=fun σ H R=>ta σ H fun vs H1=>∃ j:Int,vs=[.int j] /\ -(2^62)<=j/\j<2^62/\R (Itr 0 j.toNat) H1
theorem zbw {a:Expr}{ta:TA}{p pos:Pos} (hg:Gl X "range") (hm:X.mg "range" = none) (ha:PA X [a] ta) (hs:starEach [a] X.env=[(false,eval a X.env)]:=by rfl):PI X tg (.Call (.Name "range" p) [a] [] pos) (ztW ta):=by
 intro pins s σ H R I h;refine Call_ (zfm I hg hm boot_range (jba (thn (ha pos pins s σ H _ I h) fun us s1 ⟨vs,H1,I1,r1,q1⟩=>?_) hs rfl));obtain⟨j,e,q1,q2,q⟩:=q1;subst e;cases r1 with
 | cons r rr =>
  cases rr;obtain⟨t,rfl⟩:=r;exact call_range_1 (zog I1 (by omega) (by omega) q1 q2 (by simpa using q))
noncomputable def zut (wi:TI) (g:TG) (tb:TS):TS:=fun D σ H=>wi σ H fun J H1=>∃ W:Nat->Nat->St->Hp->Prop,(∃ m,W 0 m σ H1)/\∀ i m σ H,W i m σ H ->
 (J.stop i H/\D.nx σ H)\/(J.go i H/\∃ N:St->Hp->Prop,(∀ σ' H',N σ' H'->∃ m',m'<m/\W (i+1) m' σ' H')/\∀ x H',J.yld i H x H'->g x σ H' fun σ2 H2=>tb { D with nx:=N,ct:=N,bk:=D.nx } σ2 H2)
noncomputable def zgq (fp:List Addr) (h:Heap):List (Addr × Obj):=fp.filterMap fun b=>(h.get? b).map fun o=>(b,o)
theorem zcJ {fp:List Addr}{h:Heap}{b:Addr}{o:Obj} (hb:b∈fp) (e:h.get? b=some o):(b,o)∈zgq fp h:=jcg.mpr ⟨b,hb,by rw[e];rfl⟩
theorem ziR {fp:List Addr}{h:Heap}{p:Addr × Obj} (hp:p∈zgq fp h):p.1∈fp/\h.get? p.1=some p.2:=by
 obtain⟨b,hb,e⟩:=jcg.mp hp;cases q:h.get? b with
 | none=>rw[q] at e;cases e
 | some o =>
  rw[q] at e;have e':(b,o)=p:=jaD e;subst e';exact⟨hb,q⟩
theorem Inv.pinned {pins:List (Addr × Obj)} {σ:St}{H:Hp}{s:Shared}{fp:List Addr} (I:Inv X pins σ H s) (hf:∀ b∈fp,zi0 X pins H b) (ho:∀ b∈fp,∃ o,s.heap.get? b=some o/\∀ v,o.data ≠ .cell v):Inv X (pins++zgq fp s.heap) σ H s :=
 I.pins_of fun p hp=>(jah.mp hp).elim (fun z=>I.pin p (jaA _ z)) fun z=>by
  obtain⟨hb,e⟩:=ziR z;obtain⟨f0,f1,f2,_⟩:=hf p.1 hb;obtain⟨o,e',d⟩:=ho p.1 hb;rw[e] at e';cases e';exact⟨e,f0,f1,f2,d⟩
theorem Inv.unpinned {pins pl:List (Addr × Obj)} {σ:St}{H:Hp}{s:Shared} (I:Inv X (pins++pl) σ H s):Inv X pins σ H s:=I.pins_of fun p hp=>I.pin p (jaA _ (ja4 _ hp))
theorem zbs {iter:Expr}{body:List Stmt}{wi:TI}{g:TG}{tb:TS}{pos:Pos} (hp:PassesOwn (model X.prog X.w) X.A X.env X.xe) (hc:X.calm=true) (hi:PI X tg iter wi) (hg:PG X tg g) (hb:PSs X body tb)
  (hs:∀ x,foldedSetIterable iter X.env x=pure x:=by intro _;rfl):PS X (.For tg iter body [] pos) (zut wi g tb):=by
 intro pins s σ H D I h;refine wpAny_For (thn (hi pins s σ H _ I h) fun v s1 h1=>thn h1 fun itv s2 h2=>?_) hs;obtain⟨it,fp,tn,J,H2,e,I2,T,st2,f2,W,⟨m0,w0⟩,turn⟩:=h2;subst e;have stat:∀ {H':Hp},(∀ b∈fp,H' b=none)->∀ b∈fp,zi0 X pins H' b:=fun hn b hb=>⟨hn b hb,(f2 b hb).2⟩
 refine codeAny_forLoop_any (fun n s'=>∃ i σ' H',Inv X pins σ' H' s'/\tn i s'.heap/\(∀ b∈fp,H' b=none)/\W i n σ' H') ?_ m0 ⟨0,σ,H2,I2,st2,fun b hb=>(f2 b hb).1,w0⟩;rintro n s3 ⟨i,σ3,H3,I3,st3,fr3,w3⟩;rcases turn i n σ3 H3 w3 with ⟨stop,qn⟩ | ⟨go,N,hN,step⟩
 ·refine wpAny_passesOwn hp (thn (T.done X rfl rfl rfl hc i pins s3 σ3 H3 X.xe I3 (stat fr3) st3 stop) fun r s4 ⟨hr,I4⟩=>?_);subst hr;exact wpAny_execs_nil ⟨σ3,H3,I4,qn⟩
 ·refine wpAny_passesOwn hp (thn (T.item X rfl rfl rfl hc i pins s3 σ3 H3 X.xe I3 (stat fr3) st3 go) fun r s4 ⟨u,hr,h4⟩=>?_);subst hr;refine wpAny_passesOwn hp (thn h4 fun _ s5 ⟨x,H5,I5,r5,y5,st5,fr5⟩=>?_);have I5':=I5.pinned (stat fr5) (T.obj _ _ st5);refine wpAny_passesOwn hp (thn (hg _ s5 σ3 H5 x u _ I5' r5 (step x H5 y5)) fun _ s6 ⟨σ6,H6,I6,q6⟩=>?_);refine wpAny_passesOwn hp (thn (hb _ s6 σ6 H6 _ I6 q6) fun f s7 q7=>?_);have again:∀ {σ7:St}{H7:Hp},Inv X (pins++zgq fp s5.heap) σ7 H7 s7->N σ7 H7->∃ m,m<n/\∃ i σ' H',Inv X pins σ' H' s7/\tn i s7.heap/\(∀ b∈fp,H' b=none)/\W i m σ' H':=fun {σ7 H7} I7 n7=>by
   obtain⟨m',hm,w7⟩:=hN σ7 H7 n7;refine⟨m',hm,i+1,σ7,H7,I7.unpinned,T.keep _ _ _ st5 fun b hb o e=>(I7.pin (b,o) (jaA _ (jaA _ (zcJ hb e)))).1,fun b hb=>?_,w7⟩;obtain⟨o,e,d⟩:=T.obj _ _ st5 b hb;exact (I7.pin (b,o) (jaA _ (jaA _ (zcJ hb e)))).2.1
  cases f with
  | next=>obtain⟨σ7,H7,I7,n7⟩:=q7;exact again I7 n7
  | cont=>obtain⟨σ7,H7,I7,n7⟩:=q7;exact again I7 n7
  | brk=>obtain⟨σ7,H7,I7,q7⟩:=q7;exact⟨σ7,H7,I7.unpinned,q7⟩
  | ret v=>obtain⟨x7,σ7,H7,I7,r7,q7⟩:=q7;exact⟨x7,σ7,H7,I7.unpinned,r7,q7⟩
end
theorem zbM {K:PySem.W.Frag}{a:Addr}{xs:List V}{g:TG}{tb:TS}{D:zld} {σ:St}{H:Hp} (Pv:Nat->St->Hp->Prop) (h0:Pv 0 σ H) (hl:∀ i σ H,i<=xs.length->Pv i σ H->SqL K H a xs)
  (hs:∀ i x σ H,xs[i]? = some x->Pv i σ H->g x σ H fun σ2 H2=>tb { D with nx:=Pv (i+1),ct:=Pv (i+1),bk:=D.nx } σ2 H2) (hd:∀ σ H,Pv xs.length σ H->D.nx σ H) :
  ∃ W:Nat->Nat->St->Hp->Prop,(∃ m,W 0 m σ H)/\∀ i m σ H,W i m σ H ->
   ((Itl K a).stop i H/\D.nx σ H)\/((Itl K a).go i H/\∃ N:St->Hp->Prop,(∀ σ' H',N σ' H'->∃ m',m'<m/\W (i+1) m' σ' H')/\∀ x H',(Itl K a).yld i H x H'->g x σ H' fun σ2 H2=>tb { D with nx:=N,ct:=N,bk:=D.nx } σ2 H2):=by
 refine⟨fun i m σ H=>m=xs.length-i/\i<=xs.length/\Pv i σ H,⟨xs.length,by simp,jaE _,h0⟩,?_⟩;rintro i m σ H ⟨rfl,hi,p⟩;have q:=hl i σ H hi p;by_cases hlt:i<xs.length
 ·refine .inr ⟨⟨xs,xs[i],q,by simp[hlt]⟩,Pv (i+1),fun σ' H' p'=>⟨xs.length-(i+1),by omega,rfl,hlt,p'⟩,fun x H' y=>?_⟩;obtain⟨e,y⟩:=y;subst e;exact hs i x σ _ (y xs q) p
 ·have e:i=xs.length:=by omega
  subst e;exact .inl ⟨⟨xs,q,jag _⟩,hd σ H p⟩
theorem zqv {K:PySem.W.Frag}{a:Addr}{xs:List V}{g:TG}{tb:TS}{D:zld} {σ:St}{H:Hp} (Pv:Nat->St->Hp->Prop) (h0:Pv 0 σ H) (hl:∀ i σ H,i<=xs.length->Pv i σ H->SqT K H a xs)
  (hs:∀ i x σ H,xs[i]? = some x->Pv i σ H->g x σ H fun σ2 H2=>tb { D with nx:=Pv (i+1),ct:=Pv (i+1),bk:=D.nx } σ2 H2) (hd:∀ σ H,Pv xs.length σ H->D.nx σ H) :
  ∃ W:Nat->Nat->St->Hp->Prop,(∃ m,W 0 m σ H)/\∀ i m σ H,W i m σ H ->
   ((Itt K a).stop i H/\D.nx σ H)\/((Itt K a).go i H/\∃ N:St->Hp->Prop,(∀ σ' H',N σ' H'->∃ m',m'<m/\W (i+1) m' σ' H')/\∀ x H',(Itt K a).yld i H x H'->g x σ H' fun σ2 H2=>tb { D with nx:=N,ct:=N,bk:=D.nx } σ2 H2):=by
 refine⟨fun i m σ H=>m=xs.length-i/\i<=xs.length/\Pv i σ H,⟨xs.length,by simp,jaE _,h0⟩,?_⟩;rintro i m σ H ⟨rfl,hi,p⟩;have q:=hl i σ H hi p;by_cases hlt:i<xs.length
 ·refine .inr ⟨⟨xs,xs[i],q,by simp[hlt]⟩,Pv (i+1),fun σ' H' p'=>⟨xs.length-(i+1),by omega,rfl,hlt,p'⟩,fun x H' y=>?_⟩;obtain⟨e,y⟩:=y;subst e;exact hs i x σ _ (y xs q) p
 ·have e:i=xs.length:=by omega
  subst e;exact .inl ⟨⟨xs,q,jag _⟩,hd σ H p⟩
theorem zco {lo:Int}{n:Nat}{g:TG}{tb:TS}{D:zld} {σ:St}{H:Hp} (Pv:Nat->St->Hp->Prop) (h0:Pv 0 σ H)
  (hs:∀ i σ H,i<n->Pv i σ H->g (.int (lo+i)) σ H fun σ2 H2=>tb { D with nx:=Pv (i+1),ct:=Pv (i+1),bk:=D.nx } σ2 H2) (hd:∀ σ H,Pv n σ H->D.nx σ H) :
  ∃ W:Nat->Nat->St->Hp->Prop,(∃ m,W 0 m σ H)/\∀ i m σ H,W i m σ H ->
   ((Itr lo n).stop i H/\D.nx σ H)\/((Itr lo n).go i H/\∃ N:St->Hp->Prop,(∀ σ' H',N σ' H'->∃ m',m'<m/\W (i+1) m' σ' H')/\∀ x H',(Itr lo n).yld i H x H'->g x σ H' fun σ2 H2=>tb { D with nx:=N,ct:=N,bk:=D.nx } σ2 H2):=by
 refine⟨fun i m σ H=>m=n-i/\i<=n/\Pv i σ H,⟨n,by simp,jaE _,h0⟩,?_⟩;rintro i m σ H ⟨rfl,hi,p⟩;by_cases hlt:i<n
 ·refine .inr ⟨hlt,Pv (i+1),fun σ' H' p'=>⟨n-(i+1),by omega,rfl,hlt,p'⟩,fun x H' y=>?_⟩;obtain⟨e,y⟩:=y;subst e y;exact hs i σ _ hlt p
 ·have e:i=n:=by omega
  subst e;exact .inl ⟨jag _,hd σ H p⟩
end L2
namespace L2
open PySem PySem.Spec PyProof.Rows
noncomputable abbrev R2:=V->V->Hp->VK->Prop
noncomputable def OpR (X:Cx) (f:Value->Value->Sem Value) (r:R2):Prop :=
 ∀ (pins:List (Addr × Obj)) (s:Shared) (σ:St) (H:Hp) (x y:V) (v u:Value) (Q:VK),Inv X pins σ H s->zbm x v->zbm y u->r x y H Q ->
  wpAny (model X.prog X.w) X.A (f v u) (EP X pins σ Q) X.xe s
noncomputable def UnR (X:Cx) (f:Value->Sem Value) (r:V->Hp->VK->Prop):Prop :=
 ∀ (pins:List (Addr × Obj)) (s:Shared) (σ:St) (H:Hp) (x:V) (v:Value) (Q:VK),Inv X pins σ H s->zbm x v->r x H Q ->
  wpAny (model X.prog X.w) X.A (f v) (EP X pins σ Q) X.xe s
noncomputable def zet (X:Cx) (f:Value) (r:List V->Hp->VK->Prop):Prop :=
 ∀ (pins:List (Addr × Obj)) (s:Shared) (σ:St) (H:Hp) (xs:List V) (us:List Value) (Q:VK),Inv X pins σ H s->zba xs us->r xs H Q ->
  wpAny (model X.prog X.w) X.A (call f us) (EP X pins σ Q) X.xe s
noncomputable def zu6 (X:Cx) (r:V->Hp->(Bool->Hp->Prop)->Prop):Prop :=
 ∀ (pins:List (Addr × Obj)) (s:Shared) (σ:St) (H:Hp) (x:V) (v:Value) (Q:Bool->Hp->Prop),Inv X pins σ H s->zbm x v->r x H Q ->
  wpAny (model X.prog X.w) X.A (truthy v) (TP X pins σ Q) X.xe s
noncomputable def tOp (r:R2) (ta tb:TE):TE:=fun σ H Q=>ta σ H fun x H1=>tb σ H1 fun y H2=>r x y H2 Q
noncomputable def tUn (r:V->Hp->VK->Prop) (ta:TE):TE:=fun σ H Q=>ta σ H fun x H1=>r x H1 Q
noncomputable def rI (C:Int->Int->Prop) (g:Int->Int->V):R2:=fun x y H Q=>∃ i j,x = .int i/\y = .int j/\C i j/\Q (g i j) H
noncomputable def rI0 (g:Int->Int->V):R2:=fun x y H Q=>∃ i j,x = .int i/\y = .int j/\Q (g i j) H
noncomputable def rU (g:Int->V):V->Hp->VK->Prop:=fun x H Q=>∃ i,x = .int i/\Q (g i) H
section
variable {X:Cx}{a b c:Expr}{ta tb tc:TE}{pos:Pos}
theorem ztD (ha:PE X a ta) (hb:PE X b tb) {pins:List (Addr × Obj)}{s:Shared} {σ:St}{H:Hp}{R:V->V->Hp->Prop} (I:Inv X pins σ H s)
  (h:ta σ H fun x H1=>tb σ H1 fun y H2=>R x y H2) {Q:Value->Shared->Prop}{f:Value->Value->Sem Value}
  (hf:∀ v u s2 x y H2,Inv X pins σ H2 s2->zbm x v->zbm y u->R x y H2->wpAny (model X.prog X.w) X.A (f v u) Q X.xe s2) :
  wpAny (model X.prog X.w) X.A (eval a X.env) (fun v s₁=>wpAny (model X.prog X.w) X.A (eval b X.env) (fun u s₂=>wpAny (model X.prog X.w) X.A (f v u) Q X.xe s₂) X.xe s₁) X.xe s:=by
 refine thn (ha pins s σ H _ I h) fun v s1 ⟨x,H1,I1,r1,q1⟩=>?_
 refine thn (hb pins s1 σ H1 _ I1 q1) fun u s2 ⟨y,H2,I2,r2,q2⟩=>?_
 exact hf v u s2 x y H2 I2 r1 r2 q2
theorem zao {op:Operator}{r:R2} (ho:OpR X (binaryOp op) r) (ha:PE X a ta) (hb:PE X b tb):PE X (.BinOp a op b pos) (tOp r ta tb):=by
 intro pins s σ H Q I h;exact wpAny_BinOp (ztD ha hb I h fun v u s2 x y H2 I2 rx ry q=>ho pins s2 σ H2 x y v u Q I2 rx ry q)
theorem zhW {op:UnaryOp}{r:V->Hp->VK->Prop} (ho:UnR X (unaryOp op) r) (ha:PE X a ta):PE X (.UnaryOp op a pos) (tUn r ta):=by
 intro pins s σ H Q I h;exact UnaryOp_ (thn (ha pins s σ H _ I h) fun v s1 ⟨x,H1,I1,r1,q1⟩=>ho pins s1 σ H1 x v Q I1 r1 q1)
theorem opI {f:Value->Value->Sem Value}{C:Int->Int->Prop}{g:Int->Int->Int}
  (rule:∀ (i j:Int) (t u:Tok) (s:Shared) (Q:Value->Shared->Prop) (E:Value->Shared->Prop),C i j->Q (.int (g i j) s.toks) { s with toks:=s.toks+1 }->wpAny (model X.prog X.w) X.A (f (.int i t) (.int j u)) Q E s) :
  OpR X f (rI C fun i j=>.int (g i j)):=by
 intro pins s σ H x y v u Q I rx ry h;obtain⟨i,j,rfl,rfl,hc,q⟩:=h;obtain⟨t,rfl⟩:=rx;obtain⟨t',rfl⟩:=ry;exact rule i j t t' s _ _ hc ⟨.int (g i j),H,I.tok _,⟨_,rfl⟩,q⟩
theorem ztb {f:Value->Value->Sem Value}{g:Int->Int->Int}
  (rule:∀ (i j:Int) (t u:Tok) (s:Shared) (Q:Value->Shared->Prop) (E:Value->Shared->Prop),Q (.int (g i j) s.toks) { s with toks:=s.toks+1 }->wpAny (model X.prog X.w) X.A (f (.int i t) (.int j u)) Q E s) :
  OpR X f (rI0 fun i j=>.int (g i j)):=by
 intro pins s σ H x y v u Q I rx ry h;obtain⟨i,j,rfl,rfl,q⟩:=h;obtain⟨t,rfl⟩:=rx;obtain⟨t',rfl⟩:=ry;exact rule i j t t' s _ _ ⟨.int (g i j),H,I.tok _,⟨_,rfl⟩,q⟩
theorem zs7 {f:Value->Value->Sem Value}{g:Int->Int->Bool}
  (rule:∀ (i j:Int) (t u:Tok) (s:Shared) (Q:Value->Shared->Prop) (E:Value->Shared->Prop),Q (.bool (g i j)) s->wpAny (model X.prog X.w) X.A (f (.int i t) (.int j u)) Q E s) :
  OpR X f (rI0 fun i j=>.bl (g i j)):=by
 intro pins s σ H x y v u Q I rx ry h;obtain⟨i,j,rfl,rfl,q⟩:=h;obtain⟨t,rfl⟩:=rx;obtain⟨t',rfl⟩:=ry;exact rule i j t t' s _ _ ⟨.bl (g i j),H,I,rfl,q⟩
noncomputable def zuq (i j:Int):Prop:=0<=j/\j<=1000000/\i.natAbs<2^64
noncomputable def zs8 (i j:Int):Prop:=(-(2^64)<i/\i<2^64)\/(-(2^64)<j/\j<2^64)
theorem zs8.ok {i j:Int} (h:zs8 i j):IntMulOk i j:=by
 rcases h with ⟨h1,h2⟩ | ⟨h1,h2⟩
 ·exact .of_left (intBits_le_64 h1 h2)
 ·exact .of_right (intBits_le_64 h1 h2)
theorem zbx:OpR X (binaryOp .Add) (rI0 fun i j=>.int (i+j)):=ztb fun _ _ _ _ _ _ _ q=>add_int q
theorem zd3:OpR X (binaryOp .Sub) (rI0 fun i j=>.int (i-j)):=ztb fun _ _ _ _ _ _ _ q=>sub_int q
theorem zaY:OpR X (binaryOp .Mod) (rI (fun _ j=>0<j) fun i j=>.int (i % j)):=opI fun i j _ _ _ _ _ hc q=>by
 have h1:(0:Int)<j:=hc;exact mod_int' (by omega) (by rw[Int.fmod_eq_emod_of_nonneg i (by omega)];exact q)
theorem zj3:OpR X (binaryOp .Pow) (rI zuq fun i j=>.int (i^j.toNat)):=opI fun _ _ _ _ _ _ _ hc q=>pow_int_small hc.1 hc.2.1 hc.2.2 q
theorem ziu:OpR X (binaryOp .LShift) (rI zuq fun i j=>.int (i * 2^j.toNat)):=opI fun _ _ _ _ _ _ _ hc q=>lshift_int_small hc.1 hc.2.1 hc.2.2 q
theorem zkB:OpR X (binaryOp .BitAnd) (rI0 fun i j=>.int (Builtin.bitAnd i j)):=ztb fun _ _ _ _ _ _ _ q=>and_int q
theorem zoy:OpR X (binaryOp .BitOr) (rI0 fun i j=>.int (Builtin.bitOr i j)):=ztb fun _ _ _ _ _ _ _ q=>or_int q
theorem unI {f:Value->Sem Value}{g:Int->Int}
  (rule:∀ (i:Int) (t:Tok) (s:Shared) (Q:Value->Shared->Prop) (E:Value->Shared->Prop),Q (.int (g i) s.toks) { s with toks:=s.toks+1 }->wpAny (model X.prog X.w) X.A (f (.int i t)) Q E s) :
  UnR X f (rU fun i=>.int (g i)):=by
 intro pins s σ H x v Q I rx h;obtain⟨i,rfl,q⟩:=h;obtain⟨t,rfl⟩:=rx;exact rule i t s _ _ ⟨.int (g i),H,I.tok _,⟨_,rfl⟩,q⟩
theorem zeQ:UnR X (unaryOp .USub) (rU fun i=>.int (-i)):=unI fun _ _ _ _ _ q=>neg_int q
end
noncomputable def zum:V->V->Bool
 | .non,.non=>true | .non,.int _=>true | .int _,.non=>true | .non,.bl _=>true | .bl _,.non=>true | .non,.str _=>true | .str _,.non=>true
 | .int _,.int _=>true | .bl _,.bl _=>true | .str _,.str _=>true | .byt _,.byt _=>true
 | .int _,.str _=>true | .str _,.int _=>true | .bl _,.str _=>true | .str _,.bl _=>true
 | _,_=>false
noncomputable def rEq:R2:=fun x y H Q=>zum x y=true/\Q (.bl (decide (x=y))) H
noncomputable def rNe:R2:=fun x y H Q=>zum x y=true/\Q (.bl (!decide (x=y))) H
theorem zlE {i j:Int}:decide (V.int i=V.int j)=(i == j):=by
 rw[jbG];simp
theorem zoY {i j:Bool}:decide (V.bl i=V.bl j)=(i == j):=by
 rw[jbG];simp
theorem zmO {i j:Str}:decide (V.str i=V.str j)=(i == j):=by
 rw[jbG];simp
theorem zmz {i j:Array UInt8}:decide (V.byt i=V.byt j)=(i.toList == j.toList):=by
 rw[jbG];cases i;cases j;simp
section
variable {X:Cx}{a b c:Expr}{ta tb tc:TE}{pos:Pos}
theorem za2 {pins:List (Addr × Obj)} {σ:St}{H:Hp}{s:Shared}{Q:VK}{k k':Bool} (I:Inv X pins σ H s) (q:Q (.bl k) H) (e:k=k'):EP X pins σ Q (.bool k') s:=by
 subst e;exact⟨.bl k,H,I,rfl,q⟩
theorem zaD:OpR X (compareOp .Eq) rEq:=by
 intro pins s σ H x y v u Q I rx ry h;obtain⟨hs,q⟩:=h;cases x with
 | non =>
  cases rx;cases y with
  | non=>cases ry;exact PySem.EqNone.eq_none_none (za2 I q (by simp))
  | bl j=>cases ry;exact PySem.EqNone.eq_none_bool (za2 I q (by simp))
  | int j=>obtain⟨t',rfl⟩:=ry;exact PySem.EqNone.eq_none_int (za2 I q (by simp))
  | str j=>obtain⟨t',rfl⟩:=ry;exact PySem.EqNone.eq_none_str (za2 I q (by simp))
  | _=>exact absurd (show false=true from hs) jay
 | bl i =>
  cases rx;cases y with
  | non=>cases ry;exact PySem.EqNone.eq_bool_none (za2 I q (by simp))
  | bl j=>cases ry;exact eq_bool (za2 I q zoY)
  | str j=>obtain⟨t',rfl⟩:=ry;exact PySem.EqMixed.eq_bool_str (za2 I q (by simp))
  | _=>exact absurd (show false=true from hs) jay
 | int i =>
  obtain⟨t,rfl⟩:=rx;cases y with
  | non=>cases ry;exact PySem.EqNone.eq_int_none (za2 I q (by simp))
  | int j=>obtain⟨t',rfl⟩:=ry;exact eq_int (za2 I q zlE)
  | str j=>obtain⟨t',rfl⟩:=ry;exact PySem.EqMixed.eq_int_str (za2 I q (by simp))
  | _=>exact absurd (show false=true from hs) jay
 | str i =>
  obtain⟨t,rfl⟩:=rx;cases y with
  | non=>cases ry;exact PySem.EqNone.eq_str_none (za2 I q (by simp))
  | bl j=>cases ry;exact PySem.EqMixed.eq_str_bool (za2 I q (by simp))
  | int j=>obtain⟨t',rfl⟩:=ry;exact PySem.EqMixed.eq_str_int (za2 I q (by simp))
  | str j=>obtain⟨t',rfl⟩:=ry;exact eq_str (za2 I q zmO)
  | _=>exact absurd (show false=true from hs) jay
 | byt i =>
  obtain⟨t,rfl⟩:=rx;cases y with
  | byt j=>obtain⟨t',rfl⟩:=ry;exact PySem.W.eq_bytes (za2 I q zmz)
  | _=>exact absurd (show false=true from hs) jay
 | _=>cases y <;> exact absurd (show false=true from hs) jay
theorem zfe:OpR X (compareOp .NotEq) rNe:=by
 intro pins s σ H x y v u Q I rx ry h;obtain⟨hs,q⟩:=h;cases x with
 | non =>
  cases rx;cases y with
  | non=>cases ry;exact PySem.EqNone.ne_none_none (za2 I q (by simp))
  | bl j=>cases ry;exact PySem.EqNone.ne_none_bool (za2 I q (by simp))
  | int j=>obtain⟨t',rfl⟩:=ry;exact PySem.EqNone.ne_none_int (za2 I q (by simp))
  | str j=>obtain⟨t',rfl⟩:=ry;exact PySem.EqNone.ne_none_str (za2 I q (by simp))
  | _=>exact absurd (show false=true from hs) jay
 | bl i =>
  cases rx;cases y with
  | non=>cases ry;exact PySem.EqNone.ne_bool_none (za2 I q (by simp))
  | bl j=>cases ry;exact ne_bool (za2 I q (congrArg not zoY))
  | str j=>obtain⟨t',rfl⟩:=ry;exact PySem.EqMixed.ne_bool_str (za2 I q (by simp))
  | _=>exact absurd (show false=true from hs) jay
 | int i =>
  obtain⟨t,rfl⟩:=rx;cases y with
  | non=>cases ry;exact PySem.EqNone.ne_int_none (za2 I q (by simp))
  | int j=>obtain⟨t',rfl⟩:=ry;exact ne_int (za2 I q (congrArg not zlE))
  | str j=>obtain⟨t',rfl⟩:=ry;exact PySem.EqMixed.ne_int_str (za2 I q (by simp))
  | _=>exact absurd (show false=true from hs) jay
 | str i =>
  obtain⟨t,rfl⟩:=rx;cases y with
  | non=>cases ry;exact PySem.EqNone.ne_str_none (za2 I q (by simp))
  | bl j=>cases ry;exact PySem.EqMixed.ne_str_bool (za2 I q (by simp))
  | int j=>obtain⟨t',rfl⟩:=ry;exact PySem.EqMixed.ne_str_int (za2 I q (by simp))
  | str j=>obtain⟨t',rfl⟩:=ry;exact ne_str (za2 I q (congrArg not zmO))
  | _=>exact absurd (show false=true from hs) jay
 | byt i =>
  obtain⟨t,rfl⟩:=rx;cases y with
  | byt j=>obtain⟨t',rfl⟩:=ry;exact PySem.W.ne_bytes (za2 I q (congrArg not zmz))
  | _=>exact absurd (show false=true from hs) jay
 | _=>cases y <;> exact absurd (show false=true from hs) jay
theorem zh4:OpR X (compareOp .Lt) (rI0 fun i j=>.bl (decide (i<j))):=zs7 fun _ _ _ _ _ _ _ q=>lt_int q
theorem zjB:OpR X (compareOp .LtE) (rI0 fun i j=>.bl (decide (i<=j))):=zs7 fun _ _ _ _ _ _ _ q=>le_int q
theorem zhn:OpR X (compareOp .Gt) (rI0 fun i j=>.bl (decide (j<i))):=zs7 fun _ _ _ _ _ _ _ q=>gt_int q
theorem zrj:OpR X (compareOp .GtE) (rI0 fun i j=>.bl (decide (j<=i))):=zs7 fun _ _ _ _ _ _ _ q=>ge_int q
theorem zf1:OpR X (compareOp .In) (fun x y H Q=>∃ i j,x = .str i/\y = .str j/\Q (.bl (!(Builtin.Str.occurrences j i 0 j.length 1).isEmpty)) H):=by
 intro pins s σ H x y v u Q I rx ry h;obtain⟨i,j,rfl,rfl,q⟩:=h;obtain⟨t,rfl⟩:=rx;obtain⟨t',rfl⟩:=ry;exact in_str (za2 I q rfl)
theorem zgX:OpR X (compareOp .Is) (fun x y H Q=>y = .non/\Q (.bl (decide (x = .non))) H):=by
 intro pins s σ H x y v u Q I rx ry h;obtain⟨rfl,q⟩:=h;cases ry;refine is_none_gen (za2 I q ?_);cases x <;> first
  | (cases rx;rfl)
  | (obtain⟨t,rfl⟩:=rx;rfl)
theorem zal (b:Expr) {op:CmpOp} (h:op ≠ .In:=by decide) (h2:op ≠ .NotIn:=by decide):behindInMarks op b=false:=by
 have e1:(op == CmpOp.In)=false:=by cases op <;> first | rfl | exact absurd rfl h
 have e2:(op == CmpOp.NotIn)=false:=by cases op <;> first | rfl | exact absurd rfl h2
 cases b with
 | Set elts k pos=>show (k == 0 && (op == CmpOp.In || op == CmpOp.NotIn) && _)=false;rw[e1,e2,jdy,jb4,jcZ]
 | _=>rfl
theorem zbp {op:CmpOp}{r:R2} (ho:OpR X (compareOp op) r) (ha:PE X a ta) (hb:PE X b tb) (hm:behindInMarks op b=false):PE X (.Compare a [op] [b] pos) (tOp r ta tb):=by
 intro pins s σ H Q I h;exact wpAny_Compare1 (ztD ha hb I h fun v u s2 x y H2 I2 rx ry q=>ho pins s2 σ H2 x y v u Q I2 rx ry q) hm
noncomputable def ztF (t:TE):TT:=fun σ H Q=>t σ H fun x H'=>∃ k,x = .bl k/\Q k H'
theorem zah {op:CmpOp}{r:R2} (ho:OpR X (compareOp op) r) (ha:PE X a ta) (hb:PE X b tb) (hm:behindInMarks op b=false):PT X (.Compare a [op] [b] pos) (ztF (tOp r ta tb)):=by
 intro pins s σ H Q I h;refine wpAny_isTrue_Compare1 (thn (ha pins s σ H _ I h) fun v s1 ⟨x,H1,I1,r1,q1⟩=>thn (hb pins s1 σ H1 _ I1 q1) fun u s2 ⟨y,H2,I2,r2,q2⟩ =>
  thn (ho pins s2 σ H2 x y v u _ I2 r1 r2 q2) fun c s3 ⟨z,H3,I3,r3,k,e,q3⟩=>?_) hm
 subst e;cases r3;exact wpAny_truthy_bool ⟨H3,I3,q3⟩
noncomputable def zrk (r r':R2) (ta tb tc:TE):TE:=fun σ H Q=>ta σ H fun x H1=>tb σ H1 fun y H2=>r x y H2 fun z H3=>∃ k,z = .bl k /\
 (if k=true then tc σ H3 fun w' H4=>r' y w' H4 Q else Q (.bl false) H3)
theorem zko {op op':CmpOp}{r r':R2} (ho:OpR X (compareOp op) r) (ho':OpR X (compareOp op') r') (ha:PE X a ta) (hb:PE X b tb) (hc:PE X c tc)
  (hm:lastMarks [op,op'] [b,c]=false:=by with_unfolding_all rfl):PE X (.Compare a [op,op'] [b,c] pos) (zrk r r' ta tb tc):=by
 intro pins s σ H Q I h;refine Compare_chain (thn (ha pins s σ H _ I h) fun v s1 ⟨x,H1,I1,r1,q1⟩=>chain_link (thn (hb pins s1 σ H1 _ I1 q1) fun u s2 ⟨y,H2,I2,r2,q2⟩ =>
  thn (ho pins s2 σ H2 x y v u _ I2 r1 r2 q2) fun d s3 ⟨z,H3,I3,r3,k,e,q3⟩=>?_)) hm
 subst e;cases r3;refine wpAny_truthy_bool ?_;cases k with
 | false=>exact ite_ff ⟨.bl false,H3,I3,rfl,q3⟩
 | true=>exact ite_tt (chain_last (thn (hc pins s3 σ H3 _ I3 q3) fun w' s4 ⟨z',H4,I4,r4,q4⟩=>ho' pins s4 σ H4 y z' u w' Q I4 r2 r4 q4))
noncomputable def zuU (K:PySem.W.Frag) (x:V) (H:Hp) (k:Bool):Prop :=
 match x with
 | .non=>k=false
 | .bl b=>k=b
 | .int i=>k=(i != 0)
 | .str y=>y.length<=sizeLine/\k=((y.length:Int) != 0)
 | .byt y=>y.size<=sizeLine/\k=((y.size:Int) != 0)
 | .ref p=>(∃ xs,SqL K H p xs/\k = !xs.isEmpty)\/(∃ xs,SqT K H p xs/\k = !xs.isEmpty)\/∃ kvs,H p=some (.dK kvs)/\k = !kvs.isEmpty
 | _=>False
theorem zkK {κ : Type}{kvs:List (κ × V)}{vs:List (κ × Value)} (r:KV kvs vs):(!vs.isEmpty) = !kvs.isEmpty:=by
 cases r <;> rfl
theorem zgT {xs:List V}{its:List Value} (r:zba xs its):(!its.toArray.isEmpty) = !xs.isEmpty:=by
 cases r <;> simp
theorem zfk:(sizeLine:Nat)<2^63:=by rw[sizeLine_eq];decide
theorem zsT:zu6 X (fun x H Q=>∃ k,zuU X.K x H k/\Q k H):=by
 intro pins s σ H x v Q I rx h;obtain⟨k,e,q⟩:=h;have hl:=zfk;have hs:sizeLine=16777216:=sizeLine_eq;cases x with
 | non =>
  cases rx;have e':k=false:=e;subst e';exact truthy_none ⟨H,I,q⟩
 | bl b =>
  cases rx;have e':k=b:=e;subst e';exact wpAny_truthy_bool ⟨H,I,q⟩
 | int i =>
  obtain⟨t,rfl⟩:=rx;have e':k=(i != 0):=e;subst e';exact PySem.P.truthy_int ⟨H,I,q⟩
 | str y =>
  obtain⟨t,rfl⟩:=rx;obtain⟨hy,e'⟩:y.length<=sizeLine/\k=((y.length:Int) != 0):=e;subst e';exact PySem.P.truthy_str (by omega) ⟨H,I.tok _,q⟩
 | byt y =>
  obtain⟨t,rfl⟩:=rx;obtain⟨hy,e'⟩:y.size<=sizeLine/\k=((y.size:Int) != 0):=e;subst e';exact PySem.W.truthy_bytes (by omega) ⟨H,I.tok _,q⟩
 | ref p =>
  cases rx;have e':(∃ xs,SqL X.K H p xs/\k = !xs.isEmpty)\/(∃ xs,SqT X.K H p xs/\k = !xs.isEmpty)\/∃ kvs,H p=some (.dK kvs)/\k = !kvs.isEmpty:=e;rcases e' with ⟨xs,hx,e'⟩ | ⟨xs,hx,e'⟩ | ⟨kvs,hx,e'⟩
  ·subst e';obtain⟨its,r,pl,hz⟩:=I.list hx;have hlen:=r.length;exact wpAny_truthy_list pl.isList (by simp only[jai];omega) ⟨H,I.tok _,by rw[zgT r];exact q⟩
  ·subst e';obtain⟨its,r,pl,hz⟩:=I.tuple hx;have hlen:=r.length;exact truthy_tuple pl (by simp only[jai];omega) ⟨H,I.tok _,by rw[zgT r];exact q⟩
  ·subst e';obtain⟨hz,hS,vs,r,m⟩:kvs.length<=sizeLine/\(p == sysModules)=false/\∃ vs,KV kvs vs/\s.heap.DictOf (zbf X.prog X.w) p vs:=I.hok p _ hx;have hlen:kvs.length=vs.length:=jaL r;exact wpAny_truthy_dict hS m (by omega) ⟨H,I.tok _,by rw[zkK r];exact q⟩
 | _=>exact (show False from e).elim
theorem zc0 (ha:PE X a ta) (he:∀ whole,isTrue a X.env whole=(do let v <- whole;standAt a.pos;holding [v] (truthy v))) :
  PT X a (fun σ H Q=>ta σ H fun x H'=>∃ k,zuU X.K x H' k/\Q k H'):=by
 intro pins s σ H Q I h;exact isTrue_plain (thn (ha pins s σ H _ I h) fun v s1 ⟨x,H1,I1,r1,q1⟩=>zsT pins s1 σ H1 x v Q I1 r1 q1) (he _)
theorem zaI:OpR X (binaryOp .Add) (fun x y H Q=>∃ i j,x = .str i/\y = .str j/\i.length+j.length<=sizeLine/\Q (.str (i++j)) H):=by
 intro pins s σ H x y v u Q I rx ry h;obtain⟨i,j,rfl,rfl,hz,q⟩:=h;obtain⟨t,rfl⟩:=rx;obtain⟨t',rfl⟩:=ry;exact add_str (fun t' tk=>⟨.str (i++j),H,I.tok _,⟨_,rfl⟩,q⟩) hz
theorem zeX {x:V}{us:List Value} (r:zba [x] us):∃ u,us=[u]/\zbm x u:=by
 cases r with
 | cons r1 r2=>cases r2;exact⟨_,rfl,r1⟩
theorem zoF {x y:V}{us:List Value} (r:zba [x,y] us):∃ u w',us=[u,w']/\zbm x u/\zbm y w':=by
 cases r with
 | cons r1 r2 =>
  cases r2 with
  | cons r3 r4=>cases r4;exact⟨_,_,rfl,r1,r3⟩
theorem zeF:zet X (.builtin "abs") (fun xs H Q=>∃ i,xs=[.int i]/\Q (.int (if i<0 then -i else i)) H):=by
 intro pins s σ H xs us Q I r h;obtain⟨i,rfl,q⟩:=h;obtain⟨u,rfl,t,rfl⟩:=zeX r;exact call_abs_int fun u tk=>⟨.int (if i<0 then -i else i),H,I.tok _,⟨_,rfl⟩,q⟩
theorem zir:zet X (.type "int") (fun xs H Q=>(∃ i,xs=[.int i]/\Q (.int i) H)\/∃ k,xs=[.bl k]/\Q (.int (if k then 1 else 0)) H):=by
 intro pins s σ H xs us Q I r h;rcases h with ⟨i,rfl,q⟩ | ⟨k,rfl,q⟩
 ·obtain⟨u,rfl,t,rfl⟩:=zeX r;exact call_int_int ⟨.int i,H,I,⟨_,rfl⟩,q⟩
 ·obtain⟨u,rfl,r1⟩:=zeX r;cases r1;exact call_int_bool ⟨.int (if k then 1 else 0),H,I.tok _,⟨_,rfl⟩,q⟩
theorem zcu:zet X (.type "str") (fun xs H Q=>∃ i,xs=[.int i]/\i.natAbs.log2<1920/\Q (.str (toString i)) H):=by
 intro pins s σ H xs us Q I r h;obtain⟨i,rfl,hz,q⟩:=h;obtain⟨u,rfl,t,rfl⟩:=zeX r;exact PySem.P.str_of_int hz ⟨.str _,H,I.tok _,⟨_,rfl⟩,q⟩
end
end L2
namespace L2
open PySem PySem.Spec PyProof.Rows
structure zqp (h:Heap) (x dx C:Addr) (mA:Str->Option Value):Prop where
 obj:h.get? x=some (PySem.W.instObj C dx)
 ns:h.Ns1 dx mA
 ne:dx≠x
theorem zlU {h:Heap}{dx:Addr}{mA:Str->Option Value} (n:h.Ns1 dx mA):∃ od,h.get? dx=some od/\∀ name,PySem.W.lookIn name od=some (mA name):=by
 obtain⟨o,es,ep,ho,hd,hk,_,hm⟩:=n;refine⟨o,ho,fun name=>?_⟩;have e:=hm name;unfold nsFind findBy at e;rw[<- Array.find?_toList] at e;unfold PySem.W.lookIn;rw[hd];dsimp only;split
 ·rename_i y q;rw[q] at e;exact congrArg some e
 ·rename_i q;rw[q] at e;have a:es.toList.any (·.refKey)=false:=by
   rw[List.any_eq_false];intro y hy;obtain⟨z,t,hkey⟩:=hk y (Array.mem_toList_iff.mp hy);simp[DictEntry.refKey,hkey]
  have a':¬ es.toList.any (·.refKey)=true:=by rw[a];exact jay
  rw[if_neg a'];exact congrArg some e
theorem zqp.look {h:Heap}{x dx C:Addr}{mA:Str->Option Value} (I:zqp h x dx C mA):∃ od,PySem.W.InstAt h x (PySem.W.instObj C dx) C (some od)/\∀ name,PySem.W.lookIn name od=some (mA name) :=
 let ⟨od,ho,hl⟩:=zlU I.ns
 ⟨od,⟨I.obj,rfl,rfl,ho⟩,hl⟩
section
variable {prog:Program}{w:World}{A:Around}{E:Value->Shared->Prop}{s:Shared}{K:PySem.W.Frag}{x dx C f:Addr}{mA:Str->Option Value}{name:Str}{v:Value}
theorem zqh {expr:Bool}{Q:Value->Shared->Prop} (X:K.In s.heap) (I:zqp s.heap x dx C mA) (hg:PySem.W.plainGet K C name=true) (hh:PySem.W.hasDictIn K C=true)
  (ha:PySem.W.findIn K (.ref C) name=some none) (hv:mA name=some v) (hv':PySem.W.handedIn v=true) (h:Q v { s with toks:=s.toks+1 }) :
  wpAny (model prog w) A (getAttr (.ref x) name expr) Q E s:=by
 obtain⟨od,J,hl⟩:=I.look;exact PySem.W.get_value X J (jcH hg).1 (PySem.W.findObj_own hh ha rfl (by rw[hl,hv])) hv' h
theorem zn2 {pl:Sem Bool}{Q:Value × List Value->Shared->Prop} (X:K.In s.heap) (I:zqp s.heap x dx C mA) (hg:PySem.W.plainGet K C name=true)
  (hf:PySem.W.findIn K (.ref C) name=some (some (.ref f))) (ht:PySem.W.isFn K (.ref f)=true) (hv:mA name=none) (h:Q (.ref f,[.ref x]) s) :
  wpAny (model prog w) A (getMethod (.ref x) name pl) Q E s:=by
 obtain⟨od,J,hl⟩:=I.look;exact PySem.W.method_fn X J (jcH hg).1 (jcH hg).2 hf (beq_iff_eq.mp ht) (by show (PySem.W.lookIn name od).map (·.isSome)=some false;rw[hl,hv];rfl) h
theorem zqs {ns:List Str}{Q:Unit->Shared->Prop} (X:K.In s.heap) (I:zqp s.heap x dx C mA)
  (hs:PySem.W.findIn K (.ref C) "__setattr__" = some (some (.builtin "object.__setattr__"))) (hp:PySem.W.plainOver K C=true) (ht:PySem.W.takerIn K C name=some none) (hh:PySem.W.hasDictIn K C=true)
  (hw:PySem.Within mA ns) (hsz:ns.length<=sizeLine)
  (h:∀ h',zqp h' x dx C (fun y=>if y=name then some v else mA y)->Heap.SameBut dx s.heap h'->Q () { s with heap:=h',toks:=s.toks+2 }) :
  wpAny (model prog w) A (setAttr (.ref x) name v) Q E s:=by
 obtain⟨od,J,hl⟩:=I.look;refine PySem.W.set_plain X J hs (PySem.W.osa_open (s:={ s with toks:=s.toks+1 }) (r:=none) X J hp ht fun b=>?_);obtain⟨cd,hc,hd'⟩:=PySem.W.any_some hh;have hx:s.heap.get? x=some ⟨.ref C,some dx,.plain,#[]⟩:=I.obj;refine wpAny_bind (wpAny_pure (wpAny_bind (wpAny_bind (wpAny_loadPart hx (wpAny_bind (PySem.W.Looks.here (s:={ s with toks:=s.toks+1 }) (PySem.W.looks_clsIn X hc) ?_))))));rw[hd'];refine wpAny_pure (a:=some dx) (wpAny_bind (wpAny_pure (wpAny_bind ?_)));refine wpAny_nsSet1 (s:={ s with toks:=s.toks+1 }) I.ns fun h' hn2 hs2=>?_
 obtain⟨oD,esD,epD,hoD,hdD,hcD⟩:=hn2.count (PySem.Within.cons name v hw);refine wpAny_bind (wpAny_lookBehind hoD (by rw[hdD];exact pastItsLine_dict (jak hcD (by rw[jae];omega))) ?_);exact wpAny_pure (h _ ⟨(hs2.2 _ (Ne.symm I.ne)).trans I.obj,hn2,I.ne⟩ hs2)
theorem znl {R:Result->Shared->Prop}{vs:List Value}{kw:List (Str × Value)} (X:K.In s.heap) (hm:PySem.W.makesIn K C=true)
  (hi:PySem.W.findIn K (.ref C) "__init__" = some (some (.ref f))) (hf:PySem.W.typeIn K (.ref f)=some (.type "function"))
  (h:codeAny (model prog w) (A.under (.builtin "type.__call__" ⟨.ref C :: vs,kw⟩)) (.call (.ref f) ⟨.ref (s.heap.objs.size+1) :: vs,kw⟩) (PySem.W.InitBack (s.heap.objs.size+1) R)
   { s with heap:=(s.heap.push PySem.W.emptyDict).push (PySem.W.instObj C s.heap.objs.size) }) :
  codeAny (model prog w) A (.call (.ref C) ⟨vs,kw⟩) R s:=by
 obtain⟨hh,g,d,t,os⟩:=s;exact PySem.W.make_core (PySem.W.makes_of X hm) (PySem.W.looks_findIn X hi) (fun self=>PySem.W.bind_fn X self hf) (.inl rfl) h
end
noncomputable def ziY (f:Str) (v:V):List (Str × V)->List (Str × V)
 | []=>[(f,v)]
 | (g,x) :: r=>if g=f then (g,v) :: r else (g,x) :: ziY f v r
theorem zgv (f g:Str) (v:V):∀ fs:List (Str × V),(ziY f v fs).lookup g=if g=f then some v else fs.lookup g
 | []=>by
  show List.lookup g [(f,v)]=_;by_cases h:g=f
  ·have hb:(g == f)=true:=beq_iff_eq.mpr h;simp only[List.lookup,hb,if_pos h]
  ·have hb:(g == f)=false:=beq_eq_false_iff_ne.mpr h;simp only[List.lookup,hb,if_neg h]
 | (k,x) :: r=>by
  have ih:=zgv f g v r;rw[show ziY f v ((k,x) :: r)=(if k=f then (k,v) :: r else (k,x) :: ziY f v r) from rfl];by_cases hk:k=f
  ·rw[if_pos hk];by_cases h:g=k
   ·have hb:(g == k)=true:=beq_iff_eq.mpr h;simp only[List.lookup,hb,if_pos (h.trans hk)]
   ·have hb:(g == k)=false:=beq_eq_false_iff_ne.mpr h;simp only[List.lookup,hb,if_neg (fun e:g=f=>h (e.trans hk.symm))]
  ·rw[if_neg hk];by_cases h:g=k
   ·have hb:(g == k)=true:=beq_iff_eq.mpr h;simp only[List.lookup,hb,if_neg (fun e:g=f=>hk (h.symm.trans e))]
   ·have hb:(g == k)=false:=beq_eq_false_iff_ne.mpr h;simp only[List.lookup,hb];exact ih
theorem zgh (f:Str) (v:V):∀ fs:List (Str × V),f∈(ziY f v fs).map (·.1)/\∀ g,g∈fs.map (·.1)->g∈(ziY f v fs).map (·.1)
 | []=>⟨by simp[ziY],fun g h=>by simp at h⟩
 | (k,x) :: r=>by
  obtain⟨i1,i2⟩:=zgh f v r;rw[show ziY f v ((k,x) :: r)=(if k=f then (k,v) :: r else (k,x) :: ziY f v r) from rfl];by_cases hk:k=f
  ·rw[if_pos hk];subst hk;exact⟨by simp,fun g h=>by simpa using h⟩
  ·rw[if_neg hk];refine⟨?_,fun g h=>?_⟩
   ·rw[jat];exact jax _ i1
   ·rw[jat] at h ⊢;rcases jaj.mp h with e | e
    ·exact jaj.mpr (.inl e)
    ·exact jax _ (i2 g e)
theorem zgt (f:Str) (v:V):∀ fs:List (Str × V),(ziY f v fs).length<=fs.length+1
 | []=>by simp[ziY]
 | (k,x) :: r=>by
  have ih:=zgt f v r;rw[show ziY f v ((k,x) :: r)=(if k=f then (k,v) :: r else (k,x) :: ziY f v r) from rfl];by_cases hk:k=f
  ·rw[if_pos hk,jae,jae];omega
  ·rw[if_neg hk,jae,jae];omega
theorem zh1.some_of {v:V}{o:Option Value} (r:zh1 (some v) o):∃ u,o=some u/\zbm v u:=by
 cases o with
 | none=>exact (show False from r).elim
 | some u=>exact⟨u,rfl,r⟩
theorem zh1.none_of {o:Option Value} (r:zh1 none o):o=none:=by
 cases o with
 | none=>rfl
 | some u=>exact (show False from r).elim
theorem zme {v:V}{u:Value} (r:zbm v u):PySem.W.handedIn u=true:=by
 cases v with
 | non=>cases (show u=Value.none from r);rfl
 | bl b=>cases (show u=Value.bool b from r);rfl
 | int i=>obtain⟨t,e⟩:=(show ∃ t,u=Value.int i t from r);cases e;rfl
 | str x=>obtain⟨t,e⟩:=(show ∃ t,u=Value.str x t from r);cases e;rfl
 | byt b=>obtain⟨t,e⟩:=(show ∃ t,u=Value.bytes b t from r);cases e;rfl
 | flt b=>obtain⟨t,e⟩:=(show ∃ t,u=Value.float b t from r);cases e;rfl
 | ref a=>cases (show u=Value.ref a from r);rfl
 | ty n=>cases (show u=Value.type n from r);rfl
section
variable {P:Program}{w:World}{H H':Hp}{h h':Heap}{a C dx:Addr}{fs fs':List (Str × V)}
theorem zjd (hok:HOk P w H h) (e:H a=some (.ins C dx fs)):∃ mA,zqp h a dx C mA/\(∀ f,zh1 (fs.lookup f) (mA f))/\PySem.Within mA (fs.map (·.1))/\fs.length<=1000/\H dx=some (.own a):=by
 obtain⟨d,z,ne,ob,mA,n,r,q⟩:=(show zbJ P w H h a (.ins C dx fs) from hok a _ e);exact⟨mA,⟨ob,n,ne⟩,r,q,z,d⟩
end
structure Cls (K:PySem.W.Frag) (C:Addr):Prop where
 pg:PySem.W.plainGet K C Str.empty=true
 hd:PySem.W.hasDictIn K C=true
 po:PySem.W.plainOver K C=true
 sa:PySem.W.findIn K (.ref C) "__setattr__" = some (some (.builtin "object.__setattr__"))
theorem Cls.get {K:PySem.W.Frag}{C:Addr} (c:Cls K C) (f:Str):PySem.W.plainGet K C f=true:=c.pg
noncomputable def zgl (K:PySem.W.Frag) (C:Addr) (f:Str):Prop:=PySem.W.findIn K (.ref C) f=some none
theorem zgl.taker {K:PySem.W.Frag}{C:Addr}{f:Str} (n:zgl K C f):PySem.W.takerIn K C f=some none:=by
 unfold PySem.W.takerIn;rw[show PySem.W.findIn K (.ref C) f=some none from n];rfl
structure zsP (K:PySem.W.Frag) (C:Addr) (m:Str) (f:Addr):Prop where
 at_:PySem.W.findIn K (.ref C) m=some (some (.ref f))
 fn:PySem.W.isFn K (.ref f)=true
 kp:PySem.W.keepIn K (.ref f)=true
section
variable {X:Cx}{pins:List (Addr × Obj)} {σ:St}{H:Hp}{s:Shared}{a C dx:Addr}{fs:List (Str × V)}{f:Str}{v:V}{A:Around}{E:Value->Shared->Prop}
theorem zkV {b:Bool}{Q:Value->Shared->Prop} (I:Inv X pins σ H s) (e:H a=some (.ins C dx fs)) (c:Cls X.K C) (n:zgl X.K C f) (l:fs.lookup f=some v)
  (h:∀ u s',Inv X pins σ H s'->zbm v u->Q u s'):wpAny (model X.prog X.w) A (getAttr (.ref a) f b) Q E s:=by
 obtain⟨mA,O,r,_,_,_⟩:=zjd I.hok e;obtain⟨u,hu,ru⟩:=zh1.some_of (v:=v) (o:=mA f) (by rw[<- l];exact r f);exact zqh I.kIn O (c.get f) c.hd n hu (zme ru) (h u _ (I.tok _) ru)
theorem zgY {m:Str}{g:Addr}{pl:Sem Bool}{Q:Value × List Value->Shared->Prop} (I:Inv X pins σ H s) (e:H a=some (.ins C dx fs)) (c:Cls X.K C) (k:zsP X.K C m g) (l:fs.lookup m=none)
  (h:Q (.ref g,[.ref a]) s):wpAny (model X.prog X.w) A (getMethod (.ref a) m pl) Q E s:=by
 obtain⟨mA,O,r,_,_,_⟩:=zjd I.hok e;have hn:mA m=none:=zh1.none_of (by rw[<- l];exact r m);exact zn2 I.kIn O (c.get m) k.at_ k.fn hn h
theorem zk1 {y:V}{u:Value}{Q:Unit->Shared->Prop} (I:Inv X pins σ H s) (e:H a=some (.ins C dx fs)) (c:Cls X.K C) (n:zgl X.K C f) (hl:fs.length<1000) (ry:zbm y u)
  (h:∀ s',Inv X pins σ (upd H a (.ins C dx (ziY f y fs))) s'->Q () s'):wpAny (model X.prog X.w) A (setAttr (.ref a) f u) Q E s:=by
 obtain⟨mA,O,r,wi,_,ho⟩:=zjd I.hok e;have hz:(fs.map (·.1)).length<=sizeLine:=by rw[jaa,sizeLine_eq];omega
 refine zqs I.kIn O c.sa c.po n.taker c.hd wi hz fun h' O' sb=>h _ ?_
 have hd:∃ o,h'.get? dx=some o:=let ⟨o,_,_,e',_⟩:=O'.ns; ⟨o,e'⟩
 refine I.write (x:=a) (e:=dx) (by rw[e];exact True.intro) (.inr ho) (fun b q hb z=>(sb.2 b hb).trans z) hd ?_;refine⟨by rw[zan O.ne];exact ho,?_,O.ne,O'.obj,_,O'.ns,fun g=>?_,fun g hg=>?_⟩
 ·have:=zgt f y fs;omega
 ·show zh1 ((ziY f y fs).lookup g) (if g=f then some u else mA g);rw[zgv];by_cases q:g=f
  ·rw[if_pos q,if_pos q];exact ry
  ·rw[if_neg q,if_neg q];exact r g
 ·by_cases q:g=f
  ·rw[q];exact (zgh f y fs).1
  ·refine (zgh f y fs).2 g (wi g fun z=>hg ?_);show (if g=f then some u else mA g)=none;rw[if_neg q];exact z
theorem Inv.made (I:Inv X pins σ H s):Inv X pins σ (upd (upd H s.heap.objs.size (.own (s.heap.objs.size+1))) (s.heap.objs.size+1) (.ins C s.heap.objs.size []))
  { s with heap:=(s.heap.push PySem.W.emptyDict).push (PySem.W.instObj C s.heap.objs.size) }:=by
 have e1:(s.heap.push PySem.W.emptyDict).get? s.heap.objs.size=some PySem.W.emptyDict:=jav s.heap rfl;have e2:((s.heap.push PySem.W.emptyDict).push (PySem.W.instObj C s.heap.objs.size)).get? (s.heap.objs.size+1)=some (PySem.W.instObj C s.heap.objs.size):=by
  have:=jav (s.heap.push PySem.W.emptyDict) (o:=PySem.W.instObj C s.heap.objs.size) rfl
  rwa [jbO] at this
 have e3:(s.heap.push PySem.W.emptyDict).Ns s.heap.objs.size (fun _=>none):=⟨PySem.W.emptyDict,#[],_,e1,rfl,(fun e he=>absurd he (by simp)),fun _=>rfl⟩;have I1:=I.laid (a:=s.heap.objs.size) (o := .own (s.heap.objs.size+1)) (h':=s.heap.push PySem.W.emptyDict) (t':=s.toks) (fun b u q=>jal _ q) (jag _) ⟨_,e1⟩;refine I1.laid (a:=s.heap.objs.size+1) (o := .ins C s.heap.objs.size []) (t':=s.toks) (fun b u q=>jal _ q) (Nat.le_of_eq (jbO _ _)) ?_;have ne:s.heap.objs.size≠s.heap.objs.size+1:=jaU (jdm _);refine⟨by rw[zan ne,zac],jaE _,ne,e2,fun _=>none,(Heap.Ns1.of_empty e3).at fun o q=>jal _ q,fun _=>True.intro,fun y hy=>absurd rfl hy⟩
theorem zpL {prog:Program}{w:World}{env:Env}{e:Expr}{f:Str}{pos:Pos}{s:Shared}{Q:Value->Shared->Prop} (hb:attributeBase e f env (eval e env)=eval e env)
  (h:wpAny (model prog w) A (eval e env) (fun o s₁=>wpAny (model prog w) A (getAttr o f true) Q E s₁) E s):wpAny (model prog w) A (eval (.Attribute e f pos) env) Q E s :=
 Attribute_any_ h (by rw[arm_eval_Attribute,hb])
end
noncomputable def zu9 (K:PySem.W.Frag) (ta:TE) (f:Str):TE:=fun σ H Q=>ta σ H fun x H1=>∃ a C dx fs v,x = .ref a/\H1 a=some (.ins C dx fs)/\Cls K C/\zgl K C f/\fs.lookup f=some v/\Q v H1
noncomputable def zv7 (K:PySem.W.Frag) (ta tv:TE) (f:Str):TS:=fun D σ H=>tv σ H fun y H1=>ta σ H1 fun x H2=>∃ a C dx fs,x = .ref a/\H2 a=some (.ins C dx fs)/\Cls K C/\zgl K C f/\fs.length<1000 /\
 D.nx σ (upd H2 a (.ins C dx (ziY f y fs)))
section
variable {X:Cx}{o e value:Expr}{f:Str}{pos pos' tpos:Pos}{ta tv:TE}
theorem zlr (he:PE X e ta) (hb:attributeBase e f X.env (eval e X.env)=eval e X.env):PE X (.Attribute e f pos) (zu9 X.K ta f):=by
 intro pins s σ H Q I h;refine zpL hb (thn (he pins s σ H _ I h) fun u s1 ⟨x,H1,I1,rx,a,C,dx,fs,v,ex,ea,c,n,l,q⟩=>?_);subst ex;obtain rfl:u=Value.ref a:=rx;exact zkV I1 ea c n l fun u' s2 I2 ru=>⟨v,H1,I2,ru,q⟩
theorem zsZ (ha:PE X o ta) (hv:PE X value tv) (hs:swapsWith value (some (.Attribute o f pos')) pos.line X.env=pure false):PS X (.Assign [.Attribute o f pos'] value pos) (zv7 X.K ta tv f):=by
 intro pins s σ H D I h;refine plainObj_wpAny_Assign_Attribute (thn (hv pins s σ H _ I h) fun u s1 ⟨y,H1,I1,ry,q⟩=>thn (ha pins s1 σ H1 _ I1 q) fun ov s2 ⟨x,H2,I2,rx,a,C,dx,fs,ex,ea,c,n,l,q2⟩=>?_) hs;subst ex;obtain rfl:ov=Value.ref a:=rx;exact zk1 I2 ea c n l ry fun s3 I3=>⟨σ,_,I3,q2⟩
end
end L2
namespace L2
open PySem PySem.Spec PyProof.Rows
structure zeg (k:Nat) (A:Around):Prop where
 hd:A.handled=none
 dp:A.depth+3 * k+5<recursionLimit
 un:A.units+16 * k+200<cLine
theorem zeg.mono {j k:Nat}{A:Around} (r:zeg k A) (h:j<=k):zeg j A:=⟨r.hd,by have:=r.dp;omega,by have:=r.un;omega⟩
theorem zeg.deeper {k:Nat}{A:Around} (r:zeg (k+1) A) (env:Env):zeg k (A.deeper env) :=
 ⟨r.hd,by have:=r.dp;show A.depth+1+3 * k+5<_;omega,by have:=r.un;show A.units+3+16 * k+200<_;omega⟩
theorem zkC {A:Around}{C:Addr}{us:List Value}{kw:List (Str × Value)}:(A.under (.builtin "type.__call__" ⟨.ref C :: us,kw⟩)).depth=A.depth+1:=by
 first | rfl | simp[Around.under,Code.weight,Code.isCreation,Code.isGuard,Code.isCaller,Code.frames,Code.isFrame,guardIds]
theorem zkJ {A:Around}{C:Addr}{us:List Value}{kw:List (Str × Value)}:(A.under (.builtin "type.__call__" ⟨.ref C :: us,kw⟩)).units=A.units+1:=by
 first | rfl | simp[Around.under,Code.cUnits,Code.frames,Code.isFrame]
theorem zeg.make {k:Nat}{A:Around} (r:zeg (k+1) A) (C:Addr) (us:List Value) (kw:List (Str × Value)):zeg k (A.under (.builtin "type.__call__" ⟨.ref C :: us,kw⟩)) :=
 ⟨r.hd,by have:=r.dp;rw[zkC];omega,by have:=r.un;rw[zkJ];omega⟩
theorem zeg.depth {k:Nat}{A:Around} (r:zeg k A):A.depth<recursionLimit:=by have:=r.dp;omega
theorem zeg.units {k:Nat}{A:Around} (r:zeg k A):A.units+64<cLine:=by have:=r.un;omega
noncomputable def zqk:TA:=fun _ H Q=>Q [] H
noncomputable def ziC (ta:TE) (tr:TA):TA:=fun σ H Q=>ta σ H fun x H1=>tr σ H1 fun xs H2=>Q (x :: xs) H2
section
variable {X:Cx}{e:Expr}{es:List Expr}{te:TE}{t:TA}{pos:Pos}
theorem zad:PA X [] zqk:=fun _ _ _ _ H Q I h=>jda ⟨[],H,I,.nil,h⟩
theorem zaa (ha:PE X e te) (hr:PA X es t) (hs:starEach (e :: es) X.env=(false,eval e X.env) :: starEach es X.env:=by rfl):PA X (e :: es) (ziC te t):=by
 intro pos pins s σ H Q I h;rw[hs];show wpAny _ _ (spliced ((false,eval e X.env) :: backTo pos (starEach es X.env))) _ _ s;refine jcb (thn (ha pins s σ H _ I h) fun u s1 ⟨x,H1,I1,r1,q1⟩=>?_);exact thn (hr pos pins s1 σ H1 _ I1 q1) fun us s2 ⟨xs,H2,I2,r2,q2⟩=>⟨x :: xs,H2,I2,.cons r1 r2,q2⟩
noncomputable def zub (t:TA):TE:=fun σ H Q=>t σ H fun xs H1=>xs.length<=sizeLine/\∀ p,H1 p=none->Q (.ref p) (upd H1 p (.tup xs))
noncomputable def zt7 (t:TA):TE:=fun σ H Q=>t σ H fun xs H1=>xs.length<=sizeLine/\∀ p,H1 p=none->Q (.ref p) (upd H1 p (.lst xs))
theorem zaE {x1} (h:PA X es t):PE X (.Tuple es x1 pos) (zub t):=by
 intro pins s σ H Q I hq;refine wpAny_Tuple_spliced (thn (h pos pins s σ H _ I hq) fun us s1 ⟨xs,H1,I1,r,z,q⟩=>⟨by rw[<- r.length];exact z,?_⟩);have hf:H1 s1.heap.objs.size=none:=I1.hok.fresh (jag _);refine⟨.ref s1.heap.objs.size,upd H1 s1.heap.objs.size (.tup xs),I1.laid (t':=s1.toks) (fun b u e=>jal _ e) (jag _) ?_,rfl,q _ hf⟩;exact⟨z,us,r,⟨_,jav _ rfl,rfl,_,rfl⟩⟩
theorem zaG (h:PA X es t):PE X (.List es pos) (zt7 t):=by
 intro pins s σ H Q I hq;refine wpAny_List_spliced (thn (h pos pins s σ H _ I hq) fun us s1 ⟨xs,H1,I1,r,z,q⟩=>⟨by rw[<- r.length];exact z,?_⟩);have hf:H1 s1.heap.objs.size=none:=I1.hok.fresh (jag _);refine⟨.ref s1.heap.objs.size,upd H1 s1.heap.objs.size (.lst xs),I1.laid (t':=s1.toks) (fun b u e=>jal _ e) (jag _) ?_,rfl,q _ hf⟩;exact⟨z,us,0,r,jav _ rfl⟩
end
noncomputable abbrev Sp:=List V->Hp->VK->XK->Prop
noncomputable abbrev CXT:=List Env->Hp->Shared->XK->Value->Shared->Prop
structure zp5 (P:Program) (w:World) (K:PySem.W.Frag) (mg:Str->Option Value) (base:Heap) (A:Around) (outer:List Env) (s:Shared) (H:Hp):Prop where
 frames:A.frames=some outer
 mod:Mod K mg base
 bs:∀ b o,base.get? b=some o->s.heap.get? b=some o/\H b=none
 bsz:base.objs.size<=s.heap.objs.size
 funs:s.heap.FunFrames base outer
 frf:∀ b∈frs outer,H b=none
 hok:HOk P w H s.heap
 bare:AllBare s.gens
noncomputable def CE (outer:List Env) (P:Program) (w:World) (H:Hp) (s:Shared) (Q:VK) (u:Value) (s':Shared):Prop :=
 ∃ v H',s'.os=s.os/\AllBare s'.gens/\Un (frs outer) [] H H' s.heap s'.heap/\HOk P w H' s'.heap/\zbm v u/\Q v H'
noncomputable def CR (CX:CXT) (outer:List Env) (P:Program) (w:World) (H:Hp) (s:Shared) (Q:VK) (E:XK) (r:Result) (s':Shared):Prop :=
 match r with
 | .ok (.ret u)=>CE outer P w H s Q u s'
 | .ok _=>False
 | .error e=>CX outer H s E e s'
structure zi9 (P:Program) (w:World) (K:PySem.W.Frag) (mg:Str->Option Value) (base:Heap) (CX:CXT) (k:Nat) (f:Addr) (fd:FuncData) (ps:List Str) (sp:Sp):Prop where
 len:∀ vs H Q E,sp vs H Q E->vs.length=ps.length
 run:∀ (A:Around) (outer:List Env) (s:Shared) (H:Hp) (args:Args) (us:List Value) (vs:List V) (Q:VK) (E:XK),zeg k A->zp5 P w K mg base A outer s H->BindsTo s fd args (ps.zip us)->zba vs us->sp vs H Q E ->
  codeAny (model P w) A (.call (.ref f) args) (CR CX outer P w H s Q E) s
theorem zp5.make {P:Program}{w:World}{K:PySem.W.Frag}{mg:Str->Option Value}{base:Heap}{A:Around}{outer:List Env}{s:Shared}{H:Hp} (e:zp5 P w K mg base A outer s H) (C:Addr) (us:List Value) (kw:List (Str × Value)) :
  zp5 P w K mg base (A.under (.builtin "type.__call__" ⟨.ref C :: us,kw⟩)) outer s H:=⟨by first | exact e.frames | (simpa [Around.under,Code.envs,Code.isFrame,pushEnvs] using e.frames),e.mod,e.bs,e.bsz,e.funs,e.frf,e.hok,e.bare⟩
section
variable {X:Cx}{pins:List (Addr × Obj)} {σ:St}{H:Hp}{s s':Shared}
theorem Inv.env0 (I:Inv X pins σ H s):zp5 X.prog X.w X.K X.mg X.base X.A X.stack s H :=
 ⟨I.ok.frames,I.ok.mod,I.bs,jak I.ok.bsz I.sz,I.stack,I.stkFree,I.hok,I.bare⟩
theorem Inv.after {Q:VK}{u:Value} (I:Inv X pins σ H s) (h:CE X.stack X.prog X.w H s Q u s'):EP X pins σ Q u s':=by
 obtain⟨v,H',os,bare,un,hok,r,q⟩:=h;obtain⟨hh,g,d,t,os'⟩:=s';obtain rfl:os'=s.os:=os;exact⟨v,H',I.call (h':=hh) (g':=g) (d':=d) (t':=t) (ch:=[]) un hok bare (fun b z=>absurd z (by simp)),r,q⟩
end
noncomputable def zsJ (sp:Sp) (dvs:List V) (E:XK) (t:TA):TE:=fun σ H Q=>t σ H fun vs H1=>sp (vs++dvs) H1 Q E
noncomputable def zti (C:Addr) (m:Str) (sp:Sp) (dvs:List V) (E:XK) (ta:TE) (t:TA):TE:=fun σ H Q=>ta σ H fun x H1=>∃ a dx fs,x = .ref a/\H1 a=some (.ins C dx fs)/\fs.lookup m=none /\
 t σ H1 fun vs H2=>sp (x :: (vs++dvs)) H2 Q E
noncomputable def ztV (C:Addr) (sp:Sp) (dvs:List V) (E:XK) (t:TA):TE:=fun σ H Q=>t σ H fun vs H1=>∀ x dx,H1 x=none->H1 dx=none->dx≠x ->
 sp (.ref x :: (vs++dvs)) (upd (upd H1 dx (.own x)) x (.ins C dx [])) (fun v H2=>v = .non/\Q (.ref x) H2) E
noncomputable def zf2 (K:PySem.W.Frag) (fd:FuncData) (ps:List Str) (ds:List Value):Prop :=
 ∀ (s:Shared) (us:List Value),K.In s.heap->(us++ds).length=ps.length->BindsTo s fd ⟨us,[]⟩ (ps.zip (us++ds))
theorem zf2.all {K:PySem.W.Frag}{fd:FuncData}{ps:List Str} (h:∀ us:List Value,us.length=ps.length->bindArgs fd ⟨us,[]⟩=pure (ps.zip us)):zf2 K fd ps []:=fun s us _ hl=>by
 rw[jaZ] at hl ⊢;exact .of_eq (h us hl)
noncomputable def zgz (CX:CXT) (X:Cx) (E:XK):Prop:=∀ (pins:List (Addr × Obj)) (σ:St) (H:Hp) (s:Shared) (e:Value) (s':Shared),Inv X pins σ H s->CX X.stack H s E e s'->X.xe e s'
section
variable {X:Cx}{CX:CXT}{k:Nat}{f C:Addr}{fd:FuncData}{ps:List Str}{sp:Sp}{dvs:List V}{ds:List Value}{E:XK}{x m:Str}{p pos apos:Pos}{e o:Expr}{es:List Expr}{ta:TE}{t:TA}
theorem zo7 {pins:List (Addr × Obj)} {σ:St}{H:Hp}{s:Shared}{Q:VK}{us:List Value}{vs:List V} (F:zi9 X.prog X.w X.K X.mg X.base CX k f fd ps sp) (hr:zeg k X.A) (hb:zf2 X.K fd ps ds) (hd:zba dvs ds) (hx:zgz CX X E)
  (I:Inv X pins σ H s) (r:zba vs us) (h:sp (vs++dvs) H Q E):wpAny (model X.prog X.w) X.A (call (.ref f) us) (EP X pins σ Q) X.xe s:=by
 have r2:zba (vs++dvs) (us++ds):=r.append hd;have hl:(us++ds).length=ps.length:=by rw[<- r2.length];exact F.len _ _ _ _ h
 refine wpAny_call (codeAny_mono (F.run X.A X.stack s H ⟨us,[]⟩ (us++ds) (vs++dvs) Q E hr I.env0 (hb s us I.kIn hl) r2 h) fun r s' hq=>?_);cases r with
 | error e=>exact hx pins σ H s e s' I hq
 | ok fl =>
  cases fl with
  | ret u=>exact I.after hq
  | next=>exact False.elim hq
  | brk=>exact False.elim hq
  | cont=>exact False.elim hq
theorem zmw (F:zi9 X.prog X.w X.K X.mg X.base CX k f fd ps sp) (hr:zeg k X.A) (hg:Gl X x) (hm:X.mg x=some (.ref f)) (hk:PySem.W.keepIn X.K (.ref f)=true) (hb:zf2 X.K fd ps ds) (hd:zba dvs ds) (hx:zgz CX X E)
  (ha:PA X (e :: es) t) (hdb:(x == ("__debug__" : Str))=false:=by decide) (he:starEach (e :: es) X.env=(false,eval e X.env) :: starEach es X.env:=by rfl) (hpl:(backTo pos (starEach es X.env)).any (·.1)=false:=by rfl) :
  PE X (.Call (.Name x p) (e :: es) [] pos) (zsJ sp dvs E t):=by
 intro pins s σ H Q I h;refine wpAny_Call_Name_kw (zgg I hg hm ?_ hdb);refine jcW (h₀:=X.base) I.ok.mod.kin hk (thn (ha pos pins s σ H _ I h) fun us s1 ⟨vs,H1,I1,r,q⟩=>⟨I1.kIn,?_⟩) he hpl;exact zo7 F hr hb hd hx I1 r q
theorem zfi {pl:Sem Bool} (he:PE X o ta) (c:Cls X.K C) (hm:zsP X.K C m f) (F:zi9 X.prog X.w X.K X.mg X.base CX k f fd ps sp) (hr:zeg k X.A) (hb:zf2 X.K fd ps ds) (hd:zba dvs ds) (hx:zgz CX X E) (ha:PA X (e :: es) t)
  (hst:starEach (e :: es) X.env=(false,eval e X.env) :: starEach es X.env:=by rfl) (hpl:(backTo pos (starEach es X.env)).any (·.1)=false:=by rfl)
  (ht:eval (.Call (.Attribute o m apos) (e :: es) [] pos) X.env=(do
   let ov <- eval o X.env
   standAt apos.atName
   let (f,first) <- holding [ov] (getMethod ov m pl)
   callWith pos f first (backTo pos (starEach (e :: es) X.env)) (backToKw pos (keywordEach [] X.env))):=by rfl) :
  PE X (.Call (.Attribute o m apos) (e :: es) [] pos) (zti C m sp dvs E ta t):=by
 intro pins s σ H Q I h;refine PySem.W.methodCall_KW (pl:=pl) (thn (he pins s σ H _ I h) fun u s1 ⟨x,H1,I1,rx,a,dx,fs,ex,ea,l,q⟩=>?_) ht;subst ex;obtain rfl:u=Value.ref a:=rx;refine zgY I1 ea c hm l ?_;refine jcW (first:=[.ref a]) (h₀:=X.base) I.ok.mod.kin hm.kp (thn (ha pos pins s1 σ H1 _ I1 q) fun us s2 ⟨vs,H2,I2,r,q2⟩=>⟨I2.kIn,?_⟩) hst hpl;exact zo7 (us := .ref a :: us) (vs := .ref a :: vs) F hr hb hd hx I2 (.cons rfl r) q2
structure Mk (K:PySem.W.Frag) (C f:Addr):Prop where
 makes:PySem.W.makesIn K C=true
 init:PySem.W.findIn K (.ref C) "__init__" = some (some (.ref f))
 fn:PySem.W.isFn K (.ref f)=true
 kp:PySem.W.keepIn K (.ref C)=true
theorem zoB {pins:List (Addr × Obj)} {σ:St}{H:Hp}{s:Shared}{Q:VK}{us:List Value}{vs:List V} (M:Mk X.K C f) (F:zi9 X.prog X.w X.K X.mg X.base CX k f fd ps sp) (hr:zeg (k+1) X.A) (hb:zf2 X.K fd ps ds) (hd:zba dvs ds)
  (hx:zgz CX X E) (I:Inv X pins σ H s) (r:zba vs us)
  (h:∀ x dx,H x=none->H dx=none->dx≠x->sp (.ref x :: (vs++dvs)) (upd (upd H dx (.own x)) x (.ins C dx [])) (fun v H2=>v = .non/\Q (.ref x) H2) E) :
  wpAny (model X.prog X.w) X.A (call (.ref C) us) (EP X pins σ Q) X.xe s:=by
 have hq:=h (s.heap.objs.size+1) s.heap.objs.size (I.hok.fresh (Nat.le_succ _)) (I.hok.fresh (jag _)) (jaU (jdm _));have I2:=Inv.made (C:=C) I;have r2:zba (V.ref (s.heap.objs.size+1) :: (vs++dvs)) (Value.ref (s.heap.objs.size+1) :: (us++ds)) := .cons rfl (r.append hd);have hl:(Value.ref (s.heap.objs.size+1) :: us++ds).length=ps.length:=by
  have e:=r2.length;rw[F.len _ _ _ _ hq] at e;exact e.symm
 refine wpAny_call (znl (f:=f) I.kIn M.makes M.init (beq_iff_eq.mp M.fn) (codeAny_mono (F.run _ X.stack _ _ ⟨Value.ref (s.heap.objs.size+1) :: us,[]⟩ (Value.ref (s.heap.objs.size+1) :: (us++ds)) _ _ E (hr.make C us [])
  (I2.env0.make C us []) (hb _ (Value.ref (s.heap.objs.size+1) :: us) I2.kIn hl) r2 hq) fun r s' hq'=>?_))
 cases r with
 | error e=>exact hx pins σ _ _ e s' I2 hq'
 | ok fl =>
  cases fl with
  | ret u =>
   obtain⟨v,H',I3,rv,ev,q3⟩:=I2.after hq';subst ev;exact⟨rv,⟨V.ref (s.heap.objs.size+1),H',I3,rfl,q3⟩⟩
  | next=>exact False.elim hq'
  | brk=>exact False.elim hq'
  | cont=>exact False.elim hq'
theorem znA (M:Mk X.K C f) (F:zi9 X.prog X.w X.K X.mg X.base CX k f fd ps sp) (hr:zeg (k+1) X.A) (hg:Gl X x) (hm:X.mg x=some (.ref C)) (hb:zf2 X.K fd ps ds) (hd:zba dvs ds) (hx:zgz CX X E)
  (hdb:(x == ("__debug__" : Str))=false:=by decide):PE X (.Call (.Name x p) [] [] pos) (ztV C sp dvs E zqk):=by
 intro pins s σ H Q I h;refine wpAny_Call_Name_kw (zgg I hg hm ?_ hdb);exact PySem.W.callWith_K0 I.kIn M.kp (zoB (us:=[]) M F hr hb hd hx I .nil h)
end
structure zcW (N P:List Str) (sc:Scope):Prop where
 kind:sc.kind = .function
 co:sc.isCoroutine=false
 gen:sc.isGenerator=false
 nd:N.Nodup
 pre:N.take P.length=P
 par:∀ x∈P,sc.names.lookup x=some .local\/sc.names.lookup x=some .cell
 nofree:∀ y∈sc.names,y.2 ≠ .free
theorem zil {kindOf:Str->Option NameKind}{x:Str}:∀ {binds:List (Str × Value)}{m:Str->Option Value},(∀ v,(x,v) ∉ binds)->bindL kindOf binds m x=m x
 | [],_,_=>rfl
 | (n,v) :: r,m,h=>by
  unfold bindL;rw[zil fun w hw=>h w (jax _ hw)];split
  ·have:x≠n:=by rintro rfl;exact h v jbh
   simp[this]
  ·rfl
theorem ziK {kindOf:Str->Option NameKind}{x:Str}:∀ {binds:List (Str × Value)}{m:Str->Option Value},(∀ v,(x,v) ∉ binds)->bindC kindOf binds m x=m x
 | [],_,_=>rfl
 | (n,v) :: r,m,h=>by
  unfold bindC;rw[ziK fun w hw=>h w (jax _ hw)];split
  ·rfl
  ·have:x≠n:=by rintro rfl;exact h v jbh
   simp[this]
theorem ziD {kindOf:Str->Option NameKind}{x:Str}{v:Value}:∀ {P:List Str}{vs:List Value}{i:Nat}{m:Str->Option Value},P.Nodup->P[i]? = some x->vs[i]? = some v->kindOf x=some .local ->
  bindL kindOf (P.zip vs) m x=some v
 | [],_,_,_,_,h,_,_=>by simp at h
 | _ :: _,[],_,_,_,_,h,_=>by simp at h
 | p :: P,w :: vs,0,m,nd,h1,h2,hk=>by
  simp at h1 h2;subst h1;subst h2;show bindL kindOf ((p,w) :: P.zip vs) m p=_;unfold bindL;rw[zil fun v hv=>(jbd.mp nd).1 (jdp hv).1,if_pos hk];simp
 | p :: P,w :: vs,i+1,m,nd,h1,h2,hk=>by
  show bindL kindOf ((p,w) :: P.zip vs) m x=_;unfold bindL;exact ziD (i:=i) (jbd.mp nd).2 (by simpa using h1) (by simpa using h2) hk
theorem zim {kindOf:Str->Option NameKind}{x:Str}{v:Value}:∀ {P:List Str}{vs:List Value}{i:Nat}{m:Str->Option Value},P.Nodup->P[i]? = some x->vs[i]? = some v->kindOf x≠some .local ->
  bindC kindOf (P.zip vs) m x=some v
 | [],_,_,_,_,h,_,_=>by simp at h
 | _ :: _,[],_,_,_,_,h,_=>by simp at h
 | p :: P,w :: vs,0,m,nd,h1,h2,hk=>by
  simp at h1 h2;subst h1;subst h2;show bindC kindOf ((p,w) :: P.zip vs) m p=_;unfold bindC;rw[ziK fun v hv=>(jbd.mp nd).1 (jdp hv).1,if_neg hk];simp
 | p :: P,w :: vs,i+1,m,nd,h1,h2,hk=>by
  show bindC kindOf ((p,w) :: P.zip vs) m x=_;unfold bindC;exact zim (i:=i) (jbd.mp nd).2 (by simpa using h1) (by simpa using h2) hk
noncomputable def zgw (N:List Str) (vs:List V):St:=vs.map some++List.replicate (N.length-vs.length) none
noncomputable def zmY (CX:CXT) (P:Program) (w:World) (K:PySem.W.Frag) (mg:Str->Option Value) (base:Heap) (N:List Str) (qual:Str) (scope:Scope) (f:Addr) (cd:Value) (A:Around) (outer:List Env) (s:Shared) (H:Hp) (E:XK):Cx where
 prog:=P
 w:=w
 K:=K
 mg:=mg
 base:=base
 A:=A.deeper (envOfC qual scope s.heap.objs.size f cd)
 N:=N
 s₀:=s
 H₀:=H
 env:=envOfC qual scope s.heap.objs.size f cd
 outer:=outer
 stack:=envOfC qual scope s.heap.objs.size f cd :: outer
 ex:=[]
 calm:=true
 fn:=fun _=>true
 pn:=[]
 xe:=fun e s'=>wpAny (model P w) (A.deeper (envOfC qual scope s.heap.objs.size f cd)) (leaving (envOfC qual scope s.heap.objs.size f cd) e) (fun _ s''=>CX outer H s E e s'') (fun e' s''=>CX outer H s E e' s'') s'
theorem zkm {sc:Scope}{n:Nat}{x:Str} (h:sc.names.lookup x=some .cell):∃ c,(cellsFrom n sc.names []).lookup x=some c:=by
 have q:=PySem.W.cellsFrom_some sc.names n [] (.inl h);exact jc6.mp q
theorem zmA {CX:CXT}{P:Program}{w:World}{K:PySem.W.Frag}{mg:Str->Option Value}{base:Heap}{N ps:List Str}{qual:Str}{scope:Scope}{f:Addr}{cd:Value}{A:Around}{outer:List Env}{s s1:Shared}{H:Hp}{E:XK}{us:List Value}{vs:List V}
  (S:zcW N ps scope) (hd:A.handled=none) (e0:zp5 P w K mg base A outer s H) (hl:vs.length=ps.length) (r:zba vs us)
  (x:InCallC s s.heap.objs.size (bindL (envOfC qual scope s.heap.objs.size f cd).kindOf (ps.zip us) fun _=>none) (cellsFrom (s.heap.objs.size+1) scope.names []) (bindC (envOfC qual scope s.heap.objs.size f cd).kindOf (ps.zip us) fun _=>none) s1) :
  Inv (zmY CX P w K mg base N qual scope f cd A outer s H E) [] (zgw N vs) H s1:=by
 have hpl:ps.length<=N.length:=by have:=congrArg List.length S.pre;rw[jaJ] at this;omega
 obtain⟨h1,tk,rfl,hk⟩:=x.done;have noA:∀ b:Addr,b ∉ (zmY CX P w K mg base N qual scope f cd A outer s H E).ex:=fun b z=>absurd (show b∈([]:List Addr) from z) (by simp)
 refine⟨⟨e0.mod,S.kind,rfl,rfl,jag _,fun y z c h1 h2=>?_,fun y hy=>?_,fun y c _ h=>?_,fun _=>hd,Around.frames_deeper e0.frames,.inr ⟨rfl,rfl⟩,fun b z=>absurd z (noA b),e0.bs,e0.bsz,fun b _ _=>noA b,fun b z=>absurd z (noA b),e0.funs,e0.frf⟩,
  rfl,e0.bare,Un.kept hk,⟨_,x.toInCall.ns,fun i y v h1 h2 h3=>?_⟩,fun y c h=>⟨_,x.cell y c h⟩,e0.hok.fresh (jag _),fun y c h=>?_,fun p hp=>absurd (show p∈([]:List (Addr × Obj)) from hp) (by simp),e0.hok.kept hk,?_⟩
 ·exact name_of_addr x.apart (jbm h1) (jbm h2)
 ·have hy:scope.names.lookup y=some .cell\/scope.names.lookup y=some .free:=hy;rcases hy with hy | hy
  ·exact zkm hy
  ·exact absurd rfl (S.nofree _ (jbm hy))
 ·exact jaB (x.above y c (jbm h))
 ·have hi:i<vs.length:=by
   unfold zgw at h2;by_cases hi:i<vs.length
   ·exact hi
   ·rw[jcS (by simpa using hi)] at h2;rw[jdc] at h2;split at h2 <;> cases h2
  have ha:vs[i]? = some v:=by
   unfold zgw at h2;rw[jc0 (by simpa using hi),jaC] at h2;cases e:vs[i]? with
   | none=>rw[e] at h2;cases h2
   | some a=>rw[e] at h2;cases h2;rfl
  obtain⟨u,hu,rv⟩:=r.get ha;have hp:ps[i]? = some y:=by
   rw[<- S.pre,List.getElem?_take_of_lt (by omega)];exact h1
  have ndP:ps.Nodup:=by rw[<- S.pre];exact S.nd.sublist (List.take_sublist _ _)
  refine⟨u,rv,?_⟩;rcases S.par y (jao hp) with k | k
  ·exact .inl ⟨k,ziD ndP hp hu k⟩
  ·obtain⟨c,e⟩:=zkm (n:=s.heap.objs.size+1) k;refine .inr ⟨.inl k,c,e,?_⟩;have q:=x.cell y c e;rw[zim ndP hp hu (by show scope.names.lookup y≠_;rw[k];decide)] at q;exact q
 ·exact e0.hok.fresh (jaB (x.above y c (jbm h)))
 ·unfold zgw;show _=N.length;rw[jab,jaa,jbX];omega
theorem zr9 {CX:CXT}{P:Program}{w:World}{K:PySem.W.Frag}{mg:Str->Option Value}{base:Heap}{k:Nat}{f:Addr}{name qual:Str}{params:Arguments}{body:List Stmt}{scope:Scope}{dV kV doc pm cdv ct oc:Value}{an od:Option Addr}
  {osl:Array (Option Value)}{N ps:List Str}{sp:Sp} (lk:K.lookup f=some ⟨oc,od,.func (PySem.W.fnOf name qual params body scope dV kV doc pm an cdv ct),osl⟩) (hcd:PySem.W.codeIn K cdv qual=true) (S:zcW N ps scope)
  (len:∀ vs H Q E,sp vs H Q E->vs.length=ps.length)
  (hbody:∀ (A:Around) (outer:List Env) (s:Shared) (H:Hp) (vs:List V) (Q:VK) (E:XK),zeg k (A.deeper (envOfC qual scope s.heap.objs.size f cdv))->sp vs H Q E ->
   ∃ t,PSs (zmY CX P w K mg base N qual scope f cdv A outer s H E) body t/\t { nx:=fun _ H'=>Q .non H',rt:=Q } (zgw N vs) H) :
  zi9 P w K mg base CX (k+1) f (PySem.W.fnOf name qual params body scope dV kV doc pm an cdv ct) ps sp:=by
 refine⟨len,fun A outer s H args us vs Q E hr e0 hb r hsp=>?_⟩;have hl:=len _ _ _ _ hsp;have KX:K.In s.heap:=e0.mod.kin.keeps fun b o e=>(e0.bs b o e).1
 have lim:s.heap.NoLimit:=e0.mod.nolimit.keeps fun b o e=>(e0.bs b o e).1
 have hkind:∀ y∈ps.zip us,scope.names.lookup y.1=some .local\/(scope.names.lookup y.1=some .cell/\((cellsFrom (s.heap.objs.size+1) scope.names []).lookup y.1).isSome=true):=fun ⟨n,v⟩ hy=>by
  rcases S.par n (jdp hy).1 with q | q
  ·exact .inl q
  ·exact .inr ⟨q,PySem.W.cellsFrom_some _ _ _ (.inl q)⟩
 refine codeAny_call_function hr.depth (KX _ _ lk) rfl S.co S.gen rfl (PySem.W.codeRec_of KX hcd) (hb _ _ _ _ ?_);refine wpAny_newFunctionEnv_cells S.kind hkind fun env he s1 x=>?_
 subst he;refine⟨lim.keeps x.toInCall.keep,codeAny_func ?_⟩;obtain⟨t,ht,hq⟩:=hbody A outer s H vs Q E (hr.deeper _) hsp;have I:Inv (zmY CX P w K mg base N qual scope f cdv A outer s H E) [] (zgw N vs) H s1:=zmA S hr.hd e0 hl r x;refine wpAny_mono (ht [] s1 (zgw N vs) H _ I hq) (fun fl s' hs=>?_) fun e s' hs=>hs
 have fin:∀ {σ':St}{H':Hp}{v:V}{u:Value},Inv (zmY CX P w K mg base N qual scope f cdv A outer s H E) [] σ' H' s'->zbm v u->Q v H'->CE outer P w H s Q u s' :=
  fun {σ' H' v u} J rv q=>⟨v,H',J.os,J.bare,J.base,J.hok,rv,q⟩
 cases fl with
 | ret u =>
  obtain⟨v,σ',H',J,rv,q⟩:=hs;exact fin J rv q
 | next =>
  obtain⟨σ',H',J,q⟩:=hs;exact fin (v:=V.non) (u:=Value.none) J rfl q
 | brk =>
  obtain⟨_,_,_,q⟩:=hs;exact False.elim q
 | cont =>
  obtain⟨_,_,_,q⟩:=hs;exact False.elim q
end L2
namespace L2
open PySem PySem.Spec PyProof.Rows
section
variable {X:Cx}{x:Str}{p pos:Pos}{e:Expr}{es:List Expr}{t:TA}{id T:String}{r:List V->Hp->VK->Prop}
noncomputable def tCB (r:List V->Hp->VK->Prop) (t:TA):TE:=fun σ H Q=>t σ H fun vs H1=>r vs H1 Q
theorem zar (hc:zet X (.builtin id) r) (hg:Gl X x) (hm:X.mg x=none) (hv:bootBuiltins x=some (.builtin id)) (ha:PA X (e :: es) t) (hn:x ≠ "__name__" := by decide) (hdb:(x == ("__debug__" : Str))=false:=by decide)
  (he:starEach (e :: es) X.env=(false,eval e X.env) :: starEach es X.env:=by rfl) (hpl:(backTo pos (starEach es X.env)).any (·.1)=false:=by rfl):PE X (.Call (.Name x p) (e :: es) [] pos) (tCB r t):=by
 intro pins s σ H Q I h;refine wpAny_Call_Name_kw (zfm I hg hm hv ?_ hn hdb);exact PyProof.Rows.callWith_builtin1 (thn (ha pos pins s σ H _ I h) fun us s1 ⟨vs,H1,I1,r1,q1⟩=>hc pins s1 σ H1 vs us Q I1 r1 q1) he hpl
theorem zbL (hc:zet X (.type T) r) (hg:Gl X x) (hm:X.mg x=none) (hv:bootBuiltins x=some (.type T)) (ha:PA X (e :: es) t) (hn:x ≠ "__name__" := by decide) (hdb:(x == ("__debug__" : Str))=false:=by decide)
  (he:starEach (e :: es) X.env=(false,eval e X.env) :: starEach es X.env:=by rfl) (hpl:(backTo pos (starEach es X.env)).any (·.1)=false:=by rfl):PE X (.Call (.Name x p) (e :: es) [] pos) (tCB r t):=by
 intro pins s σ H Q I h;refine wpAny_Call_Name_kw (zfm I hg hm hv ?_ hn hdb);exact jba (thn (ha pos pins s σ H _ I h) fun us s1 ⟨vs,H1,I1,r1,q1⟩=>hc pins s1 σ H1 vs us Q I1 r1 q1) he hpl
end
end L2
namespace HT
open PySem PyProof.Rows
section
variable {prog:Program}{w:World}{A:Around}{E:Value->Shared->Prop}{s:Shared}
theorem cat_tup {t b:Addr}{vs ws:List Value}{Q:Value->Shared->Prop} (ht:IsTup s.heap t vs.toArray) (hb:IsTup s.heap b ws.toArray) (hv:vs≠[])
  (h1:ws=[]->Q (.ref t) s) (h2:ws≠[]->Q (.ref s.heap.objs.size) { s with heap:=s.heap.push { cls := .type "tuple",data := .seq (vs++ws).toArray } })
  (hsz:vs.length+ws.length<=sizeLine):wpAny (model prog w) A (binaryOp .Add (.ref t) (.ref b)) Q E s:=by
 obtain⟨⟨cls,dd,data,sl⟩,ho,hc,n,hd⟩:=id ht;obtain⟨⟨cls2,dd2,data2,sl2⟩,ho2,hc2,n2,hd2⟩:=id hb;simp only at hc hd hc2 hd2;subst hc hd hc2 hd2;have e:vs.toArray++ws.toArray=(vs++ws).toArray:=by simp
 by_cases hw:ws=[]
 ·exact concat_meets ⟨_,ho,rfl⟩ ⟨_,ho2,rfl⟩ noFill_tuple_add seq_tuple_add PySem.F.slot_tuple_add jdd (jc7 _ _)
   (tuple_addW1 t b vs.toArray ws.toArray n n2 dd dd2 sl sl2 (by simpa using hv) (by simp[hw])) ⟨ho,ho2,h1 hw⟩
 ·refine concat_meets ⟨_,ho,rfl⟩ ⟨_,ho2,rfl⟩ noFill_tuple_add seq_tuple_add PySem.F.slot_tuple_add jdd (jc7 _ _)
   (tuple_addW2 t b vs.toArray ws.toArray n n2 dd dd2 sl sl2 (by simpa using hv) (by simpa using hw) (by rw[jai,jai];exact hsz)) ⟨ho,ho2,?_⟩
  rw[e];exact h2 hw
noncomputable def sIx (n d:Nat):Option Int->Nat
 | none=>d
 | some v=>if v<0 then (v+(n:Int)).toNat else min v.toNat n
theorem sIx_none (n d:Nat):sIx n d none=d:=rfl
theorem sIx_nat (n d k:Nat):sIx n d (some (k:Int))=min k n:=by
 show (if (k:Int)<0 then ((k:Int)+(n:Int)).toNat else min (k:Int).toNat n)=min k n;rw[if_neg (by omega),jbf]
theorem zrp (n d:Nat) (hd:d<=n) (o:Option Int):sIx n d o<=n:=by
 cases o with
 | none=>exact hd
 | some v =>
  show (if v<0 then (v+(n:Int)).toNat else min v.toNat n)<=n;by_cases hv:v<0
  ·rw[if_pos hv];omega
  ·rw[if_neg hv];exact Nat.min_le_right _ _
theorem zm0 (v:Int) (n d:Nat):(if v<0 then max (v+(n:Int)) 0 else min v (n:Int))=((sIx n d (some v):Nat):Int):=by
 show (if v<0 then max (v+(n:Int)) 0 else min v (n:Int))=(((if v<0 then (v+(n:Int)).toNat else min v.toNat n):Nat):Int);by_cases hv:v<0
 ·simp only[if_pos hv];omega
 ·simp only[if_neg hv];omega
theorem zkQ (lo hi:Option Int) (n:Nat):Builtin.Slice.sliceAdjust lo hi 1 (n:Int)=(((sIx n 0 lo:Nat):Int),((sIx n n hi:Nat):Int)):=by
 have h1:¬ ((1:Int)<0):=by omega
 unfold Builtin.Slice.sliceAdjust;simp only[h1,if_false];refine Prod.ext ?_ ?_
 ·cases lo with
  | none=>rfl
  | some v=>exact zm0 v n 0
 ·cases hi with
  | none=>rfl
  | some v=>exact zm0 v n n
theorem zkT (i j:Nat):Builtin.Slice.slicePlaces (i:Int) (j:Int) 1=j-i:=by
 unfold Builtin.Slice.slicePlaces;have h1:(1:Int) > 0:=by omega
 simp only[h1,if_true,Int.ediv_one];split <;> omega
theorem zha {v:Value}{o:Option Int}{Q:Option Int->Shared->Prop} (p:IsPart v o) (h:Q o s):wpAny (model prog w) A (Builtin.Slice.slicePartIndex v) Q E s:=by
 cases p with
 | none=>exact slicePart_none h
 | int i t=>exact slicePart_int h
theorem zfr {sl:Addr}{vl vu:Value}{lo hi:Option Int}{n:Nat}{Q:Int × Int × Nat->Shared->Prop} (hs:s.heap.IsSliceOf sl vl vu .none) (pl:IsPart vl lo) (pu:IsPart vu hi)
  (h:Q (((sIx n 0 lo:Nat):Int),1,sIx n n hi-sIx n 0 lo) s):wpAny (model prog w) A (Builtin.Slice.sliceApplied (.ref sl) (pure (n:Int))) Q E s:=by
 obtain⟨os,hos,hcs,hds⟩:=id hs;unfold Builtin.Slice.sliceApplied Builtin.Slice.sliceFields;refine wpAny_bind (wpAny_bind (wpAny_field hos hds (x:=vl) rfl (wpAny_bind (wpAny_field hos hds (x:=vu) rfl (wpAny_bind (wpAny_field hos hds (x := .none) rfl (wpAny_pure ?_)))))));refine wpAny_bind (slicePart_none ?_);show wpAny _ _ (if ((1:Int) == 0)=true then _ else _) _ _ s;rw[if_neg (by decide)];refine wpAny_bind (zha pl (wpAny_bind (zha pu (wpAny_bind (wpAny_pure ?_)))));show wpAny _ _ (match Builtin.Slice.sliceAdjust lo hi 1 (n:Int) with | (lo,hi)=>pure (lo,(1:Int),Builtin.Slice.slicePlaces lo hi 1)) _ _ s;rw[zkQ lo hi n];show wpAny _ _ (pure (((sIx n 0 lo:Nat):Int),(1:Int),Builtin.Slice.slicePlaces ((sIx n 0 lo:Nat):Int) ((sIx n n hi:Nat):Int) 1)) _ _ s;rw[zkT];exact wpAny_pure h
theorem znL (xs:Array Value) (i k:Nat):((List.range k).filterMap fun (m:Nat)=>xs[((i:Int)+(m:Int) * 1).toNat]?).toArray=((xs.toList.drop i).take k).toArray:=by
 have e:(fun (m:Nat)=>xs[((i:Int)+(m:Int) * 1).toNat]?)=fun m=>xs[i+m]? := by
  funext m
  have:((i:Int)+(m:Int) * 1).toNat=i+m:=by omega
  rw[this]
 rw[e]
 have:=pick_run xs i k
 rw[List.filterMap_map] at this;have e2:((fun x=>xs[x]?) ∘ fun x=>i+x)=fun m=>xs[i+m]? := rfl
 rw[e2] at this;rw[this]
theorem getItem_tuple_cut {t sl:Addr}{items:Array Value}{vl vu:Value}{lo hi:Option Int}{Q:Value->Shared->Prop} (ht:IsTup s.heap t items) (hs:s.heap.IsSliceOf sl vl vu .none) (pl:IsPart vl lo) (pu:IsPart vu hi)
  (hw:¬ (sIx items.size 0 lo=0/\sIx items.size items.size hi=items.size))
  (h:Q (.ref s.heap.objs.size) { s with heap:=s.heap.push { cls := .type "tuple",data := .seq ((items.toList.drop (sIx items.size 0 lo)).take (sIx items.size items.size hi-sIx items.size 0 lo)).toArray } })
  (hsz:items.size<=sizeLine):wpAny (model prog w) A (getItem (.ref t) (.ref sl)) Q E s:=by
 have htake:sizeOk (.seq ((items.toList.drop (sIx items.size 0 lo)).take (sIx items.size items.size hi-sIx items.size 0 lo)).toArray):=by
  show ((items.toList.drop (sIx items.size 0 lo)).take (sIx items.size items.size hi-sIx items.size 0 lo)).toArray.size<=sizeLine;rw[jai,jaJ,jbc,jbJ];omega
 have hj:sIx items.size items.size hi<=items.size:=zrp _ _ (jag _) hi;obtain⟨os,hos,hcs,hds⟩:=id hs;have hTs:s.TypeIs (.ref sl) "slice" := ⟨os,hos,hcs⟩;unfold getItem
 try with_reducible refine wpAny_holding ?_
 first | refine wpAny_bind (wpAny_pure ?_) | skip
 refine wpAny_bind (wpAny_sequenceKey ht.typeIs (by decide) ?_);refine wpAny_bind (wpAny_callSpecial?_slot (name:=Str.ofString "__getitem__") ht.typeIs jcp
  (wpAny_call_entry jcp ht.typeIs entry_tuple_getitem ?_ (args_tuple_getitem _ _)))
 show wpAny _ _ (Builtin.Tuple.tupleItemsOf (.ref t) >>= _) _ _ s;refine wpAny_bind (tupleItemsOf_ ht ?_);refine wpAny_bind (wpAny_typeOf hTs ?_);rw[if_pos (by decide)];refine wpAny_bind (zfr hs pl pu ?_);have hno:¬ ((((sIx items.size 0 lo:Nat):Int) == 0 && (1:Int) == 1 && (sIx items.size items.size hi-sIx items.size 0 lo) == items.size)=true):=by
  intro q;rw[jaT,jaT] at q;have q1:((sIx items.size 0 lo:Nat):Int)=0:=eq_of_beq q.1.1;have q2:sIx items.size items.size hi-sIx items.size 0 lo=items.size:=eq_of_beq q.2;exact hw ⟨by omega,by omega⟩
 show wpAny _ _ (if (((sIx items.size 0 lo:Nat):Int) == 0 && (1:Int) == 1 && (sIx items.size items.size hi-sIx items.size 0 lo) == items.size)=true then _ else _) _ _ s;rw[if_neg hno,znL]
 first
  | exact wpAny_bind (m:=Builtin.Tuple.tupleExact _) (wpAny_newObj_type (wpAny_pure ⟨_,rfl,wpAny_pure h⟩) htake)
  | exact wpAny_bind (m:=Builtin.Tuple.tupleExact _) (wpAny_newObj_type (wpAny_bind (wpAny_pure (wpAny_pure ⟨_,rfl,wpAny_pure h⟩))) htake)
  | exact wpAny_bind (wpAny_bind (m:=Builtin.Tuple.tupleExact _) (wpAny_newObj_type (wpAny_pure (wpAny_pure ⟨_,rfl,wpAny_pure h⟩)) htake))
  | exact wpAny_bind (wpAny_bind (m:=Builtin.Tuple.tupleExact _) (wpAny_newObj_type (wpAny_pure ⟨_,rfl,wpAny_pure h⟩) htake))
end
end HT
namespace L2
open PySem PySem.Spec PyProof.Rows
noncomputable abbrev TO:=St->Hp->(Option Int->Hp->Prop)->Prop
noncomputable def PO (X:Cx) (e:Option Expr) (t:TO):Prop :=
 ∀ (pins:List (Addr × Obj)) (s:Shared) (σ:St) (H:Hp) (Q:Option Int->Hp->Prop),Inv X pins σ H s->t σ H Q ->
  wpAny (model X.prog X.w) X.A (evalPart e X.env) (fun u s'=>∃ o H',Inv X pins σ H' s'/\IsPart u o/\Q o H') X.xe s
noncomputable def zqy:TO:=fun _ H Q=>Q none H
noncomputable def ztC (t:TE):TO:=fun σ H Q=>t σ H fun x H1=>∃ i,x = .int i/\Q (some i) H1
theorem ze3 {ns:List Int}:∀ {us:List Value},zba (ns.map V.int) us->IntsAre us ns:=by
 induction ns with
 | nil=>intro us r;rw[jbZ] at r;cases r;exact .nil
 | cons n ns ih =>
  intro us r;rw[jat] at r;cases r with
  | cons r1 r2 =>
   obtain⟨t,e⟩:=r1;subst e;exact .cons n t (ih r2)
section
variable {X:Cx}{e:Expr}{te:TE}{lo hi:Option Expr}{tl th:TO}{pos p2:Pos}
theorem zc1:PO X none zqy:=by
 intro pins s σ H Q I h;rw[evalPart_none];exact wpAny_pure ⟨none,H,I,.none,h⟩
theorem zbo (h:PE X e te):PO X (some e) (ztC te):=by
 intro pins s σ H Q I hw;rw[evalPart_some];refine thn (h pins s σ H _ I hw) fun u s1 ⟨x,H1,I1,r1,q1⟩=>?_
 obtain⟨i,rfl,q⟩:=q1;obtain⟨t,rfl⟩:=r1;exact⟨some i,H1,I1,.int i t,q⟩
noncomputable def SlR (X:Cx) (r:V->Option Int->Option Int->Hp->VK->Prop):Prop :=
 ∀ (pins:List (Addr × Obj)) (s:Shared) (σ:St) (H:Hp) (x:V) (v vl vu:Value) (lo hi:Option Int) (sl:Addr) (Q:VK),Inv X pins σ H s->zbm x v->s.heap.IsSliceOf sl vl vu .none->IsPart vl lo->IsPart vu hi->r x lo hi H Q ->
  ∃ T id,typeLookup (.type T) "__getitem__" = pure (some (.builtin id))/\s.TypeIs v T/\wpAny (model X.prog X.w) X.A (getItem v (.ref sl)) (EP X pins σ Q) X.xe s
noncomputable def tSl (r:V->Option Int->Option Int->Hp->VK->Prop) (te:TE) (tl th:TO):TE:=fun σ H Q=>te σ H fun x H1=>tl σ H1 fun l H2=>th σ H2 fun u H3=>r x l u H3 Q
theorem zbP {r:V->Option Int->Option Int->Hp->VK->Prop} (hr:SlR X r) (he:PE X e te) (hl:PO X lo tl) (hu:PO X hi th):PE X (.Subscript e (.Slice lo hi none p2) pos) (tSl r te tl th):=by
 intro pins s σ H Q I h;refine Subscript_ (thn (he pins s σ H _ I h) fun v s1 ⟨x,H1,I1,r1,q1⟩=>?_);refine wpAny_Slice (thn (hl pins s1 σ H1 _ I1 q1) fun vl s2 ⟨l,H2,I2,pl,q2⟩=>thn (hu pins s2 σ H2 _ I2 q2) fun vu s3 ⟨u,H3,I3,pu,q3⟩=>?_);rw[evalPart_none];refine wpAny_pure ?_;have I4:Inv X pins σ H3 { s3 with heap:=s3.heap.push { cls := .type "slice",data := .fields #[vl,vu,.none] } }:=I3.kept (t':=s3.toks) fun b ob q=>jal _ q
 obtain⟨T,id,hT,ht,hg⟩:=hr pins { s3 with heap:=s3.heap.push { cls := .type "slice",data := .fields #[vl,vu,.none] } } σ H3 x v vl vu l u s3.heap.objs.size Q I4 r1 (Heap.IsSliceOf.new ..) pl pu q3;show wpAny (model X.prog X.w) X.A (subscriptTail e (.Slice lo hi none p2) v (.ref s3.heap.objs.size)) (EP X pins σ Q) X.xe { s3 with heap:=s3.heap.push { cls := .type "slice",data := .fields #[vl,vu,.none] } };exact tail_any (ops:=[.ref s3.heap.objs.size,v]) ht hT hg (by with_unfolding_all rfl)
noncomputable def ziJ (xs:List V) (lo hi:Option Int):List V:=(xs.drop (HT.sIx xs.length 0 lo)).take (HT.sIx xs.length xs.length hi-HT.sIx xs.length 0 lo)
theorem zf5 (xs:List V) (lo hi:Option Int):(ziJ xs lo hi).length<=xs.length:=by
 unfold ziJ;rw[jaJ,jbc];exact jak (Nat.min_le_right _ _) (Nat.sub_le _ _)
noncomputable def zvo (K:PySem.W.Frag):V->Option Int->Option Int->Hp->VK->Prop:=fun x lo hi H Q=>∃ a xs,x = .ref a/\SqT K H a xs /\
 ¬ (HT.sIx xs.length 0 lo=0/\HT.sIx xs.length xs.length hi=xs.length)/\∀ p,H p=none->Q (.ref p) (upd H p (.tup (ziJ xs lo hi)))
theorem zrQ:SlR X (zvo X.K):=by
 intro pins s σ H x v vl vu lo hi sl Q I rx hs pl pu h;obtain⟨a,xs,rfl,hx,hw,q⟩:=h;cases rx;obtain⟨its,r,ht,hz⟩:=I.tuple hx;have hlen:its.toArray.size=xs.length:=by rw[jai];exact r.length.symm
 refine⟨"tuple",_,PyProof.Rows.slot_tuple_getitem.lookup,ht.typeIs,?_⟩;refine HT.getItem_tuple_cut ht hs pl pu (by rw[hlen];exact hw) ?_ (by rw[hlen];exact hz);rw[hlen];refine⟨.ref s.heap.objs.size,_,I.laid (t':=s.toks) (o := .tup (ziJ xs lo hi)) (fun b ob q=>jal _ q) (jag _) ?_,rfl,q _ (I.hok.fresh (jag _))⟩;exact⟨jak (zf5 xs lo hi) hz,_,(r.drop (HT.sIx xs.length 0 lo)).take (HT.sIx xs.length xs.length hi-HT.sIx xs.length 0 lo),IsTup.new _ _⟩
noncomputable def ztk (K:PySem.W.Frag):R2:=fun x y H Q=>∃ a b xs ys,x = .ref a/\y = .ref b/\SqT K H a xs/\SqT K H b ys/\xs≠[]/\xs.length+ys.length<=sizeLine /\
 (ys=[]->Q (.ref a) H)/\(ys≠[]->∀ p,H p=none->Q (.ref p) (upd H p (.tup (xs++ys))))
theorem zba.nil_iff {xs:List V}{us:List Value} (r:zba xs us):us=[]↔xs=[]:=by
 cases r with
 | nil=>simp
 | cons _ _=>simp
theorem zml:OpR X (binaryOp .Add) (ztk X.K):=by
 intro pins s σ H x y v u Q I rx ry h;obtain⟨a,b,xs,ys,rfl,rfl,ha,hb,hx,hz,q1,q2⟩:=h;cases rx;cases ry;obtain⟨its,r1,p1,_⟩:=I.tuple ha;obtain⟨its2,r2,p2,_⟩:=I.tuple hb;refine HT.cat_tup p1 p2 (fun z=>hx (r1.nil_iff.mp z)) (fun z=>⟨.ref a,H,I,rfl,q1 (r2.nil_iff.mp z)⟩) (fun z=>?_) (by rw[<- r1.length,<- r2.length];exact hz);refine⟨.ref s.heap.objs.size,_,I.laid (t':=s.toks) (o := .tup (xs++ys)) (fun b ob q=>jal _ q) (jag _) ?_,rfl,q2 (fun w=>z (r2.nil_iff.mpr w)) _ (I.hok.fresh (jag _))⟩;exact⟨by rw[jab];exact hz,_,r1.append r2,IsTup.new _ _⟩
end
end L2
namespace L2
open PySem PySem.Spec PyProof.Rows
noncomputable def ixN (n:Nat) (i:Int):Option Nat:=if 0<=i then (if i<n then some i.toNat else none) else if -(n:Int)<=i then some (i+n).toNat else none
noncomputable def atI {α : Type} (xs:List α) (i:Int):Option α := (ixN xs.length i).bind fun j=>xs[j]?
theorem zly {n:Nat}{i:Int}{j:Nat} (h:ixN n i=some j):seqIndex? i n=some j/\j<n /\ -(n:Int)<=i/\i<n:=by
 unfold ixN at h;by_cases h0:0<=i
 ·rw[if_pos h0] at h;by_cases h1:i<n
  ·rw[if_pos h1] at h;have e:i.toNat=j:=jaD h;exact⟨by rw[seqIndex_of h0 h1,e],by omega,by omega,h1⟩
  ·rw[if_neg h1] at h;cases h
 ·rw[if_neg h0] at h;by_cases h1 : -(n:Int)<=i
  ·rw[if_pos h1] at h;have e:(i+n).toNat=j:=jaD h;exact⟨by rw[seqIndex_neg (by omega) h1,e],by omega,h1,by omega⟩
  ·rw[if_neg h1] at h;cases h
theorem zjg {α : Type}{xs:List α}{i:Int}{v : α} (h:atI xs i=some v):∃ j,seqIndex? i xs.length=some j/\xs[j]? = some v/\j<xs.length /\ -(xs.length:Int)<=i/\i<xs.length:=by
 unfold atI at h;cases e:ixN xs.length i with
 | none=>rw[e] at h;cases h
 | some j =>
  rw[e] at h;obtain⟨h1,h2,h3,h4⟩:=zly e;exact⟨j,h1,h,h2,h3,h4⟩
theorem zaA {α : Type}{xs:List α}{j:Nat}{v : α} (h:xs[j]? = some v):atI xs (j:Int)=some v:=by
 have hj:j<xs.length:=(jam.mp h).1;have e:ixN xs.length (j:Int)=some j:=by
  unfold ixN;rw[if_pos (by omega),if_pos (by omega)];simp
 unfold atI;rw[e];exact h
noncomputable def zqc (b:Expr):Prop:=∀ o i,subscripted b false o i=operate [o,i] (getItem o i)
noncomputable def IxR (X:Cx) (r:R2):Prop :=
 ∀ (value slice:Expr) (pins:List (Addr × Obj)) (s:Shared) (σ:St) (H:Hp) (x y:V) (v u:Value) (Q:VK),Inv X pins σ H s->zbm x v->zbm y u->r x y H Q ->
  subscripted slice false v u=operate [v,u] (getItem v u)->wpAny (model X.prog X.w) X.A (subscriptTail value slice v u) (EP X pins σ Q) X.xe s
noncomputable def MtR (X:Cx) (id:String) (r:V->List V->Hp->VK->Prop):Prop :=
 ∀ (pins:List (Addr × Obj)) (s:Shared) (σ:St) (H:Hp) (x:V) (xs:List V) (v:Value) (us:List Value) (Q:VK),Inv X pins σ H s->zbm x v->zba xs us->r x xs H Q ->
  wpAny (model X.prog X.w) X.A (call (.builtin id) (v :: us)) (EP X pins σ Q) X.xe s
section
variable {X:Cx}{a b:Expr}{ta tb:TE}{pos:Pos}
theorem zav {r:R2} (hr:IxR X r) (ha:PE X a ta) (hb:PE X b tb) (hs:zqc b):PE X (.Subscript a b pos) (tOp r ta tb):=by
 intro pins s σ H Q I h;exact Subscript_ (ztD ha hb I h fun v u s2 x y H2 I2 rx ry q=>hr a b pins s2 σ H2 x y v u Q I2 rx ry q (hs _ _))
noncomputable def zt2 (K:PySem.W.Frag):R2:=fun x y H Q=>∃ p xs i v,x = .ref p/\y = .int i/\SqL K H p xs/\atI xs i=some v/\Q v H
noncomputable def zvP (K:PySem.W.Frag):R2:=fun x y H Q=>∃ p xs i v,x = .ref p/\y = .int i/\SqT K H p xs/\atI xs i=some v/\Q v H
noncomputable def zvQ:R2:=fun x y H Q=>∃ z i c,x = .str z/\y = .int i/\z.length<=sizeLine/\atI z.cps.toList i=some c/\Q (.str ⟨#[c]⟩) H
theorem zas:IxR X (zt2 X.K):=by
 intro value slice pins s σ H x y v u Q I rx ry h hs;obtain⟨p,xs,i,z,rfl,rfl,hq,he,q⟩:=h;cases rx;obtain⟨t,rfl⟩:=ry;obtain⟨its,r,pl,hz⟩:=I.list hq;obtain⟨j,h1,h2,h3,h4,h5⟩:=zjg he;obtain⟨w,ew,rw'⟩:=r.get h2;have hl:=r.length;have hn:=zfk;have fin:EP X pins σ Q w s:=⟨z,H,I,rw',q⟩;by_cases h0:0<=i
 ·have hj:i.toNat=j:=by
   rw[seqIndex_of h0 h5] at h1;exact jaD h1
  exact item_listR pl.isList h0 (by omega) (by rw[hj];simpa using ew) fin hs
 ·have hj:(i+(its.toArray.size:Int)).toNat=j:=by
   rw[seqIndex_neg (by omega) h4] at h1;rw[jai,<- hl];exact jaD h1
  exact subscriptTail_builtinR (x:=w) pl.isList.typeIs slot_list_getitem.lookup
   (wpAny_getItem_list_neg (Q:=fun r s'=>r=w/\EP X pins σ Q r s') pl.isList (by omega) (by rw[jai] <;> omega) (by omega) (by rw[hj];simpa using ew) ⟨rfl,fin⟩) hs
theorem zaK:IxR X (zvP X.K):=by
 intro value slice pins s σ H x y v u Q I rx ry h hs;obtain⟨p,xs,i,z,rfl,rfl,hq,he,q⟩:=h;cases rx;obtain⟨t,rfl⟩:=ry;obtain⟨its,r,pl,hz⟩:=I.tuple hq;obtain⟨j,h1,h2,h3,h4,h5⟩:=zjg he;obtain⟨w,ew,rw'⟩:=r.get h2;have hl:=r.length;have hn:=zfk;have fin:EP X pins σ Q w s:=⟨z,H,I,rw',q⟩;exact subscriptTail_builtinR (x:=w) pl.typeIs slot_tuple_getitem.lookup
  (getItem_tuple (j:=j) (Q:=fun r s'=>r=w/\EP X pins σ Q r s') pl (by omega) (by omega) (by rw[jai,<- hl];exact h1) (by simpa using ew) ⟨rfl,fin⟩) hs
theorem zfp:IxR X zvQ:=by
 intro value slice pins s σ H x y v u Q I rx ry h hs;obtain⟨z,i,c,rfl,rfl,hz,he,q⟩:=h;obtain⟨t,rfl⟩:=rx;obtain⟨t',rfl⟩:=ry;obtain⟨j,h1,h2,h3,h4,h5⟩:=zjg he;have hl:z.cps.toList.length=z.length:=by simp[Str.length]
 rw[hl] at h1 h4 h5;have hn:=zfk;exact tail_any (typeIs_str s z t) slot_str_getitem.lookup (getItem_str (c:=c) (by
  have e1:decide (i < -(2^63:Int))=false:=decide_eq_false (by omega);have e2:decide (i ≥ 2^63)=false:=decide_eq_false (by omega);rw[e1,e2,jdy]) (by rw[h1];simpa using h2) ⟨.str ⟨#[c]⟩,H,I.tok _,⟨_,rfl⟩,q⟩) hs
theorem zk4 (its:List Value) (n j:Nat) (u:Value):Obj.mapSeq (·.setIfInBounds j u) { cls := .type "list",data := .seq its.toArray n }={ cls := .type "list",data := .seq (its.set j u).toArray n }:=by
 simp[Obj.mapSeq]
theorem Inv.lst {pins:List (Addr × Obj)} {σ:St}{H:Hp}{s:Shared}{p:Addr}{xs:List V} (I:Inv X pins σ H s) (h:H p=some (.lst xs)) :
  ∃ (its:List Value) (n:Nat),zba xs its/\s.heap.get? p=some { cls := .type "list",data := .seq its.toArray n }/\xs.length<=sizeLine:=by
 obtain⟨z,its,n,r,e⟩:=I.hok p _ h;exact⟨its,n,r,e,z⟩
theorem Inv.lstUpd {pins:List (Addr × Obj)} {σ:St}{H:Hp}{s:Shared}{p:Addr}{xs ys:List V}{its its':List Value}{n n':Nat}{f:Obj->Obj} (I:Inv X pins σ H s) (h:H p=some (.lst xs))
  (ho:s.heap.get? p=some { cls := .type "list",data := .seq its.toArray n }) (hf:f { cls := .type "list",data := .seq its.toArray n }={ cls := .type "list",data := .seq its'.toArray n' }) (r:zba ys its') (hz:ys.length<=sizeLine) (t:Nat) :
  Inv X pins σ (upd H p (.lst ys)) { s with heap:=s.heap.update p f,toks:=t }:=by
 have e:(s.heap.update p f).get? p=some { cls := .type "list",data := .seq its'.toArray n' }:=by
  rw[Heap.get?_update_self f ho (by rw[hf] <;> rfl),hf]
 refine I.write (x:=p) (e:=p) (by rw[h];trivial) (.inl rfl) (fun b u hb q=>(Heap.get?_update_other _ _ (Ne.symm hb)).trans q) ⟨_,e⟩ ?_;exact⟨hz,its',n',r,e⟩
noncomputable def ztO:V->V->V->Hp->(Hp->Prop)->Prop:=fun o i v H Q=>∃ p xs k j,o = .ref p/\i = .int k/\H p=some (.lst xs)/\ixN xs.length k=some j/\Q (upd H p (.lst (xs.set j v)))
theorem zku:zuI X ztO:=by
 intro pins s σ H o i v ov iv u Q I ro ri rv h;obtain⟨p,xs,k,j,rfl,rfl,hp,hj,q⟩:=h;cases ro;obtain⟨t,rfl⟩:=ri;obtain⟨its,n,r,ho,hz⟩:=I.lst hp;obtain⟨h1,h2,h3,h4⟩:=zly hj;have hl:=r.length;have hn:=zfk;have I':Inv X pins σ (upd H p (.lst (xs.set j v))) { s with heap:=s.heap.update p (Obj.mapSeq (·.setIfInBounds j u)) } :=
  I.lstUpd hp ho (zk4 its n j u) (r.set rv j) (by rw[jbR];exact hz) s.toks
 by_cases h0:0<=k
 ·have hk:k.toNat=j:=by
   rw[seqIndex_of h0 h4] at h1;exact jaD h1
  exact PySem.W.ki_setAt ho h0 (by omega) (by rw[jai,<- hl];exact h4) (by rw[hk];exact⟨_,I',q⟩)
 ·have hk:(k+(its.toArray.size:Int)).toNat=j:=by
   rw[seqIndex_neg (by omega) h3] at h1;rw[jai,<- hl];exact jaD h1
  exact PySem.W.ki_setBack ho (by omega) (by rw[jai,<- hl];exact h3) (by omega) (by rw[hk];exact⟨_,I',q⟩)
theorem zpo {i:Int}{n:Nat} (h:i<0):max 0 (min (i+(n:Int)) n)=(((i+n).toNat:Nat):Int):=by
 rw[Int.min_eq_left (by omega),Int.ofNat_toNat,Int.max_comm]
theorem zph {i:Int}{n:Nat} (h:¬ i<0):max 0 (min i (n:Int))=((min i.toNat n:Nat):Int):=by
 obtain⟨k,rfl⟩:=jbI (Int.not_lt.mp h);rw[jbf];rcases Nat.le_total k n with h | h
 ·rw[jbo h,Int.min_eq_left (Int.ofNat_le.mpr h),jdl (jaM _)]
 ·rw[jb7 h,Int.min_eq_right (Int.ofNat_le.mpr h),jdl (jaM _)]
theorem ziN (lo hi:Option Int) (n:Nat):(sliceBounds lo hi none n).1=((HT.sIx n 0 lo:Nat):Int)/\(sliceBounds lo hi none n).2.1=((HT.sIx n n hi:Nat):Int)/\(sliceBounds lo hi none n).2.2=1:=by
 refine⟨?_,?_,rfl⟩
 ·cases lo with
  | none=>simp[sliceBounds,HT.sIx]
  | some i =>
   simp only[sliceBounds,HT.sIx,Option.getD_none,show (1:Int) > 0 by decide,if_true];by_cases h:i<0
   ·simp only[h,if_true];exact zpo h
   ·simp only[h,if_false];exact zph h
 ·cases hi with
  | none=>simp[sliceBounds,HT.sIx]
  | some i =>
   simp only[sliceBounds,HT.sIx,Option.getD_none,show (1:Int) > 0 by decide,if_true];by_cases h:i<0
   ·simp only[h,if_true];exact zpo h
   ·simp only[h,if_false];exact zph h
theorem zhK (its:List Value) (lo hi:Option Int):slicePick its.toArray lo hi none=((its.drop (HT.sIx its.length 0 lo)).take (HT.sIx its.length its.length hi-HT.sIx its.length 0 lo)).toArray:=by
 obtain⟨h1,h2,h3⟩:=ziN lo hi its.toArray.size;unfold slicePick;rw[h1,h2,h3];simp only[sliceRange_one,pick_run,jai] <;> rfl
noncomputable def zvz (K:PySem.W.Frag):V->Option Int->Option Int->Hp->VK->Prop:=fun x lo hi H Q=>∃ a xs,x = .ref a/\SqL K H a xs/\∀ p,H p=none->Q (.ref p) (upd H p (.lst (ziJ xs lo hi)))
theorem zfa:SlR X (zvz X.K):=by
 intro pins s σ H x v vl vu lo hi sl Q I rx hs pl pu h;obtain⟨a,xs,rfl,hx,q⟩:=h;cases rx;obtain⟨its,r,ht,hz⟩:=I.list hx;have hlen:=r.length;refine⟨"list",_,slot_list_getitem.lookup,ht.isList.typeIs,?_⟩;refine wpAny_getItem_list_slice ht.isList hs pl pu .none (by simp) ?_ (by rw[jai] <;> omega);rw[zhK,<- hlen];refine⟨.ref s.heap.objs.size,_,I.laid (t':=s.toks) (o := .lst (ziJ xs lo hi)) (fun b ob q=>jal _ q) (jag _) ?_,rfl,q _ (I.hok.fresh (jag _))⟩;exact⟨jak (zf5 xs lo hi) hz,_,0,(r.drop (HT.sIx xs.length 0 lo)).take (HT.sIx xs.length xs.length hi-HT.sIx xs.length 0 lo),jav _ rfl⟩
noncomputable def zfZ:V->Bool
 | .non=>true
 | .bl _=>true
 | .int _=>true
 | .str _=>true
 | _=>false
noncomputable def eqV:V->V->Bool
 | .non,.non=>true
 | .bl a,.bl b=>a == b
 | .bl a,.int b=>(if a then 1 else 0) == b
 | .int a,.bl b=>a == (if b then 1 else 0)
 | .int a,.int b=>a == b
 | .str a,.str b=>a == b
 | _,_=>false
theorem zrc {A:Around}{s:Shared}{y x:V}{u v:Value} (ry:zbm y u) (rx:zbm x v) (fy:zfZ y=true) (fx:zfZ x=true):SeqAt.EqAt A s u v (eqV y x):=by
 cases y with
 | non =>
  cases ry;cases x with
  | non=>cases rx;exact jcI _
  | bl b=>cases rx;exact SeqAt.EqAt.none_bool b
  | int b=>obtain⟨t,rfl⟩:=rx;exact SeqAt.EqAt.none_int b t
  | str b=>obtain⟨t,rfl⟩:=rx;exact SeqAt.EqAt.none_str b t
  | _=>exact absurd (show false=true from fx) jay
 | bl a =>
  cases ry;cases x with
  | non=>cases rx;exact SeqAt.EqAt.bool_none a
  | bl b=>cases rx;exact SeqAt.EqAt.bool_bool a b
  | int b=>obtain⟨t,rfl⟩:=rx;exact SeqAt.EqAt.bool_int a b t
  | str b=>obtain⟨t,rfl⟩:=rx;exact SeqAt.EqAt.bool_str a b t
  | _=>exact absurd (show false=true from fx) jay
 | int a =>
  obtain⟨t',rfl⟩:=ry;cases x with
  | non=>cases rx;exact SeqAt.EqAt.int_none a t'
  | bl b=>cases rx;exact SeqAt.EqAt.int_bool a t' b
  | int b=>obtain⟨t,rfl⟩:=rx;exact SeqAt.EqAt.int_int a t' b t
  | str b=>obtain⟨t,rfl⟩:=rx;exact SeqAt.EqAt.int_str a t' b t
  | _=>exact absurd (show false=true from fx) jay
 | str a =>
  obtain⟨t',rfl⟩:=ry;cases x with
  | non=>cases rx;exact SeqAt.EqAt.str_none a t'
  | bl b=>cases rx;exact SeqAt.EqAt.str_bool a t' b
  | int b=>obtain⟨t,rfl⟩:=rx;exact SeqAt.EqAt.str_int a t' b t
  | str b=>obtain⟨t,rfl⟩:=rx;exact SeqAt.EqAt.str_str a t' b t
  | _=>exact absurd (show false=true from fx) jay
 | _=>exact absurd (show false=true from fy) jay
noncomputable def eqU (x:V) (u:Value):Bool:=match u with
 | .none=>eqV .non x
 | .bool b=>eqV (.bl b) x
 | .int i _=>eqV (.int i) x
 | .str z _=>eqV (.str z) x
 | _=>false
theorem zln {x y:V}{u:Value} (r:zbm y u) (f:zfZ y=true):eqU x u=eqV y x:=by
 cases y with
 | non=>cases r;rfl
 | bl b=>cases r;rfl
 | int i=>obtain⟨t,rfl⟩:=r;rfl
 | str z=>obtain⟨t,rfl⟩:=r;rfl
 | _=>exact absurd (show false=true from f) jay
theorem zjl {x:V}:∀ {xs:List V}{us:List Value},zba xs us->xs.all zfZ=true->us.any (eqU x)=xs.any fun y=>eqV y x
 | _,_,.nil,_=>rfl
 | y :: xs,u :: us,.cons r t,f=>by
  rw[jdz,jaT] at f;rw[jbK,jbK,zln r f.1,zjl t f.2]
theorem zfC {A:Around}{s:Shared}{x:V}{v:Value} (rx:zbm x v) (fx:zfZ x=true):∀ {xs:List V}{us:List Value},zba xs us->xs.all zfZ=true->∀ u∈us,SeqAt.EqAt A s u v (eqU x u)
 | _,_,.nil,_=>fun u hu=>by cases hu
 | y :: xs,u :: us,.cons r t,f=>fun u' hu=>by
  rw[jdz,jaT] at f;rcases jaj.mp hu with rfl | hu
  ·rw[zln r f.1];exact zrc r rx f.1 fx
  ·exact zfC rx fx t f.2 u' hu
noncomputable def inV (x:V) (xs:List V):Bool:=xs.any fun y=>eqV y x
noncomputable def rIn (K:PySem.W.Frag) (neg:Bool):R2:=fun x y H Q=>∃ p xs,y = .ref p/\(SqL K H p xs\/SqT K H p xs)/\zfZ x=true/\xs.all zfZ=true/\Q (.bl (if neg then !inV x xs else inV x xs)) H
theorem zcj:OpR X (compareOp .In) (rIn X.K false):=by
 intro pins s σ H x y v u Q I rx ry h;obtain⟨p,xs,rfl,hq,fx,fs,q⟩:=h;cases ry;rcases hq with hq | hq
 ·obtain⟨its,r,pl,hz⟩:=I.list hq;refine SeqAt.in_listAt (eqU x) pl.isList (fun w hw=>zfC rx fx r fs w (by simpa using hw)) ⟨.bl _,H,I,rfl,?_⟩;rw[show its.toArray.any (eqU x)=its.any (eqU x) by simp,zjl r fs];exact q
 ·obtain⟨its,r,pl,hz⟩:=I.tuple hq;refine SeqAt.in_tupleAt (eqU x) pl (fun w hw=>zfC rx fx r fs w (by simpa using hw)) ⟨.bl _,H,I,rfl,?_⟩;rw[show its.toArray.any (eqU x)=its.any (eqU x) by simp,zjl r fs];exact q
theorem zaz:zet X (.builtin "len") (fun xs H Q=>∃ p ys,xs=[.ref p]/\(SqL X.K H p ys\/SqT X.K H p ys)/\Q (.int ys.length) H):=by
 intro pins s σ H xs us Q I r h;obtain⟨p,ys,rfl,hq,q⟩:=h;obtain⟨u,rfl,rx⟩:=zeX r;cases rx;have hn:=zfk;rcases hq with hq | hq
 ·obtain⟨its,r',pl,hz⟩:=I.list hq;have hlen:=r'.length;exact Calls.call_len_list pl.isList (by simp only[jai] <;> omega) ⟨.int ys.length,H,I.tok _,⟨s.toks+1,by rw[jai,hlen]⟩,q⟩
 ·obtain⟨its,r',pl,hz⟩:=I.tuple hq;have hlen:=r'.length;exact len_tuple pl (by simp only[jai] <;> omega) ⟨.int ys.length,H,I.tok _,⟨s.toks+1,by rw[jai,hlen]⟩,q⟩
theorem za3:zet X (.builtin "len") (fun xs H Q=>∃ z,xs=[.str z]/\z.length<=sizeLine/\Q (.int z.length) H):=by
 intro pins s σ H xs us Q I r h;obtain⟨z,rfl,hz,q⟩:=h;obtain⟨u,rfl,t,rfl⟩:=zeX r;have hn:=zfk;exact len_str (by omega) ⟨.int z.length,H,I.tok _,⟨_,rfl⟩,q⟩
noncomputable def tyV (K:PySem.W.Frag) (T:String) (x:V) (H:Hp):Prop:=match x with
 | .str _=>T = "str"
 | .int _=>T = "int"
 | .ref p=>(T = "list" /\ ∃ xs,SqL K H p xs)\/(T = "tuple" /\ ∃ o,K.lookup p=some o/\o.cls = .type "tuple" /\ o.dict=none) \/
   (T = "dict" /\ ((∃ kvs,H p=some (.dK kvs))\/∃ kvs,H p=some (.dT kvs)))\/(T = "set" /\ ∃ S n,H p=some (.set S n))
 | _=>False
theorem zo6 {pins:List (Addr × Obj)} {σ:St}{H:Hp}{s:Shared}{T:String}{x:V}{v:Value} (I:Inv X pins σ H s) (r:zbm x v) (ty:tyV X.K T x H) :
  s.TypeIs v T/\∀ a,v = .ref a->∃ ob,s.heap.get? a=some ob/\ob.dict=none:=by
 cases x with
 | str z =>
  obtain⟨t,rfl⟩:=r;cases (show T = "str" from ty);exact⟨typeIs_str s z t,fun _ e=>nomatch e⟩
 | int i =>
  obtain⟨t,rfl⟩:=r;cases (show T = "int" from ty);exact⟨typeIs_int s i t,fun _ e=>nomatch e⟩
 | ref p =>
  cases r;rcases ty with ⟨rfl,xs,hq⟩ | ⟨rfl,o,hk,hc,hd⟩ | ⟨rfl,hk⟩ | ⟨rfl,S,n,hk⟩
  ·obtain⟨its,_,pl,_⟩:=I.list hq;refine⟨pl.isList.typeIs,fun a e=>?_⟩;cases e;obtain⟨o,n,e,c,hd,_⟩:=pl;exact⟨o,e,hd⟩
  ·refine⟨⟨o,I.kIn p o hk,hc⟩,fun a e=>?_⟩;cases e;exact⟨o,I.kIn _ o hk,hd⟩
  ·have z:∃ o,s.heap.get? p=some o/\o.ExactDict:=by
    rcases hk with ⟨kvs,hk⟩ | ⟨kvs,hk⟩
    ·obtain⟨_,_,_,_,o,_,_,e,ex,_⟩:=I.hok p _ hk;exact⟨o,e,ex⟩
    ·obtain⟨_,_,_,_,o,_,_,e,ex,_⟩:=I.hok p _ hk;exact⟨o,e,ex⟩
   obtain⟨o,e,ex⟩:=z;refine⟨⟨o,e,ex.1⟩,fun a e2=>?_⟩;cases e2;exact⟨o,e,ex.2.1⟩
  ·obtain⟨o,_,_,_,e,ex,_⟩:=I.hok p _ hk;refine⟨⟨o,e,ex.1⟩,fun a e2=>?_⟩;cases e2;exact⟨o,e,ex.2.1⟩
 | _=>exact False.elim ty
noncomputable def zvL (K:PySem.W.Frag) (T:String) (r:V->List V->Hp->VK->Prop) (to:TE):TE:=fun σ H Q=>to σ H fun x H1=>tyV K T x H1/\r x [] H1 Q
noncomputable def tBM (K:PySem.W.Frag) (T:String) (r:V->List V->Hp->VK->Prop) (to:TE) (t:TA):TE:=fun σ H Q=>to σ H fun x H1=>tyV K T x H1/\t σ H1 fun xs H2=>r x xs H2 Q
variable {o e:Expr}{es:List Expr}{to:TE}{t:TA}{name:Str}{apos cpos:Pos}{T id:String}{r:V->List V->Hp->VK->Prop}
theorem zb8 (pa:PlainAttrs T) (slot:Slot T name id) (hty:typeOf (.builtin id)=pure (.type "method_descriptor")) (hm:MtR X id r) (ho:PE X o to)
  (hbase:attributeBase o name X.env (eval o X.env)=eval o X.env:=by rfl) (hline:(apos.endLine == cpos.line)=true:=by rfl):PE X (.Call (.Attribute o name apos) [] [] cpos) (zvL X.K T r to):=by
 intro pins s σ H Q I h;refine wpAny_Call_method0_late hbase hline (thn (ho pins s σ H _ I h) fun v s1 ⟨x,H1,I1,r1,ty,q1⟩=>?_);obtain⟨h1,h2⟩:=zo6 I1 r1 ty;exact⟨T,id,pa,slot,hty,h1,h2,jbP rfl (PySem.evalArgs_none (hm pins s1 σ H1 x [] v [] Q I1 r1 .nil q1))⟩
theorem za9 (pa:PlainAttrs T) (slot:Slot T name id) (hty:typeOf (.builtin id)=pure (.type "method_descriptor")) (hm:MtR X id r) (ho:PE X o to) (ha:PA X (e :: es) t)
  (hbase:attributeBase o name X.env (eval o X.env)=eval o X.env:=by rfl)
  (hfew:((backTo cpos (starEach (e :: es) X.env)).all (fun x => !x.1) && (backToKw cpos (keywordEach [] X.env)).all (fun x=>x.1.isSome)
   && decide ((e :: es).length+([]:List Keyword).length+(if ([]:List Keyword).isEmpty then 0 else 1)<30))=true:=by rfl)
  (hline:(apos.endLine == cpos.line)=true:=by rfl) (hs:starEach (e :: es) X.env=(false,eval e X.env) :: starEach es X.env:=by rfl) (hplain:(backTo cpos (starEach es X.env)).any (·.1)=false:=by rfl) :
  PE X (.Call (.Attribute o name apos) (e :: es) [] cpos) (tBM X.K T r to t):=by
 intro pins s σ H Q I h;refine wpAny_Call_method_late hbase hfew hline rfl (thn (ho pins s σ H _ I h) fun v s1 ⟨x,H1,I1,r1,ty,q1⟩=>?_);obtain⟨h1,h2⟩:=zo6 I1 r1 ty;refine⟨T,id,pa,slot,hty,h1,h2,?_⟩;have hA:=ha cpos pins s1 σ H1 _ I1 q1;rw[hs] at hA ⊢;refine jbP (by show (false || (backTo cpos (starEach es X.env)).any (·.1))=false;rw[hplain] <;> rfl) (jb3 ?_);exact thn hA fun us s2 ⟨vs,H2,I2,r2,q2⟩=>hm pins s2 σ H2 x vs v us Q I2 r1 r2 q2
end
end L2
namespace L2
open PySem PySem.Spec PyProof.Rows
noncomputable def MtM (X:Cx) (id:String) (r:V->List V->Hp->VK->Prop):Prop :=
 ∀ (pins:List (Addr × Obj)) (s:Shared) (σ:St) (H:Hp) (x:V) (xs:List V) (v:Value) (us:List Value) (Q:VK),Inv X pins σ H s->zbm x v->zba xs us->r x xs H Q ->
  wpAny (model X.prog X.w) X.A (call (.builtin id) (v :: us)) (EP X pins σ Q) X.xe s
theorem zba.one {x:V}{us:List Value} (h:zba [x] us):∃ u,us=[u]/\zbm x u:=by
 cases h with | cons r t=>cases t;exact⟨_,rfl,r⟩
theorem zba.two {x y:V}{us:List Value} (h:zba [x,y] us):∃ u v,us=[u,v]/\zbm x u/\zbm y v:=by
 cases h with | cons r t=>cases t with | cons q t=>cases t;exact⟨_,_,rfl,r,q⟩
theorem zba.zero:∀ {us:List Value},zba [] us->us=[]
 | _,.nil=>rfl
theorem zba.dropLast {xs:List V}{us:List Value} (h:zba xs us):zba xs.dropLast us.dropLast:=by
 induction h with
 | nil=>exact .nil
 | cons r t ih =>
  cases t with
  | nil=>exact .nil
  | cons q t'=>exact .cons r ih
theorem zk9 {α : Type} (l:List α):l.eraseIdx (l.length-1)=l.dropLast:=by
 induction l with
 | nil=>rfl
 | cons a r ih =>
  cases r with
  | nil=>rfl
  | cons b r =>
   have e:(a :: b :: r).length-1=((b :: r).length-1)+1:=by
    have h1:(a :: b :: r).length=r.length+2:=rfl;have h2:(b :: r).length=r.length+1:=rfl;omega
   rw[e,List.eraseIdx_cons_succ,ih]
   all_goals rfl
section
variable {X:Cx}{pins:List (Addr × Obj)} {σ:St}{H:Hp}{s:Shared}{l b:Addr}{xs ys zs:List V}
theorem Inv.lset {its its':List Value}{n:Nat}{f:Array Value->Array Value}{t':Nat} (I:Inv X pins σ H s) (hH:H l=some (.lst xs))
  (e:s.heap.get? l=some { cls := .type "list",data := .seq its.toArray n }) (hf:f its.toArray=its'.toArray) (hv:zba ys its') (hz:ys.length<=sizeLine) :
  Inv X pins σ (upd H l (.lst ys)) { s with heap:=s.heap.update l (Obj.mapSeq f),toks:=t' }:=by
 have q:=PySem.IsL.update e f;rw[hf] at q;refine I.write (x:=l) (e:=l) (by rw[hH];exact trivial) (.inl rfl) (fun b' u hb hu=>(Heap.get?_update_other s.heap (Obj.mapSeq f) (Ne.symm hb)).trans hu) ⟨_,q⟩ ?_;exact⟨hz,its',_,hv,q⟩
theorem Inv.lnew {its:List Value}{t':Nat} (I:Inv X pins σ H s) (hv:zba ys its) (hz:ys.length<=sizeLine) :
  Inv X pins σ (upd H s.heap.objs.size (.lst ys)) { s with heap:=s.heap.push { cls := .type "list",data := .seq its.toArray },toks:=t' } :=
 I.laid (fun _ _ q=>jal _ q) (jag _) ⟨hz,its,0,hv,jav _ rfl⟩
theorem Inv.fresh (I:Inv X pins σ H s):H s.heap.objs.size=none:=I.hok.fresh (jag _)
theorem Inv.lstM (I:Inv X pins σ H s) (hH:H l=some (.lst xs)):xs.length<=sizeLine/\∃ (its:List Value) (n:Nat),zba xs its/\xs.length=its.length/\s.heap.get? l=some { cls := .type "list",data := .seq its.toArray n }:=by
 obtain⟨z,its,n,r,e⟩:=I.hok l _ hH;exact⟨z,its,n,r,r.length,e⟩
theorem zn9 {n:Nat} (h:n<=sizeLine):Builtin.List.listTooLong n=false:=by
 unfold Builtin.List.listTooLong;exact decide_eq_false (by omega)
end
section
variable {X:Cx}
noncomputable def zqz:V->List V->Hp->VK->Prop:=fun x vs H Q=>∃ l xs y,x = .ref l/\vs=[y]/\H l=some (.lst xs)/\xs.length<sizeLine/\Q .non (upd H l (.lst (xs ++ [y])))
theorem zaM:MtM X "list.append" zqz:=by
 intro pins s σ H x vs v us Q I rx rv h;obtain⟨l,xs,y,rfl,rfl,hH,hz,q⟩:=h;cases rx;obtain⟨u,rfl,ru⟩:=rv.one;obtain⟨z,its,n,r,hl,e⟩:=I.lstM hH;refine call_meets F.slot_list_append ⟨_,e,rfl⟩ F.entry_list_append (F.args_list_append_2 _ _) (PySem.list_append l its.toArray n u (by rw[jai];omega)) ⟨e,?_⟩;refine⟨.non,_,I.lset (its':=its ++ [u]) hH e (by simp) (r.append (.cons ru .nil)) ?_,rfl,q⟩;rw[jab,List.length_singleton];omega
noncomputable def zvv:V->List V->Hp->VK->Prop:=fun x vs H Q=>∃ l xs y,x = .ref l/\vs=[]/\H l=some (.lst xs)/\xs[xs.length-1]? = some y/\Q y (upd H l (.lst xs.dropLast))
theorem zdg:MtM X "list.pop" zvv:=by
 intro pins s σ H x vs v us Q I rx rv h;obtain⟨l,xs,y,rfl,rfl,hH,hy,q⟩:=h;cases rx;have hus:=rv.zero;subst hus;obtain⟨z,its,n,r,hl,e⟩:=I.lstM hH;obtain⟨u,hu,ru⟩:=r.get hy;have hy':its.toArray[its.toArray.size-1]? = some u:=by
  show its.toArray[its.length-1]? = some u;rw[<- jcv,<- hl];exact hu
 refine call_meets F.slot_list_pop ⟨_,e,rfl⟩ F.entry_list_pop (F.args_list_pop_1 _) (MeetsSeq.list_pop_last l its.toArray n u hy' (by rw[jai];omega)) ⟨e,?_⟩;refine⟨y,_,I.lset (its':=its.dropLast) hH e ?_ r.dropLast ?_,ru,q⟩
 ·show its.toArray.eraseIdxIfInBounds (its.toArray.size-1)=its.dropLast.toArray;rw[jai,List.eraseIdxIfInBounds_toArray,zk9]
 ·rw[jbp];omega
noncomputable def zvX:R2:=fun x y H Q=>∃ l b xs zs,x = .ref l/\y = .ref b/\H l=some (.lst xs)/\H b=some (.lst zs)/\xs.length+zs.length<=sizeLine/\∀ p,H p=none->Q (.ref p) (upd H p (.lst (xs++zs)))
theorem ziy:OpR X (binaryOp .Add) zvX:=by
 intro pins s σ H x y v u Q I rx ry h;obtain⟨l,b,xs,zs,rfl,rfl,hH,hB,hz,q⟩:=h;cases rx;cases ry;obtain⟨z,its,n,r,hl,e⟩:=I.lstM hH;obtain⟨z2,its2,n2,r2,hl2,e2⟩:=I.lstM hB;refine PySem.P.add_list e e2 ?_ (by rw[jai,jai];omega);have ea:its.toArray++its2.toArray=(its++its2).toArray:=by simp
 rw[ea];exact⟨.ref _,_,I.lnew (t':=s.toks) (r.append r2) (by rw[jab];omega),rfl,q _ I.fresh⟩
end
end L2
namespace L2
open PySem PySem.Spec PyProof.Rows
section
variable {κ : Type} [DecidableEq κ]
noncomputable def zia (kvs:List (κ × V)) (k : κ):Option V:=(kvs.find? fun kv=>decide (kv.1=k)).map (·.2)
noncomputable def zg7 (kvs:List (κ × V)) (k : κ) (v:V):List (κ × V) :=
 if (kvs.any fun kv=>decide (kv.1=k))=true then kvs.map (fun kv=>if kv.1=k then (kv.1,v) else kv) else kvs ++ [(k,v)]
theorem zeE {p : κ × V}{r:List (κ × V)}{k : κ} (e:p.1=k):zia (p :: r) k=some p.2:=by simp[zia,jaw,e]
theorem zeD {p : κ × V}{r:List (κ × V)}{k : κ} (e:¬ p.1=k):zia (p :: r) k=zia r k:=by simp[zia,jaw,e]
theorem zhG (k : κ):∀ kvs:List (κ × V),(kvs.any fun kv=>decide (kv.1=k))=(zia kvs k).isSome
 | []=>rfl
 | p :: r=>by
  rw[jbK];by_cases e:p.1=k
  ·simp only[zeE e,decide_eq_true e,Bool.true_or,Option.isSome_some]
  ·rw[zeD e,decide_eq_false e,Bool.false_or];exact zhG k r
theorem zgn (kvs:List (κ × V)) (k : κ) (v:V):(zg7 kvs k v).length<=kvs.length+1:=by
 unfold zg7;split
 ·rw[jaa];omega
 ·rw[jab,jae,jbF];omega
theorem zh1.isSome_eq {o:Option V}{u:Option Value} (r:zh1 o u):o.isSome=u.isSome:=by
 cases o with
 | none=>cases u with
  | none=>rfl
  | some _=>exact (show False from r).elim
 | some _=>cases u with
  | none=>exact (show False from r).elim
  | some _=>rfl
theorem zh1.getD {o:Option V}{u:Option Value}{d:V}{d':Value} (r:zh1 o u) (rd:zbm d d'):zbm (o.getD d) (u.getD d'):=by
 cases o with
 | none=>cases u with
  | none=>exact rd
  | some _=>exact (show False from r).elim
 | some _=>cases u with
  | none=>exact (show False from r).elim
  | some _=>exact r
theorem KV.val {kvs:List (κ × V)}{vs:List (κ × Value)} (r:KV kvs vs) (k : κ):zh1 (zia kvs k) (valueAt vs k):=by
 unfold KV at r;induction r with
 | nil=>exact True.intro
 | @cons p q ps qs h t ih =>
  obtain⟨h1,h2⟩:=h;by_cases e:p.1=k
  ·have e':q.1=k:=h1.symm.trans e;have b:valueAt (q :: qs) k=some q.2:=by simp[valueAt,jaw,e']
   rw[zeE e,b];exact h2
  ·have e':¬ q.1=k:=fun z=>e (h1.trans z)
   have b:valueAt (q :: qs) k=valueAt qs k:=by simp[valueAt,jaw,e']
   rw[zeD e,b];exact ih
theorem KV.any {kvs:List (κ × V)}{vs:List (κ × Value)} (r:KV kvs vs) (k : κ):(kvs.any fun kv=>decide (kv.1=k))=vs.any fun kv=>decide (kv.1=k):=by
 unfold KV at r;induction r with
 | nil=>rfl
 | cons h t ih=>rw[jbK,jbK,ih,h.1]
theorem KV.repl {kvs:List (κ × V)}{vs:List (κ × Value)} (r:KV kvs vs) (k : κ) {y:V}{u:Value} (ry:zbm y u) :
  KV (kvs.map fun kv=>if kv.1=k then (kv.1,y) else kv) (vs.map fun kv=>if kv.1=k then (kv.1,u) else kv):=by
 unfold KV at r ⊢;induction r with
 | nil=>exact .nil
 | @cons p q ps qs h t ih =>
  rw[jat,jat];refine .cons ?_ ih;obtain⟨h1,h2⟩:=h;by_cases e:p.1=k
  ·rw[if_pos e,if_pos (h1.symm.trans e)];exact⟨h1,ry⟩
  ·rw[if_neg e,if_neg (fun z=>e (h1.trans z))];exact⟨h1,h2⟩
theorem KV.put {kvs:List (κ × V)}{vs:List (κ × Value)} (r:KV kvs vs) (k : κ) {y:V}{u:Value} (ry:zbm y u):KV (zg7 kvs k y) (stored vs k u):=by
 unfold zg7 stored;rw[r.any k];by_cases e:(vs.any fun kv=>decide (kv.1=k))=true
 ·rw[if_pos e,if_pos e];exact r.repl k ry
 ·rw[if_neg e,if_neg e];exact Paired.snoc r ⟨rfl,ry⟩
theorem KV.keys {kvs:List (κ × V)}{vs:List (κ × Value)} (r:KV kvs vs):kvs.map (·.1)=vs.map (·.1):=by
 unfold KV at r;induction r with
 | nil=>rfl
 | cons h t ih=>rw[jat,jat,ih,h.1]
theorem KV.length {kvs:List (κ × V)}{vs:List (κ × Value)} (r:KV kvs vs):kvs.length=vs.length:=jaL r
end
theorem zlb {P:Program}{w:World}{k:Key}{u:Value} (r:zbm (kV k) u):(zbf P w).is k u=true:=by
 cases k with
 | inl i=>obtain⟨t,e⟩:=(show ∃ t,u=Value.int i t from r);subst e;exact zjo P w i t
 | inr x=>obtain⟨t,e⟩:=(show ∃ t,u=Value.str x t from r);subst e;exact zbV P w x t
theorem ziU {P:Program}{w:World}:∀ {ks:List Key}{us:List Value},zba (ks.map kV) us->ItemsAre (zbf P w) ks us
 | [],_,r=>by rw[jbZ] at r;cases r;exact .nil
 | k :: ks,_,r=>by
  rw[jat] at r;cases r with
  | cons h t=>exact .cons (zlb h) (ziU t)
noncomputable abbrev KT (H:Hp):List (List Key × V)->List (List Key × Addr × Value)->Prop:=Paired fun p q=>p.1=q.1/\H q.2.1=some (.tup (p.1.map kV))/\zbm p.2 q.2.2
theorem KT.val {H:Hp}{kvs:List (List Key × V)}{xs:List (List Key × Addr × Value)} (r:KT H kvs xs) (k:List Key):zh1 (zia kvs k) ((atKey xs k).map (·.2)):=by
 induction r with
 | nil=>exact True.intro
 | @cons p q ps qs h t ih =>
  obtain⟨h1,_,h2⟩:=h;by_cases e:p.1=k
  ·have e':q.1=k:=h1.symm.trans e;have b:atKey (q :: qs) k=some q.2:=by simp[atKey,jaw,e']
   rw[zeE e,b];exact h2
  ·have e':¬ q.1=k:=fun z=>e (h1.trans z)
   have b:atKey (q :: qs) k=atKey qs k:=by simp[atKey,jaw,e']
   rw[zeD e,b];exact ih
theorem KT.repl {H:Hp}{kvs:List (List Key × V)}{xs:List (List Key × Addr × Value)} (r:KT H kvs xs) (k:List Key) {y:V}{u:Value} (ry:zbm y u) :
  KT H (kvs.map fun kv=>if kv.1=k then (kv.1,y) else kv) (xs.map (putAt k u)):=by
 induction r with
 | nil=>exact .nil
 | @cons p q ps qs h t ih =>
  rw[jat,jat];refine .cons ?_ ih;obtain⟨h1,h2,h3⟩:=h;unfold putAt;by_cases e:p.1=k
  ·rw[if_pos e,if_pos (h1.symm.trans e)];exact⟨h1,h2,ry⟩
  ·rw[if_neg e,if_neg (fun z=>e (h1.trans z))];exact⟨h1,h2,h3⟩
theorem KT.put {H:Hp}{kvs:List (List Key × V)}{xs:List (List Key × Addr × Value)} (r:KT H kvs xs) (k:List Key) {b:Addr}{y:V}{u:Value} (hb:H b=some (.tup (k.map kV))) (ry:zbm y u) :
  KT H (zg7 kvs k y) (storedH xs k b u):=by
 have e:(kvs.any fun kv=>decide (kv.1=k))=(atKey xs k).isSome:=by
  rw[zhG,(r.val k).isSome_eq,jb0]
 unfold zg7 storedH;rw[e];by_cases q:(atKey xs k).isSome=true
 ·rw[if_pos q,if_pos q];exact r.repl k ry
 ·rw[if_neg q,if_neg q];exact Paired.snoc r ⟨rfl,hb,ry⟩
theorem KT.keeps {H H':Hp}{kvs:List (List Key × V)}{xs:List (List Key × Addr × Value)} (r:KT H kvs xs) (ht:∀ b ys,H b=some (.tup ys)->H' b=some (.tup ys)):KT H' kvs xs :=
 Paired.mapP r fun _ _ z=>⟨z.1,ht _ _ z.2.1,z.2.2⟩
section
variable {P:Program}{w:World}{H:Hp}{h:Heap}{a:Addr}
theorem zrV {u:HO} (ok:HOk P w H h) (e:Rd H a u):zbJ P w H h a u:=e.ok ok
theorem zjv {kvs:List (Key × V)} (ok:HOk P w H h) (e:Rd H a (.dK kvs)):kvs.length<=sizeLine/\(a == sysModules)=false/\∃ vs,KV kvs vs/\h.DictOf (zbf P w) a vs :=
 show zbJ P w H h a (.dK kvs) from zrV ok e
theorem zq7 {kvs:List (Key × V)} (ok:HOk P w H h) (e:H a=some (.dK kvs)):kvs.length<=sizeLine/\(a == sysModules)=false/\∃ vs,KV kvs vs/\h.DictOf (zbf P w) a vs:=zjv ok (.inl e)
theorem zg2 {ks:List Key} (ok:HOk P w H h) (e:H a=some (.tup (ks.map kV))):(tupleKind (zbf P w)).is h ks a:=by
 obtain⟨_,its,r,o,h1,h2,n,h3⟩:=(show zbJ P w H h a (.tup (ks.map kV)) from ok a _ e);exact⟨o,its.toArray,n,h1,h2,h3,by simpa using ziU r⟩
theorem zjt {kvs:List (List Key × V)} (ok:HOk P w H h) (e:Rd H a (.dT kvs)):kvs.length<=sizeLine/\(a == sysModules)=false /\
  ∃ xs,KT H kvs xs/\h.DictOfH (tupleKind (zbf P w)) a xs:=by
 obtain⟨z,y,xs,r,o,es,ep,h1,h2,h3,h4,h5⟩:=(show zbJ P w H h a (.dT kvs) from zrV ok e);refine⟨z,y,xs,r,o,es,ep,h1,h2,h3,h4,fun x hx=>?_,h5⟩;have all:∀ {l:List (List Key × V)}{m:List (List Key × Addr × Value)},KT H l m->∀ x∈m,(tupleKind (zbf P w)).is h x.1 x.2.1:=by
  intro l m q;induction q with
  | nil=>intro x hx;exact nomatch hx
  | @cons p q ps qs hq t ih =>
   intro x hx;rcases jaj.mp hx with e | hx
   ·subst e;exact zg2 ok (by rw[<- hq.1];exact hq.2.1)
   ·exact ih x hx
 exact all r x hx
theorem ztm {kvs:List (List Key × V)} (ok:HOk P w H h) (e:H a=some (.dT kvs)):kvs.length<=sizeLine/\(a == sysModules)=false /\
  ∃ xs,KT H kvs xs/\h.DictOfH (tupleKind (zbf P w)) a xs:=zjt ok (.inl e)
end
noncomputable def zft (H:Hp) (a:Addr) (y:V) (r:Option V):Prop :=
 (∃ kvs k,Rd H a (.dK kvs)/\y=kV k/\r=zia kvs k)\/∃ kvs k b,Rd H a (.dT kvs)/\y = .ref b/\H b=some (.tup (k.map kV))/\r=zia kvs k
noncomputable def zna (H:Hp) (a:Addr) (y v:V) (H':Hp):Prop :=
 (∃ kvs k,H a=some (.dK kvs)/\y=kV k/\kvs.length<sizeLine/\H'=upd H a (.dK (zg7 kvs k v))) \/
 ∃ kvs k b,H a=some (.dT kvs)/\y = .ref b/\H b=some (.tup (k.map kV))/\kvs.length<sizeLine/\H'=upd H a (.dT (zg7 kvs k v))
theorem zft.k {H:Hp}{a:Addr}{kvs:List (Key × V)}{k:Key} (e:H a=some (.dK kvs)):zft H a (kV k) (zia kvs k) := .inl ⟨kvs,k,.inl e,rfl,rfl⟩
theorem zna.k {H:Hp}{a:Addr}{kvs:List (Key × V)}{k:Key}{v:V} (e:H a=some (.dK kvs)) (hl:kvs.length<sizeLine):zna H a (kV k) v (upd H a (.dK (zg7 kvs k v))) := .inl ⟨kvs,k,e,rfl,hl,rfl⟩
section
variable {X:Cx}{pins:List (Addr × Obj)} {σ:St}{H:Hp}{s:Shared}{a:Addr}{y v:V}{u r:Value}{o:Option V}{A:Around}{E:Value->Shared->Prop}
theorem Inv.big (I:Inv X pins σ H s):sysModules<s.heap.objs.size:=by
 have h:mainGlobals<s.heap.objs.size:=(I.mod.glob.keeps I.bk).lt;exact jcX (by decide) h
theorem zlk {Q:Value->Shared->Prop} (hu:A.units+1<cLine) (I:Inv X pins σ H s) (g:zft H a y (some v)) (ry:zbm y u) (h:∀ w' s',Inv X pins σ H s'->zbm v w'->Q w' s') :
  wpAny (model X.prog X.w) A (getItem (.ref a) u) Q E s:=by
 rcases g with ⟨kvs,k,e,ey,l⟩ | ⟨kvs,k,b,e,ey,eb,l⟩
 ·subst ey;obtain⟨z,hd,vs,rel,dd⟩:=zjv I.hok e;obtain⟨w',hw,rw'⟩:=zh1.some_of (v:=v) (o:=valueAt vs k) (by rw[l];exact rel.val k);exact wpAny_getItem_of (zlb ry) dd.mapOf hw (h w' _ (I.tok _) rw')
 ·subst ey;cases (show u=Value.ref b from ry);obtain⟨z,hd,xs,rel,dd⟩:=zjt I.hok e;obtain⟨w',hw,rw'⟩:=zh1.some_of (v:=v) (o:=(atKey xs k).map (·.2)) (by rw[l];exact rel.val k);obtain⟨p,hp,hp2⟩:=jbQ.mp hw;refine wpAny_getItem_heap (tupleKind_room_in1 hu) (zg2 I.hok eb) dd hp ?_;rw[hp2];exact h w' _ (I.tok _) rw'
theorem zvT {Q:Value->Shared->Prop} (hu:A.units+1<cLine) (I:Inv X pins σ H s) (g:zft H a y o) (ry:zbm y u) (h:∀ s',Inv X pins σ H s'->Q (.bool o.isSome) s') :
  wpAny (model X.prog X.w) A (compareOp .In u (.ref a)) Q E s:=by
 rcases g with ⟨kvs,k,e,ey,l⟩ | ⟨kvs,k,b,e,ey,eb,l⟩
 ·subst ey;obtain⟨z,hd,vs,rel,dd⟩:=zjv I.hok e;refine wpAny_in_of (zlb ry) hd dd.mapOf ?_;rw[<- (rel.val k).isSome_eq,<- l];exact h _ (I.tok _)
 ·subst ey;cases (show u=Value.ref b from ry);obtain⟨z,hd,xs,rel,dd⟩:=zjt I.hok e;refine wpAny_in_heap (tupleKind_room_in1 hu) (zg2 I.hok eb) hd dd ?_;have q:=(rel.val k).isSome_eq;rw[jb0] at q;rw[<- q,<- l];exact h _ (I.tok _)
theorem zp7 {Q:Value->Shared->Prop} (hu:A.units+1<cLine) (I:Inv X pins σ H s) (g:zft H a y o) (ry:zbm y u) (h:∀ s',Inv X pins σ H s'->Q (.bool (!o.isSome)) s') :
  wpAny (model X.prog X.w) A (compareOp .NotIn u (.ref a)) Q E s:=by
 rcases g with ⟨kvs,k,e,ey,l⟩ | ⟨kvs,k,b,e,ey,eb,l⟩
 ·subst ey;obtain⟨z,hd,vs,rel,dd⟩:=zjv I.hok e;refine wpAny_notIn_of (zlb ry) hd dd.mapOf ?_;rw[<- (rel.val k).isSome_eq,<- l];exact h _ (I.tok _)
 ·subst ey;cases (show u=Value.ref b from ry);obtain⟨z,hd,xs,rel,dd⟩:=zjt I.hok e;refine wpAny_notIn_heap (tupleKind_room_in1 hu) (zg2 I.hok eb) hd dd ?_;have q:=(rel.val k).isSome_eq;rw[jb0] at q;rw[<- q,<- l];exact h _ (I.tok _)
theorem zmi {h':Heap}{t':Nat}{ob:HO} (I:Inv X pins σ H s) (mu:Mut (H a)) (hs:Heap.SameBut a s.heap h') (he:∃ q,h'.get? a=some q) (new:zbJ X.prog X.w (upd H a ob) h' a ob) :
  Inv X pins σ (upd H a ob) { s with heap:=h',toks:=t' } :=
 I.write (x:=a) (e:=a) mu (.inl rfl) (fun b q hb z=>(hs.2 b hb).trans z) he new
theorem zsx {P:Program}{w:World}{H':Hp}{h':Heap}{kvs:List (Key × V)}{vs:List (Key × Value)} (z:kvs.length<=sizeLine) (hd:(a == sysModules)=false) (rel:KV kvs vs) (dd:h'.DictOf (zbf P w) a vs) :
  zbJ P w H' h' a (.dK kvs):=⟨z,hd,vs,rel,dd⟩
theorem zmc {H':Hp}{Q:Unit->Shared->Prop} (hu:A.units+1<cLine) (I:Inv X pins σ H s) (g:zna H a y v H') (ry:zbm y u) (rv:zbm v r) (h:∀ s',Inv X pins σ H' s'->Q () s') :
  wpAny (model X.prog X.w) A (setItem (.ref a) u r) Q E s:=by
 rcases g with ⟨kvs,k,e,ey,l,eH⟩ | ⟨kvs,k,b,e,ey,eb,l,eH⟩
 ·subst ey eH;obtain⟨z,hd,vs,rel,dd⟩:=zq7 I.hok e;have hz:vs.length<=sizeLine:=by rw[<- rel.length];exact z
  have hl:(zg7 kvs k v).length<=sizeLine:=by have:=zgn kvs k v;omega
  refine wpAny_setItem_pairs (hsz:=hz) (zlb ry) dd fun h' dd' hs=>h _ ?_
  have he:∃ q,h'.get? a=some q:=let ⟨q,_,_,hq,_⟩:=dd'; ⟨q,hq⟩
  exact zmi I (by rw[e];exact True.intro) hs he (zsx hl hd (rel.put k rv) dd')
 ·subst ey eH;cases (show u=Value.ref b from ry);obtain⟨z,hd,xs,rel,dd⟩:=ztm I.hok e;have hz:xs.length<=sizeLine:=by rw[<- jaL rel];exact z
  have hl:(zg7 kvs k v).length<=sizeLine:=by have:=zgn kvs k v;omega
  refine wpAny_setItem_heap (hsz:=hz) (tupleKind_room_in1 hu) (zg2 I.hok eb) dd fun h' dd' hs=>h _ ?_
  obtain⟨q,es,ep,hq,h2,h3,h4,_,h5⟩:=dd';refine zmi I (by rw[e];exact True.intro) hs ⟨q,hq⟩ ⟨hl,hd,_,(rel.put k eb rv).keeps fun c ys ec=>?_,q,es,ep,hq,h2,h3,h4,h5⟩;rw[zan (zpO ec e (fun z=>nomatch z))];exact ec
end
noncomputable def ztH (i:Expr):Prop:=∀ ov iv,subscripted i false ov iv=operate [ov,iv] (getItem ov iv)
theorem zlq {prog:Program}{w:World}{A:Around}{E:Value->Shared->Prop}{s:Shared}{env:Env}{value slice:Expr}{pos:Pos}{T id:String}{Q:Value->Shared->Prop}
  (hl:typeLookup (.type T) "__getitem__" = pure (some (.builtin id))) (hs:ztH slice)
  (h:wpAny (model prog w) A (eval value env) (fun o s₁=>wpAny (model prog w) A (eval slice env) (fun i s₂=>s₂.TypeIs o T/\wpAny (model prog w) A (getItem o i) Q E s₂) E s₁) E s) :
  wpAny (model prog w) A (eval (.Subscript value slice pos) env) Q E s:=by
 refine Subscript_ (wpAny_mono h (fun o s₁ h₁=>wpAny_mono h₁ (fun i s₂ h₂=>?_) fun _ _ x=>x) fun _ _ x=>x);obtain⟨hT,h₂⟩:=h₂;unfold subscriptTail;refine wpAny_bind ?_;rw[getitemInPython_of_ne hT.not_modules];refine wpAny_bind (wpAny_specialOf hT hl ?_);have fin:wpAny (model prog w) A (subscripted slice false o i) (fun r s₃=>wpAny (model prog w) A (letTemporaryGo value o r >>= fun _=>pure r) Q E s₃) E s₂:=by
  rw[hs o i];exact wpAny_operating (wpAny_mono h₂ (fun r s₃ h₃=>wpAny_bind (wpAny_letTemporaryGo (wpAny_pure h₃))) fun _ _ x=>x)
 first
  | exact wpAny_pure (wpAny_bind fin)
  | exact wpAny_bind (wpAny_pure (wpAny_bind fin))
  | exact wpAny_bind fin
theorem zjf {X:Cx}{pins:List (Addr × Obj)} {σ:St}{H:Hp}{s:Shared}{a:Addr}{y:V}{o:Option V} (I:Inv X pins σ H s) (g:zft H a y o):s.TypeIs (.ref a) "dict" := by
 rcases g with ⟨kvs,k,e,_,_⟩ | ⟨kvs,k,b,e,_,_,_⟩
 ·obtain⟨_,_,vs,_,dd⟩:=zjv I.hok e;exact dd.typeIs
 ·obtain⟨_,_,xs,_,dd⟩:=zjt I.hok e;exact dd.typeIs
noncomputable def ztR (td ty:TE):TE:=fun σ H Q=>td σ H fun x H1=>ty σ H1 fun y H2=>∃ a v,x = .ref a/\zft H2 a y (some v)/\Q v H2
noncomputable def zvV (ty td:TE):TE:=fun σ H Q=>ty σ H fun y H1=>td σ H1 fun x H2=>∃ a o,x = .ref a/\zft H2 a y o/\Q (.bl o.isSome) H2
noncomputable def zpx (ty td:TE):TE:=fun σ H Q=>ty σ H fun y H1=>td σ H1 fun x H2=>∃ a o,x = .ref a/\zft H2 a y o/\Q (.bl (!o.isSome)) H2
noncomputable def ztM (td ty tv:TE):TS:=fun D σ H=>tv σ H fun v H1=>td σ H1 fun x H2=>ty σ H2 fun y H3=>∃ a H4,x = .ref a/\zna H3 a y v H4/\D.nx σ H4
section
variable {X:Cx}{o i e value:Expr}{pos pos' tpos:Pos}{td ty tv:TE}
theorem zb4 (hu:X.A.units+1<cLine) (ho:PE X o td) (hi:PE X i ty) (hs:ztH i):PE X (.Subscript o i pos) (ztR td ty):=by
 intro pins s σ H Q I h;refine zlq PySem.F.slot_dict_getitem.lookup hs (thn (ho pins s σ H _ I h) fun u s1 ⟨x,H1,I1,rx,q1⟩=>thn (hi pins s1 σ H1 _ I1 q1) fun iv s2 ⟨y,H2,I2,ry,a,v,ex,g,q2⟩=>?_);subst ex;obtain rfl:u=Value.ref a:=rx;exact⟨zjf I2 g,zlk hu I2 g ry fun w' s3 I3 rw'=>⟨v,H2,I3,rw',q2⟩⟩
theorem zsb (hu:X.A.units+1<cLine) (hi:PE X i ty) (ho:PE X o td):PC X .In i o (zvV ty td):=by
 intro pins s σ H Q I h;refine thn (hi pins s σ H _ I h) fun iv s1 ⟨y,H1,I1,ry,q1⟩=>thn (ho pins s1 σ H1 _ I1 q1) fun u s2 ⟨x,H2,I2,rx,a,ov,ex,g,q2⟩=>?_
 subst ex;obtain rfl:u=Value.ref a:=rx;exact zvT hu I2 g ry fun s3 I3=>⟨.bl ov.isSome,H2,I3,rfl,q2⟩
theorem zfU (hu:X.A.units+1<cLine) (hi:PE X i ty) (ho:PE X o td):PC X .NotIn i o (zpx ty td):=by
 intro pins s σ H Q I h;refine thn (hi pins s σ H _ I h) fun iv s1 ⟨y,H1,I1,ry,q1⟩=>thn (ho pins s1 σ H1 _ I1 q1) fun u s2 ⟨x,H2,I2,rx,a,ov,ex,g,q2⟩=>?_
 subst ex;obtain rfl:u=Value.ref a:=rx;exact zp7 hu I2 g ry fun s3 I3=>⟨.bl (!ov.isSome),H2,I3,rfl,q2⟩
theorem zeY (hu:X.A.units+1<cLine) (ho:PE X o td) (hi:PE X i ty) (hv:PE X value tv) (hs:swapsWith value (some (.Subscript o i pos')) pos.line X.env=pure false) :
  PS X (.Assign [.Subscript o i pos'] value pos) (ztM td ty tv):=by
 intro pins s σ H D I h;refine wpAny_Assign_Subscript (thn (hv pins s σ H _ I h) fun r s1 ⟨v,H1,I1,rv,q1⟩=>thn (ho pins s1 σ H1 _ I1 q1) fun u s2 ⟨x,H2,I2,rx,q2⟩=>thn (hi pins s2 σ H2 _ I2 q2) fun iv s3 ⟨y,H3,I3,ry,a,H4,ex,g,q3⟩=>?_) hs;subst ex;obtain rfl:u=Value.ref a:=rx;exact zmc hu I3 g ry rv fun s4 I4=>⟨σ,H4,I4,q3⟩
end
theorem zoi {P:Program}{w:World}{H:Hp} (h:Heap) (hb:sysModules<h.objs.size):zbJ P w H (h.push { cls := .type "dict",data := .dict #[] }) h.objs.size (.dK []) :=
 ⟨jaE _,beq_eq_false_iff_ne.mpr (Ne.symm (jaU hb)),[],.nil,Heap.DictOf.new h⟩
noncomputable def zsA:TE:=fun _ H Q=>∀ p,H p=none->Q (.ref p) (upd H p (.dK []))
section
variable {X:Cx}{pos:Pos}
theorem zdI:PE X (.Dict [] [] pos) zsA:=fun pins s σ H Q I h =>
 wpAny_Dict_empty ⟨.ref s.heap.objs.size,_,I.laid (a:=s.heap.objs.size) (o := .dK []) (t':=s.toks) (fun _ _ q=>jal _ q) (jag _) (zoi s.heap I.big),rfl,h _ (I.hok.fresh (jag _))⟩
end
structure M1 (X:Cx) (o:Expr) (m:Str) (apos:Pos) (e:Expr) (cpos:Pos):Prop where
 base:attributeBase o m X.env (eval o X.env)=eval o X.env
 few:((backTo cpos (starEach [e] X.env)).all (fun x => !x.1) && (backToKw cpos (keywordEach [] X.env)).all (fun x=>x.1.isSome)
  && decide (([e]:List Expr).length+([]:List Keyword).length+(if ([]:List Keyword).isEmpty then 0 else 1)<30))=true
 line:(apos.endLine == cpos.line)=true
 trees:backTo cpos (starEach [e] X.env)=[(false,eval e X.env)]
structure M2 (X:Cx) (o:Expr) (m:Str) (apos:Pos) (e f:Expr) (cpos:Pos):Prop where
 base:attributeBase o m X.env (eval o X.env)=eval o X.env
 few:((backTo cpos (starEach [e,f] X.env)).all (fun x => !x.1) && (backToKw cpos (keywordEach [] X.env)).all (fun x=>x.1.isSome)
  && decide (([e,f]:List Expr).length+([]:List Keyword).length+(if ([]:List Keyword).isEmpty then 0 else 1)<30))=true
 line:(apos.endLine == cpos.line)=true
 trees:backTo cpos (starEach [e,f] X.env)=[(false,eval e X.env),(false,eval f X.env)]
noncomputable def IsD (H:Hp) (a:Addr):Prop:=(∃ kvs,Rd H a (.dK kvs))\/∃ kvs,Rd H a (.dT kvs)
theorem zsu {X:Cx}{pins:List (Addr × Obj)} {σ:St}{H:Hp}{s:Shared}{a:Addr} (I:Inv X pins σ H s) (d:IsD H a) :
  s.TypeIs (.ref a) "dict" /\ (∀ b,Value.ref a = .ref b->∃ ob,s.heap.get? b=some ob/\ob.dict=none)/\(a == sysModules)=false:=by
 rcases d with ⟨kvs,e⟩ | ⟨kvs,e⟩
 ·obtain⟨_,hd,vs,_,dd⟩:=zjv I.hok e;refine⟨dd.typeIs,fun b q=>?_,hd⟩;cases q;obtain⟨ob,_,_,h1,h2,_⟩:=dd;exact⟨ob,h1,h2.2.1⟩
 ·obtain⟨_,hd,xs,_,dd⟩:=zjt I.hok e;refine⟨dd.typeIs,fun b q=>?_,hd⟩;cases q;obtain⟨ob,_,_,h1,h2,_⟩:=dd;exact⟨ob,h1,h2.2.1⟩
section
variable {X:Cx}{pins:List (Addr × Obj)} {σ:St}{H:Hp}{s:Shared}{a:Addr}{y d:V}{u r:Value}{o:Option V}{A:Around}{E:Value->Shared->Prop}
theorem zs2 {Q:Value->Shared->Prop} (hu:A.units+1<cLine) (I:Inv X pins σ H s) (g:zft H a y o) (ry:zbm y u) (rd:zbm d r) (h:∀ w' s',Inv X pins σ H s'->zbm (o.getD d) w'->Q w' s') :
  wpAny (model X.prog X.w) A (call (.builtin "dict.get") [.ref a,u,r]) Q E s:=by
 rcases g with ⟨kvs,k,e,ey,l⟩ | ⟨kvs,k,b,e,ey,eb,l⟩
 ·subst ey;obtain⟨z,hd,vs,rel,dd⟩:=zjv I.hok e;refine call_meetsIn jby dd.typeIs jcl (jdf _ _ _) (meets_dict_get_default (zbf X.prog X.w) a (zlb ry) hd r) ⟨_,dd.mapOf,h _ _ (I.tok _) ?_⟩;rw[l];exact (rel.val k).getD rd
 ·subst ey;cases (show u=Value.ref b from ry);obtain⟨z,hd,xs,rel,dd⟩:=zjt I.hok e;refine call_meetsIn jby dd.typeIs jcl (jdf _ _ _) (meetsH_dict_get_default (tupleKind (zbf X.prog X.w)) a b hd r) ⟨tupleKind_room_in1 hu,k,xs,zg2 I.hok eb,dd,h _ _ (I.tok _) ?_⟩;rw[l];exact (rel.val k).getD rd
end
noncomputable def zqT (td ty tx:TE):TE:=fun σ H Q=>td σ H fun x H1=>∃ a,x = .ref a/\IsD H1 a/\ty σ H1 fun y H2=>tx σ H2 fun z H3=>∃ o,zft H3 a y o/\Q (o.getD z) H3
section
variable {X:Cx}{o e f:Expr}{apos cpos:Pos}{td ty tx:TE}
theorem zer (hu:X.A.units+1<cLine) (ho:PE X o td) (he:PE X e ty) (hf:PE X f tx) (m:M2 X o "get" apos e f cpos):PE X (.Call (.Attribute o "get" apos) [e,f] [] cpos) (zqT td ty tx):=by
 intro pins s σ H Q I h;refine wpAny_Call_method m.base m.few m.line jdg jby PySem.F.type_dict_get (thn (ho pins s σ H _ I h) fun u s1 ⟨x,H1,I1,rx,a,ex,d,q1⟩=>?_);subst ex;obtain rfl:u=Value.ref a:=rx;obtain⟨t1,t2,_⟩:=zsu I1 d;refine⟨t1,t2,?_⟩;rw[m.trees];refine jbP rfl (jb3 (jcb (thn (he pins s1 σ H1 _ I1 q1) fun iv s2 ⟨y,H2,I2,ry,q2⟩ =>
  jcb (thn (hf pins s2 σ H2 _ I2 q2) fun fv s3 ⟨z,H3,I3,rz,ov,g,q3⟩=>jda ?_))))
 exact zs2 hu I3 g ry rz fun w' s4 I4 rw'=>⟨_,H3,I4,rw',q3⟩
end
end L2
namespace Att
open PySem PySem.W PySem.Calls PyProof.Rows
theorem zf4 {P:Params}{h:Heap}:∀ (ns:List Int) (vs:List Value),WellAll P h vs (ns.map WData.int)->IntsAre vs ns:=by
 intro ns;induction ns with
 | nil =>
  intro vs w;rw[jbZ] at w;cases w;exact .nil
 | cons n ns ih =>
  intro vs w;rw[jat] at w;cases w with
  | cons a b =>
   cases a;exact .cons _ _ (ih _ b)
theorem script_of {l:OpenLaw}{n:Nat} (hn:l.most=some n) {P:Params}{h:Heap}{args:List WData}{vals:List Value}
  (hpre:l.row.toRowW.claim.pre args=true) (hwl:WellAll P h vals args) :
  ∃ a vs ns,vals=[Value.ref a]/\args=[WData.list (ns.map WData.int)]/\h.get? a=some { cls := .type "list",data := .seq vs.toArray }/\IntsAre vs ns/\ns.length<=n:=by
 have hsh:WShape.hasAll [] args [.list .int]=true:=(pre_splitW hpre).1;have hc:l.pre.holds [] { args:=args }=true:=(pre_splitW hpre).2;obtain⟨d,r,rfl,h1,h2⟩:=hasAllW_cons hsh;obtain rfl:=hasAllW_nil h2;obtain⟨xs,rfl,h3⟩:=hasW_list h1;obtain⟨ns,rfl⟩:=items_int h3;have hlen:ns.length<=n:=by
  unfold OpenLaw.pre at hc;have h4:(WTm.not (.lt (.lit (.int (n:Int))) (.len (.arg 0)))).holds [] { args:=[.list (ns.map .int)] }=true:=by
   have h4:=(holds_andW hc).1;rw[hn] at h4;exact h4
  have h5:=condW_of h4 (w_not (w_lt w_lit (w_len_list (w_arg rfl))));rw[jaa] at h5;refine Nat.le_of_not_lt fun q=>?_
  have q':(n:Int)<((ns.length:Nat):Int):=by omega
  first
   | (rw[decide_eq_true q'] at h5;exact absurd h5 (by decide))
   | (simp at h5;omega)
 cases hwl with
 | cons w1 w2 =>
  cases w2;cases w1 with
  | list ho hall=>exact⟨_,_,ns,rfl,rfl,ho,zf4 ns _ hall,hlen⟩
theorem post_true (l:OpenLaw) (args:List WData):l.row.toRowW.claim.post args (.bool true) args=true :=
 postW_of (r:=l.row.toRowW) (X:=(true == true))
  (show WShape.has [] (.bool true) .bool=true by first | rfl | decide | simp[WShape.has,WShape.arms,WShape.armsAll])
  (show (WTm.eq .res (.lit (.bool true))).value [] { args:=args,res:=some (.bool true),after:=args }=some (.bool (true == true)) from w_eq_bool (w_res rfl) w_lit) rfl
end Att
namespace L2
open PySem PySem.Spec PyProof.Rows
theorem zgc:∀ {vs:List Value}{ns:List Int},IntsAre vs ns->zba (ns.map V.int) vs
 | _,_,.nil=>.nil
 | _,_,.cons n t h=>.cons ⟨t,rfl⟩ (zgc h)
noncomputable def ztT (H:Hp):Prop:=∀ b,H b=none\/∃ o xs,H b=some (.frz o (.lst xs))
theorem zoA {P:Program}{w:World}{K:PySem.W.Frag}{mg mb:Str->Option Value}{CX:CXT}{k:Nat}{fa a:Addr}{fd:FuncData}{x:Str}{sp:Sp}{s₁:Shared}{vs:List Value}{ns:List Int}
  (KX:K.In s₁.heap) (hns:s₁.heap.Ns mainGlobals mg) (hb:s₁.heap.Ns builtinsNs mb) (hbb:∀ x:Str,x ≠ "__name__" -> mb x=bootBuiltins x) (hlim:s₁.heap.NoLimit) (hg:s₁.gens = #[])
  (ha:s₁.heap.get? a=some { cls := .type "list",data := .seq vs.toArray }) (hi:IntsAre vs ns) (hl:ns.length<=sizeLine) (hr:zeg k callerA)
  (F:∀ base:Heap,K.In base->base.Ns mainGlobals mg->zi9 P w K mg base CX k fa fd [x] sp) (hbind:∀ (s:Shared) (u:Value),BindsTo s fd ⟨[u],[]⟩ [(x,u)])
  (hsp:∀ H:Hp,ztT H->SqL K H a (ns.map V.int)->sp [.ref a] H (fun v _=>v = .bl true) fun _ _ _=>False)
  (hCX:∀ H e s',CX [] H s₁ (fun _ _ _=>False) e s'->False) :
  codeAny (model P w) callerA (.call (.ref fa) ⟨[.ref a],[]⟩) (fun r s'=>r = .ok (.ret (.bool true))/\OldK s₁.heap s'.heap/\s'.os=s₁.os/\AllBare s'.gens) s₁:=by
 have rv:=zgc hi;have lenV:=hi.length;have core:∀ H:Hp,ztT H->SqL K H a (ns.map V.int)->HOk P w H s₁.heap->(∀ b,H b≠none->b=a)->(H a≠none->K.lookup a=none) ->
   codeAny (model P w) callerA (.call (.ref fa) ⟨[.ref a],[]⟩) (fun r s'=>r = .ok (.ret (.bool true))/\OldK s₁.heap s'.heap/\s'.os=s₁.os/\AllBare s'.gens) s₁:=by
  intro H hO hS hok hA hK;have base_of:∀ {b:Addr}{o:Obj},s₁.heap.get? b=some o->H b=none->(znJ s₁.heap H).get? b=some o:=fun e n=>zoc e n
  have noA:∀ {b:Addr}{o:Obj}{es:Array DictEntry}{ep:Nat},s₁.heap.get? b=some o->o.data = .dict es ep->H b=none:=fun {b o es ep} e d=>by
   cases q:H b with
   | none=>rfl
   | some u =>
    have e':b=a:=hA b (by rw[q];simp);subst e';rw[ha] at e;cases e;have d':Data.seq vs.toArray _=Data.dict es ep:=d;cases d'
  have nsK:∀ {b:Addr}{m:Str->Option Value},s₁.heap.Ns b m->(znJ s₁.heap H).Ns b m:=fun {b m} ⟨o,es,ep,e,d,r⟩=>⟨o,es,ep,base_of e (noA e d),d,r⟩
  have hKb:K.In (znJ s₁.heap H):=fun b o e=>base_of (KX b o e) (by
   cases q:H b with
   | none=>rfl
   | some u =>
    have e':b=a:=hA b (by rw[q];simp);subst e';rw[hK (by rw[q];simp)] at e;cases e)
  have hM:Mod K mg (znJ s₁.heap H):=⟨hKb,nsK hns,⟨mb,nsK hb,hbb⟩,let ⟨mc,h1,h2⟩:=hlim; ⟨mc,nsK h1,h2⟩⟩;have e0:zp5 P w K mg (znJ s₁.heap H) callerA [] s₁ H:=⟨rfl,hM,fun b o e=>zpD e,Nat.le_of_eq (zmb _ _),trivial,fun b hb=>absurd (show b∈([]:List Addr) from hb) (by simp),hok,.of_eq hg⟩;refine codeAny_mono ((F _ hKb (nsK hns)).run callerA [] s₁ H ⟨[.ref a],[]⟩ [.ref a] [.ref a] _ _ hr e0 (hbind s₁ (.ref a)) (.cons rfl .nil) (hsp H hO hS)) fun r s' h=>?_
  cases r with
  | error e=>exact (hCX H e s' h).elim
  | ok fl =>
   cases fl with
   | next=>exact False.elim h
   | brk=>exact False.elim h
   | cont=>exact False.elim h
   | ret u =>
    obtain⟨v,H',os,bare,un,hok',r',q⟩:=h;have q':v = .bl true:=q;subst q';obtain rfl:u=Value.bool true:=r';refine⟨rfl,OldK.of_keep fun b o e=>?_,os,bare⟩;cases q:H b with
    | none=>exact un.keep b o e q (by intro z;exact absurd (show b∈([]:List Addr) from z) (by simp)) (by simp)
    | some u =>
     rcases hO b with z | ⟨ob,xs,z⟩
     ·rw[q] at z;cases z
     ·have z2:=un.frzs b ob _ z;obtain⟨e1,_⟩:=hok b _ z;obtain⟨e2,_⟩:=hok' b _ z2;rw[e] at e1;cases e1;exact e2
 cases hk:K.lookup a with
 | some o =>
  have e:=KX a o hk;rw[ha] at e;cases e;refine core (fun _=>none) (fun _=>.inl rfl) (.inr ⟨_,vs.toArray,_,hk,rfl,rfl,rfl,by rw[jai,lenV];exact hl,by simpa using rv⟩) (fun b u z=>by have z':(none:Option HO)=some u:=z;cases z') (fun b z=>absurd rfl z) fun z=>absurd rfl z
 | none =>
  refine core (fun b=>if b=a then some (.frz { cls := .type "list",data := .seq vs.toArray } (.lst (ns.map V.int))) else none) (fun b=>?_) (.inl (.inr ⟨{ cls := .type "list",data := .seq vs.toArray },if_pos rfl⟩)) (fun b u z=>?_) (fun b z=>?_) fun _=>hk
  ·by_cases hb:b=a
   ·exact .inr ⟨_,_,if_pos hb⟩
   ·exact .inl (if_neg hb)
  ·by_cases hb:b=a
   ·have z':=(if_pos hb).symm.trans z;cases z';subst hb;exact⟨ha,by rw[jaa];exact hl,vs,_,rv,ha⟩
   ·have z':=(if_neg hb).symm.trans z;cases z'
  ·by_cases hb:b=a
   ·exact hb
   ·exact absurd (if_neg hb) z
end L2
namespace L2
open PySem PySem.Spec PyProof.Rows
noncomputable abbrev CX0:CXT:=fun _ _ _ _ _ _=>False
noncomputable abbrev E0:XK:=fun _ _ _=>False
theorem zsc {X:Cx}:zgz CX0 X E0:=fun _ _ _ _ _ _ _ h=>h.elim
structure Fun (K:PySem.W.Frag) (x qual:Str) (st:Stmt) (f:Addr) (fd:FuncData):Prop where
 ex:∃ (oc:Value) (od:Option Addr) (kV doc pm:Value) (an:Option Addr) (cdv ct:Value) (osl:Array (Option Value)),
  fd=PySem.W.fnOf x qual (zf3 st) (zda st) (zaC st) .none kV doc pm an cdv ct/\K.lookup f=some ⟨oc,od,.func fd,osl⟩/\PySem.W.codeIn K cdv qual=true
 kp:PySem.W.keepIn K (.ref f)=true
section
variable {P:Program}{w:World}{K:PySem.W.Frag}{mg:Str->Option Value}{base:Heap}
theorem Fun.ok {x qual:Str}{st:Stmt}{f:Addr}{fd:FuncData}{N ps:List Str}{k:Nat}{sp:Sp} (F:Fun K x qual st f fd) (S:zcW N ps (zaC st)) (len:∀ vs H Q E,sp vs H Q E->vs.length=ps.length)
  (hbody:∀ (cdv:Value) (A:Around) (outer:List Env) (s:Shared) (H:Hp) (vs:List V) (Q:VK) (E:XK),zeg k (A.deeper (envOfC qual (zaC st) s.heap.objs.size f cdv))->sp vs H Q E ->
   ∃ t,PSs (zmY CX0 P w K mg base N qual (zaC st) f cdv A outer s H E).nox (zda st) t/\t { nx:=fun _ H'=>Q .non H',rt:=Q } (zgw N vs) H):zi9 P w K mg base CX0 (k+1) f fd ps sp:=by
 obtain⟨oc,od,kV,doc,pm,an,cdv,ct,osl,rfl,lk,hcd⟩:=F.ex;refine zr9 lk hcd S len fun A outer s H vs Q E hr hsp=>?_
 obtain⟨t,h,q⟩:=hbody cdv A outer s H vs Q E hr hsp;exact⟨t,h.nox,q⟩
theorem zrC {x qual:Str}{st:Stmt}{f:Addr}{oc:Value}{od an:Option Addr}{osl:Array (Option Value)}{kV doc pm cdv ct:Value} (l:K.lookup f=some ⟨oc,od,.func (PySem.W.fnOf x qual (zf3 st) (zda st) (zaC st) .none kV doc pm an cdv ct),osl⟩)
  (c:PySem.W.codeIn K cdv qual=true) (k:PySem.W.keepIn K (.ref f)=true):Fun K x qual st f (PySem.W.fnOf x qual (zf3 st) (zda st) (zaC st) .none kV doc pm an cdv ct):=⟨⟨oc,od,kV,doc,pm,an,cdv,ct,osl,rfl,l,c⟩,k⟩
end
theorem zr0 {A:Around}{k:Nat} (hr:zeg k A):A.units+1<cLine:=jbj (jbL (by decide:1<=64) _) hr.units
section
variable {X:Cx}
theorem pv (i:Nat) {x:Str}{pos:Pos} (hN:X.N[i]? = some x:=by rfl) (hv:Vis X.env.scope x:=by first | exact Or.inl rfl | exact Or.inr (Or.inl rfl) | exact Or.inr (Or.inr rfl)) (hd:(x == ("__debug__" : Str))=false:=by decide)
  (hcd:(x == ("__classdict__" : Str))=false:=by decide):PE X (.Name x pos) (zlo i):=zoP hN hv hd hcd
end
theorem zf6 {A B:Prop} (h:B):if false=true then A else B:=by
 rw[if_neg jay];exact h
theorem zhL {A B:Prop} (h:A):if true=true then A else B:=by
 rw[if_pos rfl];exact h
theorem zgJ {c A B:Prop} [Decidable c] (h1:c->A) (h2:¬ c->B):if c then A else B:=by
 by_cases h:c
 ·rw[if_pos h];exact h1 h
 ·rw[if_neg h];exact h2 h
theorem zrT {c A B:Prop} [Decidable c] (hc:c) (h:B):if (!decide c)=true then A else B:=by
 rw[decide_eq_true hc];exact zf6 h
noncomputable def zai (H H':Hp):Prop:=∀ b o,H b=some o->H' b=some o
theorem zai.refl (H:Hp):zai H H:=fun _ _ h=>h
theorem zai.trans {H H1 H2:Hp} (a:zai H H1) (b:zai H1 H2):zai H H2:=fun c o h=>b c o (a c o h)
theorem zai.free {H H':Hp} (e:zai H H') {l:Addr} (h:H' l=Option.none):H l=Option.none:=by
 cases q:H l with
 | none=>rfl
 | some o =>
  rw[e l o q] at h;cases h
theorem zai.seq {K:PySem.W.Frag}{H H':Hp}{a:Addr}{xs:List V} (e:zai H H') (h:SqL K H a xs):SqL K H' a xs:=by
 rcases h with (h | ⟨o,h⟩) | h
 ·exact .inl (.inl (e _ _ h))
 ·exact .inl (.inr ⟨o,e _ _ h⟩)
 ·exact .inr h
end L2
namespace L2
open PySem PySem.Spec PyProof.Rows
section
variable {κ : Type} [DecidableEq κ]
theorem zmG:∀ {l:List κ}{k : κ},l.Nodup->¬ k∈l->(l ++ [k]).Nodup
 | [],k,_,_=>by simp
 | a :: r,k,h,hk=>by
  obtain⟨h1,h2⟩:=jbd.mp h;show (a :: (r ++ [k])).Nodup;refine jbd.mpr ⟨fun m=>?_,zmG h2 fun m=>hk (jaj.mpr (Or.inr m))⟩;rcases jah.mp m with q | q
  ·exact h1 q
  ·exact hk (jaj.mpr (Or.inl (jad.mp q).symm))
end
end L2
namespace OF
noncomputable abbrev zag:=List (Int × Int)
noncomputable def za8:zag->Int->Int
 | [],_=>0
 | p :: r,k=>(if p.1=k then p.2 else 0)+za8 r k
structure IsForm (f:zag):Prop where
 rise:f.Pairwise (fun a b=>a.1<b.1)
 nz:∀ p∈f,p.2≠0
theorem zaq:∀ (a b:zag) (k:Int),za8 (a++b) k=za8 a k+za8 b k
 | [],b,k=>by simp[za8]
 | p :: r,b,k=>by
  have ih:=zaq r b k;simp only[jcA,za8,ih];omega
theorem zlN (a:zag) (p:Int × Int) (k:Int):za8 (a ++ [p]) k=za8 a k+(if p.1=k then p.2 else 0):=by
 rw[zaq];simp[za8]
theorem zdH:∀ (a:zag) (k:Int),za8 (a.map fun p=>(p.1,-p.2)) k = -za8 a k
 | [],_=>rfl
 | p :: r,k=>by
  simp only[jat,za8,zdH r k];split <;> omega
theorem zbF (n:Int):∀ (a:zag) (k:Int),za8 (a.map fun p=>(p.1,n * p.2)) k=n * za8 a k
 | [],k=>by simp[za8]
 | p :: r,k=>by
  simp only[jat,za8,zbF n r k,Int.mul_add];split <;> simp
theorem zdo:∀ (a:zag) (k:Int),(∀ p∈a,p.1≠k)->za8 a k=0
 | [],_,_=>rfl
 | p :: r,k,h=>by
  have h1:¬ p.1=k:=h p (by simp);simp only[za8,if_neg h1,zdo r k fun q hq=>h q (by simp[hq])];rfl
theorem zce {p:Int × Int}{r:zag} (h:∀ q∈r,p.1<q.1):za8 (p :: r) p.1=p.2:=by
 simp only[za8,if_pos];rw[zdo r p.1 fun q hq=>Int.ne_of_gt (h q hq)];omega
theorem zks:∀ {f g:zag},IsForm f->IsForm g->(∀ k,za8 f k=za8 g k)->f=g
 | [],[],_,_,_=>rfl
 | [],q :: s,_,hg,h=>by
  have h1:=jbi.mp hg.rise;have h2:=h q.1;rw[zce h1.1] at h2;exact absurd h2.symm (hg.nz q (by simp))
 | p :: r,[],hf,_,h=>by
  have h1:=jbi.mp hf.rise;have h2:=h p.1;rw[zce h1.1] at h2;exact absurd h2 (hf.nz p (by simp))
 | p :: r,q :: s,hf,hg,h=>by
  have f1:=jbi.mp hf.rise;have g1:=jbi.mp hg.rise;have hpq:p.1=q.1:=by
   rcases Int.lt_trichotomy p.1 q.1 with hl | he | hl
   ·have h2:=h p.1;rw[zce f1.1,zdo (q :: s) p.1 (fun z hz=>by
     rcases jaj.mp hz with e | hz
     ·rw[e];omega
     ·have:=g1.1 z hz;omega)] at h2
    exact absurd h2 (hf.nz p (by simp))
   ·exact he
   ·have h2:=h q.1;rw[zce g1.1,zdo (p :: r) q.1 (fun z hz=>by
     rcases jaj.mp hz with e | hz
     ·rw[e];omega
     ·have:=f1.1 z hz;omega)] at h2
    exact absurd h2.symm (hg.nz q (by simp))
  have hv:p.2=q.2:=by
   have h2:=h p.1;rw[zce f1.1,hpq,zce g1.1] at h2;exact h2
  have e:p=q:=Prod.ext hpq hv;subst e;have ih:=zks (f:=r) (g:=s) ⟨f1.2,fun z hz=>hf.nz z (by simp[hz])⟩ ⟨g1.2,fun z hz=>hg.nz z (by simp[hz])⟩ fun k=>by
   have h2:=h k;simp only[za8] at h2;omega
  rw[ih]
noncomputable def look:zag->Int->Option Int
 | [],_=>none
 | p :: r,k=>if p.1=k then some p.2 else look r k
noncomputable def zeU (d:zag) (k:Int):Int:=(look d k).getD 0
noncomputable def zj5 (d:zag) (k v:Int):zag:=if (d.any fun p=>decide (p.1=k))=true then d.map (fun p=>if p.1=k then (p.1,v) else p) else d ++ [(k,v)]
theorem zey (k:Int):∀ d:zag,(d.any fun p=>decide (p.1=k))=(look d k).isSome
 | []=>rfl
 | p :: r=>by
  rw[jbK,look];by_cases e:p.1=k
  ·simp[e]
  ·simp[e,zey k r]
theorem zjY (k j v:Int):∀ d:zag,look (d.map fun p=>if p.1=k then (p.1,v) else p) j=(look d j).map fun x=>if j=k then v else x
 | []=>rfl
 | p :: r=>by
  have ih:=zjY k j v r;rw[jat];by_cases h:p.1=k
  ·rw[if_pos h];by_cases e:p.1=j
   ·simp[look,e,show j=k from e.symm.trans h]
   ·simp[look,e,ih]
  ·rw[if_neg h];by_cases e:p.1=j
   ·simp[look,e,show ¬ j=k from fun z=>h (e.trans z)]
   ·simp[look,e,ih]
theorem ziI (k j v:Int):∀ d:zag,look d k=none->look (d ++ [(k,v)]) j=if j=k then some v else look d j
 | [],_=>by
  by_cases e:k=j
  ·simp[look,e]
  ·simp[look,e,show ¬ j=k from fun z=>e z.symm]
 | p :: r,hn=>by
  have hk:¬ p.1=k:=fun z=>by simp[look,z] at hn
  have hn':look r k=none:=by simpa [look,hk] using hn
  have ih:=ziI k j v r hn';rw[jcA];by_cases e:p.1=j
  ·simp[look,e,show ¬ j=k from fun z=>hk (e.trans z)]
  ·simp[look,e,ih]
theorem znV (d:zag) (k j v:Int):look (zj5 d k v) j=if j=k then some v else look d j:=by
 unfold zj5;by_cases a:(d.any fun p=>decide (p.1=k))=true
 ·rw[if_pos a,zjY];rw[zey] at a;by_cases e:j=k
  ·obtain⟨x,hx⟩:=jc6.mp a;rw[e,hx];simp
  ·rw[if_neg e];cases look d j <;> simp[e]
 ·rw[if_neg a];refine ziI k j v d ?_;rw[zey] at a;cases q:look d k with
  | none=>rfl
  | some x=>rw[q] at a;exact (a rfl).elim
theorem zk5 (d:zag) (k v:Int):(zj5 d k v).length<=d.length+1:=by
 unfold zj5;split
 ·rw[jaa];omega
 ·simp
theorem zfw {d:zag}{k:Int}:look d k≠none↔k∈d.map (·.1):=by
 induction d with
 | nil=>simp[look]
 | cons p r ih =>
  rw[jat,jaj,look];by_cases e:p.1=k
  ·simp[e]
  ·have e':¬ k=p.1:=fun z=>e z.symm
   simp only[if_neg e];rw[ih];simp[e']
theorem zfE (d:zag) (k v:Int):(zj5 d k v).map (·.1)=if (look d k).isSome then d.map (·.1) else d.map (·.1) ++ [k]:=by
 unfold zj5;rw[zey];by_cases a:(look d k).isSome=true
 ·rw[if_pos a,if_pos a,ja3];congr 1
  funext p
  simp only[Function.comp];split <;> rfl
 ·rw[if_neg a,if_neg a,jac];rfl
theorem zmh {d:zag} (k v:Int) (h:(d.map (·.1)).Nodup):((zj5 d k v).map (·.1)).Nodup:=by
 rw[zfE];by_cases a:(look d k).isSome=true
 ·rw[if_pos a];exact h
 ·rw[if_neg a];have hk:¬ k∈d.map (·.1):=fun m=>a (by
   have:=zfw.mpr m
   cases q:look d k with
   | none=>exact (this q).elim
   | some x=>rfl)
  exact List.nodup_append.mpr ⟨h,by simp,fun a ha b hb=>by
   have:b=k:=by simpa using hb
   subst this;intro e;subst e;exact hk ha⟩
theorem zno (d:zag) (k j v:Int):zeU (zj5 d k v) j=if j=k then v else zeU d j:=by
 unfold zeU;rw[znV];split <;> rfl
structure DictOf (d l:zag):Prop where
 nd:(d.map (·.1)).Nodup
 len:d.length<=l.length
 val:∀ k,zeU d k=za8 l k
 src:∀ k∈d.map (·.1),k∈l.map (·.1)
theorem zfc:DictOf [] []:=⟨jds,jag _,fun _=>rfl,fun _ h=>h⟩
theorem DictOf.snoc {d l:zag} (h:DictOf d l) (p:Int × Int):DictOf (zj5 d p.1 (zeU d p.1+p.2)) (l ++ [p]):=by
 refine⟨zmh _ _ h.nd,?_,fun k=>?_,fun k hk=>?_⟩
 ·have:=zk5 d p.1 (zeU d p.1+p.2);have:=h.len;simp;omega
 ·rw[zno,zlN,<- h.val];by_cases e:k=p.1
  ·subst e;simp
  ·simp[e,show ¬ p.1=k from fun z=>e z.symm]
 ·rw[zfE] at hk;rw[jac,jah];split at hk
  ·exact .inl (h.src k hk)
  ·rcases jah.mp hk with hk | hk
   ·exact .inl (h.src k hk)
   ·exact .inr (by simpa using hk)
noncomputable def za6 (d:zag) (ks:List Int):zag:=(ks.filter fun k=>decide (zeU d k≠0)).map fun k=>(k,zeU d k)
theorem zfT (d:zag):∀ (ks:List Int),ks.Nodup->∀ k,za8 (za6 d ks) k=if k∈ks then zeU d k else 0
 | [],_,k=>by simp[za6,za8]
 | a :: r,hn,k=>by
  have h1:=jbd.mp hn;have ih:=zfT d r h1.2 k;have e0:za6 d (a :: r)=if zeU d a≠0 then (a,zeU d a) :: za6 d r else za6 d r:=by
   unfold za6;rw[jb5];by_cases e:zeU d a=0 <;> simp[e]
  rw[e0];by_cases e:a=k
  ·subst e;have:¬ a∈r:=h1.1;by_cases z:zeU d a=0
   ·simp[z,ih,this]
   ·simp[z,za8,ih,this]
  ·have e':¬ k=a:=fun z=>e z.symm
   by_cases z:zeU d a=0
   ·simp[z,ih,e']
   ·simp[z,za8,ih,e,e']
theorem zhv (d:zag) {ks:List Int} (h:ks.Pairwise (· < ·)):IsForm (za6 d ks):=by
 refine⟨?_,fun p hp=>?_⟩
 ·unfold za6;rw[jcr];exact (h.filter _)
 ·unfold za6 at hp;obtain⟨k,hk,e⟩:=jau.mp hp;subst e;simpa using (ja8.mp hk).2
theorem zdW:∀ {ks:List Int},ks.Pairwise (· <= ·)->ks.Nodup->ks.Pairwise (· < ·)
 | [],_,_=>.nil
 | a :: r,h,n=>by
  have h1:=jbi.mp h;have n1:=jbd.mp n;refine .cons (fun b hb=>?_) (zdW h1.2 n1.2)
  have:=h1.1 b hb
  have:a≠b:=fun e=>n1.1 (e ▸ hb)
  omega
structure zax (f l:zag):Prop extends IsForm f where
 val:∀ k,za8 f k=za8 l k
 src:∀ p∈f,p.1∈l.map (·.1)
theorem zgE {d l:zag}{ks:List Int} (h:DictOf d l) (hp:ks.Perm (d.map (·.1))) (hs:ks.Pairwise (· <= ·)):zax (za6 d ks) l:=by
 have nd:ks.Nodup:=hp.nodup_iff.mpr h.nd;refine⟨zhv d (zdW hs nd),fun k=>?_,fun p hq=>?_⟩
 ·rw[zfT d ks nd,<- h.val];split
  ·rfl
  ·rename_i hk;unfold zeU
   have:look d k=none:=by
    cases q:look d k with
    | none=>rfl
    | some x=>exact (hk (hp.mem_iff.mpr (zfw.mp (by rw[q];simp)))).elim
   rw[this];rfl
 ·unfold za6 at hq;obtain⟨k,hk,e⟩:=jau.mp hq;subst e;exact h.src k (hp.mem_iff.mp (ja8.mp hk).1)
theorem zax.unique {f g l m:zag} (a:zax f l) (b:zax g m) (h:∀ k,za8 l k=za8 m k):f=g :=
 zks a.toIsForm b.toIsForm fun k=>by rw[a.val,b.val,h]
theorem zax.self {f:zag} (h:IsForm f):zax f f:=⟨h,fun _=>rfl,fun p hp=>jau.mpr ⟨p,hp,rfl⟩⟩
theorem zbN (d:zag) (ks:List Int):(za6 d ks).length<=ks.length:=by
 unfold za6;rw[jaa];exact ja0 _ _
end OF
namespace L2
open PySem PySem.Spec PyProof.Rows
section
variable {X:Cx}
noncomputable def ztt (i j:Int):Prop:=0<j/\j.natAbs.log2<9000
theorem zbj:OpR X (binaryOp .FloorDiv) (rI ztt fun i j=>.int (i / j)):=opI fun i j _ _ _ _ _ hc q=>by
 have h1:(0:Int)<j:=hc.1;have e:i.fdiv j=i / j:=Int.fdiv_eq_ediv_of_nonneg i (Int.le_of_lt h1);exact floordiv_int (Int.ne_of_gt h1) (by rw[e];exact q) (.inl (PyProof.noPylong_of_log2 hc.2))
theorem zbi:OpR X (binaryOp .Mult) (rI IntMulOk fun i j=>.int (i * j)):=opI fun _ _ _ _ _ _ _ hc q=>mul_int q hc
theorem zbT {j:Int} (h1:0<j) (h2:j<2^250):0<j/\j.natAbs.log2<9000:=by
 refine⟨h1,?_⟩;have h3:j.natAbs<2^250:=by
  have e:(j.natAbs:Int)=j:=by omega
  have:((j.natAbs:Nat):Int)<((2^250:Nat):Int):=by rw[e]; (have q:((2^250:Nat):Int)=(2:Int)^250:=by norm_cast);rw[q];exact h2
  exact Int.ofNat_lt.mp this
 have h4:j.natAbs≠0:=by omega
 have:=(jdv h4).mpr h3
 omega
theorem zmM (hc:X.calm=true):zet X (.builtin "sum") (fun xs H Q=>∃ (a:Addr) (ns:List Int),xs=[.ref a]/\SqL X.K H a (ns.map V.int)/\Q (.int ns.sum) H):=by
 intro pins s σ H xs us Q I r h;obtain⟨a,ns,rfl,hq,q⟩:=h;obtain⟨u,rfl,ru⟩:=zeX r;cases (show u=Value.ref a from ru);obtain⟨its,rv,p,hz⟩:=I.list hq;have hi:=ze3 rv;obtain⟨zs,hzs⟩:=hi.allInts.items;have hs:(PySem.numsOf its.toArray.toList).sum=ns.sum:=by rw[show its.toArray.toList=its from rfl,hi.numsOf]
 rw[hzs,PySem.nums_intItems] at hs;refine sum_intListG (I.ok.hd hc) (hzs ▸ p.isList) fun h' tk t' hk=>?_
 refine⟨.int ns.sum,H,I.kept (t':=tk) hk,⟨t',?_⟩,q⟩;rw[preSum_eq,ja2 (by simp),hs]
noncomputable def zpr:V->List V->Hp->VK->Prop:=fun x vs H Q=>∃ l xs k y,x = .ref l/\vs=[.int (k:Nat),y]/\H l=some (.lst xs)/\k<=xs.length/\xs.length<sizeLine/\Q .non (upd H l (.lst (xs.take k++y :: xs.drop k)))
theorem ziS:MtM X "list.insert" zpr:=by
 intro pins s σ H x vs v us Q I rx rv h;obtain⟨l,xs,k,y,rfl,rfl,hH,hk,hz,q⟩:=h;cases rx;obtain⟨u,w',rfl,ru,rw'⟩:=rv.two;obtain⟨t,rfl⟩:=ru;obtain⟨z,its,n,r,hl,e⟩:=I.lstM hH;have hlen:=r.length;have hc0:¬ (!Builtin.List.listFitsIndex (k:Int))=true:=by
  have h1:(k:Int)<2^63:=by
   have:=zfk
   have:k<2^63:=by omega
   exact_mod_cast this
  have h0:(0:Int)<=(k:Int):=jaM _;simp[Builtin.List.listFitsIndex];omega
 have hsz:its.toArray.size<=sizeLine:=by rw[jai];omega
 obtain⟨x,hx⟩:∃ x:Int,x=(k:Int):=⟨_,rfl⟩;rw[<- hx] at hc0 ⊢;have M:=AutoSeq1.list_insert_list_int_val_1 l its.toArray n x t w' hc0 hsz;refine call_meets F.slot_list_insert ⟨_,e,rfl⟩ F.entry_list_insert (F.args_list_insert_3 _ _ _) M ⟨e,?_⟩;refine⟨.non,_,I.lset (its':=its.take k++w' :: its.drop k) hH e ?_ (zba.append (r.take k) (.cons rw' (r.drop k))) ?_,rfl,q⟩
 ·have h1:¬ (x<0):=by omega
  have h2:min x.toNat its.toArray.size=k:=by rw[jai];omega
  apply Array.ext';simp only[if_neg h1,h2];simp[List.extract_eq_take_drop];rw[ja2 (by rw[jbc];exact jag _)]
 ·rw[jab,jae,jaJ,jbc];omega
end
end L2
namespace L2
open PySem PySem.Spec PyProof.Rows
theorem zbJ.there {P:Program}{w:World}{H:Hp}{h:Heap}{a:Addr}{o:HO} (x:zbJ P w H h a o):∃ ob,h.get? a=some ob:=by
 cases o with
 | lst xs=>obtain⟨_,_,_,_,e⟩:=x;exact⟨_,e⟩
 | tup xs=>obtain⟨_,_,_,o,e,_⟩:=x;exact⟨_,e⟩
 | dK kvs=>obtain⟨_,_,_,_,o,_,_,e,_⟩:=x;exact⟨_,e⟩
 | dT kvs=>obtain⟨_,_,_,_,o,_,_,e,_⟩:=x;exact⟨_,e⟩
 | set S n=>obtain⟨o,_,_,_,e,_⟩:=x;exact⟨_,e⟩
 | ins C dx fs=>obtain⟨_,_,_,e,_⟩:=x;exact⟨_,e⟩
 | own y=>exact x
 | xd fs=>obtain⟨_,⟨_,_,_,e,_⟩,_⟩:=x;exact⟨_,e⟩
 | rng lo hi=>obtain⟨_,_,_,e⟩:=x;exact⟨_,e⟩
 | frz ob u=>obtain⟨e,_⟩:=x;exact⟨_,e⟩
 | tbl ps=>exact⟨_,x⟩
 | met f y=>exact⟨_,x⟩
 | ext φ => obtain⟨_,e,_⟩:=x;exact e
theorem Inv.laidN {X:Cx}{pins:List (Addr × Obj)} {σ:St}{H:Hp}{s:Shared}{h':Heap}{a:Addr}{o:HO}{t':Nat} (I:Inv X pins σ H s) (k:∀ b u,s.heap.get? b=some u->h'.get? b=some u) (hn:s.heap.get? a=none)
  (new:zbJ X.prog X.w (upd H a o) h' a o):Inv X pins σ (upd H a o) { s with heap:=h',toks:=t' }:=by
 have hH:H a=none:=by
  cases q:H a with
  | none=>rfl
  | some u =>
   obtain⟨ob,e⟩:=(I.hok a u q).there;rw[hn] at e;cases e
 refine I.un ⟨fun b u q _ _ _=>k b u q,fun b u q _ _ _=>⟨u.slots,k b u q⟩,fun b u q n _=>?_,fun b u q _=>⟨u,k b u q⟩,fun b xs q=>?_,fun b u xs q=>?_,fun b ps q=>⟨#[],?_⟩⟩ fun b u e=>?_
 ·rw[zan (by intro z;rw[z,hn] at q;cases q)];exact n
 ·rw[zan (zat q hH)];exact q
 ·rw[zan (zat q hH)];exact q
 ·rw[zan (zat q hH),q];simp
 ·by_cases hb:b=a
  ·subst hb;rw[zac] at e;cases e;exact new
  ·rw[zan hb] at e;exact (I.hok b u e).stay (fun c v _ q=>k c v q) (fun c q=>by rw[zan (zat q hH)];exact q) fun c xs q=>by rw[zan (zat q hH)];exact q
theorem zb9 {env:Env}:∀ (names:List (Str × NameKind)) (acc:List (Str × Addr)),(∀ x,(x,NameKind.free)∈names->∃ c,env.cells.lookup x=some c) ->
  ∃ cl,(forIn names acc fun (x:Str × NameKind) (cs:List (Str × Addr))=>(if (x.2 == NameKind.free)=true then (do let a <- cellOf env x.1;pure (ForInStep.yield ((x.1,a) :: cs))) else pure (ForInStep.yield cs):Sem (ForInStep (List (Str × Addr)))))=pure cl /\
   ∀ x,cl.lookup x=(if (x,NameKind.free)∈names then env.cells.lookup x else acc.lookup x)
 | [],acc,_=>⟨acc,rfl,fun x=>by simp⟩
 | (n,k) :: r,acc,h=>by
  by_cases hk:k=NameKind.free
  ·subst hk;obtain⟨c,hc⟩:=h n (by simp);obtain⟨cl,e,l⟩:=zb9 (env:=env) r ((n,c) :: acc) fun x hx=>h x (by simp[hx])
   refine⟨cl,?_,fun x=>?_⟩
   ·rw[jcQ];have hcell:cellOf env n=pure c:=by unfold cellOf;rw[hc]
    simp only[beq_self_eq_true,if_true,hcell,pure_bind];exact e
   ·rw[l x];by_cases hx:(x,NameKind.free)∈r
    ·simp[hx]
    ·by_cases hn:x=n
     ·subst hn;simp[hx,hc]
     ·have hb:(x == n)=false:=by simpa using hn
      simp[hx,hn,jbM,hb]
  ·have hb:(k == NameKind.free)=false:=by simpa using hk
   obtain⟨cl,e,l⟩:=zb9 (env:=env) r acc fun x hx=>h x (by simp[hx])
   refine⟨cl,?_,fun x=>?_⟩
   ·rw[jcQ];simp only[hb,jcf,if_false,pure_bind];exact e
   ·rw[l x];have:¬ ((x,NameKind.free)=(n,k)):=fun z=>hk (by injection z with _ z2;exact z2.symm)
    simp[jaj,this]
theorem zcA (env:Env) (x:Str):∀ (names:List (Str × NameKind)),(names.map fun (n,k)=>if (k == NameKind.free && env.scope.kind == .function && env.kindOf n == some .cell) then (n,NameKind.cell) else (n,k)).lookup x =
  (names.lookup x).map fun k=>if (k == NameKind.free && env.scope.kind == .function && env.kindOf x == some .cell) then NameKind.cell else k
 | []=>rfl
 | (n,k) :: r=>by
  have ih:=zcA env x r;show List.lookup x ((if (k == NameKind.free && env.scope.kind == .function && env.kindOf n == some .cell)=true then (n,NameKind.cell) else (n,k)) :: _)=_;by_cases hx:x=n
  ·subst hx;split <;> simp_all [jbM]
  ·have hb:(x == n)=false:=by simpa using hx
   split
   ·simp only[jbM,hb];exact ih
   ·simp only[jbM,hb];exact ih
noncomputable abbrev zb1 (X:Cx) (N':List Str) (scope:Scope) (cl:List (Str × Addr)) (C:Addr) (s₀:Shared) (H₀:Hp) (fp:List Addr):Cx :=
 { X with N:=N',s₀:=s₀,H₀:=H₀,env:=compEnvC scope cl C X.env,outer:=X.stack,ex:=fp,fn:=fun _=>false,pn:=[],xe:=fun _ _=>False }
structure zgs (X:Cx) (scope:Scope) (N':List Str) (nT:Nat) (js:List Nat):Prop where
 kind:scope.kind = .function
 nocell:∀ y∈scope.names,y.2 ≠ .cell
 names:∀ y∈scope.names,y.2 = .local->scope.names.lookup y.1=some .local
 len:N'.length=nT+js.length
 frees:∀ (k j:Nat) (x:Str),js[k]? = some j->N'[nT+k]? = some x->X.N[j]? = some x
 kinds:∀ y∈scope.names,y.2 = .free->X.env.scope.names.lookup y.1=some .cell
 vis:∀ x∈N'.drop nT,scope.names.lookup x=some .free
noncomputable def zgQ (nT:Nat) (js:List Nat) (σ:St):St:=List.replicate nT none++js.map fun j=>(σ[j]?).join
noncomputable def zsy (wi:TI) (nT:Nat) (js:List Nat) (g:TG) (tc:TT) (te:TE):TE:=fun σ H Q=>wi σ H fun J H1=>∃ W:Nat->Nat->List V->St->Hp->Prop,(∃ m,W 0 m [] (zgQ nT js σ) H1)/\∀ i m ys σ H,W i m ys σ H ->
 (J.stop i H/\∀ D,H D=none->Q (.ref D) (upd H D (.lst ys))) \/
 (J.go i H/\ys.length<sizeLine/\∃ N:List V->St->Hp->Prop,(∀ ys' σ' H',N ys' σ' H'->∃ m',m'<m/\W (i+1) m' ys' σ' H') /\
  ∀ x H',J.yld i H x H'->g x σ H' fun σ2 H2=>tc σ2 H2 fun b H3=>if b=true then te σ2 H3 fun y H4=>N (ys ++ [y]) σ2 H4 else N ys σ2 H3)
noncomputable def PTs (X:Cx) (ifs:List Expr) (t:TT):Prop :=
 ∀ (pins:List (Addr × Obj)) (s:Shared) (σ:St) (H:Hp) (Q:Bool->Hp->Prop),Inv X pins σ H s->t σ H Q ->
  wpAny (model X.prog X.w) X.A (forIn ifs true fun c r=>if r=true then do let ok <- isTrue c X.env (eval c X.env);pure (ForInStep.yield ok) else pure (ForInStep.yield r)) (TP X pins σ Q) X.xe s
noncomputable def zpU:TT:=fun _ H Q=>Q true H
theorem zbW {X:Cx}:PTs X [] zpU:=fun _ _ _ H _ I h=>wpAny_tests_nil ⟨H,I,h⟩
theorem zck {X:Cx}{c:Expr}{t:TT} (h:PT X c t):PTs X [c] t:=fun pins s σ H Q I q=>wpAny_tests_one (h pins s σ H Q I q)
section
variable {prog:Program}{w:World}{A:Around}{R:Result->Shared->Prop}{s:Shared}
theorem zis {elt target iter:Expr}{ifs:List Expr}{scope:Scope}{pos:Pos}{it acc:Value}{env:Env} (I:Nat->Shared->Prop)
  (turn:∀ n s,I n s->wpAny (model prog w) A (pyNext it) (fun r s₁=>match r with
   | none=>R (.ok .next) s₁
   | some v=>wpAny (model prog w) A (letOwnedTupleGo target it v) (fun _ s₁'=>wpAny (model prog w) A (assign target env v) (fun _ s₂ =>
     wpAny (model prog w) A (forIn ifs true fun c r=>if r=true then do let ok <- isTrue c env (eval c env);pure (ForInStep.yield ok) else pure (ForInStep.yield r)) (fun ok s₃ =>
      if ok=true then wpAny (model prog w) A (eval elt env) (fun x s₄ =>
       wpAny (model prog w) A (call (.builtin "list.append") [acc,x]) (fun _ s₅=>∃ m,m<n/\I m s₅) (fun _ _=>False) s₄) (fun _ _=>False) s₃
      else ∃ m,m<n/\I m s₃) (fun _ _=>False) s₂) (fun _ _=>False) s₁') (fun _ _=>False) s₁) (fun _ _=>False) s)
  (n:Nat) (h:I n s) :
  codeAny (model prog w) A (.compLoop (.ListComp elt [⟨target,iter,ifs,0⟩] scope pos) 0 it acc env) R s:=by
 refine codeAny_loop rfl I (fun n s hI=>?_) n h;show wpAny _ A ((compTurn (.ListComp elt [⟨target,iter,ifs,0⟩] scope pos) 0 it acc env).onRaise (fun x=>do noteFrame x env;theTreesLotGoes x)) _ _ s;refine wpAny_noted ?_;rw[compTurn_list];refine wpAny_bind (wpAny_standAt (wpAny_bind (wpAny_mono (turn n s hI) (fun r s₁ h₁=>?_) fun _ _ h'=>h'.elim)));cases r with
 | none=>exact wpAny_pure h₁
 | some v =>
  refine wpAny_bind (wpAny_mono h₁ (fun _ s₁' h₁'=>?_) fun _ _ h'=>h'.elim);refine wpAny_bind (wpAny_mono h₁' (fun _ s₂ h₂=>wpAny_bind (wpAny_mono h₂ (fun ok s₃ h₃=>?_) fun _ _ h'=>h'.elim)) fun _ _ h'=>h'.elim);cases ok with
  | false=>exact wpAny_pure ⟨rfl,h₃⟩
  | true =>
   exact wpAny_bind (wpAny_bind (wpAny_mono h₃ (fun x s₄ h₄=>wpAny_bind (wpAny_mono h₄ (fun _ s₅ h₅=>wpAny_pure (wpAny_pure ⟨rfl,h₅⟩)) fun _ _ h'=>h'.elim)) fun _ _ h'=>h'.elim))
end
set_option maxHeartbeats 4000000 in
theorem ziv {X:Cx}{tg iter elt:Expr}{ifs:List Expr}{scope:Scope}{pos:Pos}{N':List Str}{nT:Nat}{js:List Nat}{g:TG}{tc:TT}{te:TE}{RR:Value->Addr->Result->Shared->Prop}
  (hc:X.calm=true) (S:zgs X scope N' nT js) {pins:List (Addr × Obj)} {σ:St}{H2:Hp}{s2:Shared}{cl:List (Str × Addr)}{it:Addr}{fp:List Addr}{tn:Nat->Heap->Prop}{J:It}
  (hcl:∀ x,cl.lookup x=(if (x,NameKind.free)∈scope.names then X.env.cells.lookup x else none))
  (hg:∀ C s₀ H₀ fp,PG (zb1 X N' scope cl C s₀ H₀ fp) tg g) (ht:∀ C s₀ H₀ fp,PTs (zb1 X N' scope cl C s₀ H₀ fp) ifs tc) (he:∀ C s₀ H₀ fp,PE (zb1 X N' scope cl C s₀ H₀ fp) elt te)
  (I2:Inv X pins σ H2 s2) (T:znc X.prog X.w X.K tg J fp it tn) (st2:tn 0 s2.heap) (f2:∀ b∈fp,zi0 X pins H2 b) {QQ:Addr->List V->Hp->Prop}
  (W:Nat->Nat->List V->St->Hp->Prop) (w0:∃ m,W 0 m [] (zgQ nT js σ) H2)
  (turn:∀ i m ys σ H,W i m ys σ H->(J.stop i H/\∀ D,H D=none->QQ D ys H) \/
   (J.go i H/\ys.length<sizeLine/\∃ N:List V->St->Hp->Prop,(∀ ys' σ' H',N ys' σ' H'->∃ m',m'<m/\W (i+1) m' ys' σ' H') /\
    ∀ x H',J.yld i H x H'->g x σ H' fun σ2 H2=>tc σ2 H2 fun b H3=>if b=true then te σ2 H3 fun y H4=>N (ys ++ [y]) σ2 H4 else N ys σ2 H3))
  (hRR:∀ (D C:Addr) (s':Shared) (ys:List V) (H':Hp) (m:Str->Option Value),QQ D ys H'->s'.heap.Ns C m->s2.heap.get? C=none->s2.heap.objs.size<=C->D≠C->H' C=none->(∀ h',Heap.SameBut C s'.heap h'->Inv X pins σ (upd H' D (.lst ys)) { s' with heap:=h' })->RR (.ref D) C (.ok .next) s') :
  wpAny (model X.prog X.w) X.A (newList []) (fun acc s₃=>wpAny (model X.prog X.w) X.A (newFunctionEnv scope X.env.globals cl [] X.env.qual none .none (some X.env)) (fun cenv s₄ =>
   codeAny (model X.prog X.w) X.A (.compStart (.ListComp elt [⟨tg,iter,ifs,0⟩] scope pos) 0 (.ref it) acc { cenv with scope:=relabel scope X.env }) (RR acc cenv.locals) s₄) (fun _ _=>False) s₃) (fun _ _=>False) s2:=by
 refine wpAny_newObj_type (wpAny_newFunctionEnv S.nocell (by intro y hy;simp at hy) (fun h₁ hns₁ hsb₁=>?_) S.kind);dsimp only at hns₁ hsb₁ ⊢;generalize hH2:s2.heap.push { cls := .type "list",dict:=none,data := .seq ([]:List Value).toArray }=G2 at hns₁ hsb₁ ⊢;have hC:G2.objs.size=s2.heap.objs.size+1:=by rw[<- hH2,jbO]
 generalize hCC:G2.objs.size=C at hns₁ hsb₁ hC ⊢;generalize hDD:s2.heap.objs.size=D at hC ⊢;have hDC:D≠C:=by omega
 have below:∀ b o,s2.heap.get? b=some o->b≠C/\b≠D:=fun b o e=>by
  have h:@LT.lt Nat _ b s2.heap.objs.size:=jan e;exact⟨fun z=>by have z':@Eq Nat b C:=z;omega,fun z=>by have z':@Eq Nat b D:=z;omega⟩
 have old:∀ b o,s2.heap.get? b=some o->h₁.get? b=some o:=fun b o e=>hsb₁.extBut b o (below b o e).1 (jal _ (hH2 ▸ jal _ e))
 have hacc:h₁.get? D=some { cls := .type "list",data := .seq ([]:List Value).toArray }:=hsb₁.extBut _ _ hDC (jal _ (by rw[<- hH2,<- hDD];exact jav _ rfl));have nC:s2.heap.get? C=none:=jcE (by omega);have nD:s2.heap.get? D=none:=jcE (by omega);have fC:H2 C=none:=I2.hok.fresh (by omega);have fD:H2 D=none:=I2.hok.fresh (by omega);have fpl:∀ b∈fp,b≠C/\b≠D:=fun b hb=>by obtain⟨o,e,_⟩:=T.obj _ _ st2 b hb;exact below b o e
 have nstk:∀ b∈fp,b ∉ frs X.stack:=fun b hb z=>by
  obtain⟨_,f1,f3,_⟩:=f2 b hb;rcases jaj.mp (I2.stkSub b z) with e | e
  ·exact f1 e
  ·exact f3 e
 have clO:∀ x c,cl.lookup x=some c->X.env.cells.lookup x=some c/\(x,NameKind.free)∈scope.names:=fun x c e=>by
  rw[hcl] at e;split at e
  ·rename_i hm;exact⟨e,hm⟩
  ·cases e
 have stkD:∀ b∈frs X.stack,b≠D/\b≠C:=fun b hb=>by
  have h:=I2.stkSub b hb;rcases jaj.mp h with e | e
  ·have h1:@LT.lt Nat _ X.env.locals s2.heap.objs.size:=I2.lt;have h2:@Eq Nat b X.env.locals:=e;exact⟨fun z=>by have z':@Eq Nat b D:=z;omega,fun z=>by have z':@Eq Nat b C:=z;omega⟩
  ·obtain⟨_,o,ho,_⟩:=I2.ok.funs.mem e;have h1:@LT.lt Nat _ b X.s₀.heap.objs.size:=jan ho;have h2:=I2.sz;exact⟨fun z=>by have z':@Eq Nat b D:=z;omega,fun z=>by have z':@Eq Nat b C:=z;omega⟩
 have ok':(zb1 X N' scope cl C s2 H2 fp).Ok:=by
  refine⟨I2.ok.mod,S.kind,I2.ok.glob,I2.ok.blt,(by show s2.heap.objs.size<=C;omega),fun x y c h1 h2=>I2.ok.inj x y c (clO x c h1).1 (clO y c h2).1,fun x hx=>?_,fun x c hx _=>(jay hx).elim,fun _=>I2.ok.hd hc,I2.ok.frames,.inl rfl,
   fun b hb=>⟨(fpl b hb).1,fun x c e=>(f2 b hb).2.2.2.2.1 x c (clO x c e).1⟩,I2.bs,jak I2.ok.bsz I2.sz,fun b o e hb=>?_,nstk,I2.stack,I2.stkFree⟩
  ·have hx':(relabel scope X.env).names.lookup x=some .cell\/(relabel scope X.env).names.lookup x=some .free:=hx;have hk:(relabel scope X.env).names.lookup x=_:=zcA X.env x scope.names;rw[hk] at hx';have hf:(x,NameKind.free)∈scope.names:=by
    cases q:scope.names.lookup x with
    | none=>rw[q] at hx';rcases hx' with z | z <;> cases z
    | some k =>
     have hm:=jbm q;cases k with
     | free=>exact hm
     | cell=>exact absurd rfl (S.nocell _ hm)
     | _=>rw[q] at hx';rcases hx' with z | z <;> simp at z
   obtain⟨c,e⟩:=I2.ok.has x (.inl (S.kinds _ hf rfl));exact⟨c,by show cl.lookup x=some c;rw[hcl,if_pos hf];exact e⟩
  ·rcases (f2 b hb).2.2.2.1 with z | z
   ·exact I2.ok.noex b o e z
   ·have h1:@LT.lt Nat _ b X.s₀.heap.objs.size:=jan (I2.ok.bs b o e).1;have h2:@LE.le Nat _ X.s₀.heap.objs.size b:=z;omega
 have I0:Inv (zb1 X N' scope cl C s2 H2 fp) [] (zgQ nT js σ) H2 { s2 with heap:=h₁,toks:=s2.toks+([]:List (Str × Value)).length }:=by
  refine⟨ok',rfl,I2.bare,Un.kept old,⟨_,hns₁,fun i x v e1 e2 e3=>?_⟩,fun x c e=>?_,fC,fun x c e=>I2.freeC x c (clO x c e).1,fun p hp=>absurd (show p∈([]:List (Addr × Obj)) from hp) (by simp),I2.hok.kept old,?_⟩
  ·unfold zgQ at e2;by_cases hi:i<nT
   ·rw[jc0 (by simpa using hi),jdc,if_pos hi] at e2;cases e2
   ·rw[jcS (by simpa using hi),jbX,jaC] at e2;obtain⟨k,hk⟩:∃ k,i=nT+k:=⟨i-nT,by omega⟩;subst hk;rw[jde] at e2;cases q:js[k]? with
    | none=>rw[q] at e2;cases e2
    | some j =>
     rw[q] at e2;have e2':(σ[j]?).join=some v:=jaD e2;have e3' : σ[j]? = some (some v):=by
      cases z : σ[j]? with
      | none=>rw[z] at e2';cases e2'
      | some a=>rw[z] at e2';exact congrArg some e2'
     have hxN:=S.frees k j x q e1;have hlk:scope.names.lookup x=some .free:=S.vis x (by
      rw[List.mem_iff_getElem?];exact⟨k,by rw[List.getElem?_drop];exact e1⟩)
     have hfree:(x,NameKind.free)∈scope.names:=jbm hlk;have hcell:=S.kinds _ hfree rfl;obtain⟨m,hn,hl⟩:=I2.loc;obtain⟨u,r,l⟩:=hl j x v hxN e3' (.inr (.inl hcell));refine⟨u,r,?_⟩;rcases l with ⟨l,_⟩ | ⟨_,c,ec,ic⟩
     ·have l':X.env.scope.names.lookup x=some .local:=l;rw[hcell] at l';cases l'
     ·refine .inr ⟨?_,c,?_,?_⟩
      ·left;show (relabel scope X.env).names.lookup x=some .cell;have hk:(relabel scope X.env).names.lookup x=_:=zcA X.env x scope.names;have hkind:X.env.scope.kind = .function:=I2.ok.kind;have hko:X.env.kindOf x=some .cell:=hcell;rw[hk,hlk,Option.map_some,hkind,hko];rfl
      ·show cl.lookup x=some c;rw[hcl,if_pos hfree];exact ec
      ·exact ic.keeps old
  ·obtain⟨v,q⟩:=I2.cell x c (clO x c e).1;exact⟨v,q.keeps old⟩
  ·unfold zgQ;rw[jab,jbX,jaa];exact S.len.symm
 have lp:∀ s₃:Shared,s₃={ s2 with heap:=h₁,toks:=s2.toks+([]:List (Str × Value)).length } ->
   codeAny (model X.prog X.w) X.A (.compLoop (.ListComp elt [⟨tg,iter,ifs,0⟩] scope pos) 0 (.ref it) (.ref D) (compEnvC scope cl C X.env)) (RR (.ref D) C) s₃:=by
  rintro s₃ rfl;obtain⟨m0,w0⟩:=w0;refine zis (fun n s'=>∃ (i:Nat) (ys:List V) (its:List Value) (no:Nat) (σ':St) (H':Hp),Inv (zb1 X N' scope cl C s2 H2 fp) [(D,{ cls := .type "list",data := .seq its.toArray no })] σ' H' s'/\zba ys its/\tn i s'.heap/\(∀ b∈fp,H' b=none)/\ys.length<=sizeLine/\W i n ys σ' H') ?_ m0
   ⟨0,[],[],0,zgQ nT js σ,H2,I0.pins_of fun p hp=>?_,.nil,T.keep _ _ _ st2 fun b _ o e=>old b o e,fun b hb=>(f2 b hb).1,jaE _,w0⟩
  ·rintro n s3 ⟨i,ys,its,no,σ3,H3,I3,rv,st3,fr3,hz,w3⟩;have fpk:∀ {H':Hp},(∀ b∈fp,H' b=none)->∀ b∈fp,zi0 (zb1 X N' scope cl C s2 H2 fp) [(D,{ cls := .type "list",data := .seq its.toArray no })] H' b:=fun hn b hb =>
    ⟨hn b hb,(fpl b hb).1,nstk b hb,.inl hb,fun x c e=>(f2 b hb).2.2.2.2.1 x c (clO x c e).1,fun p hp=>by
     have e:p=(D,{ cls := .type "list",data := .seq its.toArray no }):=by simpa using hp
     rw[e];exact Ne.symm (fpl b hb).2⟩
   rcases turn i n ys σ3 H3 w3 with ⟨stop,q⟩ | ⟨go,hlt,N,hN,step⟩
   ·refine wpAny_mono (T.done (zb1 X N' scope cl C s2 H2 fp) rfl rfl rfl hc i _ s3 σ3 H3 (fun _ _=>False) I3 (fpk fr3) st3 stop) (fun r s4 ⟨hr,I4⟩=>?_) fun _ _ h=>h
    subst hr;obtain⟨pD1,pD2,pD3,pD4,_⟩:=I4.pin (D,{ cls := .type "list",data := .seq its.toArray no }) (by simp);obtain⟨m,hn,_⟩:=I4.loc;have fC4:H3 C=none:=I4.free;refine hRR D C s4 ys H3 m (q D pD2) hn nC (by omega) hDC fC4 fun h' sb=>?_
    have k4:∀ b o,b≠C->s4.heap.get? b=some o->h'.get? b=some o:=fun b o hb e=>sb.extBut b o hb e
    have tne:∀ b u,H3 b=some u->b≠D:=fun b u e=>zat e pD2
    refine I2.call' (s':={ s4 with heap:=h' }) (ch:=fp) I4.os ⟨fun b o e n hb hx=>k4 b o (below b o e).1 (I4.base.keep b o e n hb hx),fun b o e n hb hx=>?_,fun b o e n hx=>?_,fun b o e hx=>?_,fun b xs e=>?_,fun b o u e=>?_,fun b ps e=>?_⟩ (fun b u e=>?_) I4.bare fun b hb=>?_
    ·obtain⟨sl,e'⟩:=I4.base.slot b o e n hb hx;exact⟨sl,k4 b _ (below b o e).1 e'⟩
    ·rw[zan (below b o e).2];exact I4.base.free b o e n hx
    ·obtain⟨o',e'⟩:=I4.base.there b o e hx;exact⟨o',k4 b o' (below b o e).1 e'⟩
    ·have e':=I4.base.tups b xs e;rw[zan (tne b _ e')];exact e'
    ·have e':=I4.base.frzs b o u e;rw[zan (tne b _ e')];exact e'
    ·obtain⟨more,e'⟩:=I4.base.tbls b ps e;exact⟨more,by rw[zan (tne b _ e')];exact e'⟩
    ·by_cases hb:b=D
     ·subst hb;rw[zac] at e;cases e;exact⟨hz,its,no,rv,k4 b _ hDC pD1⟩
     ·rw[zan hb] at e;refine (I4.hok b u e).stay (fun c v hcc z=>k4 c v ?_ z) (fun c z=>by rw[zan (tne c _ z)];exact z) fun c xs z=>by rw[zan (tne c _ z)];exact z
      rcases hcc with rfl | hcc
      ·exact zat e fC4
      ·exact zat hcc fC4
    ·obtain⟨_,g1,_,g3,g4,g5⟩:=f2 b hb;exact⟨g3,g1,g4,g5⟩
   ·refine wpAny_mono (T.item (zb1 X N' scope cl C s2 H2 fp) rfl rfl rfl hc i _ s3 σ3 H3 (fun _ _=>False) I3 (fpk fr3) st3 go) (fun r s4 ⟨u,hr,h4⟩=>?_) fun _ _ h=>h
    subst hr;refine wpAny_mono h4 (fun _ s5 ⟨x,H5,I5,r5,y5,st5,fr5⟩=>?_) fun _ _ h=>h
    have I5':=I5.pinned (fpk fr5) (T.obj _ _ st5);refine wpAny_mono (hg C s2 H2 fp _ s5 σ3 H5 x u _ I5' r5 (step x H5 y5)) (fun _ s6 ⟨σ6,H6,I6,q6⟩=>?_) fun _ _ h=>h
    refine wpAny_mono (ht C s2 H2 fp _ s6 σ6 H6 _ I6 q6) (fun ok s7 ⟨H7,I7,q7⟩=>?_) fun _ _ h=>h
    have back:∀ {pp:List (Addr × Obj)}{s':Shared} {σ':St}{H':Hp},(∀ b∈fp,∀ o,s5.heap.get? b=some o->(b,o)∈pp)->Inv (zb1 X N' scope cl C s2 H2 fp) pp σ' H' s'->tn (i+1) s'.heap/\∀ b∈fp,H' b=none:=fun {pp s' σ' H'} hpp I'=>by
     refine⟨T.keep _ _ _ st5 fun b hb o e=>(I'.pin (b,o) (jaA _ (hpp b hb o e))).1,fun b hb=>?_⟩;obtain⟨o,e,d⟩:=T.obj _ _ st5 b hb;exact (I'.pin (b,o) (jaA _ (hpp b hb o e))).2.1
    have inpp:∀ b∈fp,∀ o,s5.heap.get? b=some o->(b,o)∈[(D,({ cls := .type "list",data := .seq its.toArray no }:Obj))]++zgq fp s5.heap:=fun b hb o e=>jaA _ (zcJ hb e)
    cases ok with
    | false =>
     rw[if_neg jay];rw[if_neg jay] at q7;obtain⟨m',hm,w7⟩:=hN _ _ _ q7;obtain⟨b1,b2⟩:=back inpp I7;exact⟨m',hm,i+1,ys,its,no,σ6,H7,I7.unpinned,rv,b1,b2,hz,w7⟩
    | true =>
     rw[if_pos rfl];rw[if_pos rfl] at q7;refine wpAny_mono (he C s2 H2 fp _ s7 σ6 H7 _ I7 q7) (fun v8 s8 ⟨y,H8,I8,r8,q8⟩=>?_) fun _ _ h=>h
     obtain⟨eD,nD8,neL,nf,_⟩:=I8.pin (D,{ cls := .type "list",data := .seq its.toArray no }) (jaA _ (ja4 _ (by simp)));have hlen:=rv.length;refine call_meets F.slot_list_append ⟨_,eD,rfl⟩ F.entry_list_append (F.args_list_append_2 _ _) (PySem.list_append D its.toArray no v8 (by rw[jai];omega)) ⟨eD,?_⟩;obtain⟨m',hm,w8⟩:=hN _ _ _ q8;have I9:Inv (zb1 X N' scope cl C s2 H2 fp) (zgq fp s5.heap) σ6 H8 s8:=I8.pins_of fun p hp=>I8.pin p (jaA _ (jaA _ hp))
     have hup:=get?_update_seq eD (fun a=>a.push v8);have I10:=I9.turned (h':=s8.heap.update D (Obj.mapSeq fun a=>a.push v8)) (t':=s8.toks) (it:=D) (fun b o hb e=>(Heap.get?_update_ne _ _ _ _ hb).trans e) nD8 neL (.inr (by show s2.heap.objs.size<=D;omega))
      (fun x c e z=>by
       obtain⟨v,oc,hoc,hdc⟩:=I8.cell x c e;rw[z,eD] at hoc;cases hoc;cases hdc) (fun p hp z=>by
        have hp':p∈zgq fp s5.heap:=by simpa using hp
        exact (fpl p.1 (ziR hp').1).2 z)
     obtain⟨b1,b2⟩:=back (fun b hb o e=>zcJ hb e) I10;refine⟨m',hm,i+1,ys ++ [y],its ++ [v8],(if ((its.toArray.push v8).size == its.toArray.size)=true then no else no+1),σ6,H8,I10.pins_of fun p hp=>?_,rv.append (.cons r8 .nil),b1,b2,(by rw[jab];simp;omega),w8⟩;obtain rfl:=jad.mp hp;refine⟨?_,nD8,neL,nf,fun v z=>by cases z⟩;refine hup.trans ?_;rw[List.push_toArray]
  ·have e:p=(D,{ cls := .type "list",data := .seq ([]:List Value).toArray }):=by simpa using hp
   subst e;exact⟨hacc,fD,hDC,fun z=>(stkD D z).1 rfl,fun v z=>by cases z⟩
 exact codeAny_compStart_list (lp _ rfl) (T.self _ 0 _ _ _ (T.keep _ _ _ st2 fun b _ o e=>old b o e) (lp _ rfl))
theorem zbb {X:Cx}{tg iter elt:Expr}{ifs:List Expr}{scope:Scope}{pos:Pos} (N':List Str) (nT:Nat) (js:List Nat) {wi:TI}{g:TG}{tc:TT}{te:TE}
  (hc:X.calm=true) (S:zgs X.nox scope N' nT js) (hi:PI X.nox tg iter wi)
  (hg:∀ cl C s₀ H₀ fp,PG (zb1 X.nox N' scope cl C s₀ H₀ fp) tg g) (ht:∀ cl C s₀ H₀ fp,PTs (zb1 X.nox N' scope cl C s₀ H₀ fp) ifs tc) (he:∀ cl C s₀ H₀ fp,PE (zb1 X.nox N' scope cl C s₀ H₀ fp) elt te)
  (hs:∀ x,foldedSetIterable iter X.env x=pure x:=by intro _;rfl) :
  PE X.nox (.ListComp elt [⟨tg,iter,ifs,0⟩] scope pos) (zsy wi nT js g tc te):=by
 intro pins s σ H Q I h;rw[eval_ListComp];obtain⟨cl,e,l⟩:=zb9 (env:=X.env) scope.names [] fun x hx=>I.ok.has x (.inl (S.kinds _ hx rfl))
 have hclos:closureFor scope X.env=pure cl:=by
  unfold closureFor;show (forIn scope.names [] fun (x:Str × NameKind) (cs:List (Str × Addr))=>(if (x.2 == NameKind.free)=true then (do let a <- cellOf X.env x.1;pure (ForInStep.yield ((x.1,a) :: cs))) else pure (ForInStep.yield cs):Sem (ForInStep (List (Str × Addr))))) >>= (fun s=>pure s)=pure cl;rw[e,pure_bind]
 refine wpAny_comprehension_free (cl:=cl) (use:=none) rfl hs hclos S.kind S.names ?_;refine thn (hi pins s σ H _ I h) fun v s1 h1=>thn h1 fun itv s2 h2=>?_
 obtain⟨it,fp,tn,J,H2,rfl,I2,T,st2,f2,W,w0,turn⟩:=h2;refine ziv (X:=X.nox) (QQ:=fun D ys H'=>Q (.ref D) (upd H' D (.lst ys))) (RR:=fun acc C=>compPost (model X.prog X.w) X.A (fun _ _=>False) none (EP X.nox pins σ Q) acc C) hc S (fun x=>by rw[l x];rfl) (hg cl) (ht cl) (he cl) I2 T st2 f2 W w0 turn fun D C s' ys H' m q hn nC _ _ _ fin=>?_
 exact⟨m,hn,fun h' sb=>⟨.ref D,_,fin h' sb,rfl,q⟩⟩
theorem zht {X:Cx}{tg iter elt:Expr}{ifs:List Expr}{scope:Scope}{cpos pos pos':Pos}{x:Str}{i:Nat} (N':List Str) (nT:Nat) (js:List Nat) {wi:TI}{g:TG}{tc:TT}{te:TE}
    (hN:X.nox.N.Nodup) (hix:X.nox.N[i]? = some x) (hx:Loc X.nox.env.scope x)
    (hc:X.calm=true) (S:zgs X.nox scope N' nT js) (hi:PI X.nox tg iter wi)
    (hg:∀ cl C s₀ H₀ fp,PG (zb1 X.nox N' scope cl C s₀ H₀ fp) tg g) (ht:∀ cl C s₀ H₀ fp,PTs (zb1 X.nox N' scope cl C s₀ H₀ fp) ifs tc) (he:∀ cl C s₀ H₀ fp,PE (zb1 X.nox N' scope cl C s₀ H₀ fp) elt te)
    (hs:∀ x,foldedSetIterable iter X.env x=pure x:=by intro _;rfl) (hsw:swapsWith (.ListComp elt [⟨tg,iter,ifs,0⟩] scope cpos) (some (.Name x pos')) pos.line X.env=pure true:=by rfl)
    (hf:X.nox.fn x=true\/X.nox.env.scope.names.lookup x=some .local:=by first | exact .inl rfl | exact .inr rfl | assumption) :
    PS X.nox (.Assign [.Name x pos'] (.ListComp elt [⟨tg,iter,ifs,0⟩] scope cpos) pos) (zpA (zsy wi nT js g tc te) (zaH i)):=by
  intro pins s σ H D0 I h;have hG:PG X.nox (.Name x pos') (zaH i):=zm9 hN hix hx hf;rw [exec_Assign_Name_used _ _ _ _ hsw];obtain ⟨cl,e,l⟩:=zb9 (env:=X.env) scope.names [] fun x hx=>I.ok.has x (.inl (S.kinds _ hx rfl))
  have hclos:closureFor scope X.env=pure cl:=by
    unfold closureFor;show (forIn scope.names [] fun (x:Str × NameKind) (cs:List (Str × Addr))=>(if (x.2 == NameKind.free)=true then (do let a <- cellOf X.env x.1;pure (ForInStep.yield ((x.1,a) :: cs))) else pure (ForInStep.yield cs) : Sem (ForInStep (List (Str × Addr))))) >>= (fun s=>pure s)=pure cl;rw [e,pure_bind]
  refine wpAny_bind (wpAny_standAt (wpAny_bind ?_));show wpAny _ X.nox.A (do let _ <- comprehension (.ListComp elt [⟨tg,iter,ifs,0⟩] scope cpos) scope X.env _ (newList []) false (eval iter X.env) (some (assign (.Name x pos') X.env))) _ _ s;refine wpAny_bind (wpAny_mono (wpAny_comprehension_free (cl:=cl) (use:=some (assign (.Name x pos') X.env)) (Q:=fun _ s'=>SP X.nox pins D0 .next s') rfl hs hclos S.kind S.names ?_) (fun _ s' hq=>wpAny_pure (wpAny_pure hq)) fun _ _ e=>e);refine thn (hi pins s σ H _ I h) fun v s1 h1=>thn h1 fun itv s2 h2 => ?_
  obtain ⟨it,fp,tn,J,H2,rfl,I2,T,st2,f2,W,w0,turn⟩:=h2;refine ziv (X:=X.nox) (QQ:=fun D ys H'=>zaH i (.ref D) σ (upd H' D (.lst ys)) D0.nx) (RR:=fun acc C=>compPost (model X.prog X.w) X.A (fun _ _=>False) (some (assign (.Name x pos') X.env)) (fun _ s'=>SP X.nox pins D0 .next s') acc C) hc S (fun x=>by rw [l x];rfl) (hg cl) (ht cl) (he cl) I2 T st2 f2 W w0 turn fun D C s' ys H' m q hn nC hC hDC hHC fin => ?_
  show wpAny _ X.A (assign (.Name x pos') X.env (.ref D)) _ _ _;have I3:Inv X.nox pins σ (upd H' D (.lst ys)) s':=fin s'.heap ⟨rfl,fun _ _=>rfl⟩;have hHC':upd H' D (.lst ys) C=none:=by rw [zan (Ne.symm hDC)];exact hHC
  have fpC:∀ {H3:Hp},H3 C=none->zi0 X.nox pins H3 C:=fun h3=>I2.fpOk hC h3
  obtain ⟨oC,es,ep,hoC,rC⟩:=id hn;have hcell:∀ v,oC.data ≠ .cell v:=fun v z=>by
    have:=rC
    rw [z] at this;simp at this
  have I4 := I3.pinned (fp := [C]) (fun b hb => by have z : b = C := by simpa using hb
                                                   subst z; exact fpC hHC') (fun b hb => by have z : b = C := by simpa using hb
                                                                                            subst z; exact ⟨oC, hoC, hcell⟩)
  refine thn (hG _ s' σ _ (.ref D) (.ref D) _ I4 rfl q) fun _ s5 ⟨σ5,H5,I5,q5⟩ => ?_
  have pC:=I5.pin (C,oC) (jaA _ (jaA _ (zcJ (by simp) hoC)));refine ⟨m,⟨oC,es,ep,pC.1,rC⟩,fun h' sb => ?_⟩;obtain ⟨f0,f1,f2',f3,f4,f5⟩:=fpC pC.2.1;exact ⟨σ5,H5,(I5.unpinned).turned (t':=s5.toks) (fun b o hb e=>(sb.2 b hb).trans e) f0 f1 f3 f4 f5,q5⟩
theorem zbn {K:PySem.W.Frag}{a:Addr}{xs:List V}{g:TG}{tc:TT}{te:TE} {σ:St}{H:Hp}{R:List V->Hp->Addr->Prop} (Pv:Nat->List V->St->Hp->Prop) (h0:Pv 0 [] σ H) (hl:∀ i ys σ H,i<=xs.length->Pv i ys σ H->SqL K H a xs/\ys.length<=i) (hz:xs.length<=sizeLine)
  (hs:∀ i x ys σ H,xs[i]? = some x->Pv i ys σ H->g x σ H fun σ2 H2=>tc σ2 H2 fun b H3=>if b=true then te σ2 H3 fun y H4=>Pv (i+1) (ys ++ [y]) σ2 H4 else Pv (i+1) ys σ2 H3)
  (hd:∀ ys σ H,Pv xs.length ys σ H->∀ D,H D=none->R ys H D) :
  ∃ W:Nat->Nat->List V->St->Hp->Prop,(∃ m,W 0 m [] σ H)/\∀ i m ys σ H,W i m ys σ H ->
   ((Itl K a).stop i H/\∀ D,H D=none->R ys H D) \/
   ((Itl K a).go i H/\ys.length<sizeLine/\∃ N:List V->St->Hp->Prop,(∀ ys' σ' H',N ys' σ' H'->∃ m',m'<m/\W (i+1) m' ys' σ' H') /\
    ∀ x H',(Itl K a).yld i H x H'->g x σ H' fun σ2 H2=>tc σ2 H2 fun b H3=>if b=true then te σ2 H3 fun y H4=>N (ys ++ [y]) σ2 H4 else N ys σ2 H3):=by
 refine⟨fun i m ys σ H=>m=xs.length-i/\i<=xs.length/\Pv i ys σ H,⟨xs.length,by simp,jaE _,h0⟩,?_⟩;rintro i m ys σ H ⟨rfl,hi,p⟩;have q:=hl i ys σ H hi p;by_cases hlt:i<xs.length
 ·refine .inr ⟨⟨xs,xs[i],q.1,by simp[hlt]⟩,(by omega),Pv (i+1),fun ys' σ' H' p'=>⟨xs.length-(i+1),by omega,rfl,hlt,p'⟩,fun x H' y=>?_⟩;obtain⟨e,y⟩:=y;subst e;exact hs i x ys σ _ (y xs q.1) p
 ·have e:i=xs.length:=by omega
  subst e;exact .inl ⟨⟨xs,q.1,jag _⟩,hd ys σ H p⟩
theorem ze0 {lo:Int}{n:Nat}{g:TG}{tc:TT}{te:TE} {σ:St}{H:Hp}{R:List V->Hp->Addr->Prop} (Pv:Nat->List V->St->Hp->Prop) (h0:Pv 0 [] σ H) (hl:∀ i ys σ H,Pv i ys σ H->ys.length<=i) (hz:n<=sizeLine)
  (hs:∀ i ys σ H,i<n->Pv i ys σ H->g (.int (lo+i)) σ H fun σ2 H2=>tc σ2 H2 fun b H3=>if b=true then te σ2 H3 fun y H4=>Pv (i+1) (ys ++ [y]) σ2 H4 else Pv (i+1) ys σ2 H3)
  (hd:∀ ys σ H,Pv n ys σ H->∀ D,H D=none->R ys H D) :
  ∃ W:Nat->Nat->List V->St->Hp->Prop,(∃ m,W 0 m [] σ H)/\∀ i m ys σ H,W i m ys σ H ->
   ((Itr lo n).stop i H/\∀ D,H D=none->R ys H D) \/
   ((Itr lo n).go i H/\ys.length<sizeLine/\∃ N:List V->St->Hp->Prop,(∀ ys' σ' H',N ys' σ' H'->∃ m',m'<m/\W (i+1) m' ys' σ' H') /\
    ∀ x H',(Itr lo n).yld i H x H'->g x σ H' fun σ2 H2=>tc σ2 H2 fun b H3=>if b=true then te σ2 H3 fun y H4=>N (ys ++ [y]) σ2 H4 else N ys σ2 H3):=by
 refine⟨fun i m ys σ H=>m=n-i/\i<=n/\Pv i ys σ H,⟨n,by simp,jaE _,h0⟩,?_⟩;rintro i m ys σ H ⟨rfl,hi,p⟩;have q:=hl i ys σ H p;by_cases hlt:i<n
 ·refine .inr ⟨hlt,(by omega),Pv (i+1),fun ys' σ' H' p'=>⟨n-(i+1),by omega,rfl,hlt,p'⟩,fun x H' y=>?_⟩;obtain⟨e,y⟩:=y;subst e y;exact hs i ys σ _ hlt p
 ·have e:i=n:=by omega
  subst e;exact .inl ⟨jag _,hd ys σ H p⟩
end L2
namespace OS
open PySem PyProof.Rows
class KO where
 num:Value->Int
 ok:Value->Prop
 kind:SortKind
class KL [KO] (prog:Program) (w:World) (A:Around) (s:Shared):Prop where
 lt:∀ {E:Value->Shared->Prop}{Q:Bool->Shared->Prop}{u v:Value},KO.ok u->KO.ok v->Q (decide (KO.num u<KO.num v)) s->wpAny (model prog w) A (keyLt' KO.kind u v) Q E s
variable [KO]
end OS
namespace L2
open PySem PySem.Spec PyProof.Rows
noncomputable def zdi (H:Hp):List Addr->List (Int × Int)->Prop:=Paired fun p t=>H p=some (.tup [.int t.1,.int t.2])
theorem zdi.length {H:Hp}{ps:List Addr}{l:List (Int × Int)} (h:zdi H ps l):ps.length=l.length:=jaL h
theorem zdi.keep {H H':Hp}{ps:List Addr}{l:List (Int × Int)} (h:zdi H ps l) (k:∀ b xs,H b=some (.tup xs)->H' b=some (.tup xs)):zdi H' ps l:=Paired.mapP h fun p t e=>k p _ e
theorem zdi.at:∀ {H:Hp}{ps:List Addr}{l:List (Int × Int)}{i:Nat}{t:Int × Int},zdi H ps l->l[i]? = some t->∃ p,ps[i]? = some p/\H p=some (.tup [.int t.1,.int t.2])
 | _,_,_,_,_,.nil,e=>by simp at e
 | _,_,_,0,_,.cons r _,e=>by simp at e;subst e;exact⟨_,rfl,r⟩
 | _,_,_,i+1,t,.cons _ q,e=>by
  obtain⟨p,h1,h2⟩:=zdi.at (i:=i) (t:=t) q (by simpa using e);exact⟨p,by simpa using h1,h2⟩
theorem zdi.at' {H:Hp}{ps:List Addr}{l:List (Int × Int)}{i:Nat}{p:Addr} (h:zdi H ps l) (e:ps[i]? = some p):∃ t,l[i]? = some t/\H p=some (.tup [.int t.1,.int t.2]):=by
 have hi:i<l.length:=by
  have:=(jam.mp e).1
  have:=h.length
  omega
 obtain⟨q,h1,h2⟩:=h.at (i:=i) (t:=l[i]) (by simp[hi]);rw[e] at h1;cases h1;exact⟨l[i],by simp[hi],h2⟩
theorem zdi.append:∀ {H:Hp}{ps qs:List Addr}{l m:List (Int × Int)},zdi H ps l->zdi H qs m->zdi H (ps++qs) (l++m)
 | _,_,_,_,_,.nil,s=>s
 | _,_,_,_,_,.cons r t,s=>.cons r (zdi.append t s)
theorem zdi.snoc {H:Hp}{ps:List Addr}{l:List (Int × Int)}{p:Addr}{t:Int × Int} (h:zdi H ps l) (e:H p=some (.tup [.int t.1,.int t.2])):zdi H (ps ++ [p]) (l ++ [t]):=zdi.append h (.cons e .nil)
noncomputable def TL (K:PySem.W.Frag) (H:Hp) (a:Addr) (l:List (Int × Int)):Prop:=∃ ps:List Addr,SqL K H a (ps.map V.ref)/\zdi H ps l
noncomputable def TLo (H:Hp) (a:Addr) (l:List (Int × Int)):Prop:=∃ ps:List Addr,H a=some (.lst (ps.map V.ref))/\zdi H ps l
theorem TLo.tl {K:PySem.W.Frag}{H:Hp}{a:Addr}{l:List (Int × Int)} (h:TLo H a l):TL K H a l:=let ⟨ps,h1,h2⟩:=h; ⟨ps,.of h1,h2⟩
theorem TLo.keep {H H':Hp}{a:Addr}{l:List (Int × Int)} (h:TLo H a l) (k:zai H H'):TLo H' a l:=let ⟨ps,h1,h2⟩:=h; ⟨ps,k _ _ h1,h2.keep fun b xs e=>k b _ e⟩
theorem zai.upd {p:Addr}{H:Hp}{o:HO} (h:H p=none):zai H (upd H p o):=fun c o' e=>by rw[zan (zat e h)];exact e
end L2
namespace L2
open PySem PySem.Spec PyProof.Rows
theorem zdY:∀ (ns:List Int),PySem.W.WData.weightAll (ns.map PySem.W.WData.int)<=2^20->∀ n∈ns,Builtin.Int.intBits n<=2^20
 | [],_,_,h=>by simp at h
 | m :: r,hw,n,hn=>by
  have e:PySem.W.WData.weightAll ((m :: r).map PySem.W.WData.int)=PySem.W.WData.weight (.int m)+1+PySem.W.WData.weightAll (r.map PySem.W.WData.int):=rfl;rw[e] at hw;rcases jaj.mp hn with z | z
  ·subst z;have e2:PySem.W.WData.weight (.int n)=if n == 0 then 0 else n.natAbs.log2+1:=rfl
   rw[e2] at hw;unfold Builtin.Int.intBits;split at hw <;> split <;> simp_all <;> omega
  ·exact zdY r (by omega) n z
theorem zos {l:PySem.W.OpenLaw}{n k:Nat}{q:Program}{loose:List Str}{XP:(Str->Option Value)->Heap->Prop}{YP:World->Heap->Prop}{d:DefRec}{K:Params->PySem.W.Frag}{CX:World->CXT}{sp:World->Sp}{x:Str}
  (hn:l.most=some n) (hn2:n<=sizeLine) (hdf:d.params.defaults=[]) (hr:zeg k callerA)
  (hY:∀ (w:World) (h:Heap),YP w h->(K w.params).In h)
  (F:∀ (w:World) (mg:Str->Option Value) (fa:Addr) (h:Heap),(K w.params).In h->h.Ns mainGlobals mg->mg d.name=some (.ref fa) ->
   ∃ fd:FuncData,(∀ (s:Shared) (u:Value),BindsTo s fd ⟨[u],[]⟩ [(x,u)]) /\
    ∀ base:Heap,(K w.params).In base->base.Ns mainGlobals mg->zi9 l.prog w (K w.params) mg base (CX w) k fa fd [x] (sp w))
  (hsp:∀ (w:World) (H:Hp) (a:Addr) (ns:List Int),ns.length<=n->(∀ z∈ns,Builtin.Int.intBits z<=2^20)->ztT H->SqL (K w.params) H a (ns.map V.int)->sp w [.ref a] H (fun v _=>v = .bl true) fun _ _ _=>False)
  (hCX:∀ (w:World) (H:Hp) (s:Shared) (e:Value) (s':Shared),CX w [] H s (fun _ _ _=>False) e s'->False) :
  PySem.W.WalkO q loose XP YP l.row.toRowW d [] (fun f vs=>PySem.call f vs):=by
 intro w s₀ s₁ mg mb G Y fa o pm cd doc dV kV ho hd hcd hD hmg hg args vals as hpre hlay hrd hwl hlo;obtain rfl:dV = .none:=PySem.W.Dflts.none hD hdf;obtain rfl:kV = .none:=PySem.W.Dflts.noKw hD;obtain⟨a,vs,ns,rfl,rfl,hobj,hints,hlen⟩:=Att.script_of hn hpre hwl;have hbits:∀ z∈ns,Builtin.Int.intBits z<=2^20:=by
  have h1:(PySem.W.WData.list (ns.map PySem.W.WData.int)).layable=true:=jaX.mp hlay _ (by simp);have h2:=of_decide_eq_true (jbD.mp h1).2;exact zdY ns h2
 have KX:=hY w _ Y;obtain⟨fd,hb,hF⟩:=F w mg fa _ KX G.T.g hmg;refine PySem.W.enter_call (codeAny_mono (zoA KX G.T.g G.T.b G.T.builtins G.T.nolimit hg hobj hints (jak hlen hn2) hr hF hb (fun H hO hS=>hsp w H a ns hlen hbits hO hS) fun H e s'=>hCX w H s₁ e s') fun r s' hq=>?_);obtain⟨rfl,h2,h3,h4⟩:=hq;exact⟨.inl ⟨.bool true,.bool true,[],rfl,fun _=>rfl,.bool true,Att.post_true l _,fun _=>⟨List.Pairwise.nil,fun _ hm=>(nomatch hm)⟩⟩,h2,h3,h4⟩
noncomputable def zgG (p:Int × Int):Key × V:=(Sum.inl p.1,V.int p.2)
theorem zc6 (k:Int):∀ d:OF.zag,zia (d.map zgG) (Sum.inl k)=(OF.look d k).map V.int
 | []=>rfl
 | p :: r=>by
  rw[jat,OF.look];by_cases e:p.1=k
  ·rw[zeE (show (zgG p).1=Sum.inl k by simp[zgG,e]),if_pos e];rfl
  ·rw[zeD (show ¬ (zgG p).1=Sum.inl k by simp[zgG,e]),if_neg e];exact zc6 k r
theorem zhs (d:OF.zag) (k v:Int):zg7 (d.map zgG) (Sum.inl k:Key) (V.int v)=(OF.zj5 d k v).map zgG:=by
 unfold zg7 OF.zj5;rw[zhG,zc6,OF.zey,jb0];split
 ·rw[ja3,ja3];congr 1
  funext p
  simp only[Function.comp,zgG];by_cases e:p.1=k
  ·simp[e]
  ·simp[e]
 ·rw[jac];rfl
theorem zkp (d:OF.zag):(d.map zgG).map (·.1)=(d.map (·.1)).map Sum.inl:=by
 rw[ja3,ja3];rfl
end L2
namespace OF
open PySem
theorem zof {x y:Int} (hx:0<=x) (hy:0<=y):Builtin.bitOr x y=((x.toNat ||| y.toNat:Nat):Int):=by
 have n1:¬ 0<=Builtin.bitNot x:=by unfold Builtin.bitNot;omega
 have n2:¬ 0<=Builtin.bitNot y:=by unfold Builtin.bitNot;omega
 have e:∀ z:Int,Builtin.bitNot (Builtin.bitNot z)=z:=fun z=>by unfold Builtin.bitNot;omega
 unfold Builtin.bitOr;rw[PyProof.Rows.bitAnd_nn n1 n2,e,e,e]
theorem zb7 {z i:Nat} (h:z / 2^i % 2=0):z+2^i=z ||| 2^i:=by
 have hb:z % 2^i<2^i:=jdr _ (jce i);have hz:z=2^(i+1) * (z / 2^(i+1))+z % 2^i:=by
  have h1:=Nat.div_add_mod z (2^(i+1));have h2:z % 2^(i+1)=z % 2^i+2^i * (z / 2^i % 2):=Nat.mod_pow_succ;rw[h,Nat.mul_zero,Nat.add_zero] at h2;omega
 generalize z / 2^(i+1)=a at hz;generalize z % 2^i=b at hz hb;have hp:2^i+b<2^(i+1):=by rw[jbY];omega
 have hb':b<2^(i+1):=by omega
 have e1:z+2^i=2^(i+1) * a+(2^i+b):=by omega
 have e2:2^i+b=2^i ||| b:=by
  have:=jbV hb 1
  rw[Nat.mul_one] at this;exact this
 rw[e1,hz,jbV hp,jbV hb',e2,Nat.or_assoc,Nat.or_comm b]
noncomputable def zca:List (Int × Int)->Nat->Nat
 | [],a=>a
 | t :: r,a=>zca r (a ||| t.1.toNat)
theorem zg8:∀ (l:List (Int × Int)) (t:Int × Int) (a:Nat),zca (l ++ [t]) a=zca l a ||| t.1.toNat
 | [],_,_=>rfl
 | p :: r,t,a=>zg8 r t _
end OF
namespace L2
open PySem PySem.Spec PyProof.Rows
theorem zaB {c A B:Prop} [Decidable c] (h:¬ c) (b:B):if c then A else B:=by rw[if_neg h];exact b
theorem za4 {c A B:Prop} [Decidable c] (h:c) (a:A):if c then A else B:=by rw[if_pos h];exact a
theorem zgs.of {X:Cx}{scope:Scope}{N':List Str}{nT:Nat}{js:List Nat} (sc₀:Scope) (N₀:List Str) (h1:X.env.scope=sc₀) (h2:X.N=N₀) (hk:scope.kind = .function)
  (hall:(scope.names.all fun y=>y.2 != .cell && (y.2 != .local || scope.names.lookup y.1 == some .local) && (y.2 != .free || sc₀.names.lookup y.1 == some .cell))=true)
  (hlen:N'.length=nT+js.length) (hf:(js.map fun j=>N₀[j]?)=(N'.drop nT).map some) (hv:((N'.drop nT).all fun x=>scope.names.lookup x == some .free)=true):zgs X scope N' nT js:=by
 have hall':=jaX.mp hall;refine⟨hk,fun y hy e=>?_,fun y hy e=>?_,hlen,fun k j x e1 e2=>?_,fun y hy e=>?_,fun x hx=>?_⟩
 ·have:=hall' y hy;rw[e] at this;simp at this
 ·have:=hall' y hy;rw[e] at this;simp at this;exact this
 ·have e3:(js.map fun j=>N₀[j]?)[k]? = some (N₀[j]?):=by rw[jaC,e1];rfl
  rw[hf,jaC,List.getElem?_drop,e2] at e3;rw[h2];exact (jaD e3).symm
 ·have:=hall' y hy;rw[e] at this;simp at this;rw[h1];exact this
 ·have:=jaX.mp hv x hx;simpa using this
end L2
namespace OF
theorem zbr:∀ {l B:List Int},l.Nodup->(∀ x∈l,x∈B)->l.length<=B.length
 | [],_,_,_=>jaE _
 | a :: r,B,hn,hs=>by
  have h1:=jbd.mp hn;have ha:=hs a (by simp);have h2:r.length<=(B.erase a).length:=zbr h1.2 fun x hx=>by
   have hne:x≠a:=fun z=>h1.1 (z ▸ hx)
   exact (List.mem_erase_of_ne hne).mpr (hs x (by simp[hx]))
  have h3:=List.length_erase_of_mem ha;have h4:0<B.length:=List.length_pos_of_mem ha;rw[jae];omega
end OF
namespace L2
open PySem PySem.Spec PyProof.Rows
inductive D where
 | non | bl (b:Bool) | int (n:Int) | str (x:Str) | tup (ds:List D) | lst (ds:List D)
mutual
noncomputable def Is (H:Hp):V->D->Prop
 | v,.non=>v = .non
 | v,.bl b=>v = .bl b
 | v,.int n=>v = .int n
 | v,.str x=>v = .str x
 | v,.tup ds=>∃ a xs,v = .ref a/\H a=some (.tup xs)/\zby H xs ds
 | v,.lst ds=>∃ a xs,v = .ref a/\H a=some (.lst xs)/\zby H xs ds
noncomputable def zby (H:Hp):List V->List D->Prop
 | xs,[]=>xs=[]
 | xs,d :: ds=>∃ x r,xs=x :: r/\Is H x d/\zby H r ds
end
mutual
theorem Is.keep {H H':Hp} (k:zai H H'):∀ {v:V}{d:D},Is H v d->Is H' v d
 | v,.non,h=>by unfold Is at *;exact h
 | v,.bl _,h=>by unfold Is at *;exact h
 | v,.int _,h=>by unfold Is at *;exact h
 | v,.str _,h=>by unfold Is at *;exact h
 | v,.tup ds,h=>by
  unfold Is at *;obtain⟨a,xs,e,h1,h2⟩:=h;exact⟨a,xs,e,k _ _ h1,zby.keep k h2⟩
 | v,.lst ds,h=>by
  unfold Is at *;obtain⟨a,xs,e,h1,h2⟩:=h;exact⟨a,xs,e,k _ _ h1,zby.keep k h2⟩
theorem zby.keep {H H':Hp} (k:zai H H'):∀ {xs:List V}{ds:List D},zby H xs ds->zby H' xs ds
 | xs,[],h=>by unfold zby at *;exact h
 | xs,d :: ds,h=>by
  unfold zby at *;obtain⟨x,r,e,h1,h2⟩:=h;exact⟨x,r,e,Is.keep k h1,zby.keep k h2⟩
end
theorem zby.length {H:Hp}:∀ {xs:List V}{ds:List D},zby H xs ds->xs.length=ds.length
 | xs,[],h=>by unfold zby at h;rw[h];rfl
 | xs,d :: ds,h=>by
  unfold zby at h;obtain⟨x,r,rfl,_,h2⟩:=h;rw[jae,jae,zby.length h2]
theorem zby.at {H:Hp}:∀ {xs:List V}{ds:List D}{i:Nat}{d:D},zby H xs ds->ds[i]? = some d->∃ x,xs[i]? = some x/\Is H x d
 | xs,[],i,d,h,e=>by simp at e
 | xs,d' :: ds,0,d,h,e=>by
  unfold zby at h;obtain⟨x,r,rfl,h1,h2⟩:=h
  have:d'=d:=by simpa using e
  subst this;exact⟨x,rfl,h1⟩
 | xs,d' :: ds,i+1,d,h,e=>by
  unfold zby at h;obtain⟨x,r,rfl,h1,h2⟩:=h;obtain⟨x',e1,e2⟩:=zby.at (i:=i) (d:=d) h2 (by simpa using e);exact⟨x',by simpa using e1,e2⟩
noncomputable def b2i (b:Bool):Int:=if b then 1 else 0
mutual
noncomputable def deq:D->D->Bool
 | .non,.non=>true
 | .bl a,.bl b=>a == b
 | .bl a,.int n=>b2i a == n
 | .int n,.bl a=>n == b2i a
 | .int n,.int m=>n == m
 | .str x,.str y=>x == y
 | .tup ds,.tup es=>zl6 ds es
 | .lst ds,.lst es=>zl6 ds es
 | _,_=>false
noncomputable def zl6:List D->List D->Bool
 | [],[]=>true
 | d :: ds,e :: es=>deq d e && zl6 ds es
 | _,_=>false
end
mutual
noncomputable def dep:D->Nat
 | .tup ds=>znd ds+1
 | .lst ds=>znd ds+1
 | _=>0
noncomputable def znd:List D->Nat
 | []=>0
 | d :: ds=>max (dep d) (znd ds)
end
theorem zhX:∀ {ds:List D}{j:Nat}{d:D},ds[j]? = some d->dep d<=znd ds
 | [],j,d,e=>by simp at e
 | d' :: ds,0,d,e=>by
  have:d'=d:=by simpa using e
  subst this;unfold znd;omega
 | d' :: ds,j+1,d,e=>by
  have:=zhX (ds:=ds) (j:=j) (d:=d) (by simpa using e)
  rw[znd];omega
theorem zpu (ds es:List D):deq (.tup ds) (.tup es)=zl6 ds es:=rfl
theorem zjp (ds es:List D):deq (.lst ds) (.lst es)=zl6 ds es:=rfl
theorem zgj (d e:D) (ds es:List D):zl6 (d :: ds) (e :: es)=(deq d e && zl6 ds es):=rfl
noncomputable def eqJ (ds es:List D) (j:Nat):Bool:=match ds[j]?,es[j]? with
 | some d,some e=>deq d e
 | _,_=>false
theorem zfG:∀ (ds es:List D),zl6 ds es=((List.range (min ds.length es.length)).all (eqJ ds es) && (ds.length == es.length))
 | [],[]=>rfl
 | [],e :: es=>by show false=_;simp
 | d :: ds,[]=>by show false=_;simp
 | d :: ds,e :: es=>by
  have ih:=zfG ds es;rw[zgj,ih,jae,jae,Nat.add_min_add_right,List.range_succ_eq_map,jdz,List.all_map];have e1:eqJ (d :: ds) (e :: es) 0=deq d e:=rfl;have e2:(eqJ (d :: ds) (e :: es)) ∘ Nat.succ=eqJ ds es:=by funext j;rfl
  rw[e1,e2,Bool.and_assoc];congr 2;simp
theorem znB {ds es:List D} (h:ds.length≠es.length):zl6 ds es=false:=by
 rw[zfG]
 have:(ds.length == es.length)=false:=by simpa using h
 rw[this,jb4]
mutual
theorem zhi:∀ d:D,deq d d=true
 | .non=>rfl
 | .bl b=>by show (b == b)=true;simp
 | .int n=>by show (n == n)=true;simp
 | .str x=>by show (x == x)=true;simp
 | .tup ds=>zgo ds
 | .lst ds=>zgo ds
theorem zgo:∀ ds:List D,zl6 ds ds=true
 | []=>rfl
 | d :: ds=>by rw[zgj,zhi d,zgo ds];rfl
end
mutual
theorem Is.inj {H:Hp}:∀ {v:V}{d e:D},Is H v d->Is H v e->d=e
 | v,.non,e,h,h'=>by
  unfold Is at h;subst h;cases e <;> unfold Is at h' <;> first | rfl | (cases h';done) | (obtain⟨_,_,z,_⟩:=h';cases z)
 | v,.bl b,e,h,h'=>by
  unfold Is at h;subst h;cases e <;> unfold Is at h' <;> first | (cases h';rfl) | (cases h';done) | (obtain⟨_,_,z,_⟩:=h';cases z)
 | v,.int n,e,h,h'=>by
  unfold Is at h;subst h;cases e <;> unfold Is at h' <;> first | (cases h';rfl) | (cases h';done) | (obtain⟨_,_,z,_⟩:=h';cases z)
 | v,.str x,e,h,h'=>by
  unfold Is at h;subst h;cases e <;> unfold Is at h' <;> first | (cases h';rfl) | (cases h';done) | (obtain⟨_,_,z,_⟩:=h';cases z)
 | v,.tup ds,e,h,h'=>by
  unfold Is at h;obtain⟨a,xs,rfl,h1,h2⟩:=h;cases e with
  | tup es =>
   unfold Is at h';obtain⟨b,ys,z,g1,g2⟩:=h';cases z;rw[h1] at g1;cases g1;rw[zby.inj h2 g2]
  | lst es =>
   unfold Is at h';obtain⟨b,ys,z,g1,g2⟩:=h';cases z;rw[h1] at g1;cases g1
  | _=>unfold Is at h';cases h'
 | v,.lst ds,e,h,h'=>by
  unfold Is at h;obtain⟨a,xs,rfl,h1,h2⟩:=h;cases e with
  | lst es =>
   unfold Is at h';obtain⟨b,ys,z,g1,g2⟩:=h';cases z;rw[h1] at g1;cases g1;rw[zby.inj h2 g2]
  | tup es =>
   unfold Is at h';obtain⟨b,ys,z,g1,g2⟩:=h';cases z;rw[h1] at g1;cases g1
  | _=>unfold Is at h';cases h'
theorem zby.inj {H:Hp}:∀ {xs:List V}{ds es:List D},zby H xs ds->zby H xs es->ds=es
 | xs,[],es,h,h'=>by
  unfold zby at h;subst h;cases es with
  | nil=>rfl
  | cons e es=>unfold zby at h';obtain⟨_,_,z,_⟩:=h';cases z
 | xs,d :: ds,es,h,h'=>by
  unfold zby at h;obtain⟨x,r,rfl,h1,h2⟩:=h;cases es with
  | nil=>unfold zby at h';cases h'
  | cons e es =>
   unfold zby at h';obtain⟨x',r',z,g1,g2⟩:=h';cases z;rw[Is.inj h1 g1,zby.inj h2 g2]
end
section
variable {X:Cx}{pins:List (Addr × Obj)} {σ:St}{H:Hp}{s:Shared}
structure zpW (A:Around) (s:Shared) (u w:Value) (b:Bool):Prop where
 rc:SeqAt.RcAt A s u w b
 ne:SeqAt.RcNeAt A s u w (!b)
theorem zkh {xs:List V}{its:List Value}{ds:List D} (r:zba xs its) (h:zby H xs ds) {j:Nat} (hj:j<its.toArray.size):∃ d x,ds[j]? = some d/\Is H x d/\zbm x its.toArray[j]:=by
 have hj':j<its.length:=by simpa using hj
 have l1:=r.length;have l2:=h.length;have ed:ds[j]? = some ds[j]:=by simp[show j<ds.length by omega]
 obtain⟨x,ex,hx⟩:=h.at ed;obtain⟨u,eu,ru⟩:=r.get ex;refine⟨_,x,ed,hx,?_⟩;rw[jar hj'] at eu
 have:its.toArray[j]=u:=by simpa using jaD eu
 rw[this];exact ru
inductive Kd (s:Shared) (H:Hp):Value->D->Prop where
 | none:Kd s H .none .non
 | bool (b:Bool):Kd s H (.bool b) (.bl b)
 | int (n:Int) (t:Tok):Kd s H (.int n t) (.int n)
 | str (x:Str) (t:Tok):Kd s H (.str x t) (.str x)
 | tuple {a:Addr}{xs:List V}{its:List Value}{ds:List D} (h:H a=some (.tup xs)) (r:zba xs its) (p:s.heap.IsTuple a its.toArray) (q:zby H xs ds):Kd s H (.ref a) (.tup ds)
 | list {a:Addr}{xs:List V}{its:List Value}{ds:List D} (h:H a=some (.lst xs)) (r:zba xs its) (p:s.heap.IsList a its.toArray) (q:zby H xs ds):Kd s H (.ref a) (.lst ds)
theorem zh5 (I:Inv X pins σ H s) {v:V}{u:Value}{d:D} (h:Is H v d) (r:zbm v u):Kd s H u d:=by
 cases d with
 | non=>unfold Is at h;subst h;cases (show u=Value.none from r);exact .none
 | bl b=>unfold Is at h;subst h;cases (show u=Value.bool b from r);exact .bool b
 | int n=>unfold Is at h;subst h;obtain⟨t,e⟩:=(show ∃ t,u=Value.int n t from r);cases e;exact .int n t
 | str x=>unfold Is at h;subst h;obtain⟨t,e⟩:=(show ∃ t,u=Value.str x t from r);cases e;exact .str x t
 | tup ds =>
  unfold Is at h;obtain⟨a,xs,rfl,h1,h2⟩:=h;cases (show u=Value.ref a from r);obtain⟨_,its,r1,t1⟩:=(show zbJ X.prog X.w H s.heap a (.tup xs) from I.hok a _ h1);exact .tuple h1 r1 t1 h2
 | lst ds =>
  unfold Is at h;obtain⟨a,xs,rfl,h1,h2⟩:=h;cases (show u=Value.ref a from r);obtain⟨its,r1,p1,_⟩:=I.list (SqL.of (K:=X.K) h1);exact .list h1 r1 p1.isList h2
noncomputable def Sc:D->Prop
 | .tup _=>False
 | .lst _=>False
 | _=>True
set_option maxHeartbeats 4000000 in
theorem zit {A:Around}{u u':Value}{d e:D} (hu:A.units<cLine) (k1:Kd s H u d) (hs:Sc d) (k2:Kd s H u' e):zpW A s u u' (deq d e)/\SeqAt.EqAt A s u u' (deq d e):=by
 cases k1 with
 | tuple=>exact hs.elim
 | list=>exact hs.elim
 | none  =>
  cases k2 with
  | none  => exact⟨⟨.none_none ,.none_none ⟩,jcI _⟩
  | bool c=>exact⟨⟨.none_bool c,.none_bool c⟩,.none_bool c⟩
  | int k v=>exact⟨⟨.none_int k v,.none_int k v⟩,.none_int k v⟩
  | str y v=>exact⟨⟨.none_str y v,.none_str y v⟩,.none_str y v⟩
  | list h r p q=>exact⟨⟨.none_list  p hu,.none_list  p hu⟩,.none_list  p hu⟩
  | tuple h r p q=>exact⟨⟨.none_tuple  p hu,.none_tuple  p hu⟩,.none_tuple  p hu⟩
 | bool b =>
  cases k2 with
  | none  => exact⟨⟨.bool_none b,.bool_none b⟩,.bool_none b⟩
  | bool c=>exact⟨⟨.bool_bool b c,.bool_bool b c⟩,.bool_bool b c⟩
  | int k v=>exact⟨⟨.bool_int b k v,.bool_int b k v⟩,.bool_int b k v⟩
  | str y v=>exact⟨⟨.bool_str b y v,.bool_str b y v⟩,.bool_str b y v⟩
  | list h r p q=>exact⟨⟨.bool_list b p hu,.bool_list b p hu⟩,.bool_list b p hu⟩
  | tuple h r p q=>exact⟨⟨.bool_tuple b p hu,.bool_tuple b p hu⟩,.bool_tuple b p hu⟩
 | int m t =>
  cases k2 with
  | none  => exact⟨⟨.int_none m t,.int_none m t⟩,.int_none m t⟩
  | bool c=>exact⟨⟨.int_bool m t c,.int_bool m t c⟩,.int_bool m t c⟩
  | int k v=>exact⟨⟨.int_int m t k v,.int_int m t k v⟩,.int_int m t k v⟩
  | str y v=>exact⟨⟨.int_str m t y v,.int_str m t y v⟩,.int_str m t y v⟩
  | list h r p q=>exact⟨⟨.int_list m t p hu,.int_list m t p hu⟩,.int_list m t p hu⟩
  | tuple h r p q=>exact⟨⟨.int_tuple m t p hu,.int_tuple m t p hu⟩,.int_tuple m t p hu⟩
 | str x t =>
  cases k2 with
  | none  => exact⟨⟨.str_none x t,.str_none x t⟩,.str_none x t⟩
  | bool c=>exact⟨⟨.str_bool x t c,.str_bool x t c⟩,.str_bool x t c⟩
  | int k v=>exact⟨⟨.str_int x t k v,.str_int x t k v⟩,.str_int x t k v⟩
  | str y v=>exact⟨⟨.str_str x t y v,.str_str x t y v⟩,.str_str x t y v⟩
  | list h r p q=>exact⟨⟨.str_list x t p hu,.str_list x t p hu⟩,.str_list x t p hu⟩
  | tuple h r p q=>exact⟨⟨.str_tuple x t p hu,.str_tuple x t p hu⟩,.str_tuple x t p hu⟩
set_option maxHeartbeats 4000000 in
theorem zoI (I:Inv X pins σ H s):∀ (n:Nat) (d e:D) (A:Around) {u u':Value},dep d<=n->A.units+n<cLine->Kd s H u d->Kd s H u' e->zpW A s u u' (deq d e)/\SeqAt.EqAt A s u u' (deq d e):=by
 intro n;induction n with
 | zero =>
  intro d e A u u' hd hu k1 k2;cases k1 with
  | tuple=>unfold dep at hd;omega
  | list=>unfold dep at hd;omega
  | none=>exact zit (by omega) .none trivial k2
  | bool b=>exact zit (by omega) (.bool b) trivial k2
  | int m t=>exact zit (by omega) (.int m t) trivial k2
  | str y t=>exact zit (by omega) (.str y t) trivial k2
 | succ n ih =>
  intro d e A u u' hd hu k1 k2;have hu0:A.units<cLine:=by omega
  have hu1:A.in1.units+n<cLine:=by show A.units+1+n<cLine;omega
  cases k1 with
  | @tuple a xs its ds h1 r1 p1 q1 =>
   cases k2 with
   | @tuple b ys its2 es h2 r2 p2 q2 =>
    have hdd:znd ds<=n:=by unfold dep at hd;omega
    have n1:its.length=ds.length:=by have:=r1.length;have:=q1.length;omega
    have n2:its2.length=es.length:=by have:=r2.length;have:=q2.length;omega
    have he:∀ j (g1:j<its.toArray.size) (g2:j<its2.toArray.size),SeqAt.EqAt A.in1 s its.toArray[j] its2.toArray[j] (eqJ ds es j):=fun j g1 g2=>by
     obtain⟨d1,x1,e1,i1,v1⟩:=zkh r1 q1 g1;obtain⟨d2,x2,e2,i2,v2⟩:=zkh r2 q2 g2;have e3:eqJ ds es j=deq d1 d2:=by unfold eqJ;rw[e1,e2]
     rw[e3];exact (ih d1 d2 A.in1 (jak (zhX e1) hdd) hu1 (zh5 I i1 v1) (zh5 I i2 v2)).2
    have ev:((List.range (min its.toArray.size its2.toArray.size)).all (eqJ ds es) && (its.toArray.size == its2.toArray.size))=deq (.tup ds) (.tup es):=by
     rw[jai,jai,n1,n2,zpu,zfG]
    have R1:=SeqAt.RcAt.tuples p1 p2 hu0 he;have R2:=SeqAt.RcNeAt.tuples p1 p2 hu0 he;rw[ev] at R1 R2;refine⟨⟨R1,R2⟩,?_⟩;by_cases hab:a=b
    ·subst hab;rw[h1] at h2;cases h2;rw[zby.inj q1 q2,zhi];exact jcI _
    ·exact SeqAt.EqAt.of_refs hab R1
   | @list b ys its2 es h2 r2 p2 q2=>exact⟨⟨.tuple_list p1 p2 hu0,.tuple_list p1 p2 hu0⟩,.tuple_list p1 p2 hu0⟩
   | none=>exact⟨⟨.tuple_none p1 hu0,.tuple_none p1 hu0⟩,.tuple_none p1 hu0⟩
   | bool b=>exact⟨⟨.tuple_bool b p1 hu0,.tuple_bool b p1 hu0⟩,.tuple_bool b p1 hu0⟩
   | int m t=>exact⟨⟨.tuple_int m t p1 hu0,.tuple_int m t p1 hu0⟩,.tuple_int m t p1 hu0⟩
   | str y t=>exact⟨⟨.tuple_str y t p1 hu0,.tuple_str y t p1 hu0⟩,.tuple_str y t p1 hu0⟩
  | @list a xs its ds h1 r1 p1 q1 =>
   cases k2 with
   | @list b ys its2 es h2 r2 p2 q2 =>
    have hdd:znd ds<=n:=by unfold dep at hd;omega
    have n1:its.length=ds.length:=by have:=r1.length;have:=q1.length;omega
    have n2:its2.length=es.length:=by have:=r2.length;have:=q2.length;omega
    have R:zpW A s (.ref a) (.ref b) (deq (.lst ds) (.lst es)):=by
     by_cases hn:ds.length=es.length
     ·have he:∀ j (g1:j<its.toArray.size) (g2:j<its2.toArray.size),SeqAt.EqAt A.in1 s its.toArray[j] its2.toArray[j] (eqJ ds es j):=fun j g1 g2=>by
       obtain⟨d1,x1,e1,i1,v1⟩:=zkh r1 q1 g1;obtain⟨d2,x2,e2,i2,v2⟩:=zkh r2 q2 g2;have e3:eqJ ds es j=deq d1 d2:=by unfold eqJ;rw[e1,e2]
       rw[e3];exact (ih d1 d2 A.in1 (jak (zhX e1) hdd) hu1 (zh5 I i1 v1) (zh5 I i2 v2)).2
      have hsz:its.toArray.size=its2.toArray.size:=by simp;omega
      have ev:(List.range its.toArray.size).all (eqJ ds es)=deq (.lst ds) (.lst es):=by
       rw[jai,n1,zjp,zfG,hn,Nat.min_self];simp
      have R1:=SeqAt.RcAt.lists p1 p2 hsz hu0 he;have R2:=SeqAt.RcNeAt.lists p1 p2 hsz hu0 he;rw[ev] at R1 R2;exact⟨R1,R2⟩
     ·have hsz:(its.toArray.size != its2.toArray.size)=true:=by simp;omega
      rw[zjp,znB hn];exact⟨SeqAt.RcAt.lists_lengths p1 p2 hsz hu0,SeqAt.RcNeAt.lists_lengths p1 p2 hsz hu0⟩
    refine⟨R,?_⟩;by_cases hab:a=b
    ·subst hab;rw[h1] at h2;cases h2;rw[zby.inj q1 q2,zhi];exact jcI _
    ·exact SeqAt.EqAt.of_refs hab R.rc
   | @tuple b ys its2 es h2 r2 p2 q2=>exact⟨⟨.list_tuple p1 p2 hu0,.list_tuple p1 p2 hu0⟩,.list_tuple p1 p2 hu0⟩
   | none=>exact⟨⟨.list_none p1 hu0,.list_none p1 hu0⟩,.list_none p1 hu0⟩
   | bool b=>exact⟨⟨.list_bool b p1 hu0,.list_bool b p1 hu0⟩,.list_bool b p1 hu0⟩
   | int m t=>exact⟨⟨.list_int m t p1 hu0,.list_int m t p1 hu0⟩,.list_int m t p1 hu0⟩
   | str y t=>exact⟨⟨.list_str y t p1 hu0,.list_str y t p1 hu0⟩,.list_str y t p1 hu0⟩
  | none=>exact zit hu0 .none trivial k2
  | bool b=>exact zit hu0 (.bool b) trivial k2
  | int m t=>exact zit hu0 (.int m t) trivial k2
  | str y t=>exact zit hu0 (.str y t) trivial k2
noncomputable def zuy (f:Bool->Bool):R2:=fun x y H Q=>∃ d e,Is H x d/\Is H y e/\dep d<=60/\Q (.bl (f (deq d e))) H
theorem zin (hu:X.A.units+60<cLine):OpR X (compareOp .Eq) (zuy id):=by
 intro pins s σ H x y v u Q I rx ry h;obtain⟨d,e,h1,h2,h3,q⟩:=h;exact (zoI I 60 d e X.A h3 hu (zh5 I h1 rx) (zh5 I h2 ry)).1.rc _ _ _ _ ⟨.bl (deq d e),H,I,rfl,q⟩
theorem zo0 (hu:X.A.units+60<cLine):OpR X (compareOp .NotEq) (zuy not):=by
 intro pins s σ H x y v u Q I rx ry h;obtain⟨d,e,h1,h2,h3,q⟩:=h;exact (zoI I 60 d e X.A h3 hu (zh5 I h1 rx) (zh5 I h2 ry)).1.ne _ _ _ _ ⟨.bl (!(deq d e)),H,I,rfl,q⟩
theorem zqx {A:Around}{k:Nat} (hr:zeg k A):A.units+60<cLine:=jbj (jbL (by decide:60<=64) _) hr.units
end
end L2
namespace L2
open PySem PySem.Spec PyProof.Rows
section
variable {X:Cx}{st:Stmt}{sts:List Stmt}{t:TS}{e:Expr}{te:TE}
noncomputable def zu5 (t:TS):TS:=fun D σ H=>∃ M:St->Hp->Prop,t { D with nx:=M } σ H/\∀ σ' H',M σ' H'->D.nx σ' H'
theorem zdZ (h:PS X st t):PS X st (zu5 t):=by
 rintro pins s σ H D I ⟨M,q,w⟩;refine thn (h pins s σ H { D with nx:=M } I q) fun r s' z=>?_
 cases r with
 | next=>obtain⟨σ',H',I',m⟩:=z;exact⟨σ',H',I',w _ _ m⟩
 | _=>exact z
end
end L2
namespace L2
open PySem PySem.Spec PyProof.Rows
theorem znP {X:Cx} (K:PySem.W.Frag) (h:X.K=K):IxR X (zt2 K):=by subst h;exact zas
end L2
namespace My
open PySem L2 OF
theorem zaF {n:Nat} (h:n<=1000000):n<sizeLine:=jbj h (by decide)
theorem ziX {a b:Int} (h1 : -(2^64)<a) (h2:a<2^64):IntMulOk a b:=zs8.ok (.inl ⟨h1,h2⟩)
theorem zlM {a b:Int} (h1 : -(2^64)<b) (h2:b<2^64):IntMulOk a b:=zs8.ok (.inr ⟨h1,h2⟩)
theorem zkc (m:Nat):(1:Int) * 2^((m:Int)).toNat=2^m:=by rw[jdh,jbf]
theorem zcG {ps:List Addr}{i:Nat}{y:V} (hi:(ps.map V.ref)[i]? = some y):∃ p,ps[i]? = some p/\y=V.ref p:=by
 rw[jaC] at hi;cases e:ps[i]? with
 | none=>rw[e] at hi;cases hi
 | some p=>rw[e] at hi;exact⟨p,rfl,(jaD hi).symm⟩
theorem zio {ns:List Int}{i:Nat}{y:V} (hi:(ns.map V.int)[i]? = some y):∃ n,ns[i]? = some n/\y=V.int n:=by
 rw[jaC] at hi;cases e:ns[i]? with
 | none=>rw[e] at hi;cases hi
 | some p=>rw[e] at hi;exact⟨p,rfl,(jaD hi).symm⟩
noncomputable def zsC (K:PySem.W.Frag):Sp:=fun vs H Q _=>∃ (a:Addr) (ns:List Int),vs=[.ref a]/\SqL K H a (ns.map V.int)/\ns.length<=63/\(∀ n∈ns,Builtin.Int.intBits n<=2^20)/\∀ H',Q (.bl true) H'
noncomputable def dT (t:Int × Int):D := .tup [.int t.1,.int t.2]
noncomputable def dF (l:zag):D := .lst (l.map dT)
theorem zkn {H:Hp}:∀ {ps:List Addr}{l:zag},zdi H ps l->zby H (ps.map V.ref) (l.map dT)
 | _,_,.nil=>by unfold zby;rfl
 | _,_,.cons (a:=p) (b:=t) r q=>by
  rw[jat,jat];unfold zby;refine⟨_,_,rfl,?_,zkn q⟩;unfold dT Is;refine⟨p,_,rfl,r,?_⟩;unfold zby;refine⟨_,_,rfl,(by unfold Is;rfl),?_⟩;unfold zby;refine⟨_,_,rfl,(by unfold Is;rfl),?_⟩;unfold zby;rfl
theorem _root_.L2.TLo.is {H:Hp}{a:Addr}{l:zag} (h:TLo H a l):Is H (.ref a) (dF l):=by
 obtain⟨ps,h1,h2⟩:=h;unfold dF Is;exact⟨a,_,rfl,h1,zkn h2⟩
theorem zrm (t:Int × Int):dep (dT t)=1:=rfl
theorem zlG:∀ l:zag,znd (l.map dT)<=1
 | []=>jaE _
 | t :: r=>by
  rw[jat,znd,zrm]
  have:=zlG r
  omega
theorem zjM (l:zag):dep (dF l)<=2:=by
 unfold dF;rw[dep];have:=zlG l;omega
theorem zrt (t u:Int × Int):deq (dT t) (dT u)=decide (t=u):=by
 obtain⟨a,b⟩:=t;obtain⟨c,d⟩:=u;show ((a == c) && ((b == d) && true))=decide ((a,b)=(c,d));by_cases e1:a=c <;> by_cases e2:b=d <;> simp[e1,e2]
theorem zl4:∀ l m:zag,zl6 (l.map dT) (m.map dT)=decide (l=m)
 | [],[]=>rfl
 | [],_ :: _=>rfl
 | _ :: _,[]=>rfl
 | t :: l,u :: m=>by
  rw[jat,jat,zgj,zrt,zl4 l m];by_cases e1:t=u <;> by_cases e2:l=m <;> simp[e1,e2]
theorem zpn (l m:zag):deq (dF l) (dF m)=decide (l=m):=by unfold dF;rw[zjp];exact zl4 l m
theorem zrU {H:Hp}{a:Addr}{xs:List V}{ds:List D} (h1:H a=some (.lst xs)) (h2:zby H xs ds):Is H (.ref a) (.lst ds):=by
 unfold Is;exact⟨a,xs,rfl,h1,h2⟩
theorem zhQ:∀ {f:zag},IsForm f->∀ t∈f,za8 f t.1=t.2
 | [],_,t,h=>by simp at h
 | p :: r,hf,t,h=>by
  have h1:=jbi.mp hf.rise;rcases jaj.mp h with e | e
  ·rw[e];exact zce h1.1
  ·have hr:IsForm r:=⟨h1.2,fun q hq=>hf.nz q (by simp[hq])⟩
   have:=zhQ hr t e
   have h2:=h1.1 t e;rw[za8,if_neg (by omega),this];omega
theorem _root_.L2.zai.write {HB H:Hp}{a:Addr}{o:HO} (h:zai HB H) (ha:HB a=none):zai HB (upd H a o):=fun b u e=>by
 rw[zan (zat e ha)];exact h b u e
theorem TLo.cat {H H':Hp}{a b c:Addr}{l m:zag}{ps qs:List Addr} (h1:zdi H ps l) (h2:zdi H qs m) (s:zai H H') (hc:H' c=some (.lst (ps.map V.ref++qs.map V.ref))):TLo H' c (l++m) :=
 ⟨ps++qs,by rw[hc,jac],zdi.append (h1.keep fun b xs z=>s b _ z) (h2.keep fun b xs z=>s b _ z)⟩
theorem _root_.L2.TL.seq {K:PySem.W.Frag}{H:Hp}{a:Addr}{l:zag} (h:TL K H a l):∃ xs,SqL K H a xs:=let ⟨ps,h1,_⟩:=h; ⟨_,h1⟩
theorem zeW {K:PySem.W.Frag}{a:Addr}{l:zag}{H:Hp}{te:TE}{R:List V->Hp->Addr->Prop} (f:Int × Int->Int × Int) (hT:TL K H a l) (hl:l.length<=1000000) (rest:List (Option V)) {σ:St} (hσ : σ = none :: none :: rest)
  (he:∀ t∈l,∀ (H2:Hp) (R:V->Hp->Prop),zai H H2->(∀ w,H2 w=none->R (.ref w) (upd H2 w (.tup [.int (f t).1,.int (f t).2])))->te (some (.int t.1) :: some (.int t.2) :: rest) H2 R)
  (q:∀ (D:Addr) (ys:List V) (H2:Hp),H D=none->TLo (upd H2 D (.lst ys)) D (l.map f)->zai H (upd H2 D (.lst ys))->R ys H2 D) :
  ∃ W:Nat->Nat->List V->St->Hp->Prop,(∃ m,W 0 m [] σ H)/\∀ i m ys σ H,W i m ys σ H ->
   ((Itl K a).stop i H/\∀ D,H D=none->R ys H D) \/
   ((Itl K a).go i H/\ys.length<sizeLine/\∃ N:List V->St->Hp->Prop,(∀ ys' σ' H',N ys' σ' H'->∃ m',m'<m/\W (i+1) m' ys' σ' H') /\
    ∀ x H',(Itl K a).yld i H x H'->zi1 K 2 (zbD (zaH 0) (zbD (zaH 1) ziZ)) x σ H' fun σ2 H2=>zpU σ2 H2 fun b H3=>if b=true then te σ2 H3 fun y H4=>N (ys ++ [y]) σ2 H4 else N ys σ2 H3):=by
 obtain⟨ps,hS,hP⟩:=hT;subst hσ;refine zbn (K:=K) (a:=a) (xs:=ps.map V.ref) (R:=R) (fun i ys σ H2=>∃ (v0 v1:Option V) (qs:List Addr),σ = v0 :: v1 :: rest/\ys=qs.map V.ref/\zdi H2 qs ((l.take i).map f)/\zai H H2)
  ⟨none,none,[],rfl,rfl,.nil,zai.refl _⟩ (fun i ys σ H2 hi ⟨_,_,qs,_,e1,e2,e3⟩=>⟨e3.seq hS,by rw[e1,jaa,e2.length,jaa,jaJ];omega⟩) (by rw[jaa,hP.length];exact jaB (zaF hl)) ?_ ?_
 ·rintro i z ys σ H2 hi ⟨v0,v1,qs,rfl,rfl,g2,g4⟩;obtain⟨p,hqi,rfl⟩:=zcG hi;obtain⟨t,ht1,ht2⟩:=hP.at' hqi;have htk:l.take (i+1)=l.take i ++ [t]:=by rw[jaI,ht1];rfl
  refine⟨p,_,rfl,SqT.of (g4 _ _ ht2),rfl,_,_,rfl,_,_,rfl,rfl,?_⟩;show te (some (.int t.1) :: some (.int t.2) :: rest) H2 _;refine he t (jao ht1) H2 _ g4 fun w hw=>?_
  have s14:zai H2 (upd H2 w (.tup [.int (f t).1,.int (f t).2])):=zai.upd hw;refine⟨_,_,qs ++ [w],rfl,(by rw[jac];rfl),?_,g4.trans s14⟩;rw[htk,jac];exact zdi.snoc (g2.keep fun b xs z=>s14 b _ z) zac
 ·rintro ys σ H2 ⟨v0,v1,qs,rfl,rfl,g2,g4⟩ w hw;have hfull:l.take (ps.map V.ref).length=l:=by rw[jaa,hP.length,jaK]
  rw[hfull] at g2;have s14:zai H2 (upd H2 w (.lst (qs.map V.ref))):=zai.upd hw;exact q w _ _ (g4.free hw) ⟨qs,zac,g2.keep fun b xs z=>s14 b _ z⟩ (g4.trans s14)
theorem zcY {H:Hp}{a b:Addr}{o:HO} (h:H a=some o) (hb:H b=none):b≠a:=(zat h hb).symm
end My
namespace OF
open PySem
noncomputable def zfW (t:Int × Int) (m:zag):zag:=m.map fun u=>(Builtin.bitOr t.1 u.1,t.2 * u.2)
noncomputable def zaV (l m:zag):zag:=l.flatMap fun t=>zfW t m
theorem zkz (t:Int × Int) (m:zag):(zfW t m).length=m.length:=jaa _
theorem zl1 (t u:Int × Int) (m:zag):zfW t (m ++ [u])=zfW t m ++ [(Builtin.bitOr t.1 u.1,t.2 * u.2)]:=by unfold zfW;rw[jac];rfl
theorem zg1 (l m:zag) (t:Int × Int):zaV (l ++ [t]) m=zaV l m++zfW t m:=by unfold zaV;rw[List.flatMap_append];simp
theorem zbO:∀ (l m:zag),(zaV l m).length=l.length * m.length
 | [],m=>by simp[zaV]
 | t :: l,m=>by
  have:=zbO l m
  have e:zaV (t :: l) m=zfW t m++zaV l m:=by unfold zaV;rw[jaY]
  rw[e,jab,zkz,this,jae,Nat.add_mul,Nat.one_mul,Nat.add_comm]
theorem zif {l m:zag}{x:Int × Int} (h:x∈zaV l m):∃ t∈l,∃ u∈m,x=(Builtin.bitOr t.1 u.1,t.2 * u.2):=by
 unfold zaV at h;obtain⟨t,ht,h⟩:=jcC.mp h;unfold zfW at h;obtain⟨u,hu,e⟩:=jau.mp h;exact⟨t,ht,u,hu,e.symm⟩
noncomputable def lin (φ : Int->Int):zag->Int
 | []=>0
 | t :: r => φ t.1 * t.2+lin φ r
theorem zgW (φ : Int->Int):∀ a b:zag,lin φ (a++b)=lin φ a+lin φ b
 | [],b=>by simp[lin]
 | t :: r,b=>by rw[jcA,lin,lin,zgW φ r b];omega
theorem ziq (φ : Int->Int) (k:Int):∀ l:zag,lin φ l = φ k * za8 l k+lin φ (l.filter fun t=>decide (t.1≠k))
 | []=>by simp[lin,za8]
 | t :: r=>by
  have ih:=ziq φ k r;rw[lin,za8,ih];by_cases h:t.1=k
  ·rw[if_pos h,jcc (by simp[h]),h,Int.mul_add];omega
  ·rw[if_neg h,jdi (by simp[h]),lin,jcV];omega
theorem zgB (k j:Int):∀ l:zag,za8 (l.filter fun t=>decide (t.1≠k)) j=if j=k then 0 else za8 l j
 | []=>by simp[za8]
 | t :: r=>by
  have ih:=zgB k j r;by_cases h:t.1=k
  ·rw[jcc (by simp[h]),ih,za8];by_cases hj:j=k
   ·simp[hj]
   ·rw[if_neg hj,if_neg hj,if_neg (by omega)];omega
  ·rw[jdi (by simp[h]),za8,za8,ih];by_cases hj:j=k
   ·rw[if_pos hj,if_pos hj,if_neg (by omega)];rfl
   ·rw[if_neg hj,if_neg hj]
theorem zke (φ : Int->Int):∀ (n:Nat) (l:zag),l.length<=n->(∀ k,za8 l k=0)->lin φ l=0
 | _,[],_,_=>rfl
 | 0,t :: r,h,_=>by simp at h
 | n+1,t :: r,h,hc=>by
  rw[ziq φ t.1,hc,Int.mul_zero,jcV];have e:((t :: r).filter fun u=>decide (u.1≠t.1))=r.filter fun u=>decide (u.1≠t.1):=jcc (by simp)
  rw[e];refine zke φ n _ ?_ fun k=>?_
  ·have:=ja0 (fun u:Int × Int=>decide (u.1≠t.1)) r
   rw[jae] at h;omega
  ·rw[<- e,zgB];split
   ·rfl
   ·exact hc k
theorem zmm (φ : Int->Int):∀ l:zag,lin φ (l.map fun p=>(p.1,-p.2)) = -lin φ l
 | []=>rfl
 | t :: r=>by
  rw[jat,lin,lin,zmm φ r];show φ t.1 * -t.2 + -lin φ r=_;rw[Int.mul_neg];omega
theorem zmv (φ : Int->Int) {l m:zag} (h:∀ k,za8 l k=za8 m k):lin φ l=lin φ m:=by
 have:=zke φ _ (l++m.map fun p=>(p.1,-p.2)) (jag _) fun k=>by rw[zaq,zdH,h];omega
 rw[zgW,zmm] at this;omega
theorem zfO (φ : Int->Int) (c:Int):∀ l:zag,lin φ (l.map fun p=>(p.1,p.2 * c))=lin φ l * c
 | []=>by simp[lin]
 | t :: r=>by rw[jat,lin,lin,zfO φ c r,Int.add_mul,Int.mul_assoc]
theorem zkP (a b:Nat):Builtin.bitAnd (a:Int) (b:Int)=((a &&& b:Nat):Int):=by
 have:=PyProof.Rows.bitAnd_pp (x:=(a:Int)) (y:=(b:Int)) (jaM _) (jaM _)
 simpa using this
theorem zfV (a b:Nat):Builtin.bitOr (a:Int) (b:Int)=((a ||| b:Nat):Int):=by
 have:=zof (x:=(a:Int)) (y:=(b:Int)) (jaM _) (jaM _)
 simpa using this
theorem zdR (l:zag) (k:Int):za8 l k=lin (fun j=>if j=k then 1 else 0) l:=by
 induction l with
 | nil=>rfl
 | cons t r ih =>
  rw[za8,lin,ih];split <;> simp_all
theorem zjr (a b:Int):Builtin.bitAnd a b=Builtin.bitAnd b a:=by
 unfold Builtin.bitAnd;by_cases h1:0<=a <;> by_cases h2:0<=b <;> simp[h1,h2,Nat.and_comm,Nat.or_comm]
theorem zkE (a b:Int):Builtin.bitOr a b=Builtin.bitOr b a:=by unfold Builtin.bitOr;rw[zjr]
theorem zdV (l m:zag) (k:Int):za8 (zaV l m) k=za8 (zaV m l) k:=by
 have e0:∀ l:zag,za8 (zaV l []) k=0:=fun l=>by
  induction l with
  | nil=>rfl
  | cons t r ih =>
   have e:zaV (t :: r) []=zfW t []++zaV r []:=(by unfold zaV;rw[jaY]);rw[e];exact ih
 have step:∀ (l m:zag) (t:Int × Int),za8 (zaV m (t :: l)) k=za8 (zfW t m) k+za8 (zaV m l) k:=by
  intro l m t;induction m with
  | nil=>rfl
  | cons u r ih =>
   have e1:zaV (u :: r) (t :: l)=zfW u (t :: l)++zaV r (t :: l):=by unfold zaV;rw[jaY]
   have e2:zaV (u :: r) l=zfW u l++zaV r l:=by unfold zaV;rw[jaY]
   have e3:zfW u (t :: l)=(Builtin.bitOr u.1 t.1,u.2 * t.2) :: zfW u l:=rfl;have e4:zfW t (u :: r)=(Builtin.bitOr t.1 u.1,t.2 * u.2) :: zfW t r:=rfl;rw[e1,zaq,ih,e2,zaq,e3,e4,za8,za8,zkE u.1 t.1,Int.mul_comm u.2 t.2];omega
 induction l with
 | nil=>rw[e0];rfl
 | cons t r ih =>
  have e:zaV (t :: r) m=zfW t m++zaV r m:=by unfold zaV;rw[jaY]
  rw[e,zaq,ih,step]
end OF
namespace L2
open PySem PySem.Spec PyProof.Rows
theorem Inv.turnedT {X:Cx}{pins:List (Addr × Obj)} {σ:St}{H:Hp}{s:Shared}{h':Heap}{t':Nat}{e it T:Addr}{o:HO} (I:Inv X pins σ H s) (k:∀ b u,b≠e->b≠it->s.heap.get? b=some u->h'.get? b=some u)
  (fe:zi0 X pins H e) (fi:zi0 X pins H it) (hT:s.heap.objs.size<=T) (new:zbJ X.prog X.w (upd H T o) h' T o):Inv X pins σ (upd H T o) { s with heap:=h',toks:=t' }:=by
 have hn:H T=none:=I.hok.fresh hT;have ne1:∀ b u,H b=some u->b≠e/\b≠it:=fun b u q=>⟨zat q fe.1,zat q fi.1⟩
 have nm:∀ b,b ∉ [e,it]->b≠e/\b≠it:=fun b hb=>⟨fun z=>hb (by simp[z]),fun z=>hb (by simp[z])⟩
 have lt:∀ b u,s.heap.get? b=some u->b≠T:=fun b u q=>jaU (jas (jan q) hT)
 refine I.step (g':=s.gens) (d':=s.drawn) (ch:=[e,it]) (fun b hb=>?_) (fun b u _ _ hc q _=>k b u (nm b hc).1 (nm b hc).2 q) (fun b u _ _ hc q _=>⟨u.slots,k b u (nm b hc).1 (nm b hc).2 q⟩) (fun b u _ q n=>by rw[zan (lt b u q)];exact n)
  (fun b u hc q=>⟨u,k b u (nm b hc).1 (nm b hc).2 q⟩) (fun b xs q=>by rw[zan (zat q hn)];exact q) (fun b u xs q=>by rw[zan (zat q hn)];exact q) (fun b ps q=>⟨#[],by rw[zan (zat q hn),q];simp⟩) (fun m hm=>?_) (fun b u q=>?_) I.bare
 ·rcases jaj.mp hb with z | z
  ·subst z;exact⟨fe.2.2.2.1,fe.2.1,fe.2.2.2.2.1,fe.2.2.2.2.2⟩
  ·have z':b=it:=by simpa using z
   subst z';exact⟨fi.2.2.2.1,fi.2.1,fi.2.2.2.2.1,fi.2.2.2.2.2⟩
 ·obtain⟨u,es,ep,ho,r⟩:=hm;exact⟨u,es,ep,k _ u (Ne.symm fe.2.1) (Ne.symm fi.2.1) ho,r⟩
 ·by_cases hb:b=T
  ·subst hb;rw[zac] at q;cases q;exact new
  ·rw[zan hb] at q;refine (I.hok b u q).stay (fun c v hc z=>?_) (fun c z=>by rw[zan (zat z hn)];exact z) fun c xs z=>by rw[zan (zat z hn)];exact z
   rcases hc with w | w
   ·rw[w] at z ⊢;exact k b v (ne1 b u q).1 (ne1 b u q).2 z
   ·exact k c v (ne1 c _ w).1 (ne1 c _ w).2 z
noncomputable def Ite (K:PySem.W.Frag) (a:Addr):It :=
 ⟨fun i H=>∃ xs x,SqL K H a xs/\xs[i]? = some x,fun i H y H'=>∃ T x,H T=none/\y = .ref T/\H'=upd H T (.tup [.int (i:Nat),x])/\∀ xs,SqL K H a xs->xs[i]? = some x,fun i H=>∃ xs,SqL K H a xs/\xs.length<=i⟩
theorem zle {P:Program}{w:World}{K:PySem.W.Frag}{elts:List Expr}{x1:Nat}{pos:Pos} (a e it:Addr) (hei:e≠it):znc P w K (.Tuple elts x1 pos) (Ite K a) [e,it] e (fun i h=>(∃ old,IsEnum h e it i old)/\h.IsListIter it a i) where
 mem:=by simp
 obj:=fun i h st b hb=>by
  obtain⟨⟨old,he⟩,o,ho,c,d⟩:=st;rcases jaj.mp hb with z | z
  ·subst z;exact⟨_,he,fun v z=>by cases z⟩
  ·have z':b=it:=by simpa using z
   subst z';exact⟨o,ho,fun v z=>by rw[d] at z;cases z⟩
 keep:=fun i h h' st k=>by
  obtain⟨⟨old,he⟩,hit⟩:=st;exact⟨⟨old,k e (by simp) _ he⟩,hit.at fun o q=>k it (by simp) o q⟩
 item:=by
  intro X hP hw hK hc i pins s σ H E I hf st hg;subst hP hw hK;obtain⟨⟨old,he⟩,hit⟩:=st;obtain⟨xs,x,hq,hx⟩:=hg;obtain⟨its,rv,p,hz⟩:=I.list hq;obtain⟨u,hu,ru⟩:=rv.get hx;have fe:=hf e (by simp);have fi:=hf it (by simp);refine wpAny_pyNext_enum_item he hit p.isList (x:=u) (by simpa using hu) hei fun h1 ho hit1 hT hsz k1=>⟨_,rfl,?_⟩
  have helt:e<s.heap.objs.size:=jan he;have hTe:s.heap.objs.size≠e:=jcz helt;have hil:it<s.heap.objs.size:=by obtain⟨o,q,_⟩:=hit;exact jan q
  refine wpAny_letOwnedTupleGo_enum ho fun h2 he2 sb=>?_
  have kk:∀ b v,b≠e->b≠it->s.heap.get? b=some v->h2.get? b=some v:=fun b v h1' h2' q=>(sb.2 b h1').trans (k1 b v h1' h2' q)
  have hT2:h2.get? s.heap.objs.size=some { cls := .type "tuple",data := .seq #[.int i s.toks,u] }:=(sb.2 _ hTe).trans hT;refine⟨.ref s.heap.objs.size,upd H s.heap.objs.size (.tup [.int (i:Nat),x]),I.turnedT (t':=s.toks+1) kk fe fi (jag _) ⟨by show 2<=sizeLine;decide,[.int i s.toks,u],.cons ⟨_,rfl⟩ (.cons ru .nil),?_⟩,rfl,⟨_,x,I.hok.fresh (jag _),rfl,rfl,fun ys hy=>by rw[I.list_inj hy hq];exact hx⟩,⟨⟨_,by simpa using he2⟩,?_⟩,fun b hb=>?_⟩
  ·exact⟨_,hT2,rfl,0,rfl⟩
  ·exact hit1.at fun o q=>(sb.2 it hei.symm).trans q
  ·rcases jaj.mp hb with z | z
   ·subst z;rw[zan (Ne.symm hTe)];exact fe.1
   ·have z':b=it:=by simpa using z
    subst z';rw[zan (jaU hil)];exact fi.1
 done:=by
  intro X hP hw hK hc i pins s σ H E I hf st hg;subst hP hw hK;obtain⟨⟨old,he⟩,hit⟩:=st;obtain⟨xs,hq,hx⟩:=hg;obtain⟨its,rv,p,hz⟩:=I.list hq;obtain⟨f0,f1,f2,f3,f4,f5⟩:=hf it (by simp);have hl:=rv.length;exact wpAny_pyNext_enum_end (I.ok.hd hc) he hit p.isList (by simp;omega) fun h' eb=>⟨rfl,I.turned (t':=s.toks) (fun b o hb q=>eb b o hb q) f0 f1 f3 f4 f5⟩
 self:=fun _ _ _ _ _ st h=>by
  obtain⟨⟨old,he⟩,_⟩:=st;exact wpAny_pyIter_enum he h
noncomputable def ztw (K:PySem.W.Frag) (ta:TA):TI:=fun σ H R=>ta σ H fun vs H1=>∃ a,vs=[.ref a]/\(∃ xs,SqL K H1 a xs)/\R (Ite K a) H1
theorem zmJ:bootBuiltins "enumerate" = some (.type "enumerate"):=by decide +kernel
theorem zp3 {X:Cx}{elts:List Expr}{x1:Nat}{p0 p pos:Pos}{a:Expr}{ta:TA} (hg:Gl X "enumerate") (hm:X.mg "enumerate" = none) (ha:PA X [a] ta) (hs:starEach [a] X.env=[(false,eval a X.env)]:=by rfl) :
  PI X (.Tuple elts x1 p0) (.Call (.Name "enumerate" p) [a] [] pos) (ztw X.K ta):=by
 intro pins s σ H R I h;refine Call_ (zfm I hg hm zmJ (jba (thn (ha pos pins s σ H _ I h) fun us s1 ⟨vs,H1,I1,r1,q1⟩=>?_) hs rfl));obtain⟨b,rfl,⟨xs,hq⟩,q⟩:=q1;obtain⟨u,rfl,ru⟩:=zeX r1;cases (show u=Value.ref b from ru);obtain⟨its,rv,p,hz⟩:=I1.list hq;refine call_enumerate_list p.isList fun h' he hit hsz k=>wpAny_pyIter_enum he ?_
 have I2:Inv X pins σ H1 { s1 with heap:=h' }:=I1.kept (t':=s1.toks) k;have hne:s1.heap.objs.size+1≠s1.heap.objs.size:=Nat.succ_ne_self _;refine⟨s1.heap.objs.size+1,[s1.heap.objs.size+1,s1.heap.objs.size],_,_,H1,rfl,I2,zle b _ _ hne,⟨⟨_,he⟩,hit⟩,fun c hc=>?_,q⟩;have fr:∀ c,s1.heap.objs.size<=c->zi0 X pins H1 c:=fun c hc=>I1.fpOk hc (I1.hok.fresh hc)
 rcases jaj.mp hc with z | z
 ·subst z;exact fr _ (Nat.le_succ _)
 ·have z':c=s1.heap.objs.size:=by simpa using z
  subst z';exact fr _ (jag _)
theorem zls {K:PySem.W.Frag}{a:Addr}{xs:List V}{g:TG}{tc:TT}{te:TE} {σ:St}{H:Hp}{R:List V->Hp->Addr->Prop} (Pv:Nat->List V->St->Hp->Prop) (h0:Pv 0 [] σ H) (hl:∀ i ys σ H,i<=xs.length->Pv i ys σ H->SqL K H a xs/\ys.length<=i) (hz:xs.length<=sizeLine)
  (hs:∀ i x ys σ H T,xs[i]? = some x->Pv i ys σ H->H T=none->g (.ref T) σ (upd H T (.tup [.int (i:Nat),x])) fun σ2 H2=>tc σ2 H2 fun b H3=>if b=true then te σ2 H3 fun y H4=>Pv (i+1) (ys ++ [y]) σ2 H4 else Pv (i+1) ys σ2 H3)
  (hd:∀ ys σ H,Pv xs.length ys σ H->∀ D,H D=none->R ys H D) :
  ∃ W:Nat->Nat->List V->St->Hp->Prop,(∃ m,W 0 m [] σ H)/\∀ i m ys σ H,W i m ys σ H ->
   ((Ite K a).stop i H/\∀ D,H D=none->R ys H D) \/
   ((Ite K a).go i H/\ys.length<sizeLine/\∃ N:List V->St->Hp->Prop,(∀ ys' σ' H',N ys' σ' H'->∃ m',m'<m/\W (i+1) m' ys' σ' H') /\
    ∀ x H',(Ite K a).yld i H x H'->g x σ H' fun σ2 H2=>tc σ2 H2 fun b H3=>if b=true then te σ2 H3 fun y H4=>N (ys ++ [y]) σ2 H4 else N ys σ2 H3):=by
 refine⟨fun i m ys σ H=>m=xs.length-i/\i<=xs.length/\Pv i ys σ H,⟨xs.length,by simp,jaE _,h0⟩,?_⟩;rintro i m ys σ H ⟨rfl,hi,p⟩;have q:=hl i ys σ H hi p;by_cases hlt:i<xs.length
 ·refine .inr ⟨⟨xs,xs[i],q.1,by simp[hlt]⟩,(by omega),Pv (i+1),fun ys' σ' H' p'=>⟨xs.length-(i+1),by omega,rfl,hlt,p'⟩,fun x H' y=>?_⟩;obtain⟨T,z,hT,rfl,rfl,y⟩:=y;exact hs i z ys σ _ T (y xs q.1) p hT
 ·have e:i=xs.length:=by omega
  subst e;exact .inl ⟨⟨xs,q.1,jag _⟩,hd ys σ H p⟩
end L2
namespace OF
open PySem
theorem zkH {g j:Nat} (h:g.testBit j=true):g-2^j=g ^^^ 2^j:=by
 have h1:(g ^^^ 2^j) / 2^j % 2=0:=by
  have:(g ^^^ 2^j).testBit j=false:=by rw[jdo,h,Nat.testBit_two_pow_self];rfl
  rw[ja1] at this
  have:=of_decide_eq_false this
  omega
 have h2:=zb7 h1;have h3:(g ^^^ 2^j) ||| 2^j=g:=by
  apply jb2;intro i;rw[jbN,jdo,jbq];by_cases e:j=i
  ·subst e;simp[h]
  ·simp[e]
 omega
theorem zl0 {g j:Nat} (h:g.testBit j=true) (i:Nat):(g-2^j).testBit i=(g.testBit i && decide (i≠j)):=by
 rw[zkH h,jdo,jbq];by_cases e:j=i
 ·subst e;simp[h]
 ·have e':¬ i=j:=fun z=>e z.symm
  simp[e,e']
open Classical in
theorem zhf {f:zag} (h:IsForm f):(f.map (·.1)).Nodup:=by
 rw[List.Nodup,jcr];exact h.rise.imp fun h=>by omega
theorem zqi (i j:Nat):i &&& 2^j=if i.testBit j then 2^j else 0:=by
 apply jb2;intro k;rw[Nat.testBit_and,jbq];by_cases e:j=k
 ·subst e;cases h:i.testBit j <;> simp
 ·cases h:i.testBit j <;> simp[e]
end OF
namespace My
open PySem L2 OF
theorem tt {σ:St}{H:Hp}{F G:Hp->Prop} (h:F H):zpU σ H fun b H3=>if b=true then F H3 else G H3:=by
 show (if true=true then F H else G H);rw[if_pos rfl];exact h
end My
set_option maxHeartbeats 1000000
namespace My
open PySem L2 OF
theorem zfF {K:PySem.W.Frag}{a:Addr}{l:zag}{H:Hp}{tc:TT}{te:TE}{R:List V->Hp->Addr->Prop} (p:Int × Int->Bool) (f:Int × Int->Int × Int) (hT:TL K H a l) (hl:l.length<=1000000) (rest:List (Option V)) {σ:St} (hσ : σ = none :: none :: rest)
  (hc:∀ t∈l,∀ (H2:Hp) (R:Bool->Hp->Prop),zai H H2->R (p t) H2->tc (some (.int t.1) :: some (.int t.2) :: rest) H2 R)
  (he:∀ t∈l,p t=true->∀ (H2:Hp) (R:V->Hp->Prop),zai H H2->(∀ w,H2 w=none->R (.ref w) (upd H2 w (.tup [.int (f t).1,.int (f t).2])))->te (some (.int t.1) :: some (.int t.2) :: rest) H2 R)
  (q:∀ (D:Addr) (ys:List V) (H2:Hp),H D=none->TLo (upd H2 D (.lst ys)) D ((l.filter p).map f)->zai H (upd H2 D (.lst ys))->R ys H2 D) :
  ∃ W:Nat->Nat->List V->St->Hp->Prop,(∃ m,W 0 m [] σ H)/\∀ i m ys σ H,W i m ys σ H ->
   ((Itl K a).stop i H/\∀ D,H D=none->R ys H D) \/
   ((Itl K a).go i H/\ys.length<sizeLine/\∃ N:List V->St->Hp->Prop,(∀ ys' σ' H',N ys' σ' H'->∃ m',m'<m/\W (i+1) m' ys' σ' H') /\
    ∀ x H',(Itl K a).yld i H x H'->zi1 K 2 (zbD (zaH 0) (zbD (zaH 1) ziZ)) x σ H' fun σ2 H2=>tc σ2 H2 fun b H3=>if b=true then te σ2 H3 fun y H4=>N (ys ++ [y]) σ2 H4 else N ys σ2 H3):=by
 obtain⟨ps,hS,hP⟩:=hT;subst hσ;refine zbn (K:=K) (a:=a) (xs:=ps.map V.ref) (R:=R) (fun i ys σ H2=>∃ (v0 v1:Option V) (qs:List Addr),σ = v0 :: v1 :: rest/\ys=qs.map V.ref/\zdi H2 qs (((l.take i).filter p).map f)/\zai H H2)
  ⟨none,none,[],rfl,rfl,.nil,zai.refl _⟩ (fun i ys σ H2 hi ⟨_,_,qs,_,e1,e2,e3⟩=>⟨e3.seq hS,by
   rw[e1,jaa,e2.length,jaa];exact jak (ja0 _ _) (by rw[jaJ];omega)⟩) (by rw[jaa,hP.length];exact jaB (zaF hl)) ?_ ?_
 ·rintro i z ys σ H2 hi ⟨v0,v1,qs,rfl,rfl,g2,g4⟩;obtain⟨b,hqi,rfl⟩:=zcG hi;obtain⟨t,ht1,ht2⟩:=hP.at' hqi;have htm:=jao ht1;have htk:l.take (i+1)=l.take i ++ [t]:=by rw[jaI,ht1];rfl
  refine⟨b,_,rfl,SqT.of (g4 _ _ ht2),rfl,_,_,rfl,_,_,rfl,rfl,?_⟩;show tc (some (.int t.1) :: some (.int t.2) :: rest) H2 _;refine hc t htm H2 _ g4 ?_;by_cases hp:p t=true
  ·rw[hp];refine za4 rfl ?_;refine he t htm hp H2 _ g4 fun w hw=>?_
   have s14:zai H2 (upd H2 w (.tup [.int (f t).1,.int (f t).2])):=zai.upd hw;refine⟨_,_,qs ++ [w],rfl,(by rw[jac];rfl),?_,g4.trans s14⟩;rw[htk,jaO,jac];simp only[jb5,hp,List.filter_nil,if_true,jat,jbZ];exact zdi.snoc (g2.keep fun b xs z=>s14 b _ z) zac
  ·refine zaB hp ⟨_,_,qs,rfl,rfl,?_,g4⟩;rw[htk,jaO,jac];simp only[jb5,hp,List.filter_nil,jbZ,jaZ];simpa using g2
 ·rintro ys σ H2 ⟨v0,v1,qs,rfl,rfl,g2,g4⟩ w hw;have hfull:l.take (ps.map V.ref).length=l:=by rw[jaa,hP.length,jaK]
  rw[hfull] at g2;have s14:zai H2 (upd H2 w (.lst (qs.map V.ref))):=zai.upd hw;exact q w _ _ (g4.free hw) ⟨qs,zac,g2.keep fun b xs z=>s14 b _ z⟩ (g4.trans s14)
theorem _root_.OF.IsForm.filter {f:zag} (h:IsForm f) (p:Int × Int->Bool):IsForm (f.filter p):=⟨h.rise.filter _,fun t ht=>h.nz t (ja8.mp ht).1⟩
noncomputable def zgU (k:Nat) (t:Int × Int):Bool:=t.1.toNat.testBit k
noncomputable def zjh (k:Nat) (l:zag):zag:=l.filter fun t => !zgU k t
noncomputable def zgS (k:Nat) (l:zag):zag:=(l.filter fun t=>zgU k t).map fun t=>(t.1-2^k,t.2)
noncomputable def zlc (k:Nat) (b:Int) (l:zag):zag:=zjh k l++if b=0 then [] else zgS k l
theorem zkk (k:Nat) (b:Int):∀ l:zag,(zlc k b l).length<=l.length
 | []=>by unfold zlc zjh zgS;split <;> simp
 | t :: l=>by
  have ih:=zkk k b l;unfold zlc zjh zgS at *;by_cases h:zgU k t=true <;> split <;> simp_all <;> omega
theorem zex (k:Nat) (l:zag):(zjh k l).length<=l.length:=ja0 _ _
theorem zfM (k:Nat) (l:zag):(zgS k l).length<=l.length:=by unfold zgS;rw[jaa];exact ja0 _ _
theorem zgy (k:Nat):∀ l:zag,(zjh k l).length+(zgS k l).length=l.length
 | []=>rfl
 | t :: l=>by
  have ih:=zgy k l;unfold zjh zgS at *;by_cases h:zgU k t=true <;> simp_all <;> omega
theorem zj0 {t:Int × Int} (h:0<=t.1) (k:Nat):Builtin.bitAnd t.1 (2^k)=if zgU k t then 2^k else 0:=by
 have e:((t.1.toNat:Nat):Int)=t.1:=ja5 h;have pw:((2:Int)^k)=((2^k:Nat):Int):=by norm_cast
 unfold zgU;rw[<- e,pw,zkP,zqi,jbf];split <;> rfl
theorem zrd (k:Nat):(2:Int)^k≠0:=by
 have pw:((2:Int)^k)=((2^k:Nat):Int):=by norm_cast
 have:=jce k
 omega
theorem zfX {t:Int × Int} (h:0<=t.1) (k:Nat):decide (V.int (Builtin.bitAnd t.1 (2^k))=V.int 0) = !zgU k t:=by
 rw[zj0 h];cases zgU k t
 ·simp
 ·have:=zrd k
  simp[this]
theorem zqj {t:Int × Int} (h:0<=t.1) {k:Nat} (hb:zgU k t=true):2^k<=t.1:=by
 have e:((t.1.toNat:Nat):Int)=t.1:=ja5 h;have pw:((2:Int)^k)=((2^k:Nat):Int):=by norm_cast
 have:=jbz hb
 omega
noncomputable def zs6 (g k:Nat) (b:Bool):Nat:=if b then (if g.testBit k then g else g+2^k) else (if g.testBit k then g-2^k else g)
theorem znv (g k:Nat) (b:Bool) (i:Nat):(zs6 g k b).testBit i=if i=k then b else g.testBit i:=by
 unfold zs6;by_cases h:g.testBit k=true
 ·cases b
  ·simp only[h,if_true,jcf,if_false];rw[zl0 h];by_cases e:i=k <;> simp[e]
  ·simp only[h,if_true];by_cases e:i=k <;> simp[e,h]
 ·have h':g.testBit k=false:=by simpa using h
  cases b
  ·simp only[h',jcf,if_false];by_cases e:i=k <;> simp[e,h']
  ·simp only[h',if_true,jcf,if_false];have hd:g / 2^k % 2=0:=by
    rw[ja1] at h'
    have:=of_decide_eq_false h'
    omega
   rw[zb7 hd,jbN,jbq];by_cases e:i=k
   ·simp[e]
   ·have:¬ k=i:=fun z=>e z.symm
    simp[e,this]
end My
namespace L2
open PySem PySem.Spec PyProof.Rows
section
variable {X:Cx}
noncomputable def zpM:V->List V->Hp->VK->Prop:=fun x vs H Q=>∃ n:Int,x = .int n/\vs=[]/\Q (.int (Builtin.Int.intBits n)) H
theorem zeI:MtM X "int.bit_length" zpM:=by
 intro pins s σ H x xs v us Q I rx rv h;obtain⟨n,rfl,rfl,q⟩:=h;obtain⟨t,rfl⟩:=rx;obtain rfl:=rv.zero;exact call_int_bit_length ⟨.int _,H,I.tok _,⟨_,rfl⟩,q⟩
end
end L2
namespace My
open PySem L2 OF
theorem zfY (n:Nat):Builtin.Int.intBits (n:Int)=if n=0 then 0 else n.log2+1:=by
 unfold Builtin.Int.intBits;by_cases h:n=0
 ·subst h;rfl
 ·rw[if_neg h,if_neg (by simp;omega)];rfl
theorem zeZ (n:Nat):n<2^Builtin.Int.intBits (n:Int):=by
 rw[zfY];by_cases h:n=0
 ·subst h;decide
 ·rw[if_neg h];exact Nat.lt_log2_self
theorem zff {n m:Nat} (h:n<2^m):Builtin.Int.intBits (n:Int)<=m:=by
 rw[zfY];by_cases h0:n=0
 ·subst h0;simp
 ·rw[if_neg h0];exact (jdv h0).mpr h
theorem zgD:∀ (l:zag) (s j:Nat),(zca l s).testBit j=true↔s.testBit j=true\/∃ t∈l,t.1.toNat.testBit j=true
 | [],s,j=>by simp[zca]
 | t :: l,s,j=>by
  rw[zca,zgD l,jbN,jdq];constructor
  ·rintro ((h | h) | ⟨u,h1,h2⟩)
   ·exact .inl h
   ·exact .inr ⟨t,jbh ..,h⟩
   ·exact .inr ⟨u,jax _ h1,h2⟩
  ·rintro (h | ⟨u,h1,h2⟩)
   ·exact .inl (.inl h)
   ·rcases jaj.mp h1 with z | z
    ·subst z;exact .inl (.inr h2)
    ·exact .inr ⟨u,z,h2⟩
theorem zjG {l:zag}{m:Nat} (h:∀ t∈l,0<=t.1/\t.1<2^m):zca l 0<2^m:=by
 refine jbB _ fun j hj=>?_
 cases e:(zca l 0).testBit j
 ·rfl
 ·rcases (zgD l 0 j).mp e with z | ⟨t,h1,h2⟩
  ·simp at z
  ·have:=h t h1
   have pw:((2:Int)^m)=((2^m:Nat):Int):=by norm_cast
   have h3:t.1.toNat<2^j:=jas (by omega:t.1.toNat<2^m) (jaH (by decide) hj);rw[jbs h3] at h2;cases h2
noncomputable def lst (a:Nat):List Nat:=(List.range (Builtin.Int.intBits (a:Int))).filter fun k=>a.testBit k
theorem zjA {a k:Nat}:k∈lst a↔a.testBit k=true:=by
 unfold lst;rw[ja8,jbA];constructor
 ·exact fun h=>h.2
 ·intro h;refine⟨?_,h⟩;rcases jcu k (Builtin.Int.intBits (a:Int)) with z | z
  ·exact z
  ·have:=jbs (jas (zeZ a) (jaH (by decide) z))
   rw[this] at h;cases h
end My
namespace L2
open PySem PySem.Spec PyProof.Rows
theorem Inv.turnedN {X:Cx}{pins:List (Addr × Obj)} {σ:St}{H:Hp}{s:Shared}{h':Heap}{t':Nat} (ch:List Addr) (I:Inv X pins σ H s) (k:∀ b u,b ∉ ch->s.heap.get? b=some u->h'.get? b=some u)
  (f:∀ b∈ch,zi0 X pins H b):Inv X pins σ H { s with heap:=h',toks:=t' }:=by
 have out:∀ b u,H b=some u->b ∉ ch:=fun b u q z=>by rw[(f b z).1] at q;cases q
 refine I.step (g':=s.gens) (d':=s.drawn) (ch:=ch) (fun b hb=>⟨(f b hb).2.2.2.1,(f b hb).2.1,(f b hb).2.2.2.2.1,(f b hb).2.2.2.2.2⟩) (fun b u _ _ hc q _=>k b u hc q) (fun b u _ _ hc q _=>⟨u.slots,k b u hc q⟩) (fun _ _ _ _ n=>n)
  (fun b u hc q=>⟨u,k b u hc q⟩) (fun _ _ e=>e) (fun _ _ _ e=>e) (fun b ps e=>⟨#[],by rw[e];simp⟩) (fun m hm=>?_) (fun b u e=>?_) I.bare
 ·obtain⟨u,es,ep,ho,r⟩:=hm;exact⟨u,es,ep,k _ u (fun z=>(f _ z).2.1 rfl) ho,r⟩
 ·refine (I.hok b u e).stay (fun c v hc q=>k c v ?_ q) (fun _ q=>q) fun _ _ q=>q
  rcases hc with z | z
  ·rw[z];exact out b u e
  ·exact out c _ z
theorem Inv.turnedL {X:Cx}{pins:List (Addr × Obj)} {σ:St}{H:Hp}{s:Shared}{h':Heap}{t':Nat}{T:Addr}{o:HO} (ch:List Addr) (I:Inv X pins σ H s) (k:∀ b u,b ∉ ch->s.heap.get? b=some u->h'.get? b=some u)
  (f:∀ b∈ch,zi0 X pins H b) (hT:s.heap.objs.size<=T) (new:zbJ X.prog X.w (upd H T o) h' T o):Inv X pins σ (upd H T o) { s with heap:=h',toks:=t' }:=by
 have hn:H T=none:=I.hok.fresh hT;have out:∀ b u,H b=some u->b ∉ ch:=fun b u q z=>by rw[(f b z).1] at q;cases q
 have lt:∀ b u,s.heap.get? b=some u->b≠T:=fun b u q=>jaU (jas (jan q) hT)
 have up:∀ {b:Addr}{u:HO},H b=some u->upd H T o b=some u:=fun q=>by rw[zan (zat q hn)];exact q
 refine I.step (g':=s.gens) (d':=s.drawn) (ch:=ch) (fun b hb=>⟨(f b hb).2.2.2.1,(f b hb).2.1,(f b hb).2.2.2.2.1,(f b hb).2.2.2.2.2⟩) (fun b u _ _ hc q _=>k b u hc q) (fun b u _ _ hc q _=>⟨u.slots,k b u hc q⟩) (fun b u _ q n=>by rw[zan (lt b u q)];exact n)
  (fun b u hc q=>⟨u,k b u hc q⟩) (fun b xs q=>up q) (fun b u xs q=>up q) (fun b ps q=>⟨#[],by rw[up q];simp⟩) (fun m hm=>?_) (fun b u q=>?_) I.bare
 ·obtain⟨u,es,ep,ho,r⟩:=hm;exact⟨u,es,ep,k _ u (fun z=>(f _ z).2.1 rfl) ho,r⟩
 ·by_cases hb:b=T
  ·subst hb;rw[zac] at q;cases q;exact new
  ·rw[zan hb] at q;refine (I.hok b u q).stay (fun c v hc z=>?_) (fun c z=>up z) fun c xs z=>up z
   rcases hc with w | w
   ·rw[w] at z ⊢;exact k b v (out b u q) z
   ·exact k c v (out c _ w) z
noncomputable def Itz (K:PySem.W.Frag) (a b:Addr):It :=
 ⟨fun i H=>∃ xs ys x y,SqL K H a xs/\SqL K H b ys/\xs[i]? = some x/\ys[i]? = some y,fun i H v H'=>∃ T x y,H T=none/\v = .ref T/\H'=upd H T (.tup [x,y])/\(∀ xs,SqL K H a xs->xs[i]? = some x)/\∀ ys,SqL K H b ys->ys[i]? = some y,
  fun i H=>∃ xs ys,SqL K H a xs/\SqL K H b ys/\(xs.length<=i\/ys.length<=i)⟩
theorem znT {P:Program}{w:World}{K:PySem.W.Frag}{elts:List Expr}{x1:Nat}{pos:Pos} (a b z TI TO i1 i2:Addr) (D:ZipApart z TI TO i1 i2 a b) :
  znc P w K (.Tuple elts x1 pos) (Itz K a b) [z,TI,TO,i1,i2] z (fun i h=>IsZip h z TI TO .none/\IsPair h TI (.ref i1) (.ref i2)/\(∃ u v,IsPair h TO u v)/\h.IsListIter i1 a i/\h.IsListIter i2 b i) where
 mem:=by simp
 obj:=fun i h st c hc=>by
  obtain⟨hz,hTI,⟨u,v,hTO⟩,⟨o1,e1,c1,d1⟩,⟨o2,e2,c2,d2⟩⟩:=st;simp only[jaj,ja7,or_false] at hc;rcases hc with rfl | rfl | rfl | rfl | rfl
  ·exact⟨_,hz,fun v z=>by cases z⟩
  ·exact⟨_,hTI,fun v z=>by cases z⟩
  ·exact⟨_,hTO,fun v z=>by cases z⟩
  ·exact⟨o1,e1,fun v z=>by rw[d1] at z;cases z⟩
  ·exact⟨o2,e2,fun v z=>by rw[d2] at z;cases z⟩
 keep:=fun i h h' st k=>by
  obtain⟨hz,hTI,⟨u,v,hTO⟩,h1,h2⟩:=st;exact⟨k z (by simp) _ hz,k TI (by simp) _ hTI,⟨u,v,k TO (by simp) _ hTO⟩,h1.at fun o q=>k i1 (by simp) o q,h2.at fun o q=>k i2 (by simp) o q⟩
 item:=by
  intro X hP hw hK hc i pins s σ H E I hf st hg;subst hP hw hK;obtain⟨hz,hTI,⟨u,v,hTO⟩,h1,h2⟩:=st;obtain⟨xs,ys,x,y,hq,hq',hx,hy⟩:=hg;obtain⟨its,rv,p,hsz⟩:=I.list hq;obtain⟨its',rv',p',hsz'⟩:=I.list hq';obtain⟨ux,hu,ru⟩:=rv.get hx;obtain⟨uy,hu',ru'⟩:=rv'.get hy;refine wpAny_pyNext_zip_item D hz hTI hTO h1 h2 p.isList p'.isList (x:=ux) (y:=uy) (by simpa using hu) (by simpa using hu') fun h1' hz1 hTO1 hi1 hi2 hT hs1 k1=>⟨_,rfl,?_⟩
  refine wpAny_letOwnedTupleGo_zip hz1 fun h2' hz2 sb=>?_
  have lz:z<s.heap.objs.size:=jan hz;have hTz:s.heap.objs.size≠z:=jcz lz;have kk:∀ c o,c ∉ [z,TI,TO,i1,i2]->s.heap.get? c=some o->h2'.get? c=some o:=fun c o hc q=>by
   simp only[jaj,ja7,or_false,not_or] at hc;exact (sb.2 c hc.1).trans (k1 c o hc.1 hc.2.2.1 hc.2.2.2.1 hc.2.2.2.2 q)
  have hT2:IsPair h2' s.heap.objs.size ux uy:=(sb.2 _ hTz).trans hT;have hTI2:IsPair h2' TI (.ref i1) (.ref i2):=(sb.2 _ D.TIz).trans (k1 _ _ D.TIz D.TITO D.TIi1 D.TIi2 hTI);refine⟨.ref s.heap.objs.size,upd H s.heap.objs.size (.tup [x,y]),I.turnedL (t':=s.toks) _ kk hf (jag _) ⟨by show 2<=sizeLine;decide,[ux,uy],.cons ru (.cons ru' .nil),?_⟩,rfl,⟨_,x,y,I.hok.fresh (jag _),rfl,rfl,fun zs h=>by rw[I.list_inj h hq];exact hx,fun zs h=>by rw[I.list_inj h hq'];exact hy⟩,⟨hz2,hTI2,⟨ux,uy,(sb.2 _ D.TOz).trans hTO1⟩,?_,?_⟩,fun c hc=>?_⟩
  ·exact⟨_,hT2,rfl,0,rfl⟩
  ·exact hi1.at fun o q=>(sb.2 _ D.i1z).trans q
  ·exact hi2.at fun o q=>(sb.2 _ D.i2z).trans q
  ·have hcl:c<s.heap.objs.size:=by
    simp only[jaj,ja7,or_false] at hc;rcases hc with rfl | rfl | rfl | rfl | rfl
    ·exact lz
    ·exact jan hTI
    ·exact jan hTO
    ·obtain⟨o,q,_⟩:=h1;exact jan q
    ·obtain⟨o,q,_⟩:=h2;exact jan q
   rw[zan (jaU hcl)];exact (hf c hc).1
 done:=by
  intro X hP hw hK hc i pins s σ H E I hf st hg;subst hP hw hK;obtain⟨hz,hTI,⟨u,v,hTO⟩,h1,h2⟩:=st;obtain⟨xs,ys,hq,hq',hx⟩:=hg;obtain⟨its,rv,p,hsz⟩:=I.list hq;obtain⟨its',rv',p',hsz'⟩:=I.list hq';have hl:=rv.length;have hl':=rv'.length;refine wpAny_pyNext_zip_end (I.ok.hd hc) D hz hTI hTO h1 h2 p.isList p'.isList ?_ fun h' kk=>⟨rfl,I.turnedN (t':=s.toks) [z,TI,TO,i1,i2] (fun c o hc q=>?_) hf⟩
  ·rcases hx with z | z
   ·left;simp;omega
   ·right;simp;omega
  ·simp only[jaj,ja7,or_false,not_or] at hc;exact kk c o hc.1 hc.2.2.1 hc.2.2.2.1 hc.2.2.2.2 q
 self:=fun _ _ _ _ _ st h=>wpAny_pyIter_zip st.1 h
noncomputable def zvZ (K:PySem.W.Frag) (ta:TA):TI:=fun σ H R=>ta σ H fun vs H1=>∃ a b,vs=[.ref a,.ref b]/\(∃ xs,SqL K H1 a xs)/\(∃ ys,SqL K H1 b ys)/\R (Itz K a b) H1
theorem zj9:bootBuiltins "zip" = some (.type "zip"):=by decide +kernel
theorem zqP {X:Cx}{elts:List Expr}{x1:Nat}{p0 p pos:Pos}{a b:Expr}{ta:TA} (hg:Gl X "zip") (hm:X.mg "zip" = none) (ha:PA X [a,b] ta) (hs:starEach [a,b] X.env=(false,eval a X.env) :: starEach [b] X.env:=by rfl) (hs2:(backTo pos (starEach [b] X.env)).any (·.1)=false:=by rfl) :
  PI X (.Tuple elts x1 p0) (.Call (.Name "zip" p) [a,b] [] pos) (zvZ X.K ta):=by
 intro pins s σ H R I h;refine Call_ (zfm I hg hm zj9 (jba (thn (ha pos pins s σ H _ I h) fun us s1 ⟨vs,H1,I1,r1,q1⟩=>?_) hs hs2));obtain⟨l1,l2,rfl,⟨xs,hq⟩,⟨ys,hq'⟩,q⟩:=q1;obtain⟨u,v,rfl,ru,rv⟩:=zoF r1;cases (show u=Value.ref l1 from ru);cases (show v=Value.ref l2 from rv);obtain⟨its,rx,p,hz⟩:=I1.list hq;obtain⟨its',rx',p',hz'⟩:=I1.list hq';have n1:l1<s1.heap.objs.size:=by obtain⟨o,q,_⟩:=p.isList;exact jan q
 have n2:l2<s1.heap.objs.size:=by obtain⟨o,q,_⟩:=p'.isList;exact jan q
 refine call_zip_2 p.isList p'.isList fun h' hz hTI hTO h1 h2 hsz k=>wpAny_pyIter_zip hz ?_
 have I2:Inv X pins σ H1 { s1 with heap:=h' }:=I1.kept (t':=s1.toks) k;refine⟨_,_,_,_,H1,rfl,I2,znT l1 l2 _ _ _ _ _ (zipApart_new n1 n2),⟨hz,hTI,⟨_,_,hTO⟩,h1,h2⟩,fun c hc=>?_,q⟩;have fr:∀ c,s1.heap.objs.size<=c->zi0 X pins H1 c:=fun c hc=>I1.fpOk hc (I1.hok.fresh hc)
 simp only[jaj,ja7,or_false] at hc;rcases hc with rfl | rfl | rfl | rfl | rfl <;> exact fr _ (by omega)
theorem zov {K:PySem.W.Frag}{a b:Addr}{xs ys:List V}{g:TG}{tc:TT}{te:TE} {σ:St}{H:Hp}{R:List V->Hp->Addr->Prop} (hxy:xs.length=ys.length) (Pv:Nat->List V->St->Hp->Prop) (h0:Pv 0 [] σ H)
  (hl:∀ i zs σ H,i<=xs.length->Pv i zs σ H->SqL K H a xs/\SqL K H b ys/\zs.length<=i) (hz:xs.length<=sizeLine)
  (hs:∀ i x y zs σ H T,xs[i]? = some x->ys[i]? = some y->Pv i zs σ H->H T=none->g (.ref T) σ (upd H T (.tup [x,y])) fun σ2 H2=>tc σ2 H2 fun b H3=>if b=true then te σ2 H3 fun y H4=>Pv (i+1) (zs ++ [y]) σ2 H4 else Pv (i+1) zs σ2 H3)
  (hd:∀ zs σ H,Pv xs.length zs σ H->∀ D,H D=none->R zs H D) :
  ∃ W:Nat->Nat->List V->St->Hp->Prop,(∃ m,W 0 m [] σ H)/\∀ i m zs σ H,W i m zs σ H ->
   ((Itz K a b).stop i H/\∀ D,H D=none->R zs H D) \/
   ((Itz K a b).go i H/\zs.length<sizeLine/\∃ N:List V->St->Hp->Prop,(∀ zs' σ' H',N zs' σ' H'->∃ m',m'<m/\W (i+1) m' zs' σ' H') /\
    ∀ x H',(Itz K a b).yld i H x H'->g x σ H' fun σ2 H2=>tc σ2 H2 fun b H3=>if b=true then te σ2 H3 fun y H4=>N (zs ++ [y]) σ2 H4 else N zs σ2 H3):=by
 refine⟨fun i m zs σ H=>m=xs.length-i/\i<=xs.length/\Pv i zs σ H,⟨xs.length,by simp,jaE _,h0⟩,?_⟩;rintro i m zs σ H ⟨rfl,hi,p⟩;obtain⟨q1,q2,q3⟩:=hl i zs σ H hi p;by_cases hlt:i<xs.length
 ·have hlt':i<ys.length:=by omega
  refine .inr ⟨⟨xs,ys,xs[i],ys[i],q1,q2,by simp[hlt],by simp[hlt']⟩,(by omega),Pv (i+1),fun ys' σ' H' p'=>⟨xs.length-(i+1),by omega,rfl,hlt,p'⟩,fun x H' y=>?_⟩;obtain⟨T,u,v,hT,rfl,rfl,y1,y2⟩:=y;exact hs i u v zs σ _ T (y1 xs q1) (y2 ys q2) p hT
 ·have e:i=xs.length:=by omega
  subst e;exact .inl ⟨⟨xs,ys,q1,q2,.inl (jag _)⟩,hd zs σ H p⟩
end L2
namespace My
open PySem L2 OF
noncomputable def wd:Nat->Str
 | 0 => "and"
 | 1 => "or"
 | _ => "xor"
end My
namespace L2
open PySem PySem.Spec PyProof.Rows
section
variable {X:Cx}{e st lo:Expr}{te:TE}{tl to:TO}{p2 pos:Pos}
noncomputable def zgM {α : Type} (c n:Nat) (xs:List α):List α := (List.range n).filterMap fun k=>xs[c+2 * k]?
theorem zic {xs:List V}{us:List Value} (r:zba xs us) (f:Nat->Nat):∀ ks:List Nat,zba (ks.filterMap fun k=>xs[f k]?) (ks.filterMap fun k=>us[f k]?)
 | []=>.nil
 | k :: ks=>by
  have ih:=zic r f ks;have hl:=r.length;cases h:xs[f k]? with
  | none =>
   have h2:us[f k]? = none:=by rw[List.getElem?_eq_none_iff] at h ⊢;omega
   rw[jc2 (f:=fun k=>xs[f k]?) h,jc2 (f:=fun k=>us[f k]?) h2];exact ih
  | some x =>
   obtain⟨u,hu,ru⟩:=r.get h;rw[jc3 (f:=fun k=>xs[f k]?) h,jc3 (f:=fun k=>us[f k]?) hu];exact .cons ru ih
theorem zmP (c n:Nat) (hc:c<=n):sliceRange (c:Int) (n:Int) 2=(List.range ((n-c+1) / 2)).map fun k=>c+2 * k:=by
 unfold sliceRange;have e:(if (2:Int) > 0 then (if (c:Int)<(n:Int) then ((n:Int)-(c:Int)+2-1) / 2 else 0) else (if (c:Int) > (n:Int) then ((c:Int)-(n:Int)-2-1) / (-2) else 0)).toNat=(n-c+1) / 2:=by
  rw[if_pos (by decide)];split <;> omega
 simp only[e];exact jb8 fun k _=>by omega
theorem zng (items:Array Value) (c:Nat) (hc:c<=items.size):slicePick items (some (c:Int)) none (some 2)=(zgM c ((items.size-c+1) / 2) items.toList).toArray:=by
 unfold slicePick;have e:sliceBounds (some (c:Int)) none (some 2) items.size=((c:Int),(items.size:Int),2):=by
  show ((if (2:Int) > 0 then max 0 (min (if (c:Int)<0 then (c:Int)+items.size else (c:Int)) items.size) else _),(if (2:Int) > 0 then (items.size:Int) else -1),(2:Int))=_;have h1:max 0 (min (if (c:Int)<0 then (c:Int)+items.size else (c:Int)) items.size)=(c:Int):=by
   rw[if_neg (by omega)];omega
  rw[h1];rfl
 rw[e,zmP c items.size hc,List.filterMap_map];congr 1;unfold zgM;congr 1
 funext k
 simp
noncomputable def zu8 (K:PySem.W.Frag) (te:TE) (tl to:TO):TE:=fun σ H Q=>te σ H fun x H1=>tl σ H1 fun o1 H2=>to σ H2 fun o H3=>o=some 2/\∃ (c:Nat) (a:Addr) (xs:List V),o1=some (c:Int)/\x = .ref a/\SqL K H3 a xs/\c<=xs.length /\
 ∀ p,H3 p=none->Q (.ref p) (upd H3 p (.lst (zgM c ((xs.length-c+1) / 2) xs)))
theorem zpb (he:PE X e te) (hlo:PO X (some lo) tl) (hst:PO X (some st) to):PE X (.Subscript e (.Slice (some lo) none (some st) p2) pos) (zu8 X.K te tl to):=by
 intro pins s σ H Q I h;refine Subscript_ (thn (he pins s σ H _ I h) fun v s1 ⟨x,H1,I1,r1,q1⟩=>?_);refine wpAny_Slice (thn (hlo pins s1 σ H1 _ I1 q1) fun vl s2 ⟨o1,H2,I2,pl,q2⟩=>?_);rw[evalPart_none];refine wpAny_pure (thn (hst pins s2 σ H2 _ I2 q2) fun vk s3 ⟨o,H3,I3,pk,q3⟩=>?_);obtain⟨rfl,c,a,xs,rfl,rfl,hx,hc,q⟩:=q3;cases r1;have I4:Inv X pins σ H3 { s3 with heap:=s3.heap.push { cls := .type "slice",data := .fields #[vl,.none,vk] } }:=I3.kept (t':=s3.toks) fun b ob q=>jal _ q
 obtain⟨its,r,ht,hz⟩:=I4.list hx;have hlen:=r.length;show wpAny (model X.prog X.w) X.A (subscriptTail e (.Slice (some lo) none (some st) p2) (.ref a) (.ref s3.heap.objs.size)) (EP X pins σ Q) X.xe { s3 with heap:=s3.heap.push { cls := .type "slice",data := .fields #[vl,.none,vk] } };refine tail_any (ops:=[.ref a,.ref s3.heap.objs.size]) ht.isList.typeIs slot_list_getitem.lookup ?_ (by with_unfolding_all rfl);refine wpAny_getItem_list_slice ht.isList (Heap.IsSliceOf.new ..) pl .none pk (by simp) ?_ (by rw[jai];omega);rw[zng _ c (by rw[jai];omega)];refine⟨.ref _,_,I4.laid (o := .lst (zgM c ((xs.length-c+1) / 2) xs)) (t':=s3.toks) (fun b ob q=>jal _ q) (jag _) ?_,rfl,q _ (I4.hok.fresh (jag _))⟩;refine⟨?_,zgM c ((xs.length-c+1) / 2) its,0,zic r (fun k=>c+2 * k) _,?_⟩
 ·unfold zgM;refine jak (List.length_filterMap_le _ _) ?_;rw[jbn];exact jak ((show ∀ n c:Nat,(n-c+1) / 2<=n by omega) _ _) hz
 ·rw[jav _ rfl,jai,<- hlen]
end
end L2
namespace My
open PySem L2 OF
noncomputable def znx (k:Nat) (o l:zag):zag:=zjh k l++zaV (zgS k l) o
theorem zdD {k:Nat}{l:zag}{t:Int × Int} (h0:∀ t∈l,0<=t.1) (h:t∈zgS k l):0<=t.1/\∃ u∈l,t.2=u.2/\t.1=u.1-2^k/\zgU k u=true:=by
 obtain⟨u,hu,rfl⟩:=jau.mp h;obtain⟨h1,h2⟩:=ja8.mp hu
 have:=zqj (h0 u h1) h2
 exact⟨by show 0<=u.1-2^k;omega,u,h1,rfl,rfl,h2⟩
theorem zhC {k:Nat}{l:zag}{t:Int × Int} (h:t∈zjh k l):t∈l/\zgU k t=false:=by
 obtain⟨h1,h2⟩:=ja8.mp h;exact⟨h1,by simpa using h2⟩
end My
namespace My
open PySem L2 OF
noncomputable def Fms (H:Hp):List Addr->List zag->Prop:=Paired fun p f=>TLo H p f
theorem Fms.length {H:Hp}{ps:List Addr}{l:List zag} (h:Fms H ps l):ps.length=l.length:=jaL h
theorem Fms.keep {H H':Hp}{ps:List Addr}{l:List zag} (h:Fms H ps l) (k:zai H H'):Fms H' ps l:=Paired.mapP h fun p t e=>e.keep k
theorem Fms.snoc:∀ {H:Hp}{ps:List Addr}{l:List zag}{p:Addr}{t:zag},Fms H ps l->TLo H p t->Fms H (ps ++ [p]) (l ++ [t])
 | _,_,_,_,_,.nil,e=>.cons e .nil
 | _,_,_,_,_,.cons x r,e=>.cons x (Fms.snoc r e)
noncomputable def FLo (H:Hp) (a:Addr) (l:List zag):Prop:=∃ ps:List Addr,H a=some (.lst (ps.map V.ref))/\Fms H ps l
noncomputable def zcN (w:Nat) (l o:zag):zag:=if w=0 then zaV l o else (l++o)++(zaV l o).map fun t=>(t.1,t.2 * (if w=1 then -1 else -2))
noncomputable def zs4 (l:zag):zag:=[(0,1)]++l.map fun t=>(t.1,-t.2)
theorem zhu (t:Int × Int) (j:Int):∀ m:zag,za8 (zfW t m) j=t.2 * lin (fun i=>if Builtin.bitOr t.1 i=j then 1 else 0) m
 | []=>by simp[zfW,za8,lin]
 | u :: m=>by
  have ih:=zhu t j m;unfold zfW at *;rw[jat];simp only[za8,lin];rw[ih,Int.mul_add];by_cases h:Builtin.bitOr t.1 u.1=j
  ·rw[if_pos h,if_pos h];simp
  ·rw[if_neg h,if_neg h];simp
theorem ze6 {m m':zag} (h:∀ j,za8 m j=za8 m' j) (j:Int):∀ l:zag,za8 (zaV l m) j=za8 (zaV l m') j
 | []=>rfl
 | t :: l=>by
  have ih:=ze6 h j l;show za8 (zfW t m++zaV l m) j=za8 (zfW t m'++zaV l m') j;rw[zaq,zaq,ih,zhu,zhu,zmv _ h]
theorem zkl {M:Nat}{f:zag} (hf:IsForm f) (hk:∀ t∈f,0<=t.1/\t.1<2^M):f.length<=2^M:=by
 have pw:((2:Int)^M)=((2^M:Nat):Int):=by norm_cast
 have h1:=zbr (zhf hf) (B:=(List.range (2^M)).map fun k:Nat=>(k:Int)) fun x hx=>by
  obtain⟨t,ht,rfl⟩:=jau.mp hx
  have:=hk t ht
  exact jau.mpr ⟨t.1.toNat,jbA.mpr (by omega),ja5 this.1⟩
 simpa using h1
theorem Fms.keepU {H:Hp}{D:Addr}{xs:List V}{o:HO} (hD:H D=some (.lst xs)):∀ {ps:List Addr}{l:List zag},Fms H ps l->D ∉ ps->Fms (upd H D o) ps l
 | _,_,.nil,_=>.nil
 | _,_,.cons e r,h=>by
  refine .cons ?_ (Fms.keepU hD r fun z=>h (jax _ z));obtain⟨qs,h1,h2⟩:=e;exact⟨qs,by rw[zan (fun z=>h (by rw[z];exact jbh ..))];exact h1,h2.keep fun b zs z=>by rw[zan (zpO z hD (by intro w;cases w))];exact z⟩
end My
namespace My
open PySem L2 OF
theorem zii {l:zag}{U:Nat} (h0:∀ t∈l,0<=t.1) (hU:∀ j,(zca l 0).testBit j=true->U.testBit j=true):∀ t∈l,0<=t.1/\t.1<2^Builtin.Int.intBits (U:Int):=fun t ht=>by
 refine⟨h0 t ht,?_⟩;have h1:t.1.toNat<2^Builtin.Int.intBits (U:Int):=by
  refine jbB _ fun j hj=>?_
  cases e:t.1.toNat.testBit j
  ·rfl
  ·have h2:=hU j ((zgD l 0 j).mpr (.inr ⟨t,ht,e⟩));rw[jbs (jas (zeZ U) (jaH (by decide) hj))] at h2;cases h2
 have pw:((2:Int)^Builtin.Int.intBits (U:Int))=((2^Builtin.Int.intBits (U:Int):Nat):Int):=by norm_cast
 have:=h0 t ht
 omega
end My
namespace My
open PySem L2 OF
noncomputable def zvf (K:PySem.W.Frag):Sp:=fun vs H Q _=>∃ (a:Addr) (ns:List Int) (k:Nat),vs=[.ref a,.int (k:Int)]/\SqL K H a (ns.map V.int)/\Q (.int (ns.getD k 0)) H
noncomputable def ztQ:Sp:=fun vs H Q _=>∃ c k:Int,vs=[.int c,.int k] /\ -(2^64)<k/\k<2^64/\∀ r,0<=r->r<2147483587->Q (.int r) H
end My
namespace L2
open PySem PySem.Spec PyProof.Rows
section
variable {X:Cx}{e st lo hi:Expr}{te:TE}{tl th to:TO}{p2 pos:Pos}
theorem zgf:∀ {bs:List Bool}{us:List Value},zba (bs.map V.bl) us->∀ (i:Nat) (v:Value),us[i]? = some v->∃ b,bs[i]? = some b/\v = .bool b
 | [],us,r,i,v,h=>by rw[jbZ] at r;cases r;simp at h
 | b :: bs,us,r,i,v,h=>by
  rw[jat] at r;cases r with
  | cons r1 r2 =>
   cases i with
   | zero =>
    have e:_=v:=jaD h;subst e;exact⟨b,rfl,r1⟩
   | succ i=>exact zgf r2 i v h
theorem zh8 (hc:X.calm=true):zet X (.builtin "all") (fun xs H Q=>∃ (a:Addr) (bs:List Bool),xs=[.ref a]/\SqL X.K H a (bs.map V.bl)/\Q (.bl (bs.all id)) H):=by
 intro pins s σ H xs us Q I r h;obtain⟨a,bs,rfl,hq,q⟩:=h;obtain⟨u,rfl,ru⟩:=zeX r;cases (show u=Value.ref a from ru);obtain⟨its,rv,p,hz⟩:=I.list hq;have hl:=p.isList;have hlt:a<s.heap.objs.size:=by obtain⟨_,e,_⟩:=hl;exact jan e
 have hh:=I.ok.hd hc;refine call_all_walk (wpAny_pyIter_list hl ?_);refine⟨s.heap.objs.size,[s.heap.objs.size,a],[s.heap.objs.size],its.toArray.size,_,_,fun i=>(bs[i]?).getD true,rfl,Walks.list (A:=X.A.in1) hh _ a (jaU hlt) its.toArray,
  ⟨⟨_,jav _ rfl,rfl,rfl⟩,hl.push _⟩,fun i v s' Q' E' hP hQ=>?_,fun h' tk hk=>?_⟩
 ·obtain⟨b,e,rfl⟩:=zgf rv i v (by simpa using hP);simp only[e,jcB] at hQ;exact wpAny_truthy_bool hQ
 ·have e:((List.range its.toArray.size).all fun i=>(bs[i]?).getD true)=bs.all id:=by
   have h1:=rv.length;rw[jaa] at h1;rw[jai,<- h1];rw[jbG,jaX,jaX];constructor
   ·intro z b hb;obtain⟨i,hi,rfl⟩:=List.getElem_of_mem hb
    have:=z i (jbA.mpr hi)
    simpa [jar hi] using this
   ·intro z i hi;have hi':=jbA.mp hi;simp only[jar hi',jcB];exact z _ (jbl hi')
  rw[e];refine⟨.bl (bs.all id),H,I.kept (t':=tk) (fun b o e=>hk b o (fun hm=>?_) (jal _ e)),rfl,q⟩;rw[jad.mp hm] at e;exact jbw _ (jan e)
end
end L2
namespace My
open PySem L2 OF
noncomputable def zeh (ls:List Nat):List V:=ls.map fun y:Nat=>V.int (y:Int)
theorem zdS (K:Nat):((2:Int)^K)=((2^K:Nat):Int):=by norm_cast
theorem zpv {x:Nat}{ls:List Nat}:inV (.int (x:Int)) (ls.map fun y:Nat=>V.int (y:Int))=decide (x∈ls):=by
 unfold inV;rw[jbG,jb6,decide_eq_true_iff];constructor
 ·rintro⟨y,hy,e⟩;obtain⟨z,hz,rfl⟩:=jau.mp hy
  have:(z:Int)=(x:Int):=by simpa [eqV] using e
  have:z=x:=by omega
  rw[<- this];exact hz
 ·intro h;exact⟨_,jau.mpr ⟨x,h,rfl⟩,by simp[eqV]⟩
theorem zmu (ls:List Nat):(ls.map fun y:Nat=>V.int (y:Int)).all zfZ=true:=by
 rw[jaX];intro y hy;obtain⟨z,_,rfl⟩:=jau.mp hy;rfl
end My
namespace My
open PySem L2 OF
inductive Sm where
 | bit (k:Nat) | fix (b:Int) | no (s:Sm) | two (w:Nat) (s t:Sm)
noncomputable def Sm.d:Sm->D
 | .bit k=>.tup [.str "bit",.int (k:Int)]
 | .fix b=>.tup [.str "fix",.int b]
 | .no s=>.tup [.str "not",s.d]
 | .two w s t=>.tup [.str (wd w),s.d,t.d]
noncomputable def Sm.dp:Sm->Nat
 | .bit _=>0
 | .fix _=>0
 | .no s=>s.dp+1
 | .two _ s t=>max s.dp t.dp+1
noncomputable def Sm.ok (P:Nat->Prop):Sm->Prop
 | .bit k=>P k
 | .fix b=>b=0\/b=1
 | .no s=>s.ok P
 | .two w s t=>w<3/\s.ok P/\t.ok P
theorem Sm.ok.imp {P R:Nat->Prop} (f:∀ k,P k->R k):∀ {s:Sm},s.ok P->s.ok R
 | .bit k,h=>f k h
 | .fix _,h=>h
 | .no s,h=>Sm.ok.imp (s:=s) f h
 | .two w s t,h=>⟨h.1,Sm.ok.imp f h.2.1,Sm.ok.imp f h.2.2⟩
theorem zhE {H:Hp}{v:V}{d e:D}:Is H v (.tup [d,e])->∃ p x y,v = .ref p/\H p=some (.tup [x,y])/\Is H x d/\Is H y e:=fun h=>by
 unfold Is at h;obtain⟨p,xs,rfl,h1,h2⟩:=h;unfold zby at h2;obtain⟨x0,r0,rfl,h3,h4⟩:=h2;unfold zby at h4;obtain⟨x1,r1,rfl,h5,h6⟩:=h4;unfold zby at h6;subst h6;exact⟨p,x0,x1,rfl,h1,h3,h5⟩
theorem zpI {H:Hp}{v:V}{d e f:D}:Is H v (.tup [d,e,f])->∃ p x y z,v = .ref p/\H p=some (.tup [x,y,z])/\Is H x d/\Is H y e/\Is H z f:=fun h=>by
 unfold Is at h;obtain⟨p,xs,rfl,h1,h2⟩:=h;unfold zby at h2;obtain⟨x0,r0,rfl,h3,h4⟩:=h2;unfold zby at h4;obtain⟨x1,r1,rfl,h5,h6⟩:=h4;unfold zby at h6;obtain⟨x2,r2,rfl,h7,h8⟩:=h6;unfold zby at h8;subst h8;exact⟨p,x0,x1,x2,rfl,h1,h3,h5,h7⟩
theorem zbU {H:Hp}{p:Addr}{x y:V}{d e:D} (h:H p=some (.tup [x,y])) (h1:Is H x d) (h2:Is H y e):Is H (.ref p) (.tup [d,e]):=by
 unfold Is;refine⟨p,_,rfl,h,?_⟩;unfold zby;refine⟨_,_,rfl,h1,?_⟩;unfold zby;refine⟨_,_,rfl,h2,?_⟩;unfold zby;rfl
theorem zhj {H:Hp}{p:Addr}{x y z:V}{d e f:D} (h:H p=some (.tup [x,y,z])) (h1:Is H x d) (h2:Is H y e) (h3:Is H z f):Is H (.ref p) (.tup [d,e,f]):=by
 unfold Is;refine⟨p,_,rfl,h,?_⟩;unfold zby;refine⟨_,_,rfl,h1,?_⟩;unfold zby;refine⟨_,_,rfl,h2,?_⟩;unfold zby;refine⟨_,_,rfl,h3,?_⟩;unfold zby;rfl
theorem zaX {H:Hp}{v:V}{x:Str}:Is H v (.str x)↔v = .str x:=by unfold Is;exact Iff.rfl
theorem zdX {H:Hp}{v:V}{x:Int}:Is H v (.int x)↔v = .int x:=by unfold Is;exact Iff.rfl
theorem zfn {H:Hp}{v:V}{k:Nat} (h:Is H v (Sm.bit k).d):∃ p,v = .ref p/\H p=some (.tup [.str "bit",.int (k:Int)]):=by
 obtain⟨p,x,y,rfl,h1,h2,h3⟩:=zhE h;rw[zaX] at h2;rw[zdX] at h3;subst h2 h3;exact⟨p,rfl,h1⟩
theorem zfo {H:Hp}{v:V}{b:Int} (h:Is H v (Sm.fix b).d):∃ p,v = .ref p/\H p=some (.tup [.str "fix",.int b]):=by
 obtain⟨p,x,y,rfl,h1,h2,h3⟩:=zhE h;rw[zaX] at h2;rw[zdX] at h3;subst h2 h3;exact⟨p,rfl,h1⟩
theorem zhy {H:Hp}{v:V}{s:Sm} (h:Is H v (Sm.no s).d):∃ p x,v = .ref p/\H p=some (.tup [.str "not",x])/\Is H x s.d:=by
 obtain⟨p,x,y,rfl,h1,h2,h3⟩:=zhE h;rw[zaX] at h2;subst h2;exact⟨p,y,rfl,h1,h3⟩
theorem zeN {H:Hp}{v:V}{w:Nat}{s t:Sm} (h:Is H v (Sm.two w s t).d):∃ p x y,v = .ref p/\H p=some (.tup [.str (wd w),x,y])/\Is H x s.d/\Is H y t.d:=by
 obtain⟨p,x,y,z,rfl,h1,h2,h3,h4⟩:=zpI h;rw[zaX] at h2;subst h2;exact⟨p,y,z,rfl,h1,h3,h4⟩
theorem za7 {H H':Hp} (k:∀ p xs,H p=some (.tup xs)->H' p=some (.tup xs)):∀ {s:Sm}{v:V},Is H v s.d->Is H' v s.d
 | .bit j,v,h=>by obtain⟨p,rfl,h1⟩:=zfn h;exact zbU (k _ _ h1) (zaX.mpr rfl) (zdX.mpr rfl)
 | .fix j,v,h=>by obtain⟨p,rfl,h1⟩:=zfo h;exact zbU (k _ _ h1) (zaX.mpr rfl) (zdX.mpr rfl)
 | .no s,v,h=>by obtain⟨p,x,rfl,h1,h2⟩:=zhy h;exact zbU (k _ _ h1) (zaX.mpr rfl) (za7 k h2)
 | .two w s t,v,h=>by obtain⟨p,x,y,rfl,h1,h2,h3⟩:=zeN h;exact zhj (k _ _ h1) (zaX.mpr rfl) (za7 k h2) (za7 k h3)
theorem zfR {H:Hp}{l:Addr}{xs:List V}{o:HO}{s:Sm}{v:V} (h:Is H v s.d) (hl:H l=some (.lst xs)):Is (upd H l o) v s.d:=za7 (fun p ys e=>by
 have hne:p≠l:=fun z=>by rw[z,hl] at e;cases e
 rw[zan hne];exact e) h
theorem zjy:∀ (ls ks:List Nat),ks.Nodup->(∀ k∈ks,∀ j,k.testBit j=true->j∈ls)->ks.length<=2^ls.length
 | [],ks,hn,h=>by
  have h0:∀ k∈ks,k=0:=fun k hk=>jb2 fun j=>by
   cases e:k.testBit j
   ·simp
   ·exact absurd (h k hk j e) (by simp)
  match ks,hn,h0 with
  | [],_,_=>exact jaE _
  | [_],_,_=>exact jag _
  | a :: b :: r,hn,h0 =>
   have h1:=h0 a (by simp);have h2:=h0 b (by simp);rw[jbd] at hn;exact absurd (by rw[h1,h2];simp) hn.1
 | x :: r,ks,hn,h=>by
  have hA:(ks.filter fun k=>k.testBit x).length<=2^r.length:=by
   have:=zjy r ((ks.filter fun k=>k.testBit x).map fun k=>k-2^x) (by
    rw[List.Nodup,jcr];refine (hn.filter _).imp_of_mem fun {a b} ha hb hab z=>hab ?_
    have h1:=jbz (ja8.mp ha).2;have h2:=jbz (ja8.mp hb).2;omega) (fun k hk j hj=>by
     obtain⟨k',hk',rfl⟩:=jau.mp hk;have hk2:=ja8.mp hk';rw[zl0 hk2.2] at hj;have hj':k'.testBit j=true/\j≠x:=by simpa using hj
     rcases jaj.mp (h k' hk2.1 j hj'.1) with z | z
     ·exact absurd z hj'.2
     ·exact z)
   rw[jaa] at this;exact this
  have hB:(ks.filter fun k => !k.testBit x).length<=2^r.length:=zjy r _ (hn.filter _) fun k hk j hj=>by
   have hk2:=ja8.mp hk;rcases jaj.mp (h k hk2.1 j hj) with z | z
   ·subst z;have:=hk2.2;rw[hj] at this;cases this
   ·exact z
  have hs:∀ l:List Nat,l.length=(l.filter fun k=>k.testBit x).length+(l.filter fun k => !k.testBit x).length:=fun l=>by
   induction l with
   | nil=>rfl
   | cons a l ih =>
    rw[jb5,jb5,jae,ih];cases a.testBit x <;> simp <;> omega
  rw[jae,jbY,hs ks];omega
theorem zmK {ls:List Nat}{x:Nat} (h:ls.length<16):∃ m,(x+5 * m) % 16 ∉ ls:=by
 by_cases z:∃ m,(x+5 * m) % 16 ∉ ls
 ·exact z
 ·exfalso;have hall:∀ m,(x+5 * m) % 16∈ls:=fun m=>Classical.byContradiction fun w=>z ⟨m,w⟩
  have hsub:∀ y∈List.range 16,y∈ls:=fun y hy=>by
   have hy':=jbA.mp hy;have h1:=hall (13 * (y+15 * x));have e:(x+5 * (13 * (y+15 * x))) % 16=y:=by omega
   rw[e] at h1;exact h1
  have:=zbr (l:=(List.range 16).map fun y:Nat=>(y:Int)) (B:=ls.map fun y:Nat=>(y:Int)) (List.nodup_range.map (fun y:Nat=>(y:Int)) (fun a b h z=>h (Int.ofNat.inj z))) fun x hx=>by
   obtain⟨y,hy,rfl⟩:=jau.mp hx;exact jau.mpr ⟨y,hsub y hy,rfl⟩
  rw[jaa,jaa,jbn] at this;omega
theorem zkD {w:Nat}:(wd w ≠ "bit")/\(wd w ≠ "fix")/\(wd w ≠ "not"):=by
 match w with
 | 0=>decide
 | 1=>decide
 | n+2=>show ("xor" : Str) ≠ "bit" /\ ("xor" : Str) ≠ "fix" /\ ("xor" : Str) ≠ "not";decide
theorem zj1 {j:Nat} (h:j<3):atI [V.str "and",V.str "or",V.str "xor"] (j:Int)=some (V.str (wd j)):=by
 obtain rfl | rfl | rfl:j=0\/j=1\/j=2:=by omega
 ·rfl
 ·rfl
 ·rfl
end My
set_option maxHeartbeats 4000000
namespace L2
open PySem PySem.Spec PyProof.Rows
noncomputable def Itv (K:PySem.W.Frag) (a:Addr) (n:Nat):It :=
 ⟨fun i H=>∃ xs x,SqL K H a xs/\i<n/\xs[n-1-i]? = some x,fun i H x H'=>H'=H/\∀ xs,SqL K H a xs->xs[n-1-i]? = some x,fun i _=>n<=i⟩
theorem zne {P:Program}{w:World}{K:PySem.W.Frag}{tg:Expr} (a it:Addr) (n:Nat) :
  znc P w K tg (Itv K a n) [it] it (fun i h=>i<=n/\h.IsRevIter it a ((n:Int)-1-(i:Int))) where
 mem:=jad.mpr rfl
 obj:=fun i h st b hb=>by
  obtain⟨_,o,e,c,d⟩:=st;rw[jad.mp hb];exact⟨o,e,fun v z=>by rw[d] at z;cases z⟩
 keep:=fun i h h' st k=>⟨st.1,st.2.at (k it (jad.mpr rfl))⟩
 item:=by
  intro X hP hw hK hc i pins s σ H E I hf st hg;subst hP hw hK;obtain⟨xs,x,hq,hi,hx⟩:=hg;obtain⟨its,rv,p,_⟩:=I.list hq;obtain⟨u,hu,ru⟩:=rv.get hx;have fo:=hf it (jad.mpr rfl);have hit:=st.2;rw[show (n:Int)-1-(i:Int)=((n-1-i:Nat):Int) by omega] at hit;refine wpAny_pyNext_rev_item hit p.isList (x:=u) (by simpa using hu) fun h' st' sb=>?_
  have J:Inv X pins σ H { s with heap:=h' }:=I.turned (t':=s.toks) (fun b o hb z=>(sb.2 b hb).trans z) fo.1 fo.2.1 fo.2.2.2.1 fo.2.2.2.2.1 fo.2.2.2.2.2;rw[show ((n-1-i:Nat):Int)-1=(n:Int)-1-((i+1:Nat):Int) by omega] at st';have st2:=st';obtain⟨o,z1,z2,z3⟩:=st';exact⟨u,rfl,zll (s:={ s with heap:=h' }) z1 z2 z3 (by decide) ⟨x,H,J,ru,⟨rfl,fun ys hy=>by rw[I.list_inj hy hq];exact hx⟩,⟨hi,st2⟩,fun b hb=>(hf b hb).1⟩⟩
 done:=by
  intro X hP hw hK hc i pins s σ H E I hf st hg;subst hP hw hK;have fo:=hf it (jad.mpr rfl);have hn:n<=i:=hg;have hit:=st.2;have hle:=st.1;rw[show (n:Int)-1-(i:Int) = -1 by omega] at hit;exact wpAny_pyNext_rev_end (I.ok.hd hc) hit fun h' eb=>⟨rfl,I.turned (t':=s.toks) (fun b o hb z=>eb b o hb z) fo.1 fo.2.1 fo.2.2.2.1 fo.2.2.2.2.1 fo.2.2.2.2.2⟩
 self:=fun _ _ _ _ _ st h=>wpAny_pyIter_revIter st.2 h
noncomputable def zvC (K:PySem.W.Frag) (ta:TA):TI:=fun σ H R=>ta σ H fun vs H1=>∃ a xs,vs=[.ref a]/\SqL K H1 a xs/\R (Itv K a xs.length) H1
theorem zjC {X:Cx}{tg a:Expr}{ta:TA}{p pos:Pos} (hg:Gl X "reversed") (hm:X.mg "reversed" = none) (ha:PA X [a] ta) (hs:starEach [a] X.env=[(false,eval a X.env)]:=by rfl) :
  PI X tg (.Call (.Name "reversed" p) [a] [] pos) (zvC X.K ta):=by
 intro pins s σ H R I h;refine Call_ (zfm I hg hm boot_reversed (jba (thn (ha pos pins s σ H _ I h) fun us s1 ⟨vs,H1,I1,r1,q1⟩=>?_) hs rfl));obtain⟨l,xs,rfl,hq,q⟩:=q1;obtain⟨u,rfl,ru⟩:=zba.one r1;cases (show u=Value.ref l from ru);obtain⟨its,rx,p,hz⟩:=I1.list hq;have hln:=rx.length;refine call_reversed_list p.isList (wpAny_pyIter_revIter (it:=s1.heap.objs.size) (l:=l) (i:=((its.toArray.size:Nat):Int)-1) ⟨_,jav _ rfl,rfl,rfl⟩ ?_);refine⟨s1.heap.objs.size,[s1.heap.objs.size],_,_,H1,rfl,I1.kept (t':=s1.toks) fun b o e=>jal _ e,zne l _ xs.length,⟨jaE _,?_⟩,fun b hb=>?_,q⟩
 ·rw[show ((xs.length:Nat):Int)-1-((0:Nat):Int)=((its.toArray.size:Nat):Int)-1 by rw[jai,hln];simp];exact⟨_,jav _ rfl,rfl,rfl⟩
 ·rw[jad.mp hb];exact I1.fpOk (jag _) (I1.hok.fresh (jag _))
theorem zqe {K:PySem.W.Frag}{a:Addr}{xs:List V}{g:TG}{tb:TS}{D:zld} {σ:St}{H:Hp} (Pv:Nat->St->Hp->Prop) (h0:Pv 0 σ H) (hl:∀ i σ H,i<=xs.length->Pv i σ H->SqL K H a xs)
  (hs:∀ i x σ H,xs.reverse[i]? = some x->Pv i σ H->g x σ H fun σ2 H2=>tb { D with nx:=Pv (i+1),ct:=Pv (i+1),bk:=D.nx } σ2 H2) (hd:∀ σ H,Pv xs.length σ H->D.nx σ H) :
  ∃ W:Nat->Nat->St->Hp->Prop,(∃ m,W 0 m σ H)/\∀ i m σ H,W i m σ H ->
   ((Itv K a xs.length).stop i H/\D.nx σ H)\/((Itv K a xs.length).go i H/\∃ N:St->Hp->Prop,(∀ σ' H',N σ' H'->∃ m',m'<m/\W (i+1) m' σ' H')/\∀ x H',(Itv K a xs.length).yld i H x H'->g x σ H' fun σ2 H2=>tb { D with nx:=N,ct:=N,bk:=D.nx } σ2 H2):=by
 refine⟨fun i m σ H=>m=xs.length-i/\i<=xs.length/\Pv i σ H,⟨xs.length,by simp,jaE _,h0⟩,fun i m σ H ⟨em,hi,p⟩=>?_⟩;subst em;have q:=hl i σ H hi p;rcases jcu i xs.length with hlt | hge
 ·have hb:xs.length-1-i<xs.length:=by omega
  refine .inr ⟨⟨xs,xs[xs.length-1-i],q,hlt,jar hb⟩,Pv (i+1),fun σ' H' p'=>⟨xs.length-(i+1),by omega,rfl,hlt,p'⟩,fun x H' y=>?_⟩;rw[y.1];exact hs i x σ H (by rw[List.getElem?_reverse hlt];exact y.2 xs q) p
 ·have e:i=xs.length:=by omega
  rw[e] at p;exact .inl ⟨hge,hd σ H p⟩
noncomputable def ztz (K:PySem.W.Frag):V->List V->Hp->VK->Prop:=fun x vs H Q=>∃ l b xs zs,x = .ref l/\vs=[.ref b]/\H l=some (.lst xs)/\SqT K H b zs/\xs.length+zs.length<=sizeLine/\Q .non (upd H l (.lst (xs++zs)))
theorem zk0 {prog:Program}{w:World}{A:Around}{E:Value->Shared->Prop}{s:Shared}{l b:Addr}{its its2:List Value}{n:Nat}{Q:Value->Shared->Prop}
  (e:s.heap.get? l=some { cls := .type "list",data := .seq its.toArray n }) (hb:IsTup s.heap b its2.toArray) (hz:its.length+its2.length<=sizeLine)
  (h:Q .none { s with heap:=s.heap.update l (Obj.mapSeq fun x=>x++its2.toArray) }):wpAny (model prog w) A (call (.builtin "list.extend") [.ref l,.ref b]) Q E s:=by
 obtain⟨o,ho,hc,k,hd⟩:=hb;refine wpAny_call_entry F.slot_list_extend ⟨_,e,rfl⟩ F.entry_list_extend ?_ (F.args_list_extend_2 _ _);unfold Builtin.«list.extend»;refine wpAny_bind (wpAny_of_eq (a:=(Value.ref l,Value.ref b)) rfl ?_);dsimp only;unfold Builtin.List.listExtendWith;refine wpAny_bind (wpAny_typeOf (T := "tuple") ⟨o,ho,hc⟩ ?_);rw[if_pos (by rw[show (Value.type "tuple" == Value.type "tuple")=true by decide +kernel,Bool.or_true])];refine wpAny_bind (wpAny_listItems ho hd ?_);refine wpAny_bind (wpAny_listItems e rfl ?_);have hlong:¬ (!its.toArray.isEmpty && Builtin.List.listTooLong (its.toArray.size+its2.toArray.size))=true:=by
  rw[zn9 (by rw[jai,jai];exact hz),jb4];exact jay
 rw[if_neg hlong];refine wpAny_bind ?_;show wpAny _ _ (updateSeq l _) _ _ _;refine wpAny_updateSeq e rfl ?_ (by rw[jai];omega) (by rw[Array.size_append,jai,jai];omega);exact wpAny_pure ⟨_,rfl,h⟩
theorem zkW {X:Cx}:MtM X "list.extend" (ztz X.K):=by
 intro pins s σ H x vs v us Q I rx rv h;obtain⟨l,b,xs,zs,rfl,rfl,hH,hB,hz,q⟩:=h;cases rx;obtain⟨u,rfl,ru⟩:=rv.one;cases ru;obtain⟨z,its,n,r,hl,e⟩:=I.lstM hH;obtain⟨its2,r2,pl,_⟩:=I.tuple hB;have hl2:=r2.length;refine zk0 e pl (by omega) ⟨.non,_,I.lset (its':=its++its2) hH e (by simp) (r.append r2) ?_,rfl,q⟩;rw[jab];exact hz
end L2
namespace My
open PySem L2 OF
noncomputable def Sm.sz:Sm->Nat
 | .bit _=>1
 | .fix _=>1
 | .no s=>s.sz+1
 | .two _ s t=>s.sz+t.sz+1
noncomputable def Sm.pre:Sm->List Sm
 | .bit k=>[.bit k]
 | .fix b=>[.fix b]
 | .no s=>.no s :: s.pre
 | .two w s t=>.two w s t :: (t.pre++s.pre)
theorem Sm.pre_len:∀ s:Sm,s.pre.length=s.sz
 | .bit _=>rfl
 | .fix _=>rfl
 | .no s=>by show s.pre.length+1=s.sz+1;rw[pre_len s]
 | .two w s t=>by show (t.pre++s.pre).length+1=s.sz+t.sz+1;rw[jab,pre_len s,pre_len t];omega
theorem Sm.sz_pos:∀ s:Sm,0<s.sz
 | .bit _=>Nat.one_pos
 | .fix _=>Nat.one_pos
 | .no s=>Nat.succ_pos _
 | .two w s t=>Nat.succ_pos _
theorem Sm.sz_dp:∀ s:Sm,s.sz+1<=2^(s.dp+1)
 | .bit _=>jag _
 | .fix _=>jag _
 | .no s=>by
  have:=sz_dp s
  show s.sz+1+1<=2^(s.dp+1+1);rw[jbY]
  have:=sz_pos s
  omega
 | .two w s t=>by
  have h1:=sz_dp s;have h2:=sz_dp t;have k1:2^(s.dp+1)<=2^(max s.dp t.dp+1):=jaH (by decide) (by omega);have k2:2^(t.dp+1)<=2^(max s.dp t.dp+1):=jaH (by decide) (by omega);show s.sz+t.sz+1+1<=2^(max s.dp t.dp+1+1);rw[jbY];omega
noncomputable def zvd (st:List Sm):Sm->List Sm->Prop
 | .bit k,st'=>st'=st ++ [.bit k]
 | .fix b,st'=>st'=st ++ [.fix b]
 | .no s,st'=>∃ a,st=a ++ [s]/\st'=a ++ [.no s]
 | .two w s t,st'=>∃ a,st=a ++ [s,t]/\st'=a ++ [.two w s t]
noncomputable def zp6 (fin:List Sm):List Sm->List Sm->Prop
 | st,[]=>st=fin
 | st,p :: L=>∃ st',zvd st p st'/\zp6 fin st' L
theorem zep {fin:List Sm}:∀ (s:Sm) (st L:List Sm),zp6 fin (st ++ [s]) L->zp6 fin st (s.pre.reverse++L)
 | .bit k,st,L,h=>⟨_,rfl,h⟩
 | .fix b,st,L,h=>⟨_,rfl,h⟩
 | .no s,st,L,h=>by
  show zp6 fin st ((Sm.no s :: s.pre).reverse++L);rw[jcq,jaP];exact zep s st _ ⟨_,⟨st,rfl,rfl⟩,h⟩
 | .two w s t,st,L,h=>by
  show zp6 fin st ((Sm.two w s t :: (t.pre++s.pre)).reverse++L);rw[jcq,jbe,jaP,jaP];exact zep s st _ (zep t _ _ ⟨_,⟨st,by rw[jaP];rfl,rfl⟩,h⟩)
noncomputable abbrev Smr (G:Hp):List V->List Sm->Prop:=Paired fun x s=>Is G x s.d
theorem Smr.snoc:∀ {G:Hp}{xs:List V}{l:List Sm}{x:V}{s:Sm},Smr G xs l->Is G x s.d->Smr G (xs ++ [x]) (l ++ [s])
 | _,_,_,_,_,.nil,h=>.cons h .nil
 | _,_,_,_,_,.cons e r,h=>.cons e (Smr.snoc r h)
theorem Smr.last:∀ {G:Hp}{xs:List V}{l:List Sm},Smr G xs l->xs≠[]->∃ ys y m s,xs=ys ++ [y]/\l=m ++ [s]/\Smr G ys m/\Is G y s.d
 | _,_,_,.nil,h=>absurd rfl h
 | _,_,_,.cons (l₁:=[]) e .nil,h=>⟨[],_,[],_,rfl,rfl,.nil,e⟩
 | G,x :: y :: xs,s :: l,.cons e r,h=>by
  obtain⟨ys,z,m,t,e1,e2,h1,h2⟩:=Smr.last r (by simp);rw[e1,e2];exact⟨x :: ys,z,s :: m,t,rfl,rfl,.cons e h1,h2⟩
theorem Smr.rev:∀ {G:Hp}{xs:List V}{l:List Sm},Smr G xs l->Smr G xs.reverse l.reverse
 | _,_,_,.nil=>.nil
 | _,_,_,.cons e r=>by rw[jcq,jcq];exact (Smr.rev r).snoc e
theorem Smr.at:∀ {G:Hp}{xs:List V}{l:List Sm}{i:Nat}{x:V},Smr G xs l->xs[i]? = some x->∃ s,l[i]? = some s/\Is G x s.d
 | _,_,_,_,_,.nil,h=>by cases h
 | _,_,_,0,_,.cons e r,h=>by cases h;exact⟨_,rfl,e⟩
 | _,_,_,i+1,_,.cons e r,h=>Smr.at (i:=i) r h
theorem zfb {α β : Type}{R : α -> β -> Prop}:∀ {a b:List α}{m:List β},Paired R (a++b) m->∃ m1 m2,m=m1++m2/\Paired R a m1/\Paired R b m2
 | [],b,m,h=>⟨[],m,rfl,.nil,h⟩
 | x :: a,b,y :: m,.cons e r=>by
  obtain⟨m1,m2,rfl,h1,h2⟩:=zfb (a:=a) r;exact⟨y :: m1,m2,rfl,.cons e h1,h2⟩
theorem zbA {α β : Type}{R : α -> β -> Prop}:∀ {a:List α}{m:List β}{x : α}{y : β},Paired R a m->R x y->Paired R (a ++ [x]) (m ++ [y])
 | _,_,_,_,.nil,h=>.cons h .nil
 | _,_,_,_,.cons e r,h=>.cons e (zbA r h)
end My
namespace My
open PySem L2 OF
theorem zch {α β : Type}{R : α -> β -> Prop}:∀ {m a b:List β}{l:List α},Paired R l (a++b)->∃ l1 l2,l=l1++l2/\Paired R l1 a/\Paired R l2 b
 | m,[],b,l,h=>⟨[],l,rfl,.nil,h⟩
 | m,y :: a,b,x :: l,.cons e r=>by
  obtain⟨l1,l2,rfl,h1,h2⟩:=zch (m:=m) (a:=a) r;exact⟨x :: l1,l2,rfl,.cons e h1,h2⟩
theorem Sm.pre_ok {P:Nat->Prop}:∀ {s:Sm},s.ok P->∀ p∈s.pre,p.ok P
 | .bit k,h,p,hp=>by rw[jad.mp hp];exact h
 | .fix b,h,p,hp=>by rw[jad.mp hp];exact h
 | .no s,h,p,hp=>by
  rcases jaj.mp hp with rfl | z
  ·exact h
  ·exact Sm.pre_ok (s:=s) h p z
 | .two w s t,h,p,hp=>by
  rcases jaj.mp hp with rfl | z
  ·exact h
  ·rcases jah.mp z with z | z
   ·exact Sm.pre_ok h.2.2 p z
   ·exact Sm.pre_ok h.2.1 p z
theorem zty (w:Nat):inV (V.str (wd w)) [.str "and",.str "or",.str "xor"]=true:=by
 match w with
 | 0=>decide
 | 1=>decide
 | n+2=>show inV (V.str "xor") [.str "and",.str "or",.str "xor"]=true;decide
theorem zem {n:Nat} (h:n+1<=2^21):n<sizeLine:=jas (Nat.lt_of_succ_le h) (by decide)
theorem zih {s:Sm} (h:s.dp<=20):s.sz+1<=2^21:=jak s.sz_dp (jaH (by decide) (by omega))
end My
set_option maxHeartbeats 1000000
set_option maxHeartbeats 4000000
namespace L2
open PySem PySem.Spec PyProof.Rows
section
variable {X:Cx}
theorem zc8 (hc:X.calm=true):zet X (.builtin "sorted") (fun xs H Q=>∃ (a:Addr) (kvs:List (Key × V)) (ks:List Int),xs=[.ref a]/\H a=some (.dK kvs)/\kvs.map (·.1)=ks.map Sum.inl/\ks.length<64 /\
  ∀ (l:Addr) (ks':List Int),H l=none->ks'.Perm ks->ks'.Pairwise (· <= ·)->Q (.ref l) (upd H l (.lst (ks'.map V.int)))):=by
 intro pins s σ H xs us Q I r h;obtain⟨a,kvs,ks,rfl,hH,hks,h64,q⟩:=h;obtain⟨u,rfl,ru⟩:=zeX r;cases (show u=Value.ref a from ru);obtain⟨z,hd,vs,rel,dd⟩:=zq7 I.hok hH;obtain⟨ep,hat⟩:=dd.dictAt;have hlen:vs.length=ks.length:=by
  have e1:=rel.length;have e2:=congrArg List.length hks;rw[jaa,jaa] at e2;omega
 refine Calls.call_function_entry kind_sorted plain_sorted entry_sorted (args_sorted1 _) ?_;unfold Builtin.«sorted»;refine wpAny_bind (m:=checkCount "sorted" 1 1 _) (wpAny_pure ?_);refine wpAny_bind (PySem.W.kdu_collect (A:=X.A.in1) (PySem.W.kdl_dict (knd:=zbf X.prog X.w) (kvs:=vs) (ep:=ep) hd) (I.ok.hd hc) hat (by rw[<- rel.length];exact z) fun h' tk acc hk hacc=>?_);have hal:acc.toList.length=vs.length:=by rw[jbJ];exact hacc.1
 have hkeys:vs.map (·.1)=ks.map Sum.inl:=rel.keys.symm.trans hks;have hI:IntsAre acc.toList ks:=by
  refine ze3 ?_;have hall:∀ (j:Nat) (v:Value),acc.toList[j]? = some v->∃ k,ks[j]? = some k/\∃ t,v=Value.int k t:=fun j v e=>by
   obtain⟨k,x,hx,hik⟩:=hacc.2 j v (by rw[<- jcv];exact e);have e1:(vs.map (·.1))[j]? = some k:=by rw[jaC,hx];rfl
   rw[hkeys,jaC] at e1;cases e2:ks[j]? with
   | none=>rw[e2] at e1;cases e1
   | some k' =>
    rw[e2] at e1;have e3:Sum.inl k'=k:=jaD e1;subst e3;exact⟨k',rfl,Value.isInt_shape hik⟩
  have go:∀ (zs:List Value) (ns:List Int),zs.length=ns.length->(∀ (j:Nat) (v:Value),zs[j]? = some v->∃ k,ns[j]? = some k/\∃ t,v=Value.int k t)->zba (ns.map V.int) zs:=by
   intro zs;induction zs with
   | nil=>intro ns hl _;cases ns with
    | nil=>exact .nil
    | cons _ _=>simp at hl
   | cons v r ih=>intro ns hl hv;cases ns with
    | nil=>simp at hl
    | cons n ns =>
     obtain⟨k,e1,e2⟩:=hv 0 v rfl;have e3:n=k:=by simpa using e1
     subst e3;exact .cons e2 (ih ns (by simpa using hl) fun j w e=>by simpa using hv (j+1) w (by simpa using e))
  exact go acc.toList ks (by omega) hall
 refine wpAny_bind (wpAny_newList ?_ (by rw[hal,<- rel.length];exact z));have hoL:(h'.push (seqObj "list" acc.toList.toArray 0)).get? h'.objs.size=some (seqObj "list" acc.toList.toArray 0):=jav _ rfl;show wpAny _ _ _ _ _ { s with heap:=h'.push (seqObj "list" acc.toList.toArray 0),toks:=tk };refine wpAny_bind (wpAny_holding (wpAny_call_entry slot_list_sort ⟨_,hoL,rfl⟩ entry_list_sort (list_sort_tree hoL hI (by rw[hal,hlen];exact h64) fun out ns' a1 a2 a3=>⟨_,rfl,?_⟩) (args_list_sort _)));have nD:s.heap.get? h'.objs.size=none:=by
  cases e:s.heap.get? h'.objs.size with
  | none=>rfl
  | some o=>exact absurd (jan (hk _ _ e)) (jbw _)
 have keep:∀ b o,s.heap.get? b=some o->(sortedHeap (h'.push (seqObj "list" acc.toList.toArray 0)) h'.objs.size acc.toList out).get? b=some o:=fun b o e=>by
  have hlt:=jan (hk _ _ e);rw[sortedHeap_old (jaU hlt) (by rw[size_push'];exact Nat.lt_succ_of_lt hlt)];exact jal _ (hk _ _ e)
 obtain⟨ee,hat'⟩:=sortedHeap_at (out:=out) hoL;have hH0:H h'.objs.size=none:=by
  cases e:H h'.objs.size with
  | none=>rfl
  | some o=>obtain⟨ob,e'⟩:=(I.hok _ _ e).there;rw[nD] at e';cases e'
 have rv:zba (ns'.map V.int) out.toList:=zgc a1;have hnl:ns'.length=ks.length:=a2.length_eq;exact wpAny_pure ⟨_,rfl,⟨.ref h'.objs.size,_,I.laidN (o := .lst (ns'.map V.int)) (t':=tk) keep nD ⟨by rw[jaa,hnl,<- hlen,<- rel.length];exact z,out.toList,ee,rv,by simpa using hat'⟩,rfl,q _ ns' hH0 a2 a3⟩⟩
end
end L2
set_option maxHeartbeats 1000000
namespace L2
open PySem PySem.Spec PyProof.Rows
section
variable {X:Cx}{tg:Expr}
theorem zeA:MtM X "str.startswith" (fun x vs H Q=>∃ i j,x = .str i/\vs=[.str j]/\Q (.bl (Txt.startswith i j)) H):=by
 intro pins s σ H x xs v us Q I rx rv h;obtain⟨i,j,rfl,rfl,q⟩:=h;obtain⟨t,rfl⟩:=rx;obtain⟨u,rfl,⟨t2,rfl⟩⟩:=rv.one;exact SC.startswith ⟨.bl _,H,I,rfl,q⟩
theorem zi8:MtM X "str.find" (fun x vs H Q=>∃ i j,x = .str i/\vs=[.str j]/\Q (.int (Txt.find i j)) H):=by
 intro pins s σ H x xs v us Q I rx rv h;obtain⟨i,j,rfl,rfl,q⟩:=h;obtain⟨t,rfl⟩:=rx;obtain⟨u,rfl,⟨t2,rfl⟩⟩:=rv.one;exact SC.find ⟨.int _,H,I.tok _,⟨_,rfl⟩,q⟩
theorem zkX:MtM X "str.lstrip" (fun x vs H Q=>∃ i j,x = .str i/\vs=[.str j]/\i.length<=sizeLine/\Q (.str (Txt.lstripChars i j)) H):=by
 intro pins s σ H x xs v us Q I rx rv h;obtain⟨i,j,rfl,rfl,hz,q⟩:=h;obtain⟨t,rfl⟩:=rx;obtain⟨u,rfl,⟨t2,rfl⟩⟩:=rv.one;exact call_gives F.slot_str_lstrip (typeIs_str _ _ _) F.entry_str_lstrip (F.args_str_lstrip_2 _ _) (gives_str_lstrip_chars i j t t2) (post_val_or_made (fun _=>fits_stripped _ _ _ hz) fun t' k=>⟨.str _,H,I.tok _,⟨_,rfl⟩,q⟩)
theorem zgR:∀ {ys:List Str}{its:List Value},zba (ys.map V.str) its->StrsAre its ys
 | [],_,h=>by cases h;exact .nil
 | y :: r,_,h=>by
  cases h with
  | cons a b=>obtain⟨t,rfl⟩:=a;exact .cons _ _ (zgR b)
theorem zdn:MtM X "str.join" (fun x vs H Q=>∃ i l ys,x = .str i/\vs=[.ref l]/\SqL X.K H l (ys.map V.str)/\(ys.map (·.length)).sum+ys.length * i.length<=16777216/\Q (.str (Txt.join i ys)) H):=by
 intro pins s σ H x xs v us Q I rx rv h;obtain⟨i,l,ys,rfl,rfl,hq,hz,q⟩:=h;obtain⟨t,rfl⟩:=rx;obtain⟨u,rfl,ru⟩:=rv.one;cases (show u=Value.ref l from ru);obtain⟨its,r,p,hl⟩:=I.list hq;exact join_list p.isList (zgR r) hz fun t' k=>⟨.str _,H,I.tok _,⟨_,rfl⟩,q⟩
theorem ziT:∀ {l:List (Str × Tok)},zba ((l.map (·.1)).map V.str) (strValues l)
 | []=>.nil
 | (x,t) :: r=>.cons ⟨t,rfl⟩ (ziT (l:=r))
theorem zmo {pins:List (Addr × Obj)} {σ:St}{H:Hp}{s:Shared}{l:List (Str × Tok)}{ys:List Str}{tk:Nat} (I:Inv X pins σ H s) (e:l.map (·.1)=ys) (hz:ys.length<=sizeLine) :
  Inv X pins σ (upd H s.heap.objs.size (.lst (ys.map V.str))) { s with heap:=s.heap.push { cls := .type "list",data := .seq (strValues l).toArray },toks:=tk }:=by
 subst e;exact I.laid (o := .lst _) (t':=tk) (fun b o q=>jal _ q) (jag _) ⟨by rw[jaa];exact hz,strValues l,0,ziT,jav _ rfl⟩
theorem zhk:MtM X "str.split" (fun x vs H Q=>∃ i j,x = .str i/\vs=[.str j]/\(j.length == 0)=false/\i.length<sizeLine/\∀ a,H a=none->Q (.ref a) (upd H a (.lst ((Txt.split i j).map V.str)))):=by
 intro pins s σ H x xs v us Q I rx rv h;obtain⟨i,j,rfl,rfl,hy,hz,q⟩:=h;obtain⟨t,rfl⟩:=rx;obtain⟨u,rfl,⟨t2,rfl⟩⟩:=rv.one;have hj:1<=j.length:=by
  have:j.length≠0:=by simpa using hy
  omega
 have hw:=split_weight i j hj;have hn:(Txt.split i j).length<=sizeLine:=by omega
 have fin:∀ (l:List (Str × Tok)) (tk:Nat),l.map (·.1)=Txt.split i j->EP X pins σ Q (.ref s.heap.objs.size) { s with heap:=s.heap.push { cls := .type "list",data := .seq (strValues l).toArray },toks:=tk }:=fun l tk e =>
  ⟨.ref s.heap.objs.size,_,zmo I e hn,rfl,q _ (I.hok.fresh (jag _))⟩
 cases h1:(decide (i.length<j.length) || decide (Builtin.Str.strKind i<Builtin.Str.strKind j))
 ·cases hf:(Builtin.Str.occurrences i j 0 i.length (i.length+1)).isEmpty
  ·have e:Txt.split i j=Builtin.Str.partsBetween i (Builtin.Str.occurrences i j 0 i.length (i.length+1)) j.length:=(if_neg (ne_true_of_eq_false h1)).trans (if_neg (ne_true_of_eq_false hf));refine call_meets jdk (typeIs_str _ _ _) jc8 (jcY _ _) (meets_str_split_sep i j t t2 h1 hy hf (by omega) (by rw[<- e];exact hn)) ?_;show wants _ _ _ { s with toks:=_,heap:=s.heap.push { cls := .type "list",data := .seq (strsFrom s.toks (Builtin.Str.partsBetween i (Builtin.Str.occurrences i j 0 i.length (i.length+1)) j.length)).toArray } };rw[strsFrom_eq];exact fin _ _ ((numbered_texts _ _).trans e.symm)
  ·exact call_meets jdk (typeIs_str _ _ _) jc8 (jcY _ _) (meets_str_split_not_found i j t t2 h1 hy hf)
    (fin [(i,t)] s.toks ((if_neg (ne_true_of_eq_false h1)).trans (if_pos hf)).symm)
 ·exact call_meets jdk (typeIs_str _ _ _) jc8 (jcY _ _) (meets_str_split_cannot_occur i j t t2 h1)
   (fin [(i,t)] s.toks (if_pos h1).symm)
theorem zjO:SlR X (fun x lo hi H Q=>∃ z,x = .str z/\z.length<=sizeLine/\Q (.str (Txt.slice z lo hi)) H):=by
 intro pins s σ H x v vl vu lo hi sl Q I rx hs pl pu h;obtain⟨z,rfl,hz,q⟩:=h;obtain⟨t,rfl⟩:=rx;have part:∀ {v:Value}{o:Option Int},IsPart v o->∃ l:Option (Int × Tok),v=partValue l/\l.map (·.1)=o:=fun p=>by
  cases p with
  | none=>exact⟨none,rfl,rfl⟩
  | int i t=>exact⟨some (i,t),rfl,rfl⟩
 obtain⟨l,rfl,rfl⟩:=part pl;obtain⟨u,rfl,rfl⟩:=part pu;refine⟨"str",_,F.slot_str_getitem.lookup,typeIs_str _ _ _,?_⟩;exact wpAny_getItem_str_slice (l:=l) (u:=u) (st:=none) hs rfl (post_val_or_str ⟨jak (Txt.slice_le z _ _) hz,fun t' k=>⟨.str _,H,I.tok _,⟨_,rfl⟩,q⟩⟩)
theorem zdj:zet X (.type "int") (fun xs H Q=>∃ x n,xs=[.str x]/\intText? x=some n/\x.length<=640/\Q (.int n) H):=by
 intro pins s σ H xs us Q I r h;obtain⟨x,n,rfl,hn,hl,q⟩:=h;obtain⟨u,rfl,⟨t,rfl⟩⟩:=zeX r;exact PySem.W.KIN.call_text hn hl ⟨.int n,H,I.tok _,⟨_,rfl⟩,q⟩
noncomputable def ItC (x:Str):It:=⟨fun i _=>i<x.cps.size,fun i H v H'=>H'=H/\∃ c,x.cps[i]? = some c/\v = .str ⟨#[c]⟩,fun i _=>x.cps.size<=i⟩
noncomputable def zuV (te:TE):TI:=fun σ H R=>te σ H fun v H1=>∃ x,v = .str x/\x.cps.all (· < 128)=true/\R (ItC x) H1
theorem znm {P:Program}{w:World}{K:PySem.W.Frag}{tg:Expr} (x:Str) (t:Tok) (it:Addr):znc P w K tg (ItC x) [it] it (fun i h=>h.IsStrIter it "str_ascii_iterator" x t i) where
 mem:=by simp
 obj:=fun i h st b hb=>by
  have e:b=it:=by simpa using hb
  subst e;obtain⟨o,e,c,d⟩:=st;exact⟨o,e,fun v z=>by rw[d] at z;cases z⟩
 keep:=fun i h h' st k=>let ⟨o,e,c,d⟩:=st; ⟨o,k it (by simp) o e,c,d⟩
 item:=by
  intro X hP hw hK hc i pins s σ H E I hf st hg;subst hP hw hK;obtain⟨f0,f1,f2,f3,f4,f5⟩:=hf it (by simp);have hx:x.cps[i]? = some (x.cps[i]'hg):=by rw[jc1 hg]
  refine wpAny_pyNext_ascii_item st hx fun h' st' sb=>?_
  have I1:Inv X pins σ H { s with heap:=h',toks:=s.toks+1 }:=I.turned (fun b o hb e=>(sb.2 b hb).trans e) f0 f1 f3 f4 f5;obtain⟨o,e,c,d⟩:=id st';exact⟨_,rfl,zll (s:={ s with heap:=h',toks:=s.toks+1 }) e c d (by decide) ⟨.str ⟨#[x.cps[i]'hg]⟩,H,I1,⟨_,rfl⟩,⟨rfl,_,hx,rfl⟩,st',fun b hb=>(hf b hb).1⟩⟩
 done:=by
  intro X hP hw hK hc i pins s σ H E I hf st hg;subst hP hw hK;obtain⟨f0,f1,f2,f3,f4,f5⟩:=hf it (by simp);exact wpAny_pyNext_ascii_end (I.ok.hd hc) st (Array.getElem?_eq_none hg) fun h' eb=>⟨rfl,I.turned (t':=s.toks) (fun b o hb e=>eb b o hb e) f0 f1 f3 f4 f5⟩
 self:=fun _ _ _ _ _ st h=>wpAny_pyIter_striter_ascii st h
theorem zkw {l:Expr}{tl:TE} (hl:PE X l tl):PI X tg l (zuV tl):=by
 intro pins s σ H R I h;refine thn (hl pins s σ H _ I h) fun v s1 ⟨x,H1,I1,r1,q1⟩=>?_
 obtain⟨z,e,ha,q⟩:=q1;subst e;obtain⟨t,rfl⟩:=r1;refine wpAny_pyIter_ascii ha ?_;refine⟨s1.heap.objs.size,[s1.heap.objs.size],_,_,H1,rfl,I1.kept (t':=s1.toks) fun b o e=>jal _ e,znm z t _,⟨_,jav _ rfl,rfl,rfl⟩,fun b hb=>?_,q⟩;have e:b=s1.heap.objs.size:=by simpa using hb
 subst e;exact I1.fpOk (jag _) (I1.hok.fresh (jag _))
end
end L2
namespace My
open PySem L2 OF
noncomputable def S (l:List Nat):Str:=⟨l.toArray⟩
theorem zbE (l:List Nat):(S l).cps.toList=l:=rfl
theorem zaw (l:List Nat):(S l).length=l.length:=rfl
theorem zvx (x:Str):x=S x.cps.toList:=rfl
theorem zqE {x:Str}{l:List Nat} (h:x.cps.toList=l):x=S l:=by subst h;rfl
theorem zbY {a b:List Nat} (h:S a=S b):a=b:=congrArg (fun x:Str=>x.cps.toList) h
theorem zbR (a b:List Nat):S a++S b=S (a++b):=zqE (by
 show (a.toArray++b.toArray).toList=_;rw[Array.toList_append])
noncomputable def zbd (c:Nat):List (List Nat)->List Nat
 | []=>[]
 | [x]=>x
 | x :: y :: r=>x++c :: zbd c (y :: r)
theorem zmB (c:Nat):∀ ws:List (List Nat),Str.join (S [c]) (ws.map S)=S (zbd c ws)
 | []=>rfl
 | [x]=>rfl
 | x :: y :: r=>by
  have ih:=zmB c (y :: r);show S x++S [c]++Str.join (S [c]) ((y :: r).map S)=_;rw[ih,zbR,zbR,zbd];simp
theorem zoJ:∀ ws:List (List Nat),Str.join (S []) (ws.map S)=S ws.flatten
 | []=>rfl
 | [x]=>by show S x=_;simp
 | x :: y :: r=>by
  have ih:=zoJ (y :: r);show S x++S []++Str.join (S []) ((y :: r).map S)=_;rw[ih,zbR,zbR];simp
theorem zhU (c:Nat) (ws:List (List Nat)):Txt.join (S [c]) (ws.map S)=S (zbd c ws):=by
 unfold Txt.join;rw[StrLaws.glued_eq_join,zmB]
theorem zlv (ws:List (List Nat)):Txt.join (S []) (ws.map S)=S ws.flatten:=by
 unfold Txt.join;rw[StrLaws.glued_eq_join,zoJ]
theorem zlK {c:Nat}:∀ {x y A B:List Nat},c ∉ x->c ∉ y->x++c :: A=y++c :: B->x=y/\A=B
 | [],[],_,_,_,_,h=>⟨rfl,by simpa using h⟩
 | [],b :: y,_,_,_,h2,h=>by
  have:c=b:=by simpa using (jdx h).1
  exact absurd (this ▸ jbh) h2
 | a :: x,[],_,_,h1,_,h=>by
  have:a=c:=by simpa using (jdx h).1
  exact absurd (this ▸ jbh) h1
 | a :: x,b :: y,A,B,h1,h2,h=>by
  obtain⟨e1,e2⟩:=jdx h;obtain⟨e3,e4⟩:=zlK (fun z=>h1 (jax _ z)) (fun z=>h2 (jax _ z)) e2;exact⟨by rw[e1,e3],e4⟩
theorem zh0 {c:Nat}:∀ {ws vs:List (List Nat)},ws≠[]->vs≠[]->(∀ w∈ws,c ∉ w)->(∀ w∈vs,c ∉ w)->zbd c ws=zbd c vs->ws=vs
 | [],_,h,_,_,_,_=>absurd rfl h
 | _ :: _,[],_,h,_,_,_=>absurd rfl h
 | [x],[y],_,_,_,_,h=>by
  have:x=y:=h
  rw[this]
 | [x],y :: z :: r,_,_,h1,_,h=>by
  have h':x=y++c :: zbd c (z :: r):=h;exact absurd (by rw[h'];simp) (h1 x (by simp))
 | x :: z :: r,[y],_,_,_,h2,h=>by
  have h':x++c :: zbd c (z :: r)=y:=h;exact absurd (by rw[<- h'];simp) (h2 y (by simp))
 | x :: x2 :: r,y :: y2 :: r',_,_,h1,h2,h=>by
  have h':x++c :: zbd c (x2 :: r)=y++c :: zbd c (y2 :: r'):=h;obtain⟨e1,e2⟩:=zlK (h1 x (by simp)) (h2 y (by simp)) h';rw[e1,zh0 (by simp) (by simp) (fun w hw=>h1 w (jax _ hw)) (fun w hw=>h2 w (jax _ hw)) e2]
theorem zjq {c:Nat}{ws:List (List Nat)} (h0:ws≠[]) (hf:∀ w∈ws,c ∉ w):Txt.split (S (zbd c ws)) (S [c])=ws.map S:=by
 have e1:=StrLaws.join_split (S (zbd c ws)) (S [c]);have e2:(Txt.split (S (zbd c ws)) (S [c]))=((Txt.split (S (zbd c ws)) (S [c])).map fun p=>p.cps.toList).map S:=by
  rw[ja3];exact (List.map_id' _).symm.trans (jb8 fun p _=>zvx p)
 have hfree:=StrLaws.split_free (S (zbd c ws)) c;have hpos:=PyProof.Rows.split_pos (S (zbd c ws)) (S [c]);rw[e2,zmB] at e1;have e3:=zbY e1;have e4:=zh0 (c:=c) (fun z=>by
   rw[List.map_eq_nil_iff] at z;rw[z] at hpos;exact absurd hpos (by decide)) h0 (fun w hw=>by
   obtain⟨p,hp,rfl⟩:=jau.mp hw;exact hfree p hp) hf e3
 rw[e2,e4]
noncomputable def zgO (n:Nat):List Nat:=(Nat.toDigits 10 n).map Char.toNat
theorem zga (n:Nat):Str.ofString (toString ((n:Nat):Int))=S (zgO n):=zqE (PySem.W.KIN.signs_num n)
theorem zkg (n:Nat):NumText.digitsVal (zgO n)=n:=PySem.W.KIN.val_back n
theorem zhO {n c:Nat} (h:c∈zgO n):48<=c/\c<=57:=by
 obtain⟨ch,hch,e⟩:=jau.mp h;have r:=PyProof.Rows.digit_range (Nat.isDigit_of_mem_toDigits (by decide) (by decide) hch);rw[<- e];exact r
theorem zg0 {m:Nat} (h:¬ m<10):zgO m=zgO (m / 10) ++ [48+m % 10]:=by
 have hm:m % 10<10:=jdr m (by decide);have t:Nat.toDigits 10 (m / 10)++Nat.toDigits 10 (m % 10)=Nat.toDigits 10 (10 * (m / 10)+m % 10):=Nat.toDigits_append_toDigits (by decide) (by omega) hm;rw[Nat.div_add_mod] at t;unfold zgO;rw[<- t,jac,jdb hm]
 have:∀ d:Nat,d<10->(Nat.digitChar d).toNat=48+d:=by decide
 rw[jat,jbZ,this _ hm]
theorem zdN {m:Nat} (h:m<10):zgO m=[48+m]:=by
 unfold zgO;rw[jdb h]
 have:∀ d:Nat,d<10->(Nat.digitChar d).toNat=48+d:=by decide
 rw[jat,jbZ,this _ h]
theorem ziw:∀ {m:Nat},0<m->∃ d r,zgO m=(49+d) :: r/\d<9:=by
 intro m;induction m using Nat.strongRecOn with
 | _ m ih =>
  intro h0;by_cases h:m<10
  ·rw[zdN h];exact⟨m-1,[],by congr 1;omega,by omega⟩
  ·obtain⟨d,r,e,hd⟩:=ih (m / 10) (by omega) (by omega);rw[zg0 h,e];exact⟨d,r ++ [48+m % 10],rfl,hd⟩
theorem zeo:∀ {k m:Nat},m<10^(k+1)->(zgO m).length<=k+1
 | 0,m,h=>by rw[zdN h];exact jag _
 | k+1,m,h=>by
  by_cases h1:m<10
  ·rw[zdN h1];exact Nat.le_add_left _ _
  ·have h2:m / 10<10^(k+1):=by rw[Nat.div_lt_iff_lt_mul (by decide)];rw[jbY] at h;exact h
   rw[zg0 h1,jab]
   have:=zeo h2
   simp;omega
theorem znw {m:Nat} (h:zgO m=[49]):m=1:=by
 have:=zkg m
 rw[h] at this;exact this.symm
noncomputable def zdC (m:Nat):List Nat:=(lst m).map fun k=>97+k
theorem zcR {m c:Nat} (hm:m<2^16) (h:c∈zdC m):97<=c/\c<113:=by
 obtain⟨k,hk,rfl⟩:=jau.mp h;have hb:=zjA.mp hk
 have:k<16:=by
  rcases jcu k 16 with y | y
  ·exact y
  ·rw[jbs (jas hm (jaH (by decide) y))] at hb;cases hb
 omega
theorem zoX {m:Nat} (hm:m<2^16):(List.range 16).filter (fun k=>m.testBit k)=lst m:=by
 have hb:Builtin.Int.intBits (m:Int)<=16:=zff hm;obtain⟨d,hd⟩:∃ d,16=Builtin.Int.intBits (m:Int)+d:=⟨16-Builtin.Int.intBits (m:Int),by omega⟩;unfold lst;rw[hd,List.range_add,jaO]
 have:List.filter (fun k=>m.testBit k) (List.map (Builtin.Int.intBits (m:Int) + ·) (List.range d))=[]:=by
  rw[List.filter_eq_nil_iff];intro k hk;obtain⟨j,_,rfl⟩:=jau.mp hk
  have:=jbs (jas (zeZ m) (jaH (by decide) (Nat.le_add_right _ j)):m<2^(Builtin.Int.intBits (m:Int)+j))
  rw[this];decide
 rw[this,jaZ]
noncomputable def zcP (m n:Nat):List Nat:=if n=1/\m≠0 then [] else zgO n
noncomputable def zf9 (m n:Nat):List Nat:=(if n=1/\m≠0 then [] else zgO n)++zdC m
theorem zn0 {m n:Nat} (hn:n<10^63):(zcP m n).length<=63:=by
 unfold zcP;split
 ·exact jaE _
 ·exact zeo (k:=62) hn
theorem znM {m n c:Nat} (h:c∈zcP m n):48<=c/\c<=57:=by
 unfold zcP at h;split at h
 ·cases h
 ·exact zhO h
noncomputable def zaO (t:Int × Int):List Nat:=zf9 t.1.toNat t.2.natAbs
noncomputable def sgn (n:Int):Nat:=if n<0 then 45 else 43
noncomputable def zbh (t:Int × Int):List Nat:=[32,sgn t.2,32]++zaO t
noncomputable def za1 (n:Int):List Nat:=if n<0 then [45] else []
noncomputable def txt:zag->List Nat
 | []=>[48]
 | t :: r=>za1 t.2++zaO t++r.flatMap zbh
noncomputable def zcv:zag->List (List Nat)
 | []=>[[48]]
 | t :: r=>(za1 t.2++zaO t) :: r.flatMap fun u=>[[sgn u.2],zaO u]
theorem zh9 (a:List Nat):∀ r:zag,zbd 32 (a :: r.flatMap fun u=>[[sgn u.2],zaO u])=a++r.flatMap zbh
 | []=>by show a=_;simp
 | u :: r=>by
  have ih:=zh9 (zaO u) r;show a++32 :: ([sgn u.2]++32 :: zbd 32 (zaO u :: r.flatMap fun u=>[[sgn u.2],zaO u]))=_;rw[ih];unfold zbh;simp
theorem zfd (f:zag):zbd 32 (zcv f)=txt f:=by
 cases f with
 | nil=>rfl
 | cons t r=>exact zh9 _ r
noncomputable def zcn (t:Int × Int):Prop:=0<=t.1/\t.1<2^16/\t.2≠0/\t.2.natAbs<10^63
theorem zg6 {m n c:Nat} (hm:m<2^16) (h:c∈zf9 m n):(48<=c/\c<=57)\/(97<=c/\c<113):=by
 unfold zf9 at h;rcases jah.mp h with z | z
 ·split at z
  ·cases z
  ·exact .inl (zhO z)
 ·exact .inr (zcR hm z)
theorem zdc {m:Nat} (hm:m<2^16):(zdC m).length<=16:=by
 unfold zdC;rw[jaa,<- zoX hm];exact jak (ja0 _ _) (by rw[jbn];exact jag _)
theorem zfD {m n:Nat} (hm:m<2^16) (hn:n<10^63):(zf9 m n).length<=79:=by
 unfold zf9;rw[jab];have h1:=zdc hm;have h2:(zgO n).length<=63:=zeo (k:=62) hn;split
 ·simp;omega
 ·omega
end My
namespace My
open PySem L2 OF
theorem zdt:("" : Str)=S []:=by decide +kernel
theorem zes:("0" : Str)=S [48]:=by decide +kernel
theorem zlT:("1" : Str)=S [49]:=by decide +kernel
theorem zd2:(" " : Str)=S [32]:=by decide +kernel
theorem zev:("+" : Str)=S [43]:=by decide +kernel
theorem zbc:("-" : Str)=S [45]:=by decide +kernel
theorem zlj:(" + " : Str)=S [32,43,32]:=by decide +kernel
theorem zkG:(" - " : Str)=S [32,45,32]:=by decide +kernel
noncomputable def LET:List Nat:=[97,98,99,100,101,102,103,104,105,106,107,108,109,110,111,112]
noncomputable def FIG:List Nat:=[48,49,50,51,52,53,54,55,56,57]
theorem zb6:("abcdefghijklmnop" : Str)=S LET:=by decide +kernel
theorem zmD:("0123456789" : Str)=S FIG:=by decide +kernel
theorem zjJ:∀ k:Nat,k<16->LET[k]? = some (97+k):=by decide
theorem zhP:∀ k:Nat,k<16->Txt.find (S LET) (S [97+k])=(k:Int):=by decide +kernel
theorem zi7:∀ d:Nat,d<10->intText? (S [48+d])=some (d:Int):=by decide +kernel
theorem zlH (c:Nat):(S FIG).cps.contains c=decide (48<=c/\c<=57):=by
 have:(S FIG).cps.contains c=FIG.contains c:=by
  show FIG.toArray.contains c=_;simp
 rw[this];unfold FIG;by_cases h:48<=c/\c<=57
 ·rw[decide_eq_true h];obtain⟨d,rfl⟩:∃ d,c=48+d:=⟨c-48,by omega⟩
  have:∀ d,d<10->([48,49,50,51,52,53,54,55,56,57]:List Nat).contains (48+d)=true:=by decide
  exact this d (by omega)
 ·rw[decide_eq_false h];simp only[List.contains_eq_mem,jaj,ja7,or_false];exact decide_eq_false (by omega)
theorem ziG:∀ {d l:List Nat},(∀ c∈d,48<=c/\c<=57)->(∀ c r,l=c :: r->¬ (48<=c/\c<=57))->((d++l).takeWhile (S FIG).cps.contains).length=d.length
 | [],[],_,_=>rfl
 | [],c :: r,_,h=>by
  rw[List.nil_append,jcL,zlH,decide_eq_false (h c r rfl)];rfl
 | c :: d,l,h,h'=>by
  rw[jcA,jcL,zlH,decide_eq_true (h c (by simp))];simp only[if_true,jae];rw[ziG (fun x hx=>h x (jax _ hx)) h']
theorem zoC {d l:List Nat} (h:∀ c∈d,48<=c/\c<=57) (h':∀ c r,l=c :: r->¬ (48<=c/\c<=57)):Txt.lstripChars (S (d++l)) (S FIG)=S l:=by
 have e:stripLo (S FIG).cps.contains true (S (d++l))=d.length:=by
  unfold stripLo;rw[if_pos rfl,zbE];exact ziG h h'
 have e2:stripHi (S FIG).cps.contains false (S (d++l)) d.length=(d++l).length:=rfl;unfold Txt.lstripChars Txt.stripBy stripSame stripped;rw[e,e2];by_cases hd:d=[]
 ·subst hd;rw[if_pos (by simp[zaw])];rfl
 ·have:d.length≠0:=fun z=>hd (ja6 z)
  rw[if_neg (by simp[this])];refine zqE ?_;rw[StrLaws.strSub_toList,zbE,List.drop_left,jab];exact ja2 (by omega)
theorem znz {a b:List Nat}:Txt.slice (S (a++b)) none (some (a.length:Int))=S a:=by
 have:=StrLaws.sliceText_to (x:=S (a++b)) (j:=(a.length:Int)) ⟨jaM _,by rw[zbE,jab];omega⟩
 refine (show Txt.slice (S (a++b)) none (some (a.length:Int))=_ from this).trans ?_;rw[zbE];exact zqE (by simp)
theorem ziM {a b:List Nat}:Txt.slice (S (a++b)) (some (a.length:Int)) none=S b:=by
 have:=StrLaws.sliceText_from (x:=S (a++b)) (i:=(a.length:Int)) ⟨jaM _,by rw[zbE,jab];omega⟩
 refine (show Txt.slice (S (a++b)) (some (a.length:Int)) none=_ from this).trans ?_;rw[zbE];refine zqE ?_;simp;exact ja2 (by omega)
theorem zol (x:List Nat):Txt.startswith (S x) (S [45])=match x with | []=>false | c :: _=>c == 45:=by
 unfold Txt.startswith;rw[jdj,zbE,zbE,zaw,zaw];cases x with
 | nil=>rfl
 | cons c r=>simp
end My
namespace My
open PySem L2 OF
theorem zhF {α β : Type} (A B : α -> β):∀ (f:List α) (k:Nat),(f.flatMap fun t=>[A t,B t])[2 * k]? = f[k]?.map A/\(f.flatMap fun t=>[A t,B t])[2 * k+1]? = f[k]?.map B
 | [],k=>by simp
 | t :: f,0=>by simp
 | t :: f,k+1=>by
  obtain⟨h1,h2⟩:=zhF A B f k;have e1:2 * (k+1)=2 * k+1+1:=by omega
  have e2:2 * (k+1)+1=2 * k+1+1+1:=by omega
  rw[jaY];constructor
  ·rw[e1];simpa using h1
  ·rw[e2];simpa using h2
theorem zcM {α β : Type} (A B : α -> β) (f:List α):(f.flatMap fun t=>[A t,B t]).length=2 * f.length:=by
 induction f with
 | nil=>rfl
 | cons t f ih=>rw[jaY,jab,ih,jae];simp;omega
theorem zh6 {α β : Type} (A : α -> β) (f:List α):(List.range f.length).filterMap (fun k=>f[k]?.map A)=f.map A:=by
 apply List.ext_getElem?;intro i
 have:∀ (n:Nat) (g:List α),n<=g.length->(List.range n).filterMap (fun k=>g[k]?.map A)=(g.take n).map A:=fun n g=>by
  induction n with
  | zero=>intro _;rfl
  | succ n ih =>
   intro h;rw[jbW,List.filterMap_append,ih (by omega),jaI,jac,jar (by omega:n<g.length)];simp[jar (by omega:n<g.length)]
 rw[this _ f (jag _),jaK]
theorem zrP {α : Type} (A B : α -> V) (f:List α):zgM 0 (((f.flatMap fun t=>[A t,B t]).length-0+1) / 2) (f.flatMap fun t=>[A t,B t])=f.map A:=by
 have e:((f.flatMap fun t=>[A t,B t]).length-0+1) / 2=f.length:=by rw[zcM];omega
 unfold zgM;rw[e,<- zh6 A f];congr 1
 funext k
 rw[Nat.zero_add];exact (zhF A B f k).1
theorem zr4 {α : Type} (A B : α -> V) (f:List α):zgM 1 (((f.flatMap fun t=>[A t,B t]).length-1+1) / 2) (f.flatMap fun t=>[A t,B t])=f.map B:=by
 have e:((f.flatMap fun t=>[A t,B t]).length-1+1) / 2=f.length:=by rw[zcM];omega
 unfold zgM;rw[e,<- zh6 B f];congr 1
 funext k
 rw[Nat.add_comm];exact (zhF A B f k).2
theorem zhD {t:Int × Int} (h:zcn t):(zbh t).length<=82:=by
 unfold zbh
 have:(zaO t).length<=79:=zfD (by have:=h.1;have:=h.2.1;omega) h.2.2.2
 simp;omega
theorem zcz:∀ {r:zag},(∀ t∈r,zcn t)->(r.flatMap zbh).length<=82 * r.length
 | [],_=>by simp
 | t :: r,h=>by
  rw[jaY,jab,jae];have h1:=zhD (h t (by simp));have h2:=zcz (r:=r) fun u hu=>h u (by simp[hu])
  omega
theorem zql {f:zag} (h:∀ t∈f,zcn t):(txt f).length<=82 * f.length+1:=by
 cases f with
 | nil=>decide
 | cons t r =>
  show (za1 t.2++zaO t++r.flatMap zbh).length<=_;rw[jab,jab,jae];have h1:(zaO t).length<=79:=zfD (by have:=(h t (by simp)).1;have:=(h t (by simp)).2.1;omega) (h t (by simp)).2.2.2;have h2:=zcz (r:=r) fun u hu=>h u (by simp[hu])
  have h3:(za1 t.2).length<=1:=by unfold za1;split <;> simp
  omega
end My
namespace L2
open PySem PySem.Spec PyProof.Rows
theorem zmg {l:List Nat}{g:TG}{tb:TS}{D:zld} {σ:St}{H:Hp} (Pv:Nat->St->Hp->Prop) (h0:Pv 0 σ H)
  (hs:∀ i c σ H,l[i]? = some c->Pv i σ H->g (.str (My.S [c])) σ H fun σ2 H2=>tb { D with nx:=Pv (i+1),ct:=Pv (i+1),bk:=D.nx } σ2 H2) (hd:∀ σ H,Pv l.length σ H->D.nx σ H) :
  ∃ W:Nat->Nat->St->Hp->Prop,(∃ m,W 0 m σ H)/\∀ i m σ H,W i m σ H ->
   ((ItC (My.S l)).stop i H/\D.nx σ H)\/((ItC (My.S l)).go i H/\∃ N:St->Hp->Prop,(∀ σ' H',N σ' H'->∃ m',m'<m/\W (i+1) m' σ' H')/\∀ x H',(ItC (My.S l)).yld i H x H'->g x σ H' fun σ2 H2=>tb { D with nx:=N,ct:=N,bk:=D.nx } σ2 H2):=by
 refine⟨fun i m σ H=>m=l.length-i/\i<=l.length/\Pv i σ H,⟨l.length,by simp,jaE _,h0⟩,?_⟩;rintro i m σ H ⟨rfl,hi,p⟩;by_cases hlt:i<l.length
 ·refine .inr ⟨hlt,Pv (i+1),fun σ' H' p'=>⟨l.length-(i+1),by omega,rfl,hlt,p'⟩,fun x H' y=>?_⟩;obtain⟨rfl,c,hc,rfl⟩:=y;exact hs i c σ _ (by simpa [My.S] using hc) p
 ·have e:i=l.length:=by omega
  subst e;exact .inl ⟨jag _,hd σ H p⟩
end L2
namespace My
open PySem L2 OF
theorem zhZ {l:List Nat} (h:∀ c∈l,c<128):(S l).cps.all (· < 128)=true:=by
 show l.toArray.all _=true;simpa using h
theorem zop {m:Nat} (hm:m<2^16):∀ c∈zdC m,c<128:=fun c hc=>by have:=zcR hm hc;omega
end My
set_option maxHeartbeats 4000000
namespace L2
open PySem PySem.Spec PyProof.Rows
theorem HOk.gone {P:Program}{w:World}{H:Hp}{h:Heap}{a:Addr} (x:HOk P w H h) (e:h.get? a=none):H a=none:=by
 cases q:H a with
 | none=>rfl
 | some o=>obtain⟨ob,z⟩:=(x a o q).there;rw[e] at z;cases z
noncomputable def Fly (h:Heap) (a T:Addr) (C:Value):Prop :=
 ∃ oe vs oT ts a0,h.get? a=some oe/\(oe.cls=C/\vs[0]? = some a0)/\oe.data = .fields vs/\vs[1]? = some (.ref T)/\T≠a/\h.get? T=some oT/\oT.data = .fields ts/\ts[3]? = some .none
noncomputable def CXe (P:Program) (w:World):CXT:=fun outer H s E e s'=>∃ (a T:Addr) (C:Value) (H':Hp),e = .ref a/\s'.os=s.os/\AllBare s'.gens/\Un (frs outer) [] H H' s.heap s'.heap/\HOk P w H' s'.heap /\
 s.heap.get? a=none/\s.heap.get? T=none/\H' a=none/\H' T=none/\Fly s'.heap a T C/\E C none H'
section
variable {X:Cx}{pins:List (Addr × Obj)} {σ:St}{H:Hp}{s:Shared}
theorem zka {env:Env}{l:List Env}{L:Addr} (h:env.frame=some L):frs (env :: l)=L :: frs l:=by
 unfold frs;rw[jb9,h]
structure Own (X:Cx):Prop where
 stk:X.stack=X.env :: X.outer
 fr:X.env.frame=some X.env.locals
 ex:X.ex=[]
noncomputable def zmy (X:Cx) (H:Hp) (h:Heap) (xs:List Addr):Prop:=∀ b∈xs,X.s₀.heap.get? b=none/\H b=none/\∃ o vs,h.get? b=some o/\o.data = .fields vs
theorem Inv.over (O:Own X) (J:Inv X pins σ H s) {xs:List Addr} (hxs:zmy X H s.heap xs) {h3:Heap} (st:(PySem.W.hideAll s.heap (frs X.stack++xs)).StaysIn h3) (ups:∀ b o,b∈frs X.stack->s.heap.get? b=some o->∃ sl,h3.get? b=some { o with slots:=sl }) :
  HOk X.prog X.w H h3/\Un (frs X.stack) xs H H s.heap h3:=by
 have stays:∀ b o,s.heap.get? b=some o->b ∉ frs X.stack->b ∉ xs->h3.get? b=some o:=fun b o e h1 h2=>st b o (jcN _ e fun z=>(jah.mp z).elim h1 h2)
 have trk:∀ b o,H b=some o->b ∉ frs X.stack/\b ∉ xs:=fun b o e=>⟨fun z=>(by rw[J.stkFree b z] at e;cases e),fun z=>(by rw[(hxs b z).2.1] at e;cases e)⟩
 refine⟨fun b o e=>(J.hok b o e).stay (fun c u hc q=>?_) (fun _ q=>q) fun _ _ q=>q,fun b o e n hb hx=>stays b o e hb hx,fun b o e n hb hx=>ups b o hb e,fun _ _ _ n _=>n,fun b o e hx=>?_,fun _ _ q=>q,fun _ _ _ q=>q,fun _ ps q=>⟨#[],by rw[q];simp⟩⟩
 ·have hc':∃ o',H c=some o':=by
   rcases hc with rfl | hc
   ·exact⟨_,e⟩
   ·exact⟨_,hc⟩
  obtain⟨o',e'⟩:=hc';obtain⟨h1,h2⟩:=trk c o' e';exact stays c u q h1 h2
 ·by_cases hb:b∈frs X.stack
  ·obtain⟨sl,z⟩:=ups b o hb e;exact⟨_,z⟩
  ·exact⟨o,stays b o e hb hx⟩
theorem zpi (O:Own X) (J:Inv X pins σ H s) {xs:List Addr} (hxs:zmy X H s.heap xs) {a:Addr}{C a0:Value}{h3:Heap}
  (ups:∀ b o,b∈frs X.stack->s.heap.get? b=some o->∃ sl,h3.get? b=some { o with slots:=sl }) (fl:Heap.FlyingW (PySem.W.hideAll s.heap (frs X.stack++xs)) X.outer a C a0 h3) (ha:s.heap.get? a=none\/a∈xs) {E:XK} (hE:E C none H) :
  CXe X.prog X.w X.outer X.H₀ X.s₀ E (.ref a) { s with heap:=h3 }:=by
 obtain⟨st,hn,hfun,oe,vs,T,oT,ts,he,hc,hd,h1,hnT,hTa,hT,hdT,h3'⟩:=fl;have fresh:∀ b,s.heap.get? b=none->X.s₀.heap.get? b=none:=fun b e=>by
  cases q:X.s₀.heap.get? b with
  | none=>rfl
  | some o=>obtain⟨o',z⟩:=J.base.there b o q (by rw[O.ex];simp);rw[e] at z;cases z
 have hfrs:frs X.stack=X.env.locals :: X.fs:=by rw[O.stk,zka O.fr]
 obtain⟨hok,un⟩:=Inv.over O J hxs st ups;have young:∀ b o,X.s₀.heap.get? b=some o->b ∉ xs:=fun b o e z=>by rw[(hxs b z).1] at e;cases e
 have old:∀ b o,X.s₀.heap.get? b=some o->b≠X.env.locals:=fun b o e=>jaU (jas (jan e) J.ok.above)
 have nx:∀ b:Addr,b ∉ X.ex:=fun b=>by rw[O.ex];simp
 have hT2:s.heap.get? T=none\/T∈xs:=by
  by_cases hx:T∈xs
  ·exact .inr hx
  ·refine .inl ?_;cases q:s.heap.get? T with
   | none=>rfl
   | some o =>
    by_cases hf:T∈frs X.stack
    ·obtain⟨_,o2,ho2,hnf⟩:=J.stack.mem hf;obtain⟨sl,z⟩:=ups T o2 hf ho2;rw[hT] at z;cases z;exact absurd hdT (hnf ts)
    ·have:=jcN (frs X.stack++xs) q fun z=>(jah.mp z).elim hf hx
     rw[hnT] at this;cases this
 have both:∀ b,(s.heap.get? b=none\/b∈xs)->X.s₀.heap.get? b=none/\H b=none:=fun b hb=>by
  rcases hb with e | e
  ·exact⟨fresh b e,J.hok.gone e⟩
  ·exact⟨(hxs b e).1,(hxs b e).2.1⟩
 refine⟨a,T,C,H,rfl,J.os,J.bare,⟨fun b o e n hb hx=>?_,fun b o e n hb hx=>?_,fun b o e n _=>J.base.free b o e n (nx b),fun b o e hx=>?_,J.base.tups,J.base.frzs,J.base.tbls⟩,hok,(both a ha).1,(both T hT2).1,(both a ha).2,(both T hT2).2,⟨oe,vs,oT,ts,a0,he,hc,hd,h1,hTa,hT,hdT,h3'⟩,hE⟩
 ·have e1:=J.base.keep b o e n hb (nx b);exact un.keep b o e1 (J.base.free b o e n (nx b)) (by rw[hfrs];exact fun z=>(jaj.mp z).elim (old b o e) hb) (young b o e)
 ·obtain⟨sl,e1⟩:=J.base.slot b o e n hb (nx b);obtain⟨sl',e2⟩:=un.slot b _ e1 (J.base.free b o e n (nx b)) (by rw[hfrs];exact jax _ hb) (young b o e);exact⟨sl',e2⟩
 ·obtain⟨o1,e1⟩:=J.base.there b o e (nx b);exact un.there b o1 e1 (young b o e)
theorem zkY (O:Own X) (J:Inv X pins σ H s) {h':Heap}{a:Addr}{C:Value}{vs:List Value} (hx:Heap.MadeExcOf s.heap h' a C vs) {E:XK} (hE:E C none H) {E':Value->Shared->Prop} :
  wpAny (model X.prog X.w) X.A (leaving X.env (.ref a)) (fun _ s''=>CXe X.prog X.w X.outer X.H₀ X.s₀ E (.ref a) s'') E' { s with heap:=h' }:=by
 have hfr:X.A.frames=some (X.env :: X.outer):=by rw[<- O.stk];exact J.ok.frames
 have hl:s.heap.FunFrames (PySem.W.hideAll s.heap (frs X.stack ++ [])) (X.env :: X.outer):=by
  rw[<- O.stk];exact PySem.W.funFrames_hide J.stack fun env he b hb=>ja4 _ (jcg.mpr ⟨env,he,hb⟩)
 refine wpAny_leaves_madeW (base:=PySem.W.hideAll s.heap (frs X.stack ++ [])) (h:=s.heap) (s:={ s with heap:=h' }) hfr O.fr (fun b o e=>jcU _ e) hl hx fun h3 t fl _ _ ups=>?_
 exact zpi O J (xs:=[]) (fun b hb=>by cases hb) (fun b o hb e=>ups b o (hx.keeps b o e) (by
  obtain⟨_,o2,ho2,hnf⟩:=J.stack.mem hb;rw[e] at ho2;cases ho2;exact hnf)) fl (.inl hx.new) hE
theorem zpk (J:Inv X pins σ H s) {E:XK}{e:Value}{s':Shared} (h:CXe X.prog X.w X.stack H s E e s') :
  ∃ (a T:Addr) (C:Value) (H':Hp),e = .ref a/\Inv X pins σ H' s'/\s.heap.get? a=none/\s.heap.get? T=none/\H' a=none/\H' T=none/\Fly s'.heap a T C/\E C none H':=by
 obtain⟨a,T,C,H',rfl,ho,hg,un,hok,h1,h2,h3,h4,h5,h6⟩:=h;exact⟨a,T,C,H',rfl,J.call' ho un hok hg (fun b hb=>by cases hb),h1,h2,h3,h4,h5,h6⟩
theorem ziB (O:Own X) (J:Inv X pins σ H s) {s1:Shared}{H1:Hp}{a T:Addr}{C:Value} (h1:s.heap.get? a=none) (h2:s.heap.get? T=none) (h3:H1 a=none) (h4:H1 T=none) (h5:Fly s1.heap a T C):zmy X H1 s1.heap [a,T]:=by
 obtain⟨oe,vs,oT,ts,a0,he,hc,hd,_,_,hT,hdT,_⟩:=h5;have fresh:∀ b,s.heap.get? b=none->X.s₀.heap.get? b=none:=fun b e=>by
  cases q:X.s₀.heap.get? b with
  | none=>rfl
  | some o=>obtain⟨o',z⟩:=J.base.there b o q (by rw[O.ex];simp);rw[e] at z;cases z
 intro b hb;rcases jaj.mp hb with rfl | hb
 ·exact⟨fresh _ h1,h3,oe,vs,he,hd⟩
 ·have e:b=T:=by simpa using hb
  subst e;exact⟨fresh _ h2,h4,oT,ts,hT,hdT⟩
theorem zo9 (J:Inv X pins σ H s) {a T:Addr}{C:Value} (h5:Fly s.heap a T C):∃ a0,Heap.FlyingW (PySem.W.hideAll s.heap (frs X.stack ++ [a,T])) X.stack a C a0 s.heap:=by
 obtain⟨oe,vs,oT,ts,a0,he,hc,hd,hv1,hne,hT,hdT,h3⟩:=h5;have m1:a∈frs X.stack ++ [a,T]:=jaA _ (by simp);have m2:T∈frs X.stack ++ [a,T]:=jaA _ (by simp);exact⟨a0,fun b o e=>jcU _ e,jcF _ m1,PySem.W.funFrames_hide J.stack fun env he b hb=>ja4 _ (jcg.mpr ⟨env,he,hb⟩),oe,vs,T,oT,ts,he,hc,hd,hv1,jcF _ m2,hne,hT,hdT,h3⟩
theorem zl7 (J:Inv X pins σ H s) {h3:Heap} (ups:s.heap.UpToSlots h3):∀ b o,b∈frs X.stack->s.heap.get? b=some o->∃ sl,h3.get? b=some { o with slots:=sl }:=fun b o hb e=>ups b o e (by
 obtain⟨_,o2,ho2,hnf⟩:=J.stack.mem hb;rw[e] at ho2;cases ho2;exact hnf)
theorem znS (O:Own X) (J:Inv X pins σ H s) {E:XK}{e:Value}{s':Shared} (h:CXe X.prog X.w X.stack H s E e s') {E':Value->Shared->Prop} :
  wpAny (model X.prog X.w) X.A (leaving X.env e) (fun _ s''=>CXe X.prog X.w X.outer X.H₀ X.s₀ E e s'') E' s':=by
 obtain⟨a,T,C,H',rfl,J',h1,h2,h3,h4,h5,h6⟩:=zpk J h;have ap:=ziB O J h1 h2 h3 h4 h5;obtain⟨a0,fl⟩:=zo9 J' h5;have hfr:X.A.frames=some (X.env :: X.outer):=by rw[<- O.stk];exact J.ok.frames
 have fl2:=fl;rw[show X.stack=X.env :: X.outer from O.stk] at fl;refine wpAny_leaves_onW (a0:=a0) (base:=PySem.W.hideAll s'.heap (frs (X.env :: X.outer) ++ [a,T])) hfr O.fr fl fun h3' fl3 ups=>?_
 rw[<- O.stk] at fl3;exact zpi O J' ap (zl7 J' ups) fl3 (.inr (by simp)) h6
end
end L2
namespace L2
open PySem PySem.Spec PyProof.Rows
noncomputable def zew:List Str:=["__init__", "__getattribute__", "__getattr__", "__class__"]
noncomputable abbrev vB:List Value:=[.type "ValueError",.type "Exception",.type "BaseException",.type "object"]
inductive Tl (h:Heap):List Value->Prop
 | base:Tl h vB
 | own {D:Addr}{o:Obj}{c:ClassData}{m:Str->Option Value}{l:List Value} (e:h.get? D=some o) (k:o.data = .cls c) (n:h.Ns c.ns m) (q:∀ x∈zew,m x=none) (r:Tl h l):Tl h (.ref D :: l)
theorem Tl.toOwn {h:Heap}{l:List Value} (T:Tl h l):OwnTail h vB l:=by
 induction T with
 | base=>exact .base
 | @own D o c m l e k n q r ih =>
  obtain⟨c0,dd,dt,sl⟩:=o;obtain rfl:dt = .cls c:=k;exact .own e n (q _ (by decide)) ih
structure ExC (C:Addr) (bm:List Value) (h:Heap):Prop where
 ex:∃ (nm q:Str) (N:Addr) (bs:List Value) (hd:Bool) (sn:List Str) (sub:List Value) (ab:Bool) (col:Option Bool) (dd:Option Addr) (k0 k1 k2 k3 k5:Option Value) (m:Str->Option Value),
  h.get? C=some (excClassObj nm q C N bs bm hd sn sub ab col dd k0 k1 k2 k3 k5 "ValueError.__new__")/\h.Ns N m/\(∀ x∈zew,m x=none)/\Tl h bm
noncomputable def qIn (K:PySem.W.Frag) (N:Addr):Bool:=PySem.W.nsOkIn K N && zew.all fun x=>PySem.W.nsIn K N x == some none
noncomputable def zta (K:PySem.W.Frag):List Value->Bool
 | []=>false
 | v :: l=>(v :: l) == vB || match v with
  | .ref D=>(match K.lookup D with
   | some o=>(match o.data with
    | .cls c=>qIn K c.ns && zta K l
    | _=>false)
   | none=>false)
  | _=>false
noncomputable def zk6 (K:PySem.W.Frag) (C:Addr) (bm:List Value):Bool:=match K.lookup C with
 | some ⟨.type "type",_,.cls c,⟨[_,_,_,_,some (.builtin n),_]⟩⟩=>c.mro == .ref C :: bm && n == "ValueError.__new__" && !c.hasDel && zta K bm && qIn K c.ns
 | _=>false
theorem zo1 {K:PySem.W.Frag}{h:Heap}{N:Addr} (X:K.In h) (e:qIn K N=true):h.Ns N (h.nsMap N)/\∀ x∈zew,h.nsMap N x=none:=by
 unfold qIn at e;obtain⟨a,b⟩:=jbD.mp e;exact⟨.of_isNs (PySem.W.isNs_of_in X a),fun x hx=>PySem.W.nsMap_none_of_in X a (beq_iff_eq.mp (jaX.mp b x hx))⟩
theorem zlO {K:PySem.W.Frag}{h:Heap} (X:K.In h):∀ {l:List Value},zta K l=true->Tl h l
 | [],e=>by cases e
 | v :: l,e=>by
  unfold zta at e;rcases Bool.or_eq_true_iff.mp e with z | z
  ·rw[beq_iff_eq.mp z];exact .base
  ·split at z
   ·split at z
    ·rename_i o ho;split at z
     ·rename_i c hc;obtain⟨z1,z2⟩:=jbD.mp z;obtain⟨y1,y2⟩:=zo1 X z1;exact .own (X _ _ ho) hc y1 y2 (zlO X z2)
     ·cases z
    ·cases z
   ·cases z
theorem ze7 {K:PySem.W.Frag}{h:Heap}{C:Addr}{bm:List Value} (X:K.In h) (e:zk6 K C bm=true):ExC C bm h:=by
 unfold zk6 at e;split at e
 ·rename_i dd c k0 k1 k2 k3 n k5 ho;simp only[jaT,beq_iff_eq,Bool.not_eq_true'] at e;obtain⟨⟨⟨⟨e1,e2⟩,e3⟩,e4⟩,e5⟩:=e;obtain⟨nm,bs,mro,ns,qn,hd,sn,sub,ab,col,del⟩:=c;dsimp only at e1 e3 e5;subst e1 e2 e3;obtain⟨y1,y2⟩:=zo1 X e5;exact⟨nm,qn,ns,bs,hd,sn,sub,ab,col,dd,k0,k1,k2,k3,k5,_,X _ _ ho,y1,y2,zlO X e4⟩
 ·cases e
section
variable {M:Model}{A:Around}{E:Value->Shared->Prop}{h:Heap}{g:Array GenState}{d:Drawn}{t:Nat}{os:OsState}{C a:Addr}{bm:List Value}{o:Obj}{prog:Program}{w:World}
theorem Tl.along {l:List Value}{n:Str}{y:Option Value}{Q:Option Value->Shared->Prop} (T:Tl h l) (hn:n∈zew) (hr:lookupAlong vB n=pure y) (hq:Q y ⟨h,g,d,t,os⟩):wpAny M A (lookupAlong l n) Q E ⟨h,g,d,t,os⟩:=by
 induction T with
 | base=>rw[hr];exact wpAny_pure hq
 | @own D ob c m l e k ns q r ih =>
  obtain⟨c0,dd,dt,sl⟩:=ob;obtain rfl:dt = .cls c:=k;rw[lookupAlong_cons];exact wpAny_bind (wpAny_classOwn_cls e ns (by rw[q n hn];exact ih))
theorem ExC.look (Z:ExC C bm h) {n:Str}{y:Option Value}{Q:Option Value->Shared->Prop} (hn:n∈zew) (hB:typeLookup (.type "ValueError") n=pure y) (hq:Q y ⟨h,g,d,t,os⟩):wpAny M A (typeLookup (.ref C) n) Q E ⟨h,g,d,t,os⟩:=by
 obtain⟨nm,q,N,bs,hd,sn,sub,ab,col,dd,k0,k1,k2,k3,k5,m,hC,hN,hm,T⟩:=Z.ex;have hr:lookupAlong vB n=pure y:=by rw[typeLookup_eq,PySem.F.excBase_ValueError.mroIs] at hB;exact hB
 rw[typeLookup_eq];refine wpAny_bind (wpAny_mroOf_exc hC ?_);rw[lookupAlong_cons];exact wpAny_bind (wpAny_classOwn_exc hC hN (by rw[hm n hn];exact T.along hn hr hq))
theorem ExC.sub (Z:ExC C bm h) {c:Value}{Q:Bool->Shared->Prop} (hq:Q ((Value.ref C :: bm).contains c) ⟨h,g,d,t,os⟩):wpAny M A (isSubtype (.ref C) c) Q E ⟨h,g,d,t,os⟩:=by
 obtain⟨nm,q,N,bs,hd,sn,sub,ab,col,dd,k0,k1,k2,k3,k5,m,hC,_⟩:=Z.ex;exact wpAny_isSubtype_exc hC hq
theorem ExC.has (Z:ExC C bm h) {T:String}{b:Bool} (hb:vB.contains (.type T)=b):(Value.ref C :: bm).contains (.type T)=b:=by
 obtain⟨nm,q,N,bs,hd,sn,sub,ab,col,dd,k0,k1,k2,k3,k5,m,hC,hN,hm,T⟩:=Z.ex;rw[List.contains_cons,T.toOwn.hasType hb];rfl
theorem zjs:typeLookup (.type "ValueError") "__class__" = pure (some (.builtin "object.__class__")):=by rw[typeLookup_type,builtinLookup_eq_fast];kernel_rfl
theorem zpq (Z:ExC C bm h) (hx:h.get? a=some o) (hc:o.cls = .ref C) {R:Result->Shared->Prop} (hq:R (.ok (.ret (.ref C))) ⟨h,g,d,t,os⟩) :
  codeAny (model prog w) A (.call (.builtin "getset_descriptor.__get__") ⟨[.builtin "object.__class__",.ref a,.ref C],[]⟩) R ⟨h,g,d,t,os⟩:=by
 have z1:(⟨h,g,d,t,os⟩:Shared).TypeIs (.builtin "object.__class__") "getset_descriptor" := jcy;have z2:(Value.ref C :: bm).contains (.type (".".intercalate ("object.__class__".cutAt '.').dropLast))=true:=by rw[F.owner_object_class];exact Z.has (by decide +kernel)
 refine codeAny_call_builtin F.slot_gs_get.plain F.entry_gs_get (F.slot_gs_get.check _ _ _ _ _ _ _ _ z1 (F.args_gs_get _ _ _) ?_);repeat (any_goals (first | assumption | (with_reducible refine wpAny_loadPart_at hx ?_;rw[hc]) | (with_reducible refine ExC.sub Z ?_;rw[z2]) | wp_step))
 refine⟨Code.quiet_builtin _ (by decide +kernel),codeAny_builtin F.entry_object_class ?_⟩;repeat (any_goals (first | assumption | (with_reducible refine wpAny_loadPart_at hx ?_;rw[hc]) | wp_step))
theorem zl3 (Z:ExC C bm h) (hx:h.get? a=some o) (hc:o.cls = .ref C) {tk:Tok}{Q:Fin->Shared->Prop} (hq:Q (.done (.ret (.ref C))) ⟨h,g,d,t,os⟩) :
  wpAny (model prog w) A (Builtin.«object.__getattribute__» ⟨[.ref a,.str "__class__" tk],[]⟩) Q E ⟨h,g,d,t,os⟩:=by
 have z1:(⟨h,g,d,t,os⟩:Shared).TypeIs (.builtin "object.__class__") "getset_descriptor" := jcy;have y5:=jcy;have y6:=F.slot_gs_get.lookup;have y7:=F.slot_gs_set.lookup;have zn:("__class__" : Str)∈zew:=by decide
 repeat (any_goals (first | assumption | (with_reducible refine wpAny_loadPart_at hx ?_;rw[hc]) | with_reducible refine ExC.look Z zn zjs ?_ | wp_step))
 refine zpq Z hx hc ?_;repeat (any_goals (first | assumption | wp_step))
theorem zlI (Z:ExC C bm h) (hx:h.get? a=some o) (hc:o.cls = .ref C) {nv:Value}{Q:Unit->Shared->Prop} (hq:Q () ⟨h,g,d,t,os⟩):wpAny M A (checkBuiltinCall "BaseException.__getattribute__" ⟨[.ref a,nv],[]⟩) Q E ⟨h,g,d,t,os⟩:=by
 have e1:builtinKind "BaseException.__getattribute__" = some .slot:=by decide +kernel
 have e2:splitId "BaseException.__getattribute__" = some ("BaseException", "__getattribute__"):=by decide +kernel
 have e3:(Value.ref C :: bm).contains (.type "BaseException")=true:=Z.has (by decide +kernel);have ha:=F.args_bexc_ga (.ref a) nv;simp only[checkBuiltinCall,e1,e2];refine wpAny_bind ?_;unfold isInstance;repeat (first | (with_reducible refine wpAny_loadPart_at hx ?_;rw[hc]) | (with_reducible refine ExC.sub Z ?_;rw[e3]) | wp_step)
 exact hq
theorem zrZ (Z:ExC C bm h) (hx:h.get? a=some o) (hc:o.cls = .ref C) {tk:Tok}{fill expr:Bool}{Q:Value->Shared->Prop} (hq:Q (.ref C) ⟨h,g,d,t,os⟩) :
  wpAny (model prog w) A (getAttrBy (.ref a) (.str "__class__" tk) fill expr) Q E ⟨h,g,d,t,os⟩:=by
 have FB:=PySem.F.attrBase_ValueError;have y3:=FB.ga.bind (.ref a);have x0:(expr && onTheHeap (Value.builtin "BaseException.__getattribute__"))=false:=by cases expr <;> rfl
 have x2:(Value.builtin "BaseException.__getattribute__" == Value.builtin "object.__getattribute__")=false:=by decide +kernel
 have x1:(onTheHeap (Value.ref C) && Value.builtin "BaseException.__getattribute__" == Value.builtin "object.__getattribute__")=false:=by rw[x2];rfl
 have n1:("__getattribute__" : Str)∈zew:=by decide
 have n2:("__getattr__" : Str)∈zew:=by decide
 repeat (any_goals (first | assumption | (with_reducible refine wpAny_loadPart_at hx ?_;rw[hc]) | with_reducible refine ExC.look Z n1 FB.ga.lookup ?_ | with_reducible refine ExC.look Z n2 FB.noGetattr ?_ | wp_step))
 refine codeAny_call_builtin FB.ga.plain F.entry_bexc_ga (zlI Z hx hc (zl3 Z hx hc ?_));repeat (any_goals (first | assumption | wp_step))
theorem znI (Z:ExC C bm h) (hx:h.get? a=some o) (hc:o.cls = .ref C) {Q:Option Value->Shared->Prop} (hq:Q (some (.ref C)) ⟨h,g,d,t+1,os⟩):wpAny (model prog w) A (getAttr? (.ref a) "__class__") Q E ⟨h,g,d,t,os⟩:=by
 unfold getAttr? getAttrBy?;repeat (any_goals (first | assumption | with_reducible apply zrZ Z hx hc | wp_step))
noncomputable def zsH (a C:Addr) (h:Heap):Prop:=∃ o,h.get? a=some o/\o.cls = .ref C
theorem zjR {K:PySem.W.Frag} (e:zk6 K C bm=true):PySem.W.KitX K (.ref a) (.ref C) (zsH a C) where
 ty:=fun M h _ ⟨o,h1,h2⟩=>h2 ▸ (PySem.W.Looks.ld h1).andThen .now
 it:=fun M h X _=>by
  obtain⟨nm,q,N,bs,hd,sn,sub,ab,col,dd,k0,k1,k2,k3,k5,m,hC,_⟩:=(ze7 X e).ex;intro A' Q' E' s' k q;unfold isType loadHead;exact wpAny_bind (wpAny_loadPart (k _ _ hC) (wpAny_pure q))
 ne:=fun h tp dd its n sl X htp=>by
  obtain⟨nm,q,N,bs,hd,sn,sub,ab,col,dd',k0,k1,k2,k3,k5,m,hC,_⟩:=(ze7 X e).ex;refine jco.mpr fun z=>?_
  have z':C=tp:=Value.ref.inj (beq_iff_eq.mp z);subst z';have y:Value.type "type" = Value.type "tuple" := congrArg (fun o:Option Obj=>match o with | some o=>o.cls | none=>.none) (hC.symm.trans htp);exact absurd y (by decide)
 ca:=fun {prog w A E Q s} X p k=>by
  obtain⟨h,g,d,t,os⟩:=s;obtain⟨o,h1,h2⟩:=p;exact znI (ze7 X e) h1 h2 k
end
noncomputable abbrev znk (a C:Addr):HO := .ext (zsH a C)
section
variable {X:Cx}
theorem zaQ:zet X (.builtin "isinstance") (fun xs H Q=>∃ (a C:Addr) (bm:List Value) (b:Bool),H a=some (znk a C)/\zk6 X.K C bm=true /\
  ((∃ D,xs=[.ref a,.ref D]/\PySem.W.kitOne X.K (.ref C) (.ref D)=some b)\/∃ n,xs=[.ref a,.ty n]/\PySem.W.kitOne X.K (.ref C) (.type n)=some b)/\Q (.bl b) H):=by
 intro pins s σ H xs us Q I r h;obtain⟨a,C,bm,b,hH,he,hk,q⟩:=h;obtain⟨p,_,_⟩:=(show zbJ X.prog X.w H s.heap a (znk a C) from I.hok a _ hH);rcases hk with ⟨D,rfl,hk⟩ | ⟨n,rfl,hk⟩
 ·obtain⟨u,w',rfl,ru,rw'⟩:=zoF r;cases (show u=Value.ref a from ru);cases (show w'=Value.ref D from rw');exact PySem.W.kia_one (zjR he) I.kIn p hk (fun z=>nomatch z) fun tk=>⟨.bl b,H,I.tok _,rfl,q⟩
 ·obtain⟨u,w',rfl,ru,rw'⟩:=zoF r;cases (show u=Value.ref a from ru);cases (show w'=Value.type n from rw');exact PySem.W.kia_one (zjR he) I.kIn p hk (fun z=>nomatch z) fun tk=>⟨.bl b,H,I.tok _,rfl,q⟩
end
theorem zpC:bootBuiltins "ValueError" = some (.type "ValueError"):=by kernel_rfl
end L2
namespace L2
open PySem PySem.Spec PyProof.Rows
structure ztS (X:Cx) (E:XK):Prop where
 own:Own X
 xe:∀ e s',wpAny (model X.prog X.w) X.A (leaving X.env e) (fun _ s''=>CXe X.prog X.w X.outer X.H₀ X.s₀ E e s'') (fun _ _=>False) s'->X.xe e s'
section
variable {P:Program}{w:World}{K:PySem.W.Frag}{mg:Str->Option Value}{base:Heap}
theorem zlm {CX:CXT}{N:List Str}{qual:Str}{scope:Scope}{f:Addr}{cd:Value}{A:Around}{outer:List Env}{s:Shared}{H:Hp}{E:XK}:Own (zmY CX P w K mg base N qual scope f cd A outer s H E):=⟨rfl,rfl,rfl⟩
theorem zp1 {X:Cx} (O:Own X):Own X.nox:=⟨O.stk,O.fr,O.ex⟩
theorem zcc {N:List Str}{qual:Str}{scope:Scope}{f:Addr}{cd:Value}{A:Around}{outer:List Env}{s:Shared}{H:Hp}{E:XK}:ztS (zmY (CXe P w) P w K mg base N qual scope f cd A outer s H E) E :=
 ⟨zlm,fun _ _ h=>wpAny_mono h (fun _ _ z=>z) fun _ _ z=>False.elim z⟩
theorem Fun.okE {x qual:Str}{st:Stmt}{f:Addr}{fd:FuncData}{N ps:List Str}{k:Nat}{sp:Sp} (F:Fun K x qual st f fd) (S:zcW N ps (zaC st)) (len:∀ vs H Q E,sp vs H Q E->vs.length=ps.length)
  (hb:∀ (cdv:Value) (A:Around) (outer:List Env) (s:Shared) (H:Hp) (vs:List V) (Q:VK) (E:XK),zeg k (A.deeper (envOfC qual (zaC st) s.heap.objs.size f cdv))->sp vs H Q E ->
   ∃ t,PSs (zmY (CXe P w) P w K mg base N qual (zaC st) f cdv A outer s H E) (zda st) t/\t { nx:=fun _ H'=>Q .non H',rt:=Q } (zgw N vs) H):zi9 P w K mg base (CXe P w) (k+1) f fd ps sp:=by
 obtain⟨oc,od,kV,doc,pm,an,cdv,ct,osl,rfl,lk,hcd⟩:=F.ex;exact zr9 lk hcd S len fun A outer s H vs Q E hr hsp=>hb cdv A outer s H vs Q E hr hsp
end
section
variable {X:Cx}{E:XK}
theorem zjm (L:ztS X E):zgz (CXe X.prog X.w) X E:=fun _ _ _ _ _ _ I h=>L.xe _ _ (znS L.own I h)
noncomputable def zra (C:Addr) (E:XK):TS:=fun _ _ H=>E (.ref C) none H
theorem zki {x:Str}{C:Addr}{bm:List Value}{np cpos pos cp:Pos}{msg:Str}{j} (L:ztS X E) (hc:X.calm=true) (hg:Gl X x) (hm:X.mg x=some (.ref C)) (ex:zk6 X.K C bm=true) (hd:(x == ("__debug__" : Str))=false:=by decide) :
  PS X (.Raise (some (.Call (.Name x np) [.Constant (.str msg) j cp] [] cpos)) none pos) (zra C E):=by
 intro pins s σ H D I h;obtain⟨nm,q,N,bs,hdd,sn,sub,ab,col,dd,k0,k1,k2,k3,k5,m,hC,hN,hq,T⟩:=(ze7 I.ok.mod.kin ex).ex;have hb:bm.contains (.type "BaseException")=true:=T.toOwn.hasType (by decide +kernel);refine wpAny_Raise_call_subT (C:=C) (nm:=nm) (q:=q) (N:=N) (bs:=bs) (bm:=bm) (hdct:=hdd) (sn:=sn) (sub:=sub) (ab:=ab) (col:=col) (dd:=dd) (k0:=k0) (k1:=k1) (k2:=k2) (k3:=k3) (k5:=k5)
  PySem.F.excBase_ValueError (mN:=m) hb (I.ok.hd hc) rfl (hq _ (by decide)) (zgg I hg hm ⟨rfl,?_⟩ hd)
 have ha:PA X [.Constant (.str msg) j cp] (ziC (tC (.str msg)) zqk):=zaa zaj zad;refine jb3 (wpAny_mono (ha cpos pins s σ H (fun vs H1=>vs=[.str msg]/\H1=H) I ⟨rfl,rfl⟩) (fun us s1 h1=>?_) fun _ _ z=>z);obtain⟨vs,H1,I1,rv,rfl,rfl⟩:=h1;have rl:=rv.length;refine⟨rfl,?_,I1.bk _ _ hC,hN.keeps I1.bk,T.toOwn.keeps I1.bk,fun h' e hx=>L.xe _ _ (zkY L.own I1 hx h)⟩;show us.length<=sizeLine;rw[<- rl];show 1<=sizeLine;decide
end
theorem PS.nox {X:Cx}{st:Stmt}{t:TS} (h:PS X.nox st t):PS X st t:=fun pins s σ H D I hw =>
 wpAny_mono (h pins s σ H D (I.wish _) hw) (fun _ _ q=>q.unwish) fun _ _ z=>False.elim z
section
variable {X:Cx}{pins:List (Addr × Obj)} {σ:St}{H:Hp}{s:Shared}
noncomputable def zs9 (X:Cx) (pins:List (Addr × Obj)) (xs:List Addr):Prop:=∀ b∈xs,b≠X.env.locals/\∀ p∈X.pn++pins,p.1≠b
theorem Inv.turn (O:Own X) (nc:∀ x,X.env.cells.lookup x=none) (J:Inv X pins σ H s) {xs:List Addr} (hxs:zmy X H s.heap xs) (aw:zs9 X pins xs) {h3:Heap} (st:(PySem.W.hideAll s.heap (frs X.stack++xs)).StaysIn h3)
  (ups:∀ b o,b∈frs X.stack->s.heap.get? b=some o->∃ sl,h3.get? b=some { o with slots:=sl }) {t':Nat}:Inv X pins σ H { s with heap:=h3,toks:=t' }:=by
 obtain⟨hok,un⟩:=Inv.over O J hxs st ups;have hfrs:frs X.stack=X.env.locals :: X.fs:=by rw[O.stk,zka O.fr]
 have young:∀ b o,X.s₀.heap.get? b=some o->b ∉ xs:=fun b o e z=>by rw[(hxs b z).1] at e;cases e
 have old:∀ b o,X.s₀.heap.get? b=some o->b≠X.env.locals:=fun b o e=>jaU (jas (jan e) J.ok.above)
 have nx:∀ b:Addr,b ∉ X.ex:=fun b=>by rw[O.ex];simp
 refine⟨J.ok,J.os,J.bare,⟨fun b o e n hb hx=>?_,fun b o e n hb hx=>?_,J.base.free,fun b o e hx=>?_,J.base.tups,J.base.frzs,J.base.tbls⟩,?_,fun x c e=>(by rw[nc x] at e;cases e),J.free,J.freeC,fun p hp=>?_,hok,J.len⟩
 ·have e1:=J.base.keep b o e n hb (nx b);exact un.keep b o e1 (J.base.free b o e n (nx b)) (by rw[hfrs];exact fun z=>(jaj.mp z).elim (old b o e) hb) (young b o e)
 ·obtain⟨sl,e1⟩:=J.base.slot b o e n hb (nx b);obtain⟨sl',e2⟩:=un.slot b _ e1 (J.base.free b o e n (nx b)) (by rw[hfrs];exact jax _ hb) (young b o e);exact⟨sl',e2⟩
 ·obtain⟨o1,e1⟩:=J.base.there b o e (nx b);exact un.there b o1 e1 (young b o e)
 ·obtain⟨m,⟨o,es,ep,ho,hd,r⟩,hl⟩:=J.loc;obtain⟨sl,e⟩:=ups X.env.locals o (by rw[hfrs];exact jbh) ho;refine⟨m,⟨_,es,ep,e,hd,r⟩,fun i x v h1 h2 h3=>?_⟩;obtain⟨u,ru,z⟩:=hl i x v h1 h2 h3;refine⟨u,ru,?_⟩;rcases z with z | ⟨_,c,z,_⟩
  ·exact .inl z
  ·rw[nc x] at z;cases z
 ·obtain⟨e,n,ne,nf,d⟩:=J.pin p hp;have hx:p.1 ∉ xs:=fun z=>(aw p.1 z).2 p hp rfl
  exact⟨un.keep p.1 p.2 e n (by rw[hfrs];exact fun z=>(jaj.mp z).elim ne nf) hx,n,ne,nf,d⟩
theorem Inv.takeUp (O:Own X) (nc:∀ x,X.env.cells.lookup x=none) (J:Inv X pins σ H s) {a:Addr}{o:HO} (hn:H a=none) (h0:X.s₀.heap.get? a=none) (aw:zs9 X pins [a]) (ho:zbJ X.prog X.w (upd H a o) s.heap a o):Inv X pins σ (upd H a o) s:=by
 have ne:∀ b u,H b=some u->b≠a:=fun b u e z=>by rw[z,hn] at e;cases e
 refine⟨J.ok,J.os,J.bare,⟨J.base.keep,J.base.slot,fun b ob e n hx=>?_,J.base.there,fun b xs q=>?_,fun b ob u q=>?_,fun b ps q=>?_⟩,J.loc,J.cell,?_,fun x c e=>(by rw[nc x] at e;cases e),fun p hp=>?_,fun b u e=>?_,J.len⟩
 ·rw[zan (fun z=>by rw[z,h0] at e;cases e)];exact J.base.free b ob e n hx
 ·have:=J.base.tups b xs q;rw[zan (ne b _ this)];exact this
 ·have:=J.base.frzs b ob u q;rw[zan (ne b _ this)];exact this
 ·obtain⟨more,this⟩:=J.base.tbls b ps q;exact⟨more,by rw[zan (ne b _ this)];exact this⟩
 ·rw[zan (Ne.symm (aw a (by simp)).1)];exact J.free
 ·obtain⟨e,n,h1,h2,h3⟩:=J.pin p hp;exact⟨e,by rw[zan ((aw a (by simp)).2 p hp)];exact n,h1,h2,h3⟩
 ·by_cases hb:b=a
  ·subst hb;rw[zac] at e;cases e;exact ho
  ·rw[zan hb] at e;exact (J.hok b u e).stay (fun _ _ _ q=>q) (fun c q=>by rw[zan (ne c _ q)];exact q) fun c xs q=>by rw[zan (ne c _ q)];exact q
theorem Inv.unbound (nc:∀ x,X.env.cells.lookup x=none) (J:Inv X pins σ H s) (hN:X.N.Nodup) {i:Nat}{n:Str} (hi:X.N[i]? = some n) {m:Str->Option Value} (hm:∀ (j:Nat) (x:Str) (v:V),X.N[j]? = some x -> σ[j]? = some (some v)->Vis X.env.scope x->∃ u,zbm v u/\zuJ X.env s.heap m x u)
  {h':Heap}{u:Option Value} (hn:h'.Ns X.env.locals (fun x=>if x=n then u else m x)) (hs:Heap.SameBut X.env.locals s.heap h'):Inv X pins (σ.set i none) H { s with heap:=h' }:=by
 have old:∀ b o,X.s₀.heap.get? b=some o->b≠X.env.locals:=fun b o e=>jaU (jas (jan e) J.ok.above)
 refine⟨J.ok,J.os,J.bare,⟨fun b o e q hb hx=>(hs.2 b (old b o e)).trans (J.base.keep b o e q hb hx),fun b o e q hb hx=>?_,J.base.free,fun b o e hx=>?_,J.base.tups,J.base.frzs,J.base.tbls⟩,⟨_,hn,fun j x v h1 h2 h3=>?_⟩,fun x c e=>(by rw[nc x] at e;cases e),J.free,J.freeC,fun p hp=>?_,fun b ob e=>?_,by rw[jbR];exact J.len⟩
 ·obtain⟨sl,z⟩:=J.base.slot b o e q hb hx;exact⟨sl,(hs.2 b (old b o e)).trans z⟩
 ·obtain⟨o',z⟩:=J.base.there b o e hx;exact⟨o',(hs.2 b (old b o e)).trans z⟩
 ·by_cases hj:j=i
  ·subst hj;by_cases hl:j < σ.length
   ·rw[jbt hl] at h2;cases h2
   ·rw[jcw (by rw[jbR];omega)] at h2;cases h2
  ·rw[jcD (Ne.symm hj)] at h2;obtain⟨u',ru,z⟩:=hm j x v h1 h2 h3;have hx:x≠n:=fun e=>hj (zhm hN h1 (e ▸ hi))
   refine⟨u',ru,?_⟩;rcases z with ⟨k,z⟩ | ⟨_,c,z,_⟩
   ·exact .inl ⟨k,by show (if x=n then u else m x)=_;rw[if_neg hx];exact z⟩
   ·rw[nc x] at z;cases z
 ·obtain⟨e,q,h1,h2,h3⟩:=J.pin p hp;exact⟨(hs.2 p.1 h1).trans e,q,h1,h2,h3⟩
 ·refine (J.hok b ob e).stay (fun c v hc q=>(hs.2 c ?_).trans q) (fun _ q=>q) fun _ _ q=>q
  intro z;rcases hc with rfl | hc
  ·rw[z,J.free] at e;cases e
  ·rw[z,J.free] at hc;cases hc
theorem zkM {M:Model}{A:Around}{E:Value->Shared->Prop}{h:Heap}{g:Array GenState}{d:Drawn}{t:Nat}{os:OsState}{a B C:Addr}{bm bmB:List Value}{o:Obj}{Q:Bool->Shared->Prop} (Z:ExC C bm h) (ZB:ExC B bmB h)
  (hx:h.get? a=some o) (hc:o.cls = .ref C) (hb:(Value.ref C :: bm).contains (.ref B)=true) (hq:Q true ⟨h,g,d,t,os⟩):wpAny M A (excMatches (.ref a) (.ref B)) Q E ⟨h,g,d,t,os⟩:=by
 have e1:(Value.ref B :: bmB).contains (.type "BaseException")=true:=ZB.has (by decide +kernel);have e2:=tc_notTuple;obtain⟨nm,q,N,bs,hd,sn,sub,ab,col,dd,k0,k1,k2,k3,k5,m,hB,_⟩:=ZB.ex;unfold excMatches;repeat (first | (with_reducible refine wpAny_loadPart_at hx ?_;rw[hc]) | with_reducible refine wpAny_loadPart_at hB ?_ | (with_reducible refine ExC.sub ZB ?_;rw[e1]) | (with_reducible refine ExC.sub Z ?_;rw[hb]) | wp_step)
 exact hq
noncomputable abbrev Cx.held (X:Cx) (a:Addr):Cx:={ X with A:=X.A.mark (some (.ref a)),calm:=false,xe:=fun _ _=>False }
theorem Inv.held (I:Inv X pins σ H s) (a:Addr):Inv (X.held a) pins σ H s :=
 ⟨⟨I.ok.mod,I.ok.kind,I.ok.glob,I.ok.blt,I.ok.above,I.ok.inj,I.ok.has,I.ok.cab,(fun z=>by cases z),I.ok.frames,I.ok.stk,I.ok.exf,I.ok.bs,I.ok.bsz,I.ok.noex,I.ok.exfs,I.ok.funs,I.ok.frf⟩,I.os,I.bare,I.base,I.loc,I.cell,I.free,I.freeC,I.pin,I.hok,I.len⟩
theorem Inv.unheld {a:Addr} (O:X.Ok) (I:Inv (X.held a) pins σ H s):Inv X pins σ H s:=⟨O,I.os,I.bare,I.base,I.loc,I.cell,I.free,I.freeC,I.pin,I.hok,I.len⟩
noncomputable def XP (X:Cx) (pins:List (Addr × Obj)) (σ:St) (E:XK) (e:Value) (s':Shared):Prop :=
 ∃ (a T:Addr) (C:Value) (H':Hp),e = .ref a/\Inv X pins σ H' s'/\zmy X H' s'.heap [a,T]/\zs9 X pins [a,T]/\Fly s'.heap a T C/\E C none H'
theorem XP.of (O:Own X) (J:Inv X pins σ H s) {E:XK}{e:Value}{s':Shared} (h:CXe X.prog X.w X.stack H s E e s'):XP X pins σ E e s':=by
 obtain⟨a,T,C,H',rfl,J',h1,h2,h3,h4,h5,h6⟩:=zpk J h;refine⟨a,T,C,H',rfl,J',ziB O J h1 h2 h3 h4 h5,fun b hb=>?_,h5,h6⟩;have hb':s.heap.get? b=none:=by
  rcases jaj.mp hb with rfl | hb
  ·exact h1
  ·have e:b=T:=by simpa using hb
   rw[e];exact h2
 refine⟨fun z=>?_,fun p hp z=>?_⟩
 ·obtain⟨m,⟨o,es,ep,ho,_⟩,_⟩:=J.loc;rw[<- z,hb'] at ho;cases ho
 ·obtain⟨e,_⟩:=J.pin p hp;rw[z,hb'] at e;cases e
theorem zsK {B:Addr}{bmB:List Value}{x n y:Str}{i j:Nat}{np py pn pa hp:Pos} (O:Own X) (nc:∀ x,X.env.cells.lookup x=none) (hN:X.N.Nodup) (hi:X.N[i]? = some n) (hj:X.N[j]? = some y) (hij:i≠j)
    (hn:X.env.scope.names.lookup n=some .local) (hy:X.env.scope.names.lookup y=some .local) (hg:Gl X x) (hm:X.mg x=some (.ref B)) (eB:zk6 X.K B bmB=true) (hd:(x == ("__debug__" : Str))=false) (hd2:(n == ("__debug__" : Str))=false) (hd3:(n == ("__classdict__" : Str))=false)
    (hsw:swapsWith (.Name n pn) (some (.Name y py)) pa.line X.env=pure false) {E:XK}{D:zld}{e:Value}
    (hE:∀ C H',E C none H'->∃ (c:Addr) (bm:List Value),C = .ref c/\zk6 X.K c bm=true/\(Value.ref c :: bm).contains (.ref B)=true/\∀ a,H' a=none->D.nx ((σ.set j (some (.ref a))).set i none) (upd H' a (znk a c))) (h:XP X pins σ E e s) :
    wpAny (model X.prog X.w) X.A (noteFrame e X.env) (fun _ s₂=>wpAny (model X.prog X.w) X.A (setFlight e none) (fun _ s₃ =>
      wpAny (model X.prog X.w) X.A (handleBy e X.env [.ExceptHandler (some (.Name x np)) (some n) [.Assign [.Name y py] (.Name n pn) pa] hp]) (SP X pins D) X.xe s₃) X.xe s₂) X.xe s:=by
  obtain ⟨a,T,C,H,rfl,J,ap,aw,fly,hEc⟩:=h;obtain ⟨c,bm,rfl,ec,hbc,hnx⟩:=hE C H hEc;obtain ⟨a0,fl⟩:=zo9 J fly;have fl':=fl;rw [show X.stack=X.env :: X.outer from O.stk] at fl';have hfr:X.A.frames=some (X.env :: X.outer):=by rw [<- O.stk];exact J.ok.frames
  refine wpAny_looks_onW (a0:=a0) hfr O.fr fl' fun h4 held4 sm4 => ?_
  refine wpAny_landsW held4 fun h5 fl5 sm5 => ?_
  have sm:=sm4.trans sm5;rw [<- O.stk] at fl5;have J5:Inv X pins σ H { s with heap:=h5 }:=Inv.turn O nc J ap aw fl5.1 (zl7 J sm) (t':=s.toks);refine wpAny_handleBy_cons (codeAny_handlers_test (zgg (X:=X.held a) (J5.held a) hg hm ?_ hd)) (by intro q;cases q);obtain ⟨ob,hob,hobc⟩:=fl5.there;refine zkM (ze7 J5.kIn ec) (ze7 J5.kIn eB) hob hobc hbc (codeAny_handlers_suite_as ?_);refine lands_againW fl5 fun h6 fl6 sm6 => ?_
  have J6:Inv X pins σ H { s with heap:=h6 }:=Inv.turn O nc J ap aw fl6.1 (zl7 J (sm.trans sm6)) (t':=s.toks);obtain ⟨ob6,hob6,hobc6⟩:=fl6.there
  have aw1 : zs9  X pins [a] := fun b hb => aw b (by have e : b = a := by simpa using hb
                                                     rw [e]; simp)
  have Ja:Inv X pins σ (upd H a (znk a c)) { s with heap:=h6 }:=Inv.takeUp O nc J6 (ap a (by simp)).2.1 (ap a (by simp)).1 aw1 ⟨⟨ob6,hob6,hobc6⟩,⟨ob6,hob6⟩,fun h1 h2 ⟨o,z1,z2⟩ k=>⟨o,k o z1,z2⟩⟩;refine zez (X:=X.held a) (Ja.held a) hN hi (.inl hn) (v := .ref a) rfl (fun s7 J7 => ?_) (.inr hn);have hσ : i < σ.length:=by rw [J.len];exact (jam.mp hi).1
  have hσj:j < σ.length:=by rw [J.len];exact (jam.mp hj).1
  have suite:PSs (X.held a) [.Assign [.Name y py] (.Name n pn) pa] (zpA (zlo i) (zaH j)):=zae (zoR (X:=X.held a) hN hj (.inl hy) (zoP hi (.inl hn) hd2 hd3) hsw (.inr hy));refine wpAny_mono (suite pins s7 _ _ { nx:=fun σ' H' => σ'=(σ.set i (some (.ref a))).set j (some (.ref a))/\H'=upd H a (znk a c),rt:=fun _ _=>False } J7 ⟨.ref a,by rw [jbt hσ],rfl,rfl⟩) (fun f s8 h8 => ?_) fun _ _ z=>False.elim z
  cases f with
  | next =>
    obtain ⟨σ8,H8,J8,rfl,rfl⟩:=h8;have J8':=Inv.unheld J.ok J8;refine wpAny_bind (wpAny_bindName (zez J8' hN hi (.inl hn) (v := .non) rfl (fun s9 J9 => ?_) (.inr hn)));unfold unbindBehindTheSuite;refine wpAny_onRaise ?_;obtain ⟨m,hns,hl⟩:=id J9.loc;have hat:(((σ.set i (some (.ref a))).set j (some (.ref a))).set i (some V.non))[i]? = some (some .non):=by rw [jbt (by rw [jbR,jbR];exact hσ)]
    obtain ⟨u,_,z⟩:=hl i n .non hi hat (.inl hn);have hmn:m n=some u:=by
      rcases z with ⟨_,z⟩ | ⟨_,c',z,_⟩
      · exact z
      · rw [nc n] at z;cases z
    refine wpAny_unbindName_local hn hns hmn (by rw [J.ok.kind];rfl) fun h' u' hn' hs' => ?_
    have J10:=Inv.unbound nc J9 hN hi hl hn' hs';refine ⟨_,_,J10,?_⟩;have e:((((σ.set i (some (.ref a))).set j (some (.ref a))).set i (some V.non)).set i none)=(σ.set j (some (.ref a))).set i none:=by
      rw [List.set_set,List.set_comm _ _ hij,List.set_set]
    rw [e];exact hnx a (ap a (by simp)).2.1
  | ret v=>obtain ⟨_,_,_,_,_,z⟩:=h8;exact False.elim z
  | brk=>obtain ⟨_,_,_,z⟩:=h8;exact False.elim z
  | cont=>obtain ⟨_,_,_,z⟩:=h8;exact False.elim z
noncomputable def zvi (K:PySem.W.Frag) (B:Addr) (i j:Nat) (D:zld) (σ:St):XK:=fun C _ H'=>∃ (c:Addr) (bm:List Value),C = .ref c/\zk6 K c bm=true/\(Value.ref c :: bm).contains (.ref B)=true/\∀ a,H' a=none->D.nx ((σ.set j (some (.ref a))).set i none) (upd H' a (znk a c))
end
end L2
set_option maxHeartbeats 1000000
namespace L2
open PySem PySem.Spec PyProof.Rows
section
variable {X:Cx}
theorem zn6 (n k:Nat):fromIndex n (k:Int)=k:=by
 unfold fromIndex;rw[if_neg (by omega),jdl (jaM _),jbf]
theorem zgK:MtM X "str.startswith" (fun x vs H Q=>∃ (i j:Str) (k:Nat),x = .str i/\vs=[.str j,.int (k:Int)]/\Q (.bl (decide (k+j.length<=i.length) && Builtin.Str.subAt i j k)) H):=by
 intro pins s σ H x xs v us Q I rx rv h;obtain⟨i,j,k,rfl,rfl,q⟩:=h;obtain⟨t,rfl⟩:=rx;obtain⟨u,u',rfl,⟨t2,rfl⟩,⟨t3,rfl⟩⟩:=rv.two;have g:=gives_str_startswith_from i j (k:Int) t t2 t3;rw[zn6] at g;exact call_gives F.slot_str_startswith (typeIs_str _ _ _) F.entry_str_startswith (F.args_str_startswith_3 _ _ _) g ⟨.bl _,H,I,rfl,q⟩
theorem zib:MtM X "str.strip" (fun x vs H Q=>∃ i,x = .str i/\vs=[]/\i.length<=sizeLine/\Q (.str (Txt.strip i)) H):=by
 intro pins s σ H x xs v us Q I rx rv h;obtain⟨i,rfl,rfl,hz,q⟩:=h;obtain⟨t,rfl⟩:=rx;obtain rfl:=rv.zero;exact SC.strip (fun t' k=>⟨.str _,H,I.tok _,⟨_,rfl⟩,q⟩) hz
end
end L2
namespace My
open PySem L2 OF
noncomputable def wdL (w:Nat):List Nat:=if w=0 then [97,110,100] else if w=1 then [111,114] else [120,111,114]
noncomputable def isJ:Sm->Bool
 | .two _ _ _=>true
 | _=>false
noncomputable def zbk:Sm->List (List Nat)
 | .bit k=>[[97+k]]
 | .fix b=>[[48+b.toNat]]
 | .no s=>[110,111,116,32] :: (if isJ s then [40] :: (zbk s ++ [[41]]) else zbk s)
 | .two w s t=>(if isJ s then [40] :: (zbk s ++ [[41]]) else zbk s)++(([32]++wdL w ++ [32]) :: (if isJ t then [40] :: (zbk t ++ [[41]]) else zbk t))
noncomputable def zix (s:Sm):List (List Nat):=if isJ s then [40] :: (zbk s ++ [[41]]) else zbk s
theorem zi2 (s:Sm):zbk (.no s)=[110,111,116,32] :: zix s:=by unfold zix;rw[zbk]
theorem zhw (w:Nat) (s t:Sm):zbk (.two w s t)=zix s++(([32]++wdL w ++ [32]) :: zix t):=by unfold zix;rw[zbk]
noncomputable def zdf (l:List Nat):List Nat :=
 if [110,111,116,32] <+: l then [110,111,116,32] else if [32,97,110,100,32] <+: l then [32,97,110,100,32] else if [32,111,114,32] <+: l then [32,111,114,32] else if [32,120,111,114,32] <+: l then [32,120,111,114,32] else l.take 1
noncomputable def zf0 (l:List Nat):Prop:=l=[]\/(∃ r,l=32 :: r)\/∃ r,l=41 :: r
noncomputable def zh3:List (List Nat)->List Nat->Prop
 | [],_=>True
 | t :: ts,r=>t≠[]/\zdf (t++(ts.flatten++r))=t/\zh3 ts r
theorem zh3.app:∀ {a b:List (List Nat)}{r:List Nat},zh3 a (b.flatten++r)->zh3 b r->zh3 (a++b) r
 | [],b,r,_,h=>h
 | t :: a,b,r,h,h'=>by
  obtain⟨h1,h2,h3⟩:=h;refine⟨h1,?_,zh3.app h3 h'⟩;show zdf (t++((a++b).flatten++r))=t;rw[jbH,jaP];exact h2
theorem zqB (r:List Nat):zdf ([110,111,116,32]++r)=[110,111,116,32]:=if_pos (List.prefix_append _ _)
theorem zhq {c:Nat}{r:List Nat} (h32:c≠32) (hn:c≠110\/zf0 r):zdf ([c]++r)=[c]:=by
 unfold zdf;have e1:¬ [110,111,116,32] <+: [c]++r:=fun z=>by
  obtain⟨t,ht⟩:=z;simp at ht;rcases hn with y | y
  ·exact y ht.1.symm
  ·rcases y with y | ⟨r',y⟩ | ⟨r',y⟩
   ·rw[y] at ht;simp at ht
   ·rw[y] at ht;simp at ht
   ·rw[y] at ht;simp at ht
 have e2:∀ l:List Nat,¬ (32 :: l) <+: [c]++r:=fun l z=>by
  obtain⟨t,ht⟩:=z;simp at ht;exact h32 ht.1.symm
 rw[if_neg e1,if_neg (e2 _),if_neg (e2 _),if_neg (e2 _)];rfl
theorem zr2 {w:Nat} (hw:w<3) (r:List Nat):zdf (([32]++wdL w ++ [32])++r)=[32]++wdL w ++ [32]:=by
 rcases (show w=0\/w=1\/w=2 by omega) with rfl | rfl | rfl
 ·rfl
 ·rfl
 ·rfl
theorem zjU {r:List Nat}:∀ {s:Sm},s.ok (fun k=>k<16)->(∀ r,zf0 r->zh3 (zbk s) r)/\(∀ r,zf0 r->zh3 (zix s) r)
 | .bit k,h=>by
  have hk:k<16:=h
  have:∀ r,zf0 r->zh3 (zbk (.bit k)) r:=fun r hr=>⟨by simp,zhq (by omega) (.inr hr),trivial⟩
  exact⟨this,this⟩
 | .fix b,h=>by
  have hb:b=0\/b=1:=h
  have:∀ r,zf0 r->zh3 (zbk (.fix b)) r:=fun r hr=>⟨by simp,zhq (by omega) (.inr hr),trivial⟩
  exact⟨this,this⟩
 | .no s,h=>by
  have ih:=(zjU (r:=r) (s:=s) h).2
  have:∀ r,zf0 r->zh3 (zbk (.no s)) r:=fun r hr=>by
   rw[zi2];exact⟨by simp,zqB _,ih r hr⟩
  exact⟨this,this⟩
 | .two w s t,h=>by
  obtain⟨hw,h1,h2⟩:=h;have i1:=(zjU (r:=r) (s:=s) h1).2;have i2:=(zjU (r:=r) (s:=t) h2).2;have go:∀ r,zf0 r->zh3 (zbk (.two w s t)) r:=fun r hr=>by
   rw[zhw];refine zh3.app (i1 _ (.inr (.inl ⟨_,rfl⟩))) ⟨by simp,?_,i2 r hr⟩;exact zr2 hw _
  refine⟨go,fun r hr=>?_⟩;show zh3 ([40] :: (zbk (.two w s t) ++ [[41]])) r;refine⟨by simp,zhq (by decide) (.inl (by decide)),?_⟩;exact zh3.app (go _ (.inr (.inr ⟨_,rfl⟩))) ⟨by simp,zhq (by decide) (.inl (by decide)),trivial⟩
noncomputable def zcq:Sm->List Nat
 | .bit k=>[97+k]
 | .fix b=>zgO b.natAbs
 | .no s=>[110,111,116,32]++(if isJ s then [40]++zcq s ++ [41] else zcq s)
 | .two w s t=>(if isJ s then [40]++zcq s ++ [41] else zcq s) ++ [32]++wdL w ++ [32]++(if isJ t then [40]++zcq t ++ [41] else zcq t)
noncomputable def zc2 (s:Sm):List Nat:=if isJ s then [40]++zcq s ++ [41] else zcq s
theorem zjk (s:Sm):(zc2 s).length<=(zcq s).length+2:=by unfold zc2;split <;> simp <;> omega
theorem zlw (s:Sm):(zcq s).length<=(zc2 s).length:=by
 unfold zc2;split
 ·simp;omega
 ·exact jag _
theorem zpS:("and" : Str)=S [97,110,100]:=by decide +kernel
theorem zr8:("or" : Str)=S [111,114]:=by decide +kernel
theorem zqf:("xor" : Str)=S [120,111,114]:=by decide +kernel
theorem zd8:("not " : Str)=S [110,111,116,32]:=by decide +kernel
theorem zh7:("(" : Str)=S [40]:=by decide +kernel
theorem zmT:(")" : Str)=S [41]:=by decide +kernel
theorem zu4 {w:Nat} (h:w<3):wd w=S (wdL w):=by
 rcases (show w=0\/w=1\/w=2 by omega) with rfl | rfl | rfl
 ·exact zpS
 ·exact zr8
 ·exact zqf
theorem zpy (w:Nat):(wdL w).length<=3:=by unfold wdL;split <;> (try split) <;> simp
theorem zsU {w:Nat} (h:w<3):decide (V.str (wd w)=V.str "bit")=false/\decide (V.str (wd w)=V.str "fix")=false/\decide (V.str (wd w)=V.str "not")=false:=by
 rcases (show w=0\/w=1\/w=2 by omega) with rfl | rfl | rfl <;> decide
theorem ziH (s:Sm):zcq (.no s)=[110,111,116,32]++zc2 s:=by unfold zc2;rw[zcq]
theorem zgb (w:Nat) (s t:Sm):zcq (.two w s t)=zc2 s ++ [32]++wdL w ++ [32]++zc2 t:=by unfold zc2;rw[zcq]
theorem zsg {w:Nat} (h:w<3):inV (V.str (wd w)) [V.str "and",V.str "or",V.str "xor"]=true:=by
 rcases (show w=0\/w=1\/w=2 by omega) with rfl | rfl | rfl <;> decide
theorem zmt {n:Nat} (h:n<=1):(n:Int).natAbs.log2<1920:=by
 rcases (show n=0\/n=1 by omega) with rfl | rfl <;> decide
theorem zds {n:Nat} (h:n<=40000):n<=sizeLine:=jak h (by decide)
theorem zfx:∀ {s:Sm},s.ok (fun k=>k<16)->(zbk s).flatten=zcq s/\(zix s).flatten=zc2 s
 | .bit k,_=>⟨rfl,rfl⟩
 | .fix b,h=>by
  have hb:b=0\/b=1:=h;rcases hb with rfl | rfl
  ·exact⟨rfl,rfl⟩
  ·exact⟨rfl,rfl⟩
 | .no s,h=>by
  have ih:=(zfx (s:=s) h).2
  have:(zbk (.no s)).flatten=zcq (.no s):=by rw[zi2,ziH,jbg,ih]
  exact⟨this,this⟩
 | .two w s t,h=>by
  obtain⟨hw,h1,h2⟩:=h;have i1:=(zfx (s:=s) h1).2;have i2:=(zfx (s:=t) h2).2;have go:(zbk (.two w s t)).flatten=zcq (.two w s t):=by
   rw[zhw,zgb,jbH,jbg,i1,i2];simp
  refine⟨go,?_⟩;show ([40] :: (zbk (.two w s t) ++ [[41]])).flatten=[40]++zcq (.two w s t) ++ [41];rw[jbg,jbH,go];simp
end My
namespace My
open PySem L2 OF
theorem zmp (l t:List Nat) (k:Nat) (h:k<=l.length):(decide (k+(S t).length<=(S l).length) && Builtin.Str.subAt (S l) (S t) k)=decide (t <+: l.drop k):=by
 rw[jdj,zbE,zbE,zaw,zaw];by_cases z:t <+: l.drop k
 ·rw[decide_eq_true z];obtain⟨r,hr⟩:=z;have hl:t.length<=(l.drop k).length:=by rw[<- hr,jab];omega
  rw[jbc] at hl;rw[decide_eq_true (by omega),jcd,<- hr,List.take_left];simp
 ·rw[decide_eq_false z]
  have:((l.drop k).take t.length == t)=false:=by
   refine beq_eq_false_iff_ne.mpr fun y=>z ⟨(l.drop k).drop t.length,?_⟩
   conv=>lhs;rw[<- y]
   have e:((l.drop k).take t.length).length=t.length:=by rw[y]
   rw[e];exact List.take_append_drop _ _
  rw[this,jb4]
theorem znp:(" and " : Str)=S [32,97,110,100,32]:=by decide +kernel
theorem zpR:(" or " : Str)=S [32,111,114,32]:=by decide +kernel
theorem zoj:(" xor " : Str)=S [32,120,111,114,32]:=by decide +kernel
noncomputable def znb:List (List Nat):=[[110,111,116,32],[32,97,110,100,32],[32,111,114,32],[32,120,111,114,32]]
theorem zri:[V.str "not ",V.str " and ",V.str " or ",V.str " xor "]=znb.map fun t=>V.str (S t):=by
 rw[zd8,znp,zpR,zoj];rfl
theorem zmW {l t:List Nat}{i:Nat} (ht:znb[i]? = some t) (hb:∀ j t',j<i->znb[j]? = some t'->¬ t' <+: l) (h:t <+: l):zdf l=t:=by
 unfold zdf
 match i,ht with
 | 0,ht=>cases ht;exact if_pos h
 | 1,ht=>cases ht;rw[if_neg (hb 0 _ (by decide) rfl)];exact if_pos h
 | 2,ht=>cases ht;rw[if_neg (hb 0 _ (by decide) rfl),if_neg (hb 1 _ (by decide) rfl)];exact if_pos h
 | 3,ht=>cases ht;rw[if_neg (hb 0 _ (by decide) rfl),if_neg (hb 1 _ (by decide) rfl),if_neg (hb 2 _ (by decide) rfl)];exact if_pos h
 | i+4,ht=>simp[znb] at ht
theorem zn1 {l:List Nat} (hb:∀ j t',j<4->znb[j]? = some t'->¬ t' <+: l):zdf l=l.take 1:=by
 unfold zdf;rw[if_neg (hb 0 _ (by decide) rfl),if_neg (hb 1 _ (by decide) rfl),if_neg (hb 2 _ (by decide) rfl),if_neg (hb 3 _ (by decide) rfl)]
theorem zlL:∀ {ts:List (List Nat)}{r:List Nat}{i:Nat}{t:List Nat},zh3 ts r->ts[i]? = some t->t≠[]/\zdf ((ts.drop i).flatten++r)=t
 | [],_,_,_,_,e=>by simp at e
 | u :: ts,r,0,t,h,e=>by
  have:u=t:=by simpa using e
  subst this;refine⟨h.1,?_⟩;rw[jcs,jbg,jaP];exact h.2.1
 | u :: ts,r,i+1,t,h,e=>by
  rw[List.drop_succ_cons];exact zlL h.2.2 (by simpa using e)
theorem zid:∀ (ts:List (List Nat)) (i:Nat),ts.flatten.drop (ts.take i).flatten.length=(ts.drop i).flatten
 | [],i=>by simp
 | t :: ts,0=>rfl
 | t :: ts,i+1=>by
  rw[List.take_succ_cons,jbg,jbg,jab,List.drop_succ_cons,<- zid ts i,<- List.drop_drop,List.drop_left]
theorem zhI:∀ {ts:List (List Nat)}{r:List Nat},zh3 ts r->ts.length<=ts.flatten.length
 | [],_,_=>jag _
 | t :: ts,r,h=>by
  have h1:=zhI h.2.2;have h2:0<t.length:=List.length_pos_iff.mpr h.1;rw[jbg,jab,jae];omega
theorem zpc:∀ w:Nat,inV (V.str (wd w)) [V.str "and",V.str "or",V.str "xor"]=true
 | 0=>by decide
 | 1=>by decide
 | _+2=>by show inV (V.str "xor") _=true;decide
end My
namespace My
open PySem L2 OF
inductive Itm where
 | nt | op | jn (w:Nat) (s:Sm)
noncomputable def Itm.d:Itm->D
 | .nt=>.tup [.str "not"]
 | .op=>.tup [.str "("]
 | .jn w s=>.tup [.str (wd w),s.d]
noncomputable def noK:Nat->Sm->Sm
 | 0,s=>s
 | k+1,s=>noK k (.no s)
noncomputable def zbu (p:Itm->Prop) (its:List Itm):Prop:=∀ it,its.getLast? = some it->¬ p it
noncomputable def zk2:Itm->Prop
 | .nt=>True
 | _=>False
noncomputable def ztd:Itm->Prop
 | .jn _ _=>True
 | _=>False
noncomputable abbrev Mst:=Option Sm × List Itm
inductive zjb:Mst->List Nat->Mst->Prop
 | no (its:List Itm):zjb (none,its) [110,111,116,32] (none,its ++ [.nt])
 | op (its:List Itm):zjb (none,its) [40] (none,its ++ [.op])
 | bit (its:List Itm) (k j:Nat) (h:zbu zk2 its) (hj:j<16):zjb (none,its++List.replicate k .nt) [97+j] (some (noK k (.bit j)),its)
 | fix (its:List Itm) (k:Nat) (b:Int) (h:zbu zk2 its) (hb:b=0\/b=1):zjb (none,its++List.replicate k .nt) [48+b.toNat] (some (noK k (.fix b)),its)
 | jn (its:List Itm) (s:Sm) (w:Nat) (h:zbu ztd its) (hw:w<3):zjb (some s,its) ([32]++wdL w ++ [32]) (none,its ++ [.jn w s])
 | cl (its:List Itm) (k w:Nat) (s t:Sm) (h:zbu zk2 its) (hw:w<3):zjb (some t,its++List.replicate k .nt ++ [.op,.jn w s]) [41] (some (noK k (.two w s t)),its)
inductive zdh:Mst->List (List Nat)->Mst->Prop
 | nil (a:Mst):zdh a [] a
 | cons {a b c:Mst}{t:List Nat}{ts:List (List Nat)}:zjb a t b->zdh b ts c->zdh a (t :: ts) c
theorem zdh.app {a b c:Mst}{ts us:List (List Nat)} (h:zdh a ts b) (h':zdh b us c):zdh a (ts++us) c:=by
 induction h with
 | nil=>exact h'
 | cons s _ ih=>exact .cons s (ih h')
theorem zfB (its:List Itm) (it:Itm):(its ++ [it]).getLast? = some it:=by simp
theorem zd6 {p:Itm->Prop}{its:List Itm}{it:Itm} (h:¬ p it):zbu p (its ++ [it]):=fun x hx=>by
 rw[zfB] at hx;cases hx;exact h
theorem zjZ (its:List Itm) (k:Nat):its++List.replicate k Itm.nt ++ [.nt]=its++List.replicate (k+1) .nt:=by
 rw[jaP,<- List.replicate_succ']
theorem zn7:∀ {s:Sm},s.ok (fun k=>k<16) ->
  (∀ its k,zbu zk2 its->isJ s=false->zdh (none,its++List.replicate k .nt) (zbk s) (some (noK k s),its)) /\
  (∀ its k,zbu zk2 its->zdh (none,its++List.replicate k .nt) (zix s) (some (noK k s),its)) /\
  (∀ w a b,s = .two w a b->∀ its,zbu zk2 its->zbu ztd its->zdh (none,its) (zbk s) (some b,its ++ [.jn w a]))
 | .bit j,h=>by
  have go:∀ its k,zbu zk2 its->zdh (none,its++List.replicate k .nt) (zbk (.bit j)) (some (noK k (.bit j)),its):=fun its k hn=>.cons (.bit its k j hn h) (.nil _)
  exact⟨fun its k hn _=>go its k hn,go,fun w a b e=>by cases e⟩
 | .fix b,h=>by
  have go:∀ its k,zbu zk2 its->zdh (none,its++List.replicate k .nt) (zbk (.fix b)) (some (noK k (.fix b)),its):=fun its k hn=>.cons (.fix its k b hn h) (.nil _)
  exact⟨fun its k hn _=>go its k hn,go,fun w a b e=>by cases e⟩
 | .no s,h=>by
  have ih:=(zn7 (s:=s) h).2.1;have go:∀ its k,zbu zk2 its->zdh (none,its++List.replicate k .nt) (zbk (.no s)) (some (noK k (.no s)),its):=fun its k hn=>by
   rw[zi2];refine .cons (.no _) ?_;rw[zjZ];exact ih its (k+1) hn
  exact⟨fun its k hn _=>go its k hn,go,fun w a b e=>by cases e⟩
 | .two w s t,h=>by
  obtain⟨hw,h1,h2⟩:=h;have i1:=(zn7 (s:=s) h1).2.1;have i2:=(zn7 (s:=t) h2).2.1;have go:∀ its,zbu zk2 its->zbu ztd its->zdh (none,its) (zbk (.two w s t)) (some t,its ++ [.jn w s]):=fun its hn hj=>by
   rw[zhw];have a1:=i1 its 0 hn;rw[jcO,jaZ] at a1;refine a1.app (.cons (.jn its s w hj hw) ?_);have a2:=i2 (its ++ [.jn w s]) 0 (zd6 (p:=zk2) (it := .jn w s) (fun z=>nomatch z));rw[jcO,jaZ] at a2;exact a2
  refine⟨(fun its k _ z=>by cases z),(fun its k hn=>?_),(fun w' a b e=>by cases e;exact go)⟩;show zdh _ ([40] :: (zbk (.two w s t) ++ [[41]])) _;refine .cons (.op _) ?_;refine (go _ (zd6 (p:=zk2) (it := .op) fun z=>nomatch z) (zd6 (p:=ztd) (it := .op) fun z=>nomatch z)).app (.cons ?_ (.nil _))
  have:=zjb.cl its k w s t hn hw
  rw[jaP (its++List.replicate k Itm.nt) [Itm.op] [Itm.jn w s]];exact this
theorem zdh.path {a c:Mst}{ts:List (List Nat)} (h:zdh a ts c):∃ f:Nat->Mst,f 0=a/\f ts.length=c/\∀ i t,ts[i]? = some t->zjb (f i) t (f (i+1)):=by
 induction h with
 | nil a=>exact⟨fun _=>a,rfl,rfl,fun i t e=>by simp at e⟩
 | @cons a b c t ts s _ ih =>
  obtain⟨f,f0,f1,f2⟩:=ih;refine⟨fun i=>match i with | 0=>a | i+1=>f i,rfl,f1,fun i u e=>?_⟩;cases i with
  | zero =>
   have:t=u:=by simpa using e
   subst this;show zjb a t (f 0);rw[f0];exact s
  | succ i=>exact f2 i u (by simpa using e)
noncomputable def zgL (H:Hp) (v:V) (it:Itm):Prop:=Is H v it.d
noncomputable def zh2 (H:Hp) (b:Addr) (its:List Itm):Prop:=∃ xs:List V,H b=some (.lst xs)/\Paired (zgL H) xs its
theorem zlX {H:Hp}{v:V}{d:D} (h:Is H v (.tup [d])):∃ p x,v = .ref p/\H p=some (.tup [x])/\Is H x d:=by
 unfold Is at h;obtain⟨p,xs,rfl,h1,h2⟩:=h;unfold zby at h2;obtain⟨x,r,rfl,h3,h4⟩:=h2;unfold zby at h4;subst h4;exact⟨p,x,rfl,h1,h3⟩
theorem zhg {H:Hp}{p:Addr}{x:V}{d:D} (h:H p=some (.tup [x])) (h1:Is H x d):Is H (.ref p) (.tup [d]):=by
 unfold Is;refine⟨p,_,rfl,h,?_⟩;unfold zby;refine⟨_,_,rfl,h1,?_⟩;unfold zby;rfl
theorem zkt {H:Hp}{v:V} (h:zgL H v .nt):∃ p,v = .ref p/\H p=some (.tup [.str "not"]):=by
 obtain⟨p,x,rfl,h1,h2⟩:=zlX (show Is H v (.tup [.str "not"]) from h);rw[zaX] at h2;subst h2;exact⟨p,rfl,h1⟩
theorem zkv {H:Hp}{v:V} (h:zgL H v .op):∃ p,v = .ref p/\H p=some (.tup [.str "("]):=by
 obtain⟨p,x,rfl,h1,h2⟩:=zlX (show Is H v (.tup [.str "("]) from h);rw[zaX] at h2;subst h2;exact⟨p,rfl,h1⟩
theorem zlt {H:Hp}{v:V}{w:Nat}{s:Sm} (h:zgL H v (.jn w s)):∃ p x,v = .ref p/\H p=some (.tup [.str (wd w),x])/\Is H x s.d:=by
 obtain⟨p,x,y,rfl,h1,h2,h3⟩:=zhE (show Is H v (.tup [.str (wd w),s.d]) from h);rw[zaX] at h2;subst h2;exact⟨p,y,rfl,h1,h3⟩
theorem znu {H H':Hp} (k:∀ p xs,H p=some (.tup xs)->H' p=some (.tup xs)):∀ {it:Itm}{v:V},zgL H v it->zgL H' v it
 | .nt,v,h=>by obtain⟨p,rfl,h1⟩:=zkt h;exact zhg (k _ _ h1) (zaX.mpr rfl)
 | .op,v,h=>by obtain⟨p,rfl,h1⟩:=zkv h;exact zhg (k _ _ h1) (zaX.mpr rfl)
 | .jn w s,v,h=>by obtain⟨p,x,rfl,h1,h2⟩:=zlt h;exact zbU (k _ _ h1) (zaX.mpr rfl) (za7 k h2)
noncomputable def zaJ (b:Addr) (H H':Hp):Prop:=∀ p o,p≠b->H p=some o->H' p=some o
theorem zaJ.refl (b:Addr) (H:Hp):zaJ b H H:=fun _ _ _ e=>e
theorem zaJ.trans {b:Addr}{H H' H'':Hp} (h:zaJ b H H') (h':zaJ b H' H''):zaJ b H H'':=fun p o n e=>h' p o n (h p o n e)
theorem zaJ.of {b:Addr}{H H':Hp} (h:zai H H'):zaJ b H H':=fun p o _ e=>h p o e
theorem zaJ.upd {b:Addr}{H:Hp}{o:HO}:zaJ b H (L2.upd H b o):=fun p o' n e=>by rw[zan n];exact e
theorem zaJ.tups {b:Addr}{H H':Hp}{ys:List V} (h:zaJ b H H') (hb:H b=some (.lst ys)):∀ p xs,H p=some (.tup xs)->H' p=some (.tup xs):=fun p xs e=>h p _ (fun z=>by rw[z,hb] at e;cases e) e
end My
namespace My
open PySem L2 OF
theorem zcy {α : Type} (xs:List α) (y : α):atI (xs ++ [y]) (-1)=some y:=by
 have e:ixN (xs ++ [y]).length (-1)=some xs.length:=by
  unfold ixN;rw[jab];simp;omega
 unfold atI;rw[e];simp
theorem zed {α β : Type}{R : α -> β -> Prop}:∀ {zs:List α}{its:List β}{it : β},Paired R zs (its ++ [it])->∃ xs y,zs=xs ++ [y]/\Paired R xs its/\R y it
 | _,[],it,h=>by
  cases h with
  | cons r q=>cases q;exact⟨[],_,rfl,.nil,r⟩
 | _,i :: its,it,h=>by
  cases h with
  | cons r q =>
   obtain⟨xs,y,e,p,r'⟩:=zed q;exact⟨_ :: xs,y,by rw[e];rfl,.cons r p,r'⟩
theorem zh2.last {H:Hp}{b:Addr}{its:List Itm}{it:Itm} (h:zh2 H b (its ++ [it])):∃ xs y,H b=some (.lst (xs ++ [y]))/\Paired (zgL H) xs its/\zgL H y it:=by
 obtain⟨zs,h1,h2⟩:=h;obtain⟨xs,y,rfl,p,r⟩:=zed h2;exact⟨xs,y,h1,p,r⟩
theorem zbC {H H':Hp} (k:∀ p xs,H p=some (.tup xs)->H' p=some (.tup xs)) {xs:List V}{its:List Itm} (h:Paired (zgL H) xs its):Paired (zgL H') xs its:=Paired.mapP h fun _ _ e=>znu k e
theorem zh2.nil {H:Hp}{b:Addr} (h:zh2 H b []):H b=some (.lst []):=by
 obtain⟨xs,h1,h2⟩:=h;cases h2;exact h1
theorem zdL {α : Type} (l:List α):l=[]\/∃ r x,l=r ++ [x]:=by
 rcases List.eq_nil_or_concat l with h | ⟨r,x,h⟩
 ·exact .inl h
 ·exact .inr ⟨r,x,by rw[h,List.concat_eq_append]⟩
theorem zh2.keep {H H':Hp}{b:Addr}{its:List Itm} (h:zh2 H b its) (s:zai H H'):zh2 H' b its:=by
 obtain⟨xs,h1,h2⟩:=h;exact⟨xs,s _ _ h1,zbC (fun p ys e=>s p _ e) h2⟩
end My
namespace My
open PySem L2 OF
theorem znt {a b:Mst}{t:List Nat} (h:zjb a t b):b.2.length<=a.2.length+1:=by
 cases h <;> simp <;> omega
theorem zpF {s:Sm} (h:s.ok (fun k=>k<16)):∃ (e:Sm) (its:List Itm),zdh (none,[]) (zbk s) (some e,its)/\((its=[]/\e=s)\/∃ w a,its=[.jn w a]/\s = .two w a e):=by
 obtain⟨r1,r2,r3⟩:=zn7 h;have hn:∀ p,zbu p ([]:List Itm):=fun p it z=>by simp at z
 cases hj:isJ s with
 | false =>
  have:=r1 [] 0 (hn _) hj
  exact⟨s,[],this,.inl ⟨rfl,rfl⟩⟩
 | true =>
  cases s with
  | two w a b=>exact⟨b,[.jn w a],r3 w a b rfl [] (hn _) (hn _),.inr ⟨w,a,rfl,rfl⟩⟩
  | _=>cases hj
theorem zaJ.same {b:Addr}{H H' H'':Hp} (h:zai H H') (k:zaJ b H' H'') (hb:H b=none):zai H H'':=fun p o e=>k p o (fun z=>by rw[z,hb] at e;cases e) (h p o e)
end My
namespace My
open PySem L2 OF
theorem zpm {H:Hp}{v:V}:∀ {s:Sm},Is H v s.d->v ≠ .non
 | .bit _,h=>by obtain⟨p,rfl,_⟩:=zfn h;exact fun z=>nomatch z
 | .fix _,h=>by obtain⟨p,rfl,_⟩:=zfo h;exact fun z=>nomatch z
 | .no _,h=>by obtain⟨p,x,rfl,_⟩:=zhy h;exact fun z=>nomatch z
 | .two _ _ _,h=>by obtain⟨p,x,y,rfl,_⟩:=zeN h;exact fun z=>nomatch z
end My
namespace L2
open PySem PySem.Spec PyProof.Rows
theorem zkA {l:List Nat}{g:TG}{tc:TT}{te:TE} {σ:St}{H:Hp}{R:List V->Hp->Addr->Prop} (Pv:Nat->List V->St->Hp->Prop) (h0:Pv 0 [] σ H) (hl:∀ i ys σ H,Pv i ys σ H->ys.length<=i) (hz:l.length<=sizeLine)
  (hs:∀ i c ys σ H,l[i]? = some c->Pv i ys σ H->g (.str (My.S [c])) σ H fun σ2 H2=>tc σ2 H2 fun b H3=>if b=true then te σ2 H3 fun y H4=>Pv (i+1) (ys ++ [y]) σ2 H4 else Pv (i+1) ys σ2 H3)
  (hd:∀ ys σ H,Pv l.length ys σ H->∀ D,H D=none->R ys H D) :
  ∃ W:Nat->Nat->List V->St->Hp->Prop,(∃ m,W 0 m [] σ H)/\∀ i m ys σ H,W i m ys σ H ->
   ((ItC (My.S l)).stop i H/\∀ D,H D=none->R ys H D) \/
   ((ItC (My.S l)).go i H/\ys.length<sizeLine/\∃ N:List V->St->Hp->Prop,(∀ ys' σ' H',N ys' σ' H'->∃ m',m'<m/\W (i+1) m' ys' σ' H') /\
    ∀ x H',(ItC (My.S l)).yld i H x H'->g x σ H' fun σ2 H2=>tc σ2 H2 fun b H3=>if b=true then te σ2 H3 fun y H4=>N (ys ++ [y]) σ2 H4 else N ys σ2 H3):=by
 refine⟨fun i m ys σ H=>m=l.length-i/\i<=l.length/\Pv i ys σ H,⟨l.length,by simp,jaE _,h0⟩,?_⟩;rintro i m ys σ H ⟨rfl,hi,p⟩;have q:=hl i ys σ H p;by_cases hlt:i<l.length
 ·refine .inr ⟨hlt,(by omega),Pv (i+1),fun ys' σ' H' p'=>⟨l.length-(i+1),by omega,rfl,hlt,p'⟩,fun x H' y=>?_⟩;obtain⟨rfl,c,hc,rfl⟩:=y;exact hs i c ys σ _ (by simpa [My.S] using hc) p
 ·have e:i=l.length:=by omega
  subst e;exact .inl ⟨jag _,hd ys σ H p⟩
end L2
namespace My
open PySem L2 OF
noncomputable def isD (c:Nat):Bool:=decide (48<=c/\c<=57)
noncomputable def zn3 (c:Nat):Int:=if 97<=c/\c<113 then (c:Int)-97 else -1
theorem zn8:∀ c:Nat,c<128->Txt.find (S LET) (S [c])=zn3 c:=by decide +kernel
noncomputable def zfu:List Nat->Int->Nat->Option Nat
 | [],_,m=>some m
 | c :: r,la,m=>if zn3 c<=la then none else zfu r (zn3 c) (m+2^(zn3 c).toNat)
noncomputable def zfv (fs ls:List Nat):Option Nat :=
 if fs=[]/\ls≠[] then some 1 else if fs=[]\/fs.head? = some 48\/(fs=[49]/\ls≠[]) then none else some (NumText.digitsVal fs)
noncomputable def zde (w:List Nat):List Nat:=w.takeWhile isD
noncomputable def zbv (w:List Nat):List Nat:=w.dropWhile isD
theorem zot (w:List Nat):w=zde w++zbv w:=(List.takeWhile_append_dropWhile).symm
theorem zhH (w:List Nat):∀ c∈zde w,48<=c/\c<=57:=fun c hc=>by
 have:=List.all_takeWhile (p:=isD) (l:=w)
 exact of_decide_eq_true (jaX.mp this c hc)
theorem zkL {w:List Nat}:∀ c r,zbv w=c :: r->¬ (48<=c/\c<=57):=fun c r e=>by
 have h:(w.dropWhile isD).head? = some c:=by show (zbv w).head? = _;rw[e];rfl
 have:=List.head?_dropWhile_not isD w
 rw[h] at this;simpa [isD] using this
noncomputable def zhB (sg w:List Nat):Option (Int × Int) :=
 if sg=[43]\/sg=[45] then
  match zfv (zde w) (zbv w),zfu (zbv w) (-1) 0 with
  | some n,some m=>some ((m:Int),if sg=[45] then -(n:Int) else (n:Int))
  | _,_=>none
 else none
noncomputable def isF:zag->Int->Bool
 | [],_=>true
 | t :: r,la=>if t.1<=la\/t.2=0 then false else isF r t.1
noncomputable def zau:List Nat->List (List Nat)
 | []=>[[]]
 | c :: r=>if c=32 then [] :: zau r else match zau r with
  | []=>[[c]]
  | w :: ws=>(c :: w) :: ws
theorem zbG:∀ l,zau l≠[]
 | []=>by unfold zau;simp
 | c :: r=>by
  unfold zau;split
  ·simp
  ·split <;> simp
theorem zeK:∀ l,∀ w∈zau l,32 ∉ w
 | [],w,h=>by unfold zau at h;rw[jad.mp h];simp
 | c :: r,w,h=>by
  have ih:=zeK r;unfold zau at h;split at h
  ·rcases jaj.mp h with z | z
   ·rw[z];simp
   ·exact ih w z
  ·rename_i hc;split at h
   ·rw[jad.mp h];simpa using fun z=>hc z.symm
   ·rename_i w0 ws e;rcases jaj.mp h with z | z
    ·rw[z];intro y;rcases jaj.mp y with y | y
     ·exact hc y.symm
     ·exact ih w0 (by rw[e];simp) y
    ·exact ih w (by rw[e];simp[z])
theorem zcQ:∀ l,zbd 32 (zau l)=l
 | []=>rfl
 | c :: r=>by
  have ih:=zcQ r;unfold zau;split
  ·rename_i hc;cases e:zau r with
   | nil=>exact absurd e (zbG r)
   | cons w ws =>
    rw[e] at ih;show []++32 :: zbd 32 (w :: ws)=c :: r;rw[ih,hc];rfl
  ·split
   ·rename_i e;exact absurd e (zbG r)
   ·rename_i w ws e;rw[e] at ih;cases ws with
    | nil=>show c :: w=c :: r;rw[show w=r from ih]
    | cons x xs=>show (c :: w)++32 :: zbd 32 (x :: xs)=c :: r;rw[<- ih];rfl
theorem zeO:∀ l,∀ w∈zau l,∀ c∈w,c∈l
 | [],w,h,c,hc=>by unfold zau at h;rw[jad.mp h] at hc;cases hc
 | a :: r,w,h,c,hc=>by
  have ih:=zeO r;unfold zau at h;split at h
  ·rcases jaj.mp h with z | z
   ·rw[z] at hc;cases hc
   ·exact jax _ (ih w z c hc)
  ·split at h
   ·rw[jad.mp h] at hc;rw[jad.mp hc];simp
   ·rename_i w0 ws e;rcases jaj.mp h with z | z
    ·rw[z] at hc;rcases jaj.mp hc with y | y
     ·rw[y];simp
     ·exact jax _ (ih w0 (by rw[e];simp) c y)
    ·exact jax _ (ih w (by rw[e];simp[z]) c hc)
theorem zcF:∀ l,(zau l).length<=l.length+1/\∀ w∈zau l,w.length<=l.length
 | []=>by unfold zau;exact⟨by decide,fun w h=>by rw[jad.mp h];exact jag _⟩
 | a :: r=>by
  obtain⟨h1,h2⟩:=zcF r;unfold zau;split
  ·exact⟨by rw[jae,jae];omega,fun w h=>by
    rcases jaj.mp h with z | z
    ·rw[z];simp
    ·have:=h2 w z;rw[jae];omega⟩
  ·split
   ·exact⟨by simp,fun w h=>by rw[jad.mp h];simp⟩
   ·rename_i w0 ws e;rw[e] at h1 h2;refine⟨by rw[jae] at h1 ⊢;rw[jae];omega,fun w h=>?_⟩;rcases jaj.mp h with z | z
    ·rw[z,jae,jae];have:=h2 w0 (by simp);omega
    ·have:=h2 w (by simp[z]);rw[jae];omega
noncomputable def zbQ (l:List Nat):List (List Nat):=if l.head? = some 45 then [45] :: (match zau l with | []=>[] | w :: r=>w.drop 1 :: r) else [43] :: zau l
noncomputable def zeH:List (List Nat)->Option zag
 | []=>some []
 | [_]=>none
 | sg :: w :: r=>match zhB sg w,zeH r with
  | some t,some f=>some (t :: f)
  | _,_=>none
noncomputable def zgH (l:List Nat):Option zag:=if l=[48] then some [] else match zeH (zbQ l) with
 | some f=>if isF f (-1)=true then some f else none
 | none=>none
theorem zkR {l:List Nat}{c:Nat} (h:l.head? = some c) (hc:c≠32) {w0:List Nat}{wr:List (List Nat)} (e:zau l=w0 :: wr):∃ w',w0=c :: w':=by
 cases l with
 | nil=>cases h
 | cons a r =>
  have:a=c:=by simpa using h
  subst this;unfold zau at e;rw[if_neg hc] at e;split at e
  ·cases e;exact⟨[],rfl⟩
  ·cases e;exact⟨_,rfl⟩
theorem zl2 (l:List Nat):2<=(zbQ l).length/\(zbQ l).length<=l.length+2/\∀ w∈zbQ l,(∀ c∈w,c∈l\/c=43)/\w.length<=l.length+1:=by
 obtain⟨w0,wr,ew⟩:∃ w0 wr,zau l=w0 :: wr:=by
  cases e:zau l with
  | nil=>exact absurd e (zbG l)
  | cons a b=>exact⟨a,b,rfl⟩
 obtain⟨h1,h2⟩:=zcF l;have h3:=zeO l;rw[ew] at h1 h2 h3;rw[jae] at h1;unfold zbQ;rw[ew];split
 ·rename_i h45;have h45m:45∈l:=List.mem_of_mem_head? (by rw[h45];rfl);refine⟨by simp,by simp;omega,fun w hw=>?_⟩;rcases jaj.mp hw with z | z
  ·rw[z];exact⟨fun c hc=>.inl (by rw[jad.mp hc];exact h45m),by simp⟩
  ·rcases jaj.mp z with z | z
   ·rw[z];exact⟨fun c hc=>.inl (h3 w0 (by simp) c (List.mem_of_mem_drop hc)),by rw[jbc];have:=h2 w0 (by simp);omega⟩
   ·exact⟨fun c hc=>.inl (h3 w (by simp[z]) c hc),by have:=h2 w (by simp[z]);omega⟩
 ·refine⟨by simp,by simp;omega,fun w hw=>?_⟩;rcases jaj.mp hw with z | z
  ·rw[z];exact⟨fun c hc=>.inr (jad.mp hc),by simp⟩
  ·exact⟨fun c hc=>.inl (h3 w z c hc),by have:=h2 w z;omega⟩
theorem zhd:∀ {ws:List (List Nat)},¬ ws.length % 2=0->zeH ws=none
 | [],h=>absurd rfl h
 | [_],_=>rfl
 | a :: b :: r,h=>by
  have ih:=zhd (ws:=r) (by rw[jae,jae] at h;omega);unfold zeH;rw[ih];cases zhB a b <;> rfl
theorem zkd:∀ {ws:List (List Nat)},ws.length % 2=0->∃ pp:List (List Nat × List Nat),ws=pp.flatMap fun t=>[t.1,t.2]
 | [],_=>⟨[],rfl⟩
 | [_],h=>by simp at h
 | a :: b :: r,h=>by
  obtain⟨pp,hp⟩:=zkd (ws:=r) (by rw[jae,jae] at h;omega);exact⟨(a,b) :: pp,by rw[jaY,<- hp];rfl⟩
theorem zkO (pp:List (List Nat × List Nat)):(pp.flatMap fun t=>[t.1,t.2]).length=2 * pp.length:=by
 induction pp with
 | nil=>rfl
 | cons t r ih=>rw[jaY,jab,ih];show 2+_=2 * (r.length+1);omega
noncomputable def rdP:List (List Nat × List Nat)->Option zag
 | []=>some []
 | p :: r=>match zhB p.1 p.2,rdP r with
  | some t,some f=>some (t :: f)
  | _,_=>none
theorem zdp:∀ pp:List (List Nat × List Nat),zeH (pp.flatMap fun t=>[t.1,t.2])=rdP pp
 | []=>rfl
 | p :: r=>by
  have ih:=zdp r;show zeH (p.1 :: p.2 :: r.flatMap fun t=>[t.1,t.2])=rdP (p :: r);unfold zeH rdP;rw[ih]
theorem zgr (l:List Nat):Txt.startswith (S l) (S [45])=decide (l.head? = some 45):=by
 rw[zol];cases l with
 | nil=>rfl
 | cons c r =>
  show (c == 45)=decide (some c=some 45);by_cases h:c=45
  ·subst h;rfl
  ·rw[decide_eq_false (fun z=>h (jaD z))];simpa using h
structure Ris (la:Int) (ls:List Nat):Prop where
 ok:∀ c∈ls,97<=c/\c<113
 up:ls.Pairwise (· < ·)
 ab:∀ c∈ls,la<(c:Int)-97
noncomputable def zrN (ls:List Nat):Nat:=(ls.map fun c=>2^(c-97)).sum
theorem zjW:∀ {ls:List Nat}{la:Int} (m:Nat),Ris la ls->zfu ls la m=some (m+zrN ls)
 | [],la,m,_=>by show some m=some (m+0);rfl
 | c :: r,la,m,h=>by
  have hc:=h.ok c (by simp);have hi:zn3 c=(c:Int)-97:=if_pos hc;obtain⟨u1,u2⟩:=jbi.mp h.up;unfold zfu;rw[hi,if_neg (by have:=h.ab c (by simp);omega)];rw[zjW (ls:=r) _ ⟨fun x hx=>h.ok x (by simp[hx]),u2,fun x hx=>by have:=u1 x hx;omega⟩];have e:((c:Int)-97).toNat=c-97:=by omega
  rw[e];show some (m+2^(c-97)+zrN r)=some (m+(2^(c-97)+zrN r));congr 1;omega
theorem ziQ (l:List Nat):(V.str (S l)=V.str (Str.ofString ""))↔l=[]:=⟨fun z=>by
 injection z with z
 rw[zdt] at z;exact zbY z,fun z=>by rw[z,zdt]⟩
theorem zg9 (x:V) (r:List V):ziJ (x :: r) (some 1) none=r:=by
 unfold ziJ;rw[HT.sIx_none,show (1:Int)=((1:Nat):Int) from rfl,HT.sIx_nat];have e:min 1 (x :: r).length=1:=by rw[jae];omega
 rw[e];show (r.take ((x :: r).length-1))=r;rw[jae,Nat.add_sub_cancel,jaK]
theorem zfz:∀ l:List Nat,((l.map fun c=>S [c]).map (·.length)).sum=l.length
 | []=>rfl
 | c :: l=>by rw[jat,jat,jb1,zfz l,jae,zaw];simp;omega
theorem zmV (l:List Nat):(l.map fun c=>[c]).flatten=l:=by
 induction l with
 | nil=>rfl
 | cons c l ih=>rw[jat,jbg,ih];rfl
theorem zgA (l:List Nat):Txt.join (S []) (l.map fun c=>S [c])=S l:=by
 have:=zlv (l.map fun c=>[c])
 rw[ja3,zmV] at this;exact this
noncomputable def zlB (K:PySem.W.Frag):Sp:=fun vs H Q _=>∃ (a:Addr) (f:zag),vs=[.ref a]/\TLo H a f/\(∀ t∈f,zcn t)/\f.length<=64/\∀ H',zai H H'->Q (.str (S (txt f))) H'
theorem zfH {n:Nat} (h:n<10^63):(n:Int).natAbs.log2<1920:=by
 rw[Int.natAbs_natCast];by_cases h0:n=0
 ·subst h0;decide
 ·exact (jdv h0).mpr (jas h (by decide +kernel))
theorem zig {t:Int × Int} (h:zcn t) (h4:t.2.natAbs<10^4):(zaO t).length<=20/\∀ c∈zaO t,c<128:=by
 have hm:t.1.toNat<2^16:=by have:=h.1;have:=h.2.1;omega
 have e:zaO t=zcP t.1.toNat t.2.natAbs++zdC t.1.toNat:=rfl;have h1:=zdc hm;have h2:(zcP t.1.toNat t.2.natAbs).length<=4:=by
  unfold zcP;split
  ·exact jaE _
  ·exact zeo (k:=3) h4
 rw[e];refine⟨by rw[jab];omega,fun c hc=>?_⟩;rcases jah.mp hc with z | z
 ·have:=znM z;omega
 ·exact zop hm c z
theorem ziO:∀ {r:zag},(∀ t∈r,zcn t/\t.2.natAbs<10^4)->(r.flatMap zbh).length<=23 * r.length/\∀ c∈r.flatMap zbh,c<128
 | [],_=>⟨by simp,fun c h=>by cases h⟩
 | t :: r,h=>by
  obtain⟨i1,i2⟩:=ziO (r:=r) fun u hu=>h u (by simp[hu])
  obtain⟨w1,w2⟩:=zig (h t (by simp)).1 (h t (by simp)).2;rw[jaY];refine⟨?_,fun c hc=>?_⟩
  ·rw[jab,jae];show ([32,sgn t.2,32]++zaO t).length+_<=_;rw[jab];show 3+_+_<=_;omega
  ·rcases jah.mp hc with z | z
   ·have z':c∈[32,sgn t.2,32]++zaO t:=z;rcases jah.mp z' with y | y
    ·have hs:sgn t.2=43\/sgn t.2=45:=by unfold sgn;split <;> simp
     simp only[jaj,ja7,or_false] at y;omega
    ·exact w2 c y
   ·exact i2 c z
theorem zjw {f:zag} (hl:f.length<=5) (h:∀ t∈f,zcn t/\t.2.natAbs<10^4):(txt f).length<=240/\∀ c∈txt f,c<128:=by
 cases f with
 | nil=>exact⟨by decide,by decide⟩
 | cons t r =>
  obtain⟨i1,i2⟩:=ziO (r:=r) fun u hu=>h u (by simp[hu])
  obtain⟨w1,w2⟩:=zig (h t (by simp)).1 (h t (by simp)).2;rw[jae] at hl;have ha:(za1 t.2).length<=1/\∀ c∈za1 t.2,c<128:=by unfold za1;split <;> simp
  show (za1 t.2++zaO t++r.flatMap zbh).length<=240/\∀ c∈za1 t.2++zaO t++r.flatMap zbh,c<128;refine⟨by rw[jab,jab];have:=ha.1;omega,fun c hc=>?_⟩;rcases jah.mp hc with z | z
  ·rcases jah.mp z with y | y
   ·exact ha.2 c y
   ·exact w2 c y
  ·exact i2 c z
end My
namespace My
open PySem L2 OF
noncomputable def zd4:Sm->Nat
 | .bit _=>1
 | .fix _=>1
 | .no s=>zd4 s+1
 | .two _ s t=>zd4 s+zd4 t+1
theorem zdQ:∀ s:Sm,s.dp+1<=zd4 s
 | .bit _=>jag _
 | .fix _=>jag _
 | .no s=>by have:=zdQ s;show s.dp+1+1<=zd4 s+1;omega
 | .two _ s t=>by have:=zdQ s;have:=zdQ t;show max s.dp t.dp+1+1<=zd4 s+zd4 t+1;omega
theorem zcH {p:Nat->Prop}:∀ {s:Sm},s.ok p->(zcq s).length<=9 * zd4 s
 | .bit _,_=>by show 1<=9 * 1;decide
 | .fix b,h=>by
  have hb:b=0\/b=1:=h;rcases hb with rfl | rfl <;> decide
 | .no s,h=>by
  have i1:=zcH (s:=s) h
  have:=zjk s
  rw[ziH,jab];show 4+_<=9 * (zd4 s+1);omega
 | .two w s t,h=>by
  have i1:=zcH (s:=s) h.2.1;have i2:=zcH (s:=t) h.2.2
  have:=zjk s
  have:=zjk t
  have:=zpy w
  rw[zgb];simp only[jab,jae,jbF];show _<=9 * (zd4 s+zd4 t+1);omega
theorem zhS:∀ {s:Sm},s.ok (fun k=>k<16)->(∀ c∈zcq s,c<128)/\∀ c∈zc2 s,c<128
 | .bit k,h=>by
  have hk:k<16:=h
  have:∀ c∈zcq (.bit k),c<128:=fun c hc=>by rw[jad.mp hc];omega
  exact⟨this,this⟩
 | .fix b,h=>by
  have hb:b=0\/b=1:=h;rcases hb with rfl | rfl
  ·exact⟨by decide,by decide⟩
  ·exact⟨by decide,by decide⟩
 | .no s,h=>by
  have ih:=(zhS (s:=s) h).2
  have:∀ c∈zcq (.no s),c<128:=fun c hc=>by
   rw[ziH] at hc;rcases jah.mp hc with y | y
   ·exact (show ∀ c∈[110,111,116,32],c<128 by decide) c y
   ·exact ih c y
  exact⟨this,this⟩
 | .two w s t,h=>by
  have i1:=(zhS (s:=s) h.2.1).2;have i2:=(zhS (s:=t) h.2.2).2;have hw:∀ c∈wdL w,c<128:=by
   unfold wdL;split
   ·decide
   split
   ·decide
   ·decide
  have go:∀ c∈zcq (.two w s t),c<128:=fun c hc=>by
   rw[zgb] at hc;simp only[jah] at hc;rcases hc with (((y | y) | y) | y) | y
   ·exact i1 c y
   ·rw[jad.mp y];decide
   ·exact hw c y
   ·rw[jad.mp y];decide
   ·exact i2 c y
  refine⟨go,fun c hc=>?_⟩;have hc':c∈[40]++zcq (.two w s t) ++ [41]:=hc;simp only[jah] at hc';rcases hc' with (y | y) | y
  ·rw[jad.mp y];decide
  ·exact go c y
  ·rw[jad.mp y];decide
theorem zj8 (a b n:Nat):Builtin.Str.strSliceIndices (some (a:Int)) (some (b:Int)) 1 n=Builtin.Str.strSliceIndices (some ((min a n:Nat):Int)) (some ((min b n:Nat):Int)) 1 n:=by
 have h:∀ c:Nat,¬ ((c:Int)<0):=fun c=>by omega
 have e:∀ c:Nat,max (0:Int) (min (c:Int) (n:Int))=max 0 (min ((min c n:Nat):Int) (n:Int)):=fun c=>by omega
 simp only[Builtin.Str.strSliceIndices,h,if_false];rw[if_pos (show (1:Int) > 0 by decide),if_pos (show (1:Int) > 0 by decide),if_pos (show (1:Int) > 0 by decide),if_pos (show (1:Int) > 0 by decide),e a,e b]
theorem zkb (l:List Nat) {a b:Nat} (h:a<=b):Txt.slice (S l) (some (a:Int)) (some (b:Int))=S ((l.drop a).take (b-a)):=by
 have e:Txt.slice (S l) (some (a:Int)) (some (b:Int))=StrLaws.sliceText (S l) (some ((min a l.length:Nat):Int)) (some ((min b l.length:Nat):Int)):=by
  show StrLaws.sliceText (S l) _ _=_;unfold StrLaws.sliceText;rw[zaw,zj8 a b]
 rw[e,StrLaws.sliceText_nat (S l) (show min a l.length<=min b l.length by omega) (by rw[zaw];omega)];refine zqE ?_;show (l.drop (min a l.length)).take (min b l.length-min a l.length)=(l.drop a).take (b-a);by_cases h1:a<=l.length
 ·rw[jbo h1];by_cases h2:b<=l.length
  ·rw[jbo h2]
  ·rw[jb7 (by omega),ja2 (by rw[jbc];omega),ja2 (by rw[jbc];omega)]
 ·rw[jb7 (show l.length<=a by omega),jb7 (show l.length<=b by omega),jcn (jag _),jcn (show l.length<=a by omega)];simp
theorem zor (l:List Nat) (a:Nat):Txt.slice (S l) (some (a:Int)) none=S (l.drop a):=by
 have e:Txt.slice (S l) (some (a:Int)) none=Txt.slice (S l) (some (a:Int)) (some (l.length:Int)):=by
  show StrLaws.sliceText (S l) _ _=StrLaws.sliceText (S l) _ _;unfold StrLaws.sliceText;rw[zaw,StrLaws.sliceIdx_none_hi]
 rw[e];by_cases h:a<=l.length
 ·rw[zkb l h,ja2 (by rw[jbc];omega)]
 ·have e2:Txt.slice (S l) (some (a:Int)) (some (l.length:Int))=Txt.slice (S l) (some (l.length:Int)) (some (l.length:Int)):=by
   show StrLaws.sliceText (S l) _ _=StrLaws.sliceText (S l) _ _;unfold StrLaws.sliceText;rw[zaw,zj8 a l.length,jb7 (show l.length<=a by omega),Nat.min_self]
  rw[e2,zkb l (jag _),jcn (show l.length<=a by omega)];simp
theorem zsB:∀ c:Nat,c<128->(!(Builtin.Str.occurrences (S LET) (S [c]) 0 (S LET).length 1).isEmpty)=decide (97<=c/\c<113):=by decide +kernel
noncomputable def zuY (K:PySem.W.Frag) (d:Nat):Sp:=fun vs H Q _=>∃ (v:V) (s:Sm),vs=[v]/\Is H v s.d/\s.ok (fun k=>k<16)/\2 * s.dp+1<d/\(zcq s).length<=10000/\∀ H',zai H H'->Q (.str (S (zcq s))) H'
noncomputable def ztg (K:PySem.W.Frag) (d:Nat):Sp:=fun vs H Q _=>∃ (v:V) (s:Sm),vs=[v]/\Is H v s.d/\s.ok (fun k=>k<16)/\2 * s.dp+2<d/\(zcq s).length<=10000/\∀ H',zai H H'->Q (.str (S (zc2 s))) H'
end My
namespace L2
open PySem PySem.Spec PyProof.Rows
noncomputable def znE (w:World) (K:PySem.W.Frag) (a:Addr) (kvs:List (Str × Addr)):Prop :=
 (a == sysModules)=false/\∀ (P:Program) (h:Heap),K.In h->h.DictOf (zbf P w) a (kvs.map fun p=>(Sum.inr p.1,Value.ref p.2))
theorem znE.of {w:World}{K:PySem.W.Frag}{a:Addr}{kvs:List (Str × Addr)}{ts:List Tok}{n:Nat} (hs:(a == sysModules)=false) (hl:kvs.length=ts.length) (hn:(kvs.map (·.1)).Nodup)
  (e:K.lookup a=some ⟨.type "dict",none,.dict ((kvs.zip ts).map fun p=>⟨PyData.keyHash w.params p.1.1,.str p.1.1 p.2,.ref p.1.2⟩).toArray n,#[]⟩):znE w K a kvs:=by
 refine⟨hs,fun P h X=>⟨_,_,_,X _ _ e,⟨rfl,rfl,rfl⟩,rfl,fun x hx=>?_,?_,?_⟩⟩
 ·obtain⟨p,_,rfl⟩:=jau.mp (List.mem_toArray.mp hx);exact⟨Sum.inr p.1.1,zbV P w p.1.1 p.2,rfl⟩
 ·clear e hn;show Pairs _ ((kvs.zip ts).map _) _;induction kvs generalizing ts with
  | nil=>exact .nil
  | cons p r ih =>
   cases ts with
   | nil=>cases hl
   | cons t ts=>exact .cons (zbV P w p.1 t) rfl (ih (by simpa using hl))
 ·rw[ja3]
  have:((fun x:Key × Value=>x.1) ∘ fun p:Str × Addr=>(Sum.inr p.1,Value.ref p.2))=(fun x:Str=>(Sum.inr x:Key)) ∘ (fun p:Str × Addr=>p.1):=rfl
  rw[this,<- ja3];exact jc4 _ (fun x y h z=>h (jdw z)) hn
noncomputable def atK (kvs:List (Str × Addr)) (x:Str):Option Addr:=(kvs.find? fun p=>decide (p.1=x)).map (·.2)
theorem zi4 (kvs:List (Str × Addr)) (x:Str):valueAt (kvs.map fun p=>((Sum.inr p.1:Key),Value.ref p.2)) (Sum.inr x)=(atK kvs x).map Value.ref:=by
 unfold valueAt atK;induction kvs with
 | nil=>rfl
 | cons p r ih =>
  rw[jat,jaw,jaw];by_cases z:p.1=x
  ·rw[decide_eq_true z,decide_eq_true (show (Sum.inr p.1:Key)=Sum.inr x by rw[z])];rfl
  ·rw[decide_eq_false z,decide_eq_false (fun y=>z (jdw y))];exact ih
noncomputable def zth (w:World) (K:PySem.W.Frag) (ty td:TE):TE:=fun σ H Q=>ty σ H fun y H1=>td σ H1 fun x H2=>∃ a kvs k,x = .ref a/\znE w K a kvs/\y = .str k/\Q (.bl (atK kvs k).isSome) H2
noncomputable def zsj (w:World) (K:PySem.W.Frag) (td ty:TE):TE:=fun σ H Q=>td σ H fun x H1=>ty σ H1 fun y H2=>∃ a kvs k b,x = .ref a/\znE w K a kvs/\y = .str k/\atK kvs k=some b/\Q (.ref b) H2
noncomputable def zqn (w:World) (K:PySem.W.Frag) (td ty:TE):TE:=fun σ H Q=>td σ H fun x H1=>∃ a kvs,x = .ref a/\znE w K a kvs/\ty σ H1 fun y H2=>∃ k,y = .str k/\Q (match atK kvs k with | some b=>.ref b | none=>.non) H2
section
variable {X:Cx}{o i e:Expr}{td ty:TE}{pos apos cpos:Pos}
theorem zpH (hu:X.A.units+1<cLine) (hi:PE X i ty) (ho:PE X o td):PC X .In i o (zth X.w X.K ty td):=by
 intro pins s σ H Q I h;refine thn (hi pins s σ H _ I h) fun iv s1 ⟨y,H1,I1,ry,q1⟩=>thn (ho pins s1 σ H1 _ I1 q1) fun u s2 ⟨x,H2,I2,rx,a,kvs,k,ex,D,ey,q2⟩=>?_
 subst ex ey;obtain rfl:u=Value.ref a:=rx;obtain⟨t,rfl⟩:=ry;have dd:=D.2 X.prog _ I2.kIn;refine wpAny_in_of (zbV X.prog X.w k t) D.1 dd.mapOf ?_;rw[zi4,jb0];exact⟨.bl _,H2,I2.tok _,rfl,q2⟩
theorem znr (hu:X.A.units+1<cLine) (ho:PE X o td) (hi:PE X i ty) (hs:ztH i):PE X (.Subscript o i pos) (zsj X.w X.K td ty):=by
 intro pins s σ H Q I h;refine zlq PySem.F.slot_dict_getitem.lookup hs (thn (ho pins s σ H _ I h) fun u s1 ⟨x,H1,I1,rx,q1⟩=>thn (hi pins s1 σ H1 _ I1 q1) fun iv s2 ⟨y,H2,I2,ry,a,kvs,k,b,ex,D,ey,hk,q2⟩=>?_);subst ex ey;obtain rfl:u=Value.ref a:=rx;obtain⟨t,rfl⟩:=ry;have dd:=D.2 X.prog _ I2.kIn;refine⟨dd.typeIs,wpAny_getItem_of (zbV X.prog X.w k t) dd.mapOf (by rw[zi4,hk];rfl) ⟨.ref b,H2,I2.tok _,rfl,q2⟩⟩
theorem zmk (hu:X.A.units+1<cLine) (ho:PE X o td) (he:PE X e ty) (m:M1 X o "get" apos e cpos):PE X (.Call (.Attribute o "get" apos) [e] [] cpos) (zqn X.w X.K td ty):=by
 intro pins s σ H Q I h;refine wpAny_Call_method m.base m.few m.line jdg jby PySem.F.type_dict_get (thn (ho pins s σ H _ I h) fun u s1 ⟨x,H1,I1,rx,a,kvs,ex,D,q1⟩=>?_);subst ex;obtain rfl:u=Value.ref a:=rx;have dd:=D.2 X.prog _ I1.kIn;refine⟨dd.typeIs,fun b q=>?_,?_⟩
 ·cases q;obtain⟨ob,_,_,h1,h2,_⟩:=dd;exact⟨ob,h1,h2.2.1⟩
 rw[m.trees];refine jbP rfl (jb3 (jcb (thn (he pins s1 σ H1 _ I1 q1) fun iv s2 ⟨y,H2,I2,ry,k,ey,q2⟩=>jda ?_)));subst ey;obtain⟨t,rfl⟩:=ry;have dd2:=D.2 X.prog _ I2.kIn;refine call_meetsIn jby dd2.typeIs jcl (PySem.F.args_dict_get_2 _ _) (meets_dict_get (zbf X.prog X.w) a (zbV X.prog X.w k t) D.1) ⟨_,dd2.mapOf,?_⟩;rw[zi4];cases hk:atK kvs k with
 | none=>rw[hk] at q2;exact⟨.non,H2,I2.tok _,rfl,q2⟩
 | some b=>rw[hk] at q2;exact⟨.ref b,H2,I2.tok _,rfl,q2⟩
end
section
variable {X:Cx}{pins:List (Addr × Obj)} {σ:St}{H:Hp}{s:Shared}
theorem zqW {pl:Sem Bool}{k:Nat}{f C:Addr}{fd:FuncData}{ps:List Str}{sp:Sp}{m:Str}{o:Expr}{ta:TE}{apos pos:Pos}{e:Expr}{es:List Expr}{t:TA} (O:Own X) (ho:PE X.nox o ta) (c:Cls X.K C) (hm:zsP X.K C m f) (F:zi9 X.prog X.w X.K X.mg X.base (CXe X.prog X.w) k f fd ps sp) (hr:zeg k X.A)
  (hb:zf2 X.K fd ps []) (ha:PA X.nox (e :: es) t) (he:starEach (e :: es) X.env=(false,eval e X.env) :: starEach es X.env) (hpl:(backTo pos (starEach es X.env)).any (·.1)=false)
  (ht:eval (.Call (.Attribute o m apos) (e :: es) [] pos) X.env=(do
   let ov <- eval o X.env
   standAt apos.atName
   let (f,first) <- holding [ov] (getMethod ov m pl)
   callWith pos f first (backTo pos (starEach (e :: es) X.env)) (backToKw pos (keywordEach [] X.env))))
  {Q:VK}{E:XK} (I:Inv X pins σ H s) (h:ta σ H fun x H1=>∃ a dx fs,x = .ref a/\H1 a=some (.ins C dx fs)/\fs.lookup m=none/\t σ H1 fun vs H2=>sp (x :: vs) H2 Q E) :
  wpAny (model X.prog X.w) X.A (eval (.Call (.Attribute o m apos) (e :: es) [] pos) X.env) (EP X pins σ Q) (XP X pins σ E) s:=by
 refine PySem.W.methodCall_KW (pl:=pl) (wpAny_mono (ho pins s σ H _ (I.wish _) h) (fun u s1 ⟨x,H1,I1,rx,a,dx,fs,ex,ea,l,q⟩=>?_) fun _ _ z=>False.elim z) ht;subst ex;obtain rfl:u=Value.ref a:=rx;refine zgY I1.unwish ea c hm l ?_;refine jcW (first:=[.ref a]) (h₀:=X.base) I.ok.mod.kin hm.kp (wpAny_mono (ha pos pins s1 σ H1 _ I1 q) (fun us s2 ⟨vs,H2,I2,r,q2⟩=>⟨I2.kIn,?_⟩) fun _ _ z=>False.elim z) he hpl;have J:=I2.unwish;have r2:zba (.ref a :: vs) (.ref a :: us) := .cons rfl r;have hl:(Value.ref a :: us).length=ps.length:=by rw[<- r2.length];exact F.len _ _ _ _ q2
 have hb':BindsTo s2 fd ⟨Value.ref a :: us,[]⟩ (ps.zip (Value.ref a :: us)):=by
  have:=hb s2 (Value.ref a :: us) J.kIn (by rw[jaZ];exact hl)
  rw[jaZ] at this;exact this
 refine wpAny_call (codeAny_mono (F.run X.A X.stack s2 H2 ⟨Value.ref a :: us,[]⟩ (Value.ref a :: us) (.ref a :: vs) Q E hr J.env0 hb' r2 q2) fun r s' hq=>?_);cases r with
 | error e=>exact XP.of O J hq
 | ok fl =>
  cases fl with
  | ret u=>exact J.after hq
  | next=>exact False.elim hq
  | brk=>exact False.elim hq
  | cont=>exact False.elim hq
noncomputable def ztx (K:PySem.W.Frag) (B C:Addr) (m:Str) (i j l:Nat) (sp:Sp) (ta:TE) (t:TA):TS:=fun D σ H=>ta σ H fun x H1=>∃ a dx fs,x = .ref a/\H1 a=some (.ins C dx fs)/\fs.lookup m=none/\t σ H1 fun vs H2=>sp (x :: vs) H2 (fun v H3=>D.nx (σ.set l (some v)) H3) (zvi K B i j D σ)
theorem zpN {pl:Sem Bool}{k:Nat}{f C:Addr}{fd:FuncData}{ps:List Str}{sp:Sp}{m:Str}{o:Expr}{ta:TE}{apos cpos ep pos:Pos}{e:Expr}{es:List Expr}{t:TA}{B:Addr}{bmB:List Value}{x n y v:Str}{i j l:Nat}{np py pn pa hp pv:Pos}
  (O:Own X) (ho:PE X.nox o ta) (c:Cls X.K C) (hm:zsP X.K C m f) (F:zi9 X.prog X.w X.K X.mg X.base (CXe X.prog X.w) k f fd ps sp) (hr:zeg k X.A) (hb:zf2 X.K fd ps []) (ha:PA X.nox (e :: es) t)
  (hN:X.N.Nodup) (hi:X.N[i]? = some n) (hj:X.N[j]? = some y) (hl:X.N[l]? = some v) (hij:i≠j) (hmB:X.mg x=some (.ref B)) (eB:zk6 X.K B bmB=true)
  (nc:∀ x,X.env.cells.lookup x=none:=by exact fun _=>rfl) (hn:X.env.scope.names.lookup n=some .local:=by rfl) (hy:X.env.scope.names.lookup y=some .local:=by rfl) (hv:X.env.scope.names.lookup v=some .local:=by rfl) (hgB:Gl X x:=by rfl) (hd:(x == ("__debug__" : Str))=false:=by decide)
  (hd2:(n == ("__debug__" : Str))=false:=by decide) (hd3:(n == ("__classdict__" : Str))=false:=by decide) (hsw:swapsWith (.Name n pn) (some (.Name y py)) pa.line X.env=pure false:=by rfl) (hs:swapsWith (.Call (.Attribute o m apos) (e :: es) [] cpos) (some (.Name v pv)) ep.line X.env=pure false:=by rfl)
  (he:starEach (e :: es) X.env=(false,eval e X.env) :: starEach es X.env:=by rfl) (hpl:(backTo cpos (starEach es X.env)).any (·.1)=false:=by rfl)
  (ht:eval (.Call (.Attribute o m apos) (e :: es) [] cpos) X.env=(do
   let ov <- eval o X.env
   standAt apos.atName
   let (f,first) <- holding [ov] (getMethod ov m pl)
   callWith cpos f first (backTo cpos (starEach (e :: es) X.env)) (backToKw cpos (keywordEach [] X.env))):=by rfl) :
  PS X (.Try [.Assign [.Name v pv] (.Call (.Attribute o m apos) (e :: es) [] cpos) ep] [.ExceptHandler (some (.Name x np)) (some n) [.Assign [.Name y py] (.Name n pn) pa] hp] [] [] pos) (ztx X.K B C m i j l sp ta t):=by
 intro pins s σ H D I h;refine wpAny_Try_except (wpAny_execs_cons (wpAny_Assign_Name (wpAny_mono (zqW O ho c hm F hr hb ha he hpl ht I h) (fun u s1 ⟨v',H1,I1,r,q⟩=>?_) fun e' s1 z=>?_) hs))
 ·exact zez I1 hN hl (.inl hv) r (fun s2 I2=>wpAny_execs_nil (wpAny_execs_nil ⟨_,H1,I2,q⟩)) (.inr hv)
 ·exact zsK O nc hN hi hj hij hn hy hgB hmB eB hd hd2 hd3 hsw (fun C H' z=>z) z
end
end L2
namespace L2
open PySem PySem.Spec PyProof.Rows
section
variable {prog:Program}{w:World}{A:Around}{E:Value->Shared->Prop}{s:Shared}
theorem zoO (t:Addr):¬ (Value.ref t == Value.none)=true:=jay
theorem zk7 {p t:Addr}{k:Nat}{its:Array Value}{x:Value}{Q:Value->Shared->Prop} (hp:s.heap.IsTupleIter p t k) (ht:s.heap.IsTuple t its) (hx:its[k]? = some x)
  (q:∀ g,g.IsTupleIter p t (k+1)->Heap.SameBut p s.heap g->Q x { s with heap:=g }):wpAny (model prog w) A (Builtin.SmallTypes.nextOf (.ref p)) Q E s:=by
 obtain⟨op,e1,e2,e3⟩:=id hp;obtain⟨ot,e4,_,nt,e5⟩:=ht;unfold Builtin.SmallTypes.nextOf;refine wpAny_bind (wpAny_callSpecial?_slot (name:=Str.ofString "__next__") hp.typeIs jbu (wpAny_call_entry jbu hp.typeIs jcM ?_ (jcG _)));show wpAny _ _ (field (.ref p) 0 >>= _) _ _ s;refine wpAny_bind (wpAny_field e1 e3 (x := .ref t) rfl ?_);show wpAny _ _ (if (Value.ref t == Value.none)=true then _ else _) _ _ s;rw[if_neg (zoO t)];show wpAny _ _ (field (.ref p) 1 >>= _) _ _ s;refine wpAny_bind (wpAny_field e1 e3 (x := .int k 0) rfl ?_);show wpAny _ _ (seqItems? (.ref t) >>= _) _ _ s;refine wpAny_bind (wpAny_seqItems e4 e5 ?_);simp only[jbf,hx];refine wpAny_bind (wpAny_setField e1 e3 (by simp) (wpAny_pure ⟨x,rfl,wpAny_pure (q _ ⟨_,Heap.get?_update_self _ e1 (Obj.isFreed_of_fields (Obj.data_mapFields e3 _)),(Obj.cls_mapFields ..).trans e2,?_⟩ (Heap.SameBut.update ..))⟩));rw[Obj.data_mapFields e3];simp[rawInt]
theorem zm6 {p t:Addr}{k:Nat}{its:Array Value}{Q:Value->Shared->Prop} (hh:A.handled=none) (hp:s.heap.IsTupleIter p t k) (ht:s.heap.IsTuple t its) (hx:its[k]? = none)
  (q:∀ g e,Heap.ExtBut p s.heap g->(∃ o,g.get? e=some o/\o.cls = .type "StopIteration")->E (.ref e) { s with heap:=g }):wpAny (model prog w) A (Builtin.SmallTypes.nextOf (.ref p)) Q E s:=by
 obtain⟨op,e1,e2,e3⟩:=id hp;obtain⟨ot,e4,_,nt,e5⟩:=ht;unfold Builtin.SmallTypes.nextOf;refine wpAny_bind (wpAny_callSpecial?_slot (name:=Str.ofString "__next__") hp.typeIs jbu (wpAny_call_entry jbu hp.typeIs jcM ?_ (jcG _)));show wpAny _ _ (field (.ref p) 0 >>= _) _ _ s;refine wpAny_bind (wpAny_field e1 e3 (x := .ref t) rfl ?_);show wpAny _ _ (if (Value.ref t == Value.none)=true then _ else _) _ _ s;rw[if_neg (zoO t)];show wpAny _ _ (field (.ref p) 1 >>= _) _ _ s;refine wpAny_bind (wpAny_field e1 e3 (x := .int k 0) rfl ?_);show wpAny _ _ (seqItems? (.ref t) >>= _) _ _ s;refine wpAny_bind (wpAny_seqItems e4 e5 ?_);simp only[jbf,hx];refine wpAny_bind (wpAny_rule (wpAny_bind (wpAny_setField e1 e3 (by simp) ?_)));show wpAny _ _ (newExc (.type "StopIteration") [] >>= _) _ _ _;refine wpAny_bind ?_;simp only[newExc,newTuple];refine wpAny_bind (wpAny_newObj_type ?_ (by size_fits));refine wpAny_bind (m:=firstArgMember _ _) (wpAny_of_eq (a:=Value.none) (by first | rfl | (simp only[firstArgMember];rfl)) ?_);refine wpAny_newObj_type ?_ (by size_fits);simp only[raiseNew];refine wpAny_bind (wpAny_handled ?_);first | rw[show A.in1.handled=none from hh] | rw[hh]
 exact wpAny_bind (wpAny_pure (wpAny_throw (q _ _ (((Heap.SameBut.update ..).extBut.push _).push _) ⟨_,jav _ rfl,rfl⟩)))
theorem zmL {z TI TO p r t l:Addr}{k:Nat}{xs ys:Array Value}{x y a b:Value}{Q:Value->Shared->Prop} (D:ZipApart z TI TO p r t l)
  (hz:IsZip s.heap z TI TO .none) (hI:IsPair s.heap TI (.ref p) (.ref r)) (hO:IsPair s.heap TO a b) (h1:s.heap.IsTupleIter p t k) (h2:s.heap.IsListIter r l k) (ht:s.heap.IsTuple t xs) (hl:s.heap.IsList l ys) (hx:xs[k]? = some x) (hy:ys[k]? = some y)
  (q:∀ g,IsZip g z TI TO (rawInt s.heap.objs.size)->IsPair g TO x y->g.IsTupleIter p t (k+1)->g.IsListIter r l (k+1)->IsPair g s.heap.objs.size x y ->
   (∀ c o,c≠z->c≠TO->c≠p->c≠r->s.heap.get? c=some o->g.get? c=some o)->Q (.ref s.heap.objs.size) { s with heap:=g }) :
  wpAny (model prog w) A (Builtin.«zip.__next__» ⟨[.ref z],[]⟩) (fun fin s'=>∃ v,fin = .done (.ret v)/\Q v s') E s:=by
 show wpAny _ _ (field (.ref z) 2 >>= _) _ _ _;refine wpAny_bind (wpAny_field hz rfl (x := .bool false) rfl ?_);show wpAny _ _ (field (.ref z) 3 >>= _) _ _ _;refine wpAny_bind (wpAny_field hz rfl (x := .ref TI) rfl (wpAny_bind (wpAny_seqItems hI rfl ?_)));show wpAny _ _ (Builtin.SmallTypes.ownedTupleIsFree (.ref z) >>= _) _ _ _;refine wpAny_bind ?_;unfold Builtin.SmallTypes.ownedTupleIsFree;refine wpAny_bind (wpAny_field hz rfl (x := .none) rfl (wpAny_pure ?_));simp only[if_true];refine wpAny_bind (wpAny_rule (wpAny_bind (wpAny_field hz rfl (x := .ref TO) rfl (wpAny_bind (wpAny_setField_rec hz (by simp) fun g1 hz1 b1=>?_)))))
 replace hz1:IsZip g1 z TI TO .ellipsis:=hz1
 refine wpAny_bind ?_;simp only[List.zipIdx_cons,List.zipIdx_nil,jcQ,List.forIn_nil];refine wpAny_bind (wpAny_bind (wpAny_onRaise ?_));show wpAny _ _ (Builtin.SmallTypes.nextOf (.ref p) >>= _) _ _ _;refine wpAny_bind (zk7 (h1.extBut b1.extBut D.i1z) (ht.extBut b1.extBut D.l1z) hx fun g2 p2 b2=>wpAny_pure ?_);have o2:IsPair g2 TO a b:=b2.extBut _ _ D.TOi1 (b1.extBut _ _ D.TOz hO);refine wpAny_bind (wpAny_seqItems o2 rfl (wpAny_bind (wpAny_updateSeq_pair o2 fun g3 o3 b3=>?_)))
 replace o3:IsPair g3 TO x b:=o3
 refine wpAny_bind (wpAny_letGo (wpAny_pure (wpAny_bind (wpAny_bind (wpAny_onRaise ?_)))));show wpAny _ _ (Builtin.SmallTypes.nextOf (.ref r) >>= _) _ _ _;refine wpAny_bind (wpAny_nextOf_list_item (((h2.extBut b1.extBut D.i2z).extBut b2.extBut D.i12.symm).extBut b3.extBut D.TOi2.symm) (((hl.extBut b1.extBut D.l2z).extBut b2.extBut D.l2i1).extBut b3.extBut D.l2TO) hy fun g4 r4 b4=>wpAny_pure ?_);have o4:IsPair g4 TO x b:=b4.extBut _ _ D.TOi2 o3;refine wpAny_bind (wpAny_seqItems o4 rfl (wpAny_bind (wpAny_updateSeq_pair o4 fun g5 o5 b5=>?_)))
 replace o5:IsPair g5 TO x y:=o5
 refine wpAny_bind (wpAny_letGo (wpAny_pure (wpAny_pure (wpAny_bind (wpAny_seqItems o5 rfl (wpAny_bind (wpAny_newTuple ?_)))))));have n5:g5.objs.size=s.heap.objs.size:=by rw[b5.1,b4.1,b3.1,b2.1,b1.1]
 have z5:IsZip g5 z TI TO .ellipsis:=b5.extBut _ _ D.TOz.symm (b4.extBut _ _ D.i2z.symm (b3.extBut _ _ D.TOz.symm (b2.extBut _ _ D.i1z.symm hz1)));have k5:∀ c o,c≠z->c≠TO->c≠p->c≠r->s.heap.get? c=some o->g5.get? c=some o:=fun c o c1 c2 c3 c4 e=>b5.extBut _ _ c2 (b4.extBut _ _ c4 (b3.extBut _ _ c2 (b2.extBut _ _ c3 (b1.extBut _ _ c1 e))))
 have p5:g5.IsTupleIter p t (k+1):=((p2.extBut b3.extBut D.TOi1.symm).extBut b4.extBut D.i12).extBut b5.extBut D.TOi1.symm;have r5:g5.IsListIter r l (k+1):=r4.extBut b5.extBut D.TOi2.symm;have lz:z<g5.objs.size:=jan z5;show wpAny _ _ (Builtin.SmallTypes.ownedTupleHandOut (.ref z) (.ref g5.objs.size) >>= _) _ _ _;refine wpAny_bind ?_;unfold Builtin.SmallTypes.ownedTupleHandOut;have z6:IsZip (g5.push { cls := .type "tuple",data := .seq #[x,y] }) z TI TO .ellipsis:=jal _ z5;refine wpAny_bind (wpAny_setField_rec z6 (by simp) fun g7 z7 b7=>?_)
 replace z7:IsZip g7 z TI TO (rawInt g5.objs.size):=z7
 refine wpAny_setField_rec z7 (by simp) fun g8 z8 b8=>?_
 replace z8:IsZip g8 z TI TO (rawInt g5.objs.size):=z8
 have up:∀ c o,c≠z->g5.get? c=some o->g8.get? c=some o:=fun c o c1 e=>b8.extBut _ _ c1 (b7.extBut _ _ c1 (jal _ e))
 have T8:IsPair g8 g5.objs.size x y:=b8.extBut _ _ (jcz lz) (b7.extBut _ _ (jcz lz) (jav _ rfl));rw[n5] at z8 T8;refine wpAny_pure ⟨_,rfl,?_⟩;show Q (.ref g5.objs.size) _;rw[n5];refine q g8 z8 (up _ _ D.TOz o5) ?_ (r5.at fun o e=>up _ o D.i2z e) T8 fun c o c1 c2 c3 c4 e=>up c o c1 (k5 c o c1 c2 c3 c4 e)
 obtain⟨o,e,rest⟩:=p5;exact⟨o,up _ o D.i1z e,rest⟩
theorem zoe {z TI TO p r t l:Addr}{k:Nat}{xs:Array Value}{a b:Value}{Q:Fin->Shared->Prop} (hh:A.handled=none) (D:ZipApart z TI TO p r t l)
  (hz:IsZip s.heap z TI TO .none) (hI:IsPair s.heap TI (.ref p) (.ref r)) (hO:IsPair s.heap TO a b) (h1:s.heap.IsTupleIter p t k) (ht:s.heap.IsTuple t xs) (hx:xs[k]? = none)
  (q:∀ g e,(∀ c o,c≠z->c≠TO->c≠p->c≠r->s.heap.get? c=some o->g.get? c=some o)->(∃ o,g.get? e=some o/\o.cls = .type "StopIteration")->E (.ref e) { s with heap:=g }) :
  wpAny (model prog w) A (Builtin.«zip.__next__» ⟨[.ref z],[]⟩) Q E s:=by
 show wpAny _ _ (field (.ref z) 2 >>= _) _ _ _;refine wpAny_bind (wpAny_field hz rfl (x := .bool false) rfl ?_);show wpAny _ _ (field (.ref z) 3 >>= _) _ _ _;refine wpAny_bind (wpAny_field hz rfl (x := .ref TI) rfl (wpAny_bind (wpAny_seqItems hI rfl ?_)));show wpAny _ _ (Builtin.SmallTypes.ownedTupleIsFree (.ref z) >>= _) _ _ _;refine wpAny_bind ?_;unfold Builtin.SmallTypes.ownedTupleIsFree;refine wpAny_bind (wpAny_field hz rfl (x := .none) rfl (wpAny_pure ?_));simp only[if_true];refine wpAny_bind (wpAny_rule (wpAny_bind (wpAny_field hz rfl (x := .ref TO) rfl (wpAny_bind (wpAny_setField_rec hz (by simp) fun g1 hz1 b1=>?_)))))
 replace hz1:IsZip g1 z TI TO .ellipsis:=hz1
 refine wpAny_bind ?_;simp only[List.zipIdx_cons,List.zipIdx_nil,jcQ,List.forIn_nil];refine wpAny_bind (wpAny_bind (wpAny_onRaise ?_));show wpAny _ _ (Builtin.SmallTypes.nextOf (.ref p) >>= _) _ _ _;refine wpAny_bind (zm6 hh (h1.extBut b1.extBut D.i1z) (ht.extBut b1.extBut D.l1z) hx fun g2 e b2 he=>?_);obtain⟨oe,e1,e2⟩:=he;have z2:IsZip g2 z TI TO .ellipsis:=b2 _ _ D.i1z.symm hz1;have ne:e≠z:=fun w=>by subst w;rw[z2] at e1;cases e1;simp at e2
 exact wpAny_setField_rec z2 (by simp) fun g3 _ b3=>q g3 e (fun c o c1 _ c3 _ w=>b3.extBut _ _ c1 (b2 _ _ c3 (b1.extBut _ _ c1 w))) ⟨oe,b3.extBut _ _ ne e1,e2⟩
noncomputable abbrev zT1 (h:Heap) (t:Addr):Heap:=h.push { cls := .type "tuple_iterator",data := .fields #[.ref t,.int 0 0] }
noncomputable abbrev zT2 (h:Heap) (t l:Addr):Heap:=(zT1 h t).push { cls := .type "list_iterator",data := .fields #[.ref l,.int 0 0] }
noncomputable abbrev zT3 (h:Heap) (t l:Addr):Heap:=(zT2 h t l).push { cls := .type "tuple",data := .seq #[.ref h.objs.size,.ref (zT1 h t).objs.size] }
noncomputable abbrev zT4 (h:Heap) (t l:Addr):Heap:=(zT3 h t l).push { cls := .type "tuple",data := .seq #[.none,.none] }
noncomputable abbrev zT5 (h:Heap) (t l:Addr):Heap:=(zT4 h t l).push { cls := .type "zip",data := .fields #[.none,.bool false,.bool false,.ref (zT2 h t l).objs.size,.ref (zT3 h t l).objs.size] }
theorem zkI (t l:Addr) (xs ys:Array Value):Meets (Builtin.«zip.__new__» ⟨[.type "zip",.ref t,.ref l],[]⟩) (fun _ R s=>s.heap.IsTuple t xs/\s.heap.IsList l ys/\R (.ok (.ret (.ref (zT4 s.heap t l).objs.size))) { s with heap:=zT5 s.heap t l }) :=
 .of_wp fun prog w A R s h=>by
  obtain⟨hp,g,d,tk,os⟩:=s;obtain⟨h1,h2,h3⟩:=h;have hsub:=sub_zip;have a1:Heap.IsTuple (Shared.heap ⟨hp,g,d,tk,os⟩) t xs:=h1;have a2:Heap.IsList (Shared.heap ⟨hp.push { cls := .type "tuple_iterator",data := .fields #[.ref t,.int 0 0] },g,d,tk,os⟩) l ys:=Heap.IsList.push h2 _
  wp_walk using wpAny_pyIter_tuple a1,wpAny_pyIter_list a2
  exact⟨_,rfl,h3⟩
theorem zmq {t l:Addr}{xs ys:Array Value}{Q:Value->Shared->Prop} (h1:s.heap.IsTuple t xs) (h2:s.heap.IsList l ys)
  (q:∀ g,IsZip g (s.heap.objs.size+4) (s.heap.objs.size+2) (s.heap.objs.size+3) .none->IsPair g (s.heap.objs.size+2) (.ref s.heap.objs.size) (.ref (s.heap.objs.size+1))->IsPair g (s.heap.objs.size+3) .none .none->g.IsTupleIter s.heap.objs.size t 0->g.IsListIter (s.heap.objs.size+1) l 0 ->
   (∀ c o,s.heap.get? c=some o->g.get? c=some o)->Q (.ref (s.heap.objs.size+4)) { s with heap:=g }):wpAny (model prog w) A (call (.type "zip") [.ref t,.ref l]) Q E s:=by
 refine callType_new F.called_zip (by decide) (F.typeCall_zip_2 _ _) (F.newCall_zip_2 _ _) (fun obj=>F.args_object_init_3 obj _ _) F.entry_zip_new (zkI t l xs ys) ⟨h1,h2,?_⟩;have n1:(zT1 s.heap t).objs.size=s.heap.objs.size+1:=jbO ..;have n2:(zT2 s.heap t l).objs.size=s.heap.objs.size+2:=by rw[jbO,n1]
 have n3:(zT3 s.heap t l).objs.size=s.heap.objs.size+3:=by rw[jbO,n2]
 have n4:(zT4 s.heap t l).objs.size=s.heap.objs.size+4:=by rw[jbO,n3]
 have u:∀ {h:Heap}{o:Obj}{c:Addr}{v:Obj},h.get? c=some v->(h.push o).get? c=some v:=fun e=>jal _ e
 have m5:(zT5 s.heap t l).get? (zT4 s.heap t l).objs.size=some _:=jav _ rfl;have m4:(zT5 s.heap t l).get? (zT3 s.heap t l).objs.size=some _:=u (jav _ rfl);have m3:(zT5 s.heap t l).get? (zT2 s.heap t l).objs.size=some _:=u (u (jav _ rfl));have m2:(zT5 s.heap t l).get? (zT1 s.heap t).objs.size=some _:=u (u (u (jav _ rfl)));have m1:(zT5 s.heap t l).get? s.heap.objs.size=some _:=u (u (u (u (jav _ rfl))));show _/\_;rw[n2,n3,n4] at m5;rw[n1,n2] at m3;rw[n3] at m4;rw[n1] at m2;rw[n4];exact⟨⟨_,m5,rfl⟩,q _ m5 m3 m4 ⟨_,m1,rfl,rfl⟩ ⟨_,m2,rfl,rfl⟩ fun c o e=>u (u (u (u (u e))))⟩
theorem ziP {z TI TO p r t l:Addr}{k:Nat}{xs ys:Array Value}{x y a b:Value}{Q:Option Value->Shared->Prop} (D:ZipApart z TI TO p r t l)
  (hz:IsZip s.heap z TI TO .none) (hI:IsPair s.heap TI (.ref p) (.ref r)) (hO:IsPair s.heap TO a b) (h1:s.heap.IsTupleIter p t k) (h2:s.heap.IsListIter r l k) (ht:s.heap.IsTuple t xs) (hl:s.heap.IsList l ys) (hx:xs[k]? = some x) (hy:ys[k]? = some y)
  (q:∀ g,IsZip g z TI TO (rawInt s.heap.objs.size)->IsPair g TO x y->g.IsTupleIter p t (k+1)->g.IsListIter r l (k+1)->IsPair g s.heap.objs.size x y ->
   (∀ c o,c≠z->c≠TO->c≠p->c≠r->s.heap.get? c=some o->g.get? c=some o)->Q (some (.ref s.heap.objs.size)) { s with heap:=g }):wpAny (model prog w) A (pyNext (.ref z)) Q E s:=by
 have hT:s.TypeIs (.ref z) "zip" := ⟨_,hz,rfl⟩;unfold pyNext;exact wpAny_bind (wpAny_attempt (wpAny_callSpecial?_slot (name:=Str.ofString "__next__") hT jcP (wpAny_call_entry jcP hT F.entry_zip_next
   (zmL D hz hI hO h1 h2 ht hl hx hy fun g a1 a2 a3 a4 a5 a6=>wpAny_pure (q g a1 a2 a3 a4 a5 a6)) (F.args_zip_next_1 _))))
theorem zja {z TI TO p r t l:Addr}{k:Nat}{xs:Array Value}{a b:Value}{Q:Option Value->Shared->Prop} (hh:A.handled=none) (D:ZipApart z TI TO p r t l)
  (hz:IsZip s.heap z TI TO .none) (hI:IsPair s.heap TI (.ref p) (.ref r)) (hO:IsPair s.heap TO a b) (h1:s.heap.IsTupleIter p t k) (ht:s.heap.IsTuple t xs) (hx:xs[k]? = none)
  (q:∀ g,(∀ c o,c≠z->c≠TO->c≠p->c≠r->s.heap.get? c=some o->g.get? c=some o)->Q none { s with heap:=g }):wpAny (model prog w) A (pyNext (.ref z)) Q E s:=by
 have hT:s.TypeIs (.ref z) "zip" := ⟨_,hz,rfl⟩;unfold pyNext;refine wpAny_bind (wpAny_attempt (wpAny_callSpecial?_slot (name:=Str.ofString "__next__") hT jcP (wpAny_call_entry jcP hT F.entry_zip_next (zoe hh D hz hI hO h1 ht hx fun g e hk he=>?_) (F.args_zip_next_1 _))));obtain⟨o,ho,hc⟩:=he;exact wpAny_bind (wpAny_isInstance (T := "StopIteration") (b:=true) ⟨o,ho,hc⟩ isSubtype_stop (wpAny_pure (q _ hk)))
end
noncomputable def zsO (K:PySem.W.Frag) (a b:Addr):It :=
 ⟨fun i H=>∃ xs ys x y,SqT K H a xs/\SqL K H b ys/\xs[i]? = some x/\ys[i]? = some y,fun i H v H'=>∃ T x y,H T=none/\v = .ref T/\H'=upd H T (.tup [x,y])/\(∀ xs,SqT K H a xs->xs[i]? = some x)/\∀ ys,SqL K H b ys->ys[i]? = some y,
  fun i H=>∃ xs,SqT K H a xs/\xs.length<=i⟩
theorem zlh {P:Program}{w:World}{K:PySem.W.Frag}{elts:List Expr}{x1:Nat}{pos:Pos} (a b z TI TO i1 i2:Addr) (D:ZipApart z TI TO i1 i2 a b) :
  znc P w K (.Tuple elts x1 pos) (zsO K a b) [z,TI,TO,i1,i2] z (fun i h=>IsZip h z TI TO .none/\IsPair h TI (.ref i1) (.ref i2)/\(∃ u v,IsPair h TO u v)/\h.IsTupleIter i1 a i/\h.IsListIter i2 b i) where
 mem:=by simp
 obj:=fun i h st c hc=>by
  obtain⟨hz,hTI,⟨u,v,hTO⟩,⟨o1,e1,c1,d1⟩,⟨o2,e2,c2,d2⟩⟩:=st;simp only[jaj,ja7,or_false] at hc;rcases hc with rfl | rfl | rfl | rfl | rfl
  ·exact⟨_,hz,fun v z=>by cases z⟩
  ·exact⟨_,hTI,fun v z=>by cases z⟩
  ·exact⟨_,hTO,fun v z=>by cases z⟩
  ·exact⟨o1,e1,fun v z=>by rw[d1] at z;cases z⟩
  ·exact⟨o2,e2,fun v z=>by rw[d2] at z;cases z⟩
 keep:=fun i h h' st k=>by
  obtain⟨hz,hTI,⟨u,v,hTO⟩,h1,h2⟩:=st;exact⟨k z (by simp) _ hz,k TI (by simp) _ hTI,⟨u,v,k TO (by simp) _ hTO⟩,h1.at fun o q=>k i1 (by simp) o q,h2.at fun o q=>k i2 (by simp) o q⟩
 item:=by
  intro X hP hw hK hc i pins s σ H E I hf st hg;subst hP hw hK;obtain⟨hz,hTI,⟨u,v,hTO⟩,h1,h2⟩:=st;obtain⟨xs,ys,x,y,hq,hq',hx,hy⟩:=hg;obtain⟨its,rv,p,hsz⟩:=I.tuple hq;obtain⟨its',rv',p',hsz'⟩:=I.list hq';obtain⟨ux,hu,ru⟩:=rv.get hx;obtain⟨uy,hu',ru'⟩:=rv'.get hy;refine ziP D hz hTI hTO h1 h2 (show s.heap.IsTuple a its.toArray from p) p'.isList (x:=ux) (y:=uy) (by simpa using hu) (by simpa using hu') fun h1' hz1 hTO1 hi1 hi2 hT k1=>⟨_,rfl,?_⟩
  refine wpAny_letOwnedTupleGo_zip hz1 fun h2' hz2 sb=>?_
  have lz:z<s.heap.objs.size:=jan hz;have hTz:s.heap.objs.size≠z:=jcz lz;have kk:∀ c o,c ∉ [z,TI,TO,i1,i2]->s.heap.get? c=some o->h2'.get? c=some o:=fun c o hc q=>by
   simp only[jaj,ja7,or_false,not_or] at hc;exact (sb.2 c hc.1).trans (k1 c o hc.1 hc.2.2.1 hc.2.2.2.1 hc.2.2.2.2 q)
  have hT2:IsPair h2' s.heap.objs.size ux uy:=(sb.2 _ hTz).trans hT;have hTI2:IsPair h2' TI (.ref i1) (.ref i2):=(sb.2 _ D.TIz).trans (k1 _ _ D.TIz D.TITO D.TIi1 D.TIi2 hTI);refine⟨.ref s.heap.objs.size,upd H s.heap.objs.size (.tup [x,y]),I.turnedL (t':=s.toks) _ kk hf (jag _) ⟨by show 2<=sizeLine;decide,[ux,uy],.cons ru (.cons ru' .nil),?_⟩,rfl,⟨_,x,y,I.hok.fresh (jag _),rfl,rfl,fun zs h=>by rw[I.tuple_inj h hq];exact hx,fun zs h=>by rw[I.list_inj h hq'];exact hy⟩,⟨hz2,hTI2,⟨ux,uy,(sb.2 _ D.TOz).trans hTO1⟩,?_,?_⟩,fun c hc=>?_⟩
  ·exact⟨_,hT2,rfl,0,rfl⟩
  ·exact hi1.at fun o q=>(sb.2 _ D.i1z).trans q
  ·exact hi2.at fun o q=>(sb.2 _ D.i2z).trans q
  ·have hcl:c<s.heap.objs.size:=by
    simp only[jaj,ja7,or_false] at hc;rcases hc with rfl | rfl | rfl | rfl | rfl
    ·exact lz
    ·exact jan hTI
    ·exact jan hTO
    ·obtain⟨o,q,_⟩:=h1;exact jan q
    ·obtain⟨o,q,_⟩:=h2;exact jan q
   rw[zan (jaU hcl)];exact (hf c hc).1
 done:=by
  intro X hP hw hK hc i pins s σ H E I hf st hg;subst hP hw hK;obtain⟨hz,hTI,⟨u,v,hTO⟩,h1,h2⟩:=st;obtain⟨xs,hq,hx⟩:=hg;obtain⟨its,rv,p,hsz⟩:=I.tuple hq;have hl:=rv.length;refine zja (I.ok.hd hc) D hz hTI hTO h1 (show s.heap.IsTuple a its.toArray from p) (by simp;omega) fun h' kk=>⟨rfl,I.turnedN (t':=s.toks) [z,TI,TO,i1,i2] (fun c o hc q=>?_) hf⟩
  simp only[jaj,ja7,or_false,not_or] at hc;exact kk c o hc.1 hc.2.2.1 hc.2.2.2.1 hc.2.2.2.2 q
 self:=fun _ _ _ _ _ st h=>wpAny_pyIter_zip st.1 h
noncomputable def ztr (K:PySem.W.Frag) (ta:TA):TI:=fun σ H R=>ta σ H fun vs H1=>∃ a b,vs=[.ref a,.ref b]/\(∃ xs,SqT K H1 a xs)/\(∃ ys,SqL K H1 b ys)/\R (zsO K a b) H1
theorem zqt {X:Cx}{elts:List Expr}{x1:Nat}{p0 p pos:Pos}{a b:Expr}{ta:TA} (hg:Gl X "zip") (hm:X.mg "zip" = none) (ha:PA X [a,b] ta) (hs:starEach [a,b] X.env=(false,eval a X.env) :: starEach [b] X.env:=by rfl) (hs2:(backTo pos (starEach [b] X.env)).any (·.1)=false:=by rfl) :
  PI X (.Tuple elts x1 p0) (.Call (.Name "zip" p) [a,b] [] pos) (ztr X.K ta):=by
 intro pins s σ H R I h;refine Call_ (zfm I hg hm zj9 (jba (thn (ha pos pins s σ H _ I h) fun us s1 ⟨vs,H1,I1,r1,q1⟩=>?_) hs hs2));obtain⟨l1,l2,rfl,⟨xs,hq⟩,⟨ys,hq'⟩,q⟩:=q1;obtain⟨u,v,rfl,ru,rv⟩:=zoF r1;cases (show u=Value.ref l1 from ru);cases (show v=Value.ref l2 from rv);obtain⟨its,rx,p,hz⟩:=I1.tuple hq;obtain⟨its',rx',p',hz'⟩:=I1.list hq';have n1:l1<s1.heap.objs.size:=by obtain⟨o,q,_⟩:=p;exact jan q
 have n2:l2<s1.heap.objs.size:=by obtain⟨o,q,_⟩:=p'.isList;exact jan q
 refine zmq (show s1.heap.IsTuple l1 its.toArray from p) p'.isList fun h' hz hTI hTO h1 h2 k=>wpAny_pyIter_zip hz ?_
 have I2:Inv X pins σ H1 { s1 with heap:=h' }:=I1.kept (t':=s1.toks) k;refine⟨_,_,_,_,H1,rfl,I2,zlh l1 l2 _ _ _ _ _ (zipApart_new n1 n2),⟨hz,hTI,⟨_,_,hTO⟩,h1,h2⟩,fun c hc=>?_,q⟩;have fr:∀ c,s1.heap.objs.size<=c->zi0 X pins H1 c:=fun c hc=>I1.fpOk hc (I1.hok.fresh hc)
 simp only[jaj,ja7,or_false] at hc;rcases hc with rfl | rfl | rfl | rfl | rfl <;> exact fr _ (by omega)
theorem zm7 {K:PySem.W.Frag}{a b:Addr}{xs ys:List V}{g:TG}{tc:TT}{te:TE} {σ:St}{H:Hp}{R:List V->Hp->Addr->Prop} (hxy:xs.length=ys.length) (Pv:Nat->List V->St->Hp->Prop) (h0:Pv 0 [] σ H)
  (hl:∀ i zs σ H,i<=xs.length->Pv i zs σ H->SqT K H a xs/\SqL K H b ys/\zs.length<=i) (hz:xs.length<=sizeLine)
  (hs:∀ i x y zs σ H T,xs[i]? = some x->ys[i]? = some y->Pv i zs σ H->H T=none->g (.ref T) σ (upd H T (.tup [x,y])) fun σ2 H2=>tc σ2 H2 fun b H3=>if b=true then te σ2 H3 fun y H4=>Pv (i+1) (zs ++ [y]) σ2 H4 else Pv (i+1) zs σ2 H3)
  (hd:∀ zs σ H,Pv xs.length zs σ H->∀ D,H D=none->R zs H D) :
  ∃ W:Nat->Nat->List V->St->Hp->Prop,(∃ m,W 0 m [] σ H)/\∀ i m zs σ H,W i m zs σ H ->
   ((zsO K a b).stop i H/\∀ D,H D=none->R zs H D) \/
   ((zsO K a b).go i H/\zs.length<sizeLine/\∃ N:List V->St->Hp->Prop,(∀ zs' σ' H',N zs' σ' H'->∃ m',m'<m/\W (i+1) m' zs' σ' H') /\
    ∀ x H',(zsO K a b).yld i H x H'->g x σ H' fun σ2 H2=>tc σ2 H2 fun b H3=>if b=true then te σ2 H3 fun y H4=>N (zs ++ [y]) σ2 H4 else N zs σ2 H3):=by
 refine⟨fun i m zs σ H=>m=xs.length-i/\i<=xs.length/\Pv i zs σ H,⟨xs.length,by simp,jaE _,h0⟩,?_⟩;rintro i m zs σ H ⟨rfl,hi,p⟩;obtain⟨q1,q2,q3⟩:=hl i zs σ H hi p;by_cases hlt:i<xs.length
 ·have hlt':i<ys.length:=by omega
  refine .inr ⟨⟨xs,ys,xs[i],ys[i],q1,q2,by simp[hlt],by simp[hlt']⟩,(by omega),Pv (i+1),fun ys' σ' H' p'=>⟨xs.length-(i+1),by omega,rfl,hlt,p'⟩,fun x H' y=>?_⟩;obtain⟨T,u,v,hT,rfl,rfl,y1,y2⟩:=y;exact hs i u v zs σ _ T (y1 xs q1) (y2 ys q2) p hT
 ·have e:i=xs.length:=by omega
  subst e;exact .inl ⟨⟨xs,q1,jag _⟩,hd zs σ H p⟩
end L2
namespace L2
open PySem PySem.Spec PyProof.Rows
section
variable {X:Cx}
noncomputable def zrB (m:Int) (ns:List Int):Prop:=m∈ns/\∀ n∈ns,n<=m
theorem zqN {us:List Value}{ns:List Int}{xs:Array (Int × Tok)}{v:Value} (hi:IntsAre us ns) (hzs:us.toArray=intItems xs) (hne:0<xs.size) (hP:(intItems xs)[argBest (fun i j=>decide (numAt xs i > numAt xs j)) (xs.size-1)]? = some v) :
  ∃ m t,v = .int m t/\zrB m ns:=by
 obtain⟨t,rfl⟩:=intItems_at hP;refine⟨_,t,rfl,?_,fun n hn=>?_⟩
 all_goals
  have hs:xs.toList.map (·.1)=ns:=by
   rw[<- nums_intItems,<- hzs];exact (show numsOf us.toArray.toList=ns from hi.numsOf)
  obtain⟨b1,b2⟩:=argBest_gt (numAt xs) (xs.size-1);have hat:∀ j,j<xs.size->ns[j]? = some (numAt xs j):=fun j hj=>by
   rw[<- hs,jaC];unfold numAt;rw[jcv,jc1 hj];rfl
 ·exact jao (hat _ (by omega))
 ·obtain⟨j,hj⟩:=List.getElem?_of_mem hn;have hjl:j<xs.size:=by
   have:=(jam.mp hj).1
   rw[<- hs,jaa,jbJ] at this;exact this
  rw[hat j hjl] at hj;cases hj;exact b2 j (by omega)
theorem zlx (hc:X.calm=true):zet X (.builtin "max") (fun xs H Q=>∃ (a:Addr) (ns:List Int),xs=[.ref a]/\SqL X.K H a (ns.map V.int)/\0<ns.length/\∀ m,zrB m ns->Q (.int m) H):=by
 intro pins s σ H xs us Q I r h;obtain⟨a,ns,rfl,hq,hne,q⟩:=h;obtain⟨u,rfl,ru⟩:=zeX r;cases (show u=Value.ref a from ru);obtain⟨its,rv,p,hz⟩:=I.list hq;have hi:=ze3 rv;obtain⟨zs,hzs⟩:=hi.allInts.items;have hsz:0<zs.size:=by
  have h1:=rv.length;rw[jaa] at h1;have h2:its.toArray.size=zs.size:=by rw[hzs];simp[intItems]
  rw[jai] at h2;omega
 refine max_intList (I.ok.hd hc) (hzs ▸ p.isList) hsz fun v h' tk hP hk=>?_
 obtain⟨m,t,rfl,hm⟩:=zqN hi hzs hsz hP;exact⟨.int m,H,I.kept (t':=tk) hk,⟨t,rfl⟩,q m hm⟩
end
end L2
namespace L2
open PySem PySem.Spec PyProof.Rows
section
variable {X:Cx}
noncomputable def ztE (i j:Int):Prop:=0<=j/\(Builtin.Int.intBits i:Int) * j<=2^27
theorem zp9:OpR X (binaryOp .Pow) (rI ztE fun i j=>.int (i^j.toNat)):=opI fun _ _ _ _ _ _ _ hc q=>pow_int hc.1 hc.2 q
theorem zlV (hc:X.calm=true):zet X (.builtin "any") (fun xs H Q=>∃ (a:Addr) (bs:List Bool),xs=[.ref a]/\SqL X.K H a (bs.map V.bl)/\Q (.bl (bs.any id)) H):=by
 intro pins s σ H xs us Q I r h;obtain⟨a,bs,rfl,hq,q⟩:=h;obtain⟨u,rfl,ru⟩:=zeX r;cases (show u=Value.ref a from ru);obtain⟨its,rv,p,hz⟩:=I.list hq;have hl:=p.isList;have hlt:a<s.heap.objs.size:=by obtain⟨_,e,_⟩:=hl;exact jan e
 refine call_any_walk (wpAny_pyIter_list hl ?_);refine⟨s.heap.objs.size,[s.heap.objs.size,a],[s.heap.objs.size],its.toArray.size,_,_,fun i=>(bs[i]?).getD false,rfl,Walks.list (A:=X.A.in1) (I.ok.hd hc) _ a (jaU hlt) its.toArray,
  ⟨⟨_,jav _ rfl,rfl,rfl⟩,hl.push _⟩,fun i v s' Q' E' hP hQ=>?_,fun h' tk hk=>?_⟩
 ·obtain⟨b,e,rfl⟩:=zgf rv i v (by simpa using hP);simp only[e,jcB] at hQ;exact wpAny_truthy_bool hQ
 ·have e:((List.range its.toArray.size).any fun i=>(bs[i]?).getD false)=bs.any id:=by
   have h1:=rv.length;rw[jaa] at h1;rw[jai,<- h1,jbG,jb6,jb6];constructor
   ·rintro⟨i,hi,z⟩;have hi':=jbA.mp hi;simp only[jar hi',jcB] at z;exact⟨_,jbl hi',z⟩
   ·rintro⟨b,hb,z⟩;obtain⟨i,hi,rfl⟩:=List.getElem_of_mem hb;exact⟨i,jbA.mpr hi,by simpa [jar hi] using z⟩
  rw[e];refine⟨.bl (bs.any id),H,I.kept (t':=tk) (fun b o e=>hk b o (fun hm=>?_) (jal _ e)),rfl,q⟩;rw[jad.mp hm] at e;exact jbw _ (jan e)
theorem zlp:MtM X "list.index" (fun x vs H Q=>∃ (l:Addr) (xs:List V) (y:V) (j:Nat),x = .ref l/\vs=[y]/\H l=some (.lst xs)/\zfZ y=true/\xs.all zfZ=true/\(∃ z,xs[j]? = some z/\eqV z y=true)/\(∀ m z,m<j->xs[m]? = some z->eqV z y=false)/\Q (.int (j:Int)) H):=by
 intro pins s σ H x vs v us Q I rx rv h;obtain⟨l,xs,y,j,rfl,rfl,hH,fy,fs,⟨z,hz,ez⟩,hno,q⟩:=h;cases rx;obtain⟨u,rfl,ru⟩:=rv.one;obtain⟨sz,its,n,r,e⟩:=(show zbJ X.prog X.w H s.heap l (.lst xs) from I.hok l _ hH);have hn:=r.length;have hj:j<xs.length:=(jam.mp hz).1;have at_:∀ m (hm:m<its.length) w,xs[m]? = some w->eqU y its[m]=eqV w y:=fun m hm w hw=>by
  obtain⟨u',hu',ru'⟩:=r.get hw
  have:its[m]=u':=by
   have:=jar hm
   rw[hu'] at this;exact (jaD this).symm
  rw[this];exact zln ru' (jaX.mp fs w (jao hw))
 have hjl:(j:Int)<2^63-1:=by
  have:j<sizeLine:=jas hj sz
  have h2:(sizeLine:Nat)<2^62:=by decide
  omega
 refine call_meets F.slot_list_index ⟨_,e,rfl⟩ F.entry_list_index (F.args_list_index_2 _ _)
  (SeqAt.list_indexAt l its.toArray n none #[] u (eqU y) j (by rw[jai];omega) hjl ?_ ?_) ⟨e,fun w hw=>zfC ru fy r fs w (by simpa using hw),⟨.int _,H,I.tok _,⟨_,rfl⟩,q⟩⟩
 ·show eqU y its[j]=true;rw[at_ j (by omega) z hz];exact ez
 ·intro m hm hlt;have hm':m<xs.length:=by omega
  show eqU y its[m]=false;rw[at_ m (by omega) _ (jar hm')];exact hno m _ hlt (jar hm')
end
end L2
namespace My
open PySem L2 OF
noncomputable def SMA:List Nat:=[97,98,99,100,101,102,103,104,105,106,107,108,109,110,111,112,113,114,115,116,117,118,119,120,121,122]
theorem zlP:("abcdefghijklmnopqrstuvwxyz" : Str)=S SMA:=by decide +kernel
theorem zrr:∀ c:Nat,c<128->(!(Builtin.Str.occurrences (S SMA) (S [c]) 0 (S SMA).length 1).isEmpty)=decide (97<=c/\c<123):=by decide +kernel
theorem zqX:∀ c:Nat,c<128->(!(Builtin.Str.occurrences (S FIG) (S [c]) 0 (S FIG).length 1).isEmpty)=decide (48<=c/\c<58):=by decide +kernel
noncomputable def zb3 (w:List Nat):Bool:=decide (1<=w.length) && (decide (w.length<=8) && w.all fun c=>decide (97<=c/\c<123))
noncomputable def ziE (w:List Nat):Bool:=if w.head? = some 48 then decide (w=[48]) else decide (1<=w.length) && (decide (w.length<=18) && w.all fun c=>decide (48<=c/\c<58))
inductive Kd where
 | name | letter | bit | number | divisor
noncomputable def Kd.s:Kd->Str
 | .name => "name" | .letter => "letter" | .bit => "bit" | .number => "number" | .divisor => "divisor"
noncomputable def zfP:Kd->List Nat->Bool
 | .name,w=>zb3 w
 | .letter,w=>decide (w.length=1) && w.all fun c=>decide (97<=c/\c<113)
 | .bit,w=>decide (w=[48]) || decide (w=[49])
 | .number,w=>ziE w
 | .divisor,w=>ziE w && !decide (w=[48])
noncomputable def thV:Kd->List Nat->V
 | .name,w=>.str (S w)
 | .letter,w=>.int (Txt.find (S LET) (S w))
 | _,w=>.int ((NumText.digitsVal w:Nat):Int)
noncomputable def zdq (ks:List Kd) (ws:List (List Nat)):Option (List V) :=
 if ks.length=ws.length/\(ks.zip ws).all (fun p=>zfP p.1 p.2)=true then some ((ks.zip ws).map fun p=>thV p.1 p.2) else none
noncomputable def ksR (ks:Option (List Kd)) (ws:List (List Nat)):Option (List V):=match ks with | none=>none | some l=>zdq l ws
noncomputable def ztn (K:PySem.W.Frag) (kv:V):Option (List Kd)->Prop
 | none=>kv = .non
 | some l=>∃ a,kv = .ref a/\l.length<=100/\∀ G:Hp,SqT K G a (l.map fun k=>V.str k.s)
noncomputable def DkR (K:PySem.W.Frag) (p:Str × Addr) (q:Str × List Kd):Prop:=p.1=q.1/\q.2.length<=100/\∀ G:Hp,SqT K G p.2 (q.2.map fun k=>V.str k.s)
noncomputable def zb2 (t:List (Str × List Kd)) (w:List Nat):Option (List Kd):=(t.find? fun p=>decide (p.1=S w)).map (·.2)
noncomputable def zoL:List (Str × List Kd):=[("show",[.name]),("worth",[.name,.number]),("alike",[.name,.name]),("rest",[.name,.name,.divisor]),("least",[.name]),("ways",[.name]),("unknowns",[.name])]
noncomputable def zdx:List (Str × List Kd):=[("plus",[.name,.name]),("less",[.name,.name]),("times",[.name,.name]),("fixed",[.name,.letter,.bit]),("put",[.name,.letter,.name])]
theorem zlJ {K:PySem.W.Frag}{kvs:List (Str × Addr)}{t:List (Str × List Kd)} (h:Paired (DkR K) kvs t) (w:List Nat) :
  (∃ b l,atK kvs (S w)=some b/\zb2 t w=some l/\ztn K (.ref b) (some l))\/(atK kvs (S w)=none/\zb2 t w=none):=by
 induction h with
 | nil=>exact .inr ⟨rfl,rfl⟩
 | @cons p r ps rs hpr _ ih =>
  obtain⟨e,e1,e2⟩:=hpr;unfold atK zb2;rw[jaw,jaw,<- e];by_cases z:p.1=S w
  ·rw[decide_eq_true z];exact .inl ⟨_,_,rfl,rfl,_,rfl,e1,e2⟩
  ·rw[decide_eq_false z];exact ih
noncomputable def onV:Option (List Nat)->V
 | none=>.non
 | some n=>.str (S n)
noncomputable def ze8 (n sg t:List Nat):Option (Option (List Nat) × List Nat × List V) :=
 if sg=[61]/\(zb2 zdx ((zau t).headD [])).isSome=true then (ksR (zb2 zdx ((zau t).headD [])) (zau t).tail).map fun vs=>(some n,(zau t).headD [],vs) else some (some n,sg,[.str (S t)])
noncomputable def zcp (l:List Nat):Option (Option (List Nat) × List Nat × List V) :=
 if 2<(zau l).length/\((zau l).getD 1 []=[61]\/(zau l).getD 1 []=[58,61])/\zb3 ((zau l).headD [])=true then ze8 ((zau l).headD []) ((zau l).getD 1 []) (l.drop (((zau l).headD []).length+((zau l).getD 1 []).length+2))
 else (ksR (zb2 zoL ((zau l).headD [])) (zau l).tail).map fun vs=>(none,(zau l).headD [],vs)
end My
namespace My
open PySem L2 OF
noncomputable def K5 (ls:List Nat) (l:zag):Prop:=∀ t∈l,0<=t.1/\∀ j,t.1.toNat.testBit j=true->j∈ls
noncomputable def zgF (l:zag):Prop:=∃ ls:List Nat,ls.length<=5/\K5 ls l
theorem K5.app {ls:List Nat}{a b:zag} (h:K5 ls a) (k:K5 ls b):K5 ls (a++b):=fun t ht=>(jah.mp ht).elim (h t) (k t)
theorem K5.sub {ls:List Nat}{a b:zag} (h:K5 ls b) (k:∀ t∈a,t.1∈b.map (·.1)):K5 ls a:=fun t ht=>by
 obtain⟨u,hu,e⟩:=jau.mp (k t ht);rw[<- e];exact h u hu
theorem K5.of {ls:List Nat}{f l:zag} (h:K5 ls l) (k:zax f l):K5 ls f:=h.sub k.src
theorem K5.map {ls:List Nat}{l:zag} (h:K5 ls l) (g:Int × Int->Int):K5 ls (l.map fun t=>(t.1,g t)):=fun t ht=>by
 obtain⟨u,hu,rfl⟩:=jau.mp ht;exact h u hu
theorem K5.prod {ls:List Nat}{a b:zag} (h:K5 ls a) (k:K5 ls b):K5 ls (zaV a b):=fun x hx=>by
 obtain⟨t,ht,u,hu,rfl⟩:=zif hx;obtain⟨t0,t1⟩:=h t ht;obtain⟨u0,u1⟩:=k u hu;obtain⟨m,hm⟩:=jbI t0;obtain⟨n,hn⟩:=jbI u0;rw[hm] at t1;rw[hn] at u1;have e:Builtin.bitOr t.1 u.1=((m ||| n:Nat):Int):=by rw[hm,hn];exact zfV _ _
 refine⟨by show 0<=Builtin.bitOr t.1 u.1;rw[e];exact jaM _,fun j hj=>?_⟩;have hj':(m ||| n).testBit j=true:=by
  have:(Builtin.bitOr t.1 u.1).toNat=m ||| n:=by rw[e];rfl
  rw[<- this];exact hj
 rw[jbN,jdq] at hj';exact hj'.elim (t1 j) (u1 j)
theorem K5.out {ls:List Nat}{l:zag} (h:K5 ls l) (k:Nat):K5 ls (zjh k l):=fun t ht=>h t (zhC ht).1
theorem K5.off {ls:List Nat}{l:zag} (h:K5 ls l) (k:Nat):K5 ls (zgS k l):=fun t ht=>by
 obtain⟨t0,u,hu,_,e,hb⟩:=zdD (fun t ht=>(h t ht).1) ht;refine⟨t0,fun j hj=>(h u hu).2 j ?_⟩;obtain⟨m,hm⟩:=jbI (h u hu).1;have hb':m.testBit k=true:=by
  have:u.1.toNat=m:=by rw[hm];rfl
  unfold zgU at hb;rw[this] at hb;exact hb
 have hle:2^k<=m:=jbz hb';have et:t.1.toNat=m-2^k:=by
  rw[e,hm]
  have:((2:Int)^k)=((2^k:Nat):Int):=by norm_cast
  rw[this];omega
 rw[et] at hj;rw[hm];show m.testBit j=true;have hx:m-2^k=zs6 m k false:=by unfold zs6;rw[if_neg (by decide),if_pos hb']
 rw[hx,znv] at hj;by_cases hjk:j=k
 ·rw[hjk];exact hb'
 ·rw[if_neg hjk] at hj;exact hj
theorem K5.fix {ls:List Nat}{l:zag} (h:K5 ls l) (k:Nat) (b:Int):K5 ls (zlc k b l):=by
 unfold zlc;split
 ·rw[jaZ];exact h.out k
 ·exact (h.out k).app (h.off k)
theorem K5.put {ls:List Nat}{l o:zag} (h:K5 ls l) (h':K5 ls o) (k:Nat):K5 ls (znx k o l):=(h.out k).app ((h.off k).prod h')
theorem K5.keys {ls:List Nat}{ks:List Int} (hn:ks.Nodup) (h:∀ k∈ks,0<=k/\∀ j,k.toNat.testBit j=true->j∈ls):ks.length<=2^ls.length:=by
 have:=zjy ls (ks.map Int.toNat) (jc4 _ (fun x y hxy=>hxy) ((jch.mpr fun {a b} hab=>?_))) fun k hk j hj=>?_
 ·rw[jaa] at this;exact this
 ·have ha:=h a (hab.subset (by simp));have hb:=h b (hab.subset (by simp));have hne:=(jch.mp hn) hab;exact fun z=>hne (by have:=ha.1;have:=hb.1;omega)
 ·obtain⟨x,hx,rfl⟩:=jau.mp hk;exact (h x hx).2 j hj
theorem zf8 {d l:zag} (h:DictOf d l) (hf:zgF l):d.length<64:=by
 obtain⟨ls,h5,k⟩:=hf
 have:=K5.keys (ls:=ls) h.nd fun x hx=>by
  obtain⟨t,ht,rfl⟩:=jau.mp (h.src x hx);exact k t ht
 rw[jaa] at this;exact jbj (jak this (jaH (by decide:2 > 0) h5:2^ls.length<=2^5)) (by decide)
theorem K5.len {ls:List Nat}{f:zag} (hF:IsForm f) (k:K5 ls f) (h5:ls.length<=5):f.length<=32:=by
 have hn:(f.map (·.1)).Nodup:=jc4 _ (fun a b h=>Int.ne_of_lt h) hF.rise
 have:=K5.keys (ls:=ls) hn fun x hx=>by
  obtain⟨t,ht,rfl⟩:=jau.mp hx;exact k t ht
 rw[jaa] at this;exact jak this (jaH (by decide:2 > 0) h5:2^ls.length<=2^5)
theorem zqU {a b:zag} (h:zgF (a++b)):zgF b:=let ⟨ls,h5,k⟩:=h; ⟨ls,h5,fun t ht=>k t (jaA _ ht)⟩
theorem zj6 {a b:zag} (h:zgF b) (k:∀ t∈a,t.1∈b.map (·.1)):zgF a:=let ⟨ls,h5,z⟩:=h; ⟨ls,h5,z.sub k⟩
theorem zoo {l:zag} (h:zgF l) (g:Int × Int->Int):zgF (l.map fun t=>(t.1,g t)):=let ⟨ls,h5,k⟩:=h; ⟨ls,h5,k.map g⟩
noncomputable def zm3 (K:PySem.W.Frag):Sp:=fun vs H Q _=>∃ (a:Addr) (l:zag),vs=[.ref a]/\TL K H a l/\l.length<=100000/\zgF l /\
 ∀ (b:Addr) (f:zag) (H':Hp),H b=none->TLo H' b f->zax f l->f.length<=l.length->zai H H'->Q (.ref b) H'
noncomputable def Sm.ln:Sm->Nat
 | .bit _=>1
 | .fix _=>1
 | .no s=>Sm.ln s+1
 | .two _ s t=>Sm.ln s+Sm.ln t
theorem Sm.ln_pre:∀ {s p:Sm},p∈s.pre->p.ln<=s.ln
 | .bit k,p,hp=>by rw[jad.mp hp];exact jag _
 | .fix b,p,hp=>by rw[jad.mp hp];exact jag _
 | .no s,p,hp=>by
  rcases jaj.mp hp with rfl | z
  ·exact jag _
  ·exact Nat.le_succ_of_le (Sm.ln_pre (s:=s) z)
 | .two w s t,p,hp=>by
  rcases jaj.mp hp with rfl | z
  ·exact jag _
  ·show _<=s.ln+t.ln;rcases jah.mp z with z | z
   ·have:=Sm.ln_pre (s:=t) z;omega
   ·have:=Sm.ln_pre (s:=s) z;omega
theorem zcZ:∀ s:Sm,zd4 s+1<=2 * s.ln
 | .bit _=>jag _
 | .fix _=>jag _
 | .no s=>by have:=zcZ s;show zd4 s+1+1<=2 * (s.ln+1);omega
 | .two _ s t=>by have:=zcZ s;have:=zcZ t;show zd4 s+zd4 t+1+1<=2 * (s.ln+t.ln);omega
theorem zvS {a c n x y:Nat} (hx:x<2^a) (hy:y<2^c) (h5:a+c<=5) (hx2:x<=2^n) (hy2:y<=2^n):x * y<=(n+1) * 2^n:=by
 match n,hx2,hy2 with
 | 0,h,k=>exact jaS h k
 | 1,h,k=>exact jaS h k
 | 2,h,k =>
  by_cases z:x<=3
  ·exact jaS z k
  ·have ha:2<a:=by
    rcases jcu 2 a with y | y
    ·exact y
    ·have:=jaH (show 2 > 0 by decide) y;omega
   have hc:=jaH (show 2 > 0 by decide) (show c<=2 by omega);rw[Nat.mul_comm];exact jaS (show y<=3 by omega) h
 | n+3,_,_ =>
  have h1:x * y<=2^a * 2^c:=jaS (jaB hx) (jaB hy);rw[<- Nat.pow_add] at h1;have h2:=jaH (show 2 > 0 by decide) h5;have h3:4 * 2^3<=(n+3+1) * 2^(n+3):=jaS (by omega) (jaH (by decide) (by omega));exact jak h1 (jak h2 h3)
theorem zpB {a c x y m:Nat} (hx:x<2^a) (hy:y<2^c) (hm:m<=x+y+x * y):m<2^(a+c):=by
 have h:(x+1) * (y+1)<=2^a * 2^c:=jaS hx hy;rw[<- Nat.pow_add,Nat.add_mul,Nat.mul_add] at h;omega
theorem zax.cnt {f l:zag} (h:zax f l):f.length<=l.length:=by
 have:=zbr (zhf h.toIsForm) (B:=l.map (·.1)) fun x hx=>by
  obtain⟨t,ht,rfl⟩:=jau.mp hx;exact h.src t ht
 simpa using this
theorem zbl {f L:zag} (hI:IsForm f) (h:∀ k,za8 f k=za8 L k):zax f L:=⟨hI,h,fun p hp=>by
 by_cases z:p.1∈L.map (·.1)
 ·exact z
 ·have h1:=zhQ hI p hp;rw[h,zdo L p.1 fun q hq e=>z (jau.mpr ⟨q,hq,e⟩)] at h1;exact absurd h1.symm (hI.nz p hp)⟩
noncomputable def Sm.tl:Sm->zag
 | .bit k=>[((2:Int)^k,1)]
 | .fix b=>[(0,b)]
 | .no s=>zs4 (Sm.tl s)
 | .two w s t=>zcN w (Sm.tl s) (Sm.tl t)
theorem zlu (w:Nat) (l o:zag):(zcN w l o).length<=l.length+o.length+l.length * o.length:=by
 unfold zcN;split
 ·rw[zbO];omega
 ·rw[jab,jab,jaa,zbO];omega
theorem zik:∀ s:Sm,s.tl.length<2^s.ln
 | .bit _=>by show 1<2^1;decide
 | .fix _=>by show 1<2^1;decide
 | .no s=>by
  have:=zik s
  show (zs4 s.tl).length<2^(s.ln+1);unfold zs4;rw[jab,jaa,jbY];show 1+_<_;omega
 | .two w s t=>zpB (zik s) (zik t) (zlu w s.tl t.tl)
theorem zky {ls:List Nat} (b:Int):K5 ls [(0,b)]:=fun t ht=>by rw[jad.mp ht];exact⟨Int.le_refl _,fun j hj=>by simp at hj⟩
theorem K5.word {ls:List Nat}{l o:zag} (w:Nat) (h:K5 ls l) (k:K5 ls o):K5 ls (zcN w l o):=by
 unfold zcN;split
 ·exact h.prod k
 ·exact (h.app k).app ((h.prod k).map _)
theorem zjc {ls:List Nat}:∀ {s:Sm},s.ok (fun k=>k∈ls)->K5 ls s.tl
 | .bit k,h=>fun t ht=>by
  rw[jad.mp ht];refine⟨by rw[zdS];exact jaM _,fun j hj=>?_⟩;rw[zdS,jbf,jbq] at hj;rw[<- of_decide_eq_true hj];exact h
 | .fix b,h=>zky b
 | .no s,h=>(zky 1).app ((zjc (s:=s) h).map _)
 | .two w s t,h=>K5.word w (zjc h.2.1) (zjc h.2.2)
theorem zfQ {p:Nat->Prop}:∀ {s:Sm},s.ok p->∀ t∈s.tl,4 * t.2.natAbs<=4^s.ln
 | .bit k,h,t,ht=>by rw[jad.mp ht];exact jag _
 | .fix b,h,t,ht=>by
  rw[jad.mp ht];rcases (show b=0\/b=1 from h) with rfl | rfl <;> decide
 | .no s,h,t,ht=>by
  show _<=4^(s.ln+1);rw[jbY];rcases jah.mp ht with z | z
  ·rw[jad.mp z]
   have:=Nat.pow_pos (n:=s.ln) (show 0<4 by decide)
   show 4 * 1<=_;omega
  ·obtain⟨u,hu,rfl⟩:=jau.mp z
   have:=zfQ (s:=s) h u hu
   rw[Int.natAbs_neg];omega
 | .two w s t,h,x,hx=>by
  show _<=4^(s.ln+t.ln);have p1:∀ u∈s.tl,4 * u.2.natAbs<=4^s.ln:=zfQ h.2.1;have p2:∀ u∈t.tl,4 * u.2.natAbs<=4^t.ln:=zfQ h.2.2;rw[Nat.pow_add];have q1:=Nat.pow_pos (n:=s.ln) (show 0<4 by decide);have q2:=Nat.pow_pos (n:=t.ln) (show 0<4 by decide);have pr:∀ u∈zaV s.tl t.tl,16 * u.2.natAbs<=4^s.ln * 4^t.ln:=fun u hu=>by
   obtain⟨y,hy,v,hv,rfl⟩:=zif hu
   have:=jaS (p1 y hy) (p2 v hv)
   show 16 * (y.2 * v.2).natAbs<=_;rw[jdt];have e:4 * y.2.natAbs * (4 * v.2.natAbs)=16 * (y.2.natAbs * v.2.natAbs):=by rw[Nat.mul_mul_mul_comm]
   omega
  have up:∀ {a b c:Nat},a<=b->0<c->a<=b * c:=fun {a b c} h k=>jak h (Nat.le_mul_of_pos_right _ k)
  have hx':x∈zcN w s.tl t.tl:=hx;unfold zcN at hx';split at hx'
  ·have:=pr x hx';omega
  ·rcases jah.mp hx' with z | z
   ·rcases jah.mp z with y | y
    ·exact up (p1 x y) q2
    ·rw[Nat.mul_comm (4^s.ln)];exact up (p2 x y) q1
   ·obtain⟨u,hu,rfl⟩:=jau.mp z
    have:=pr u hu
    show 4 * (u.2 * _).natAbs<=_;rw[jdt];split
    ·show 4 * (u.2.natAbs * 1)<=_;omega
    ·show 4 * (u.2.natAbs * 2)<=_;omega
theorem zij {w:Nat}{l o a b f:zag} (ha:zax l a) (hb:zax o b) (h:zax f (zcN w l o)):zax f (zcN w a b):=zbl h.toIsForm fun k=>by
 have e:∀ k,za8 (zaV l o) k=za8 (zaV a b) k:=fun k=>by rw[ze6 hb.val,zdV,ze6 ha.val,zdV]
 rw[h.val];unfold zcN;split
 ·exact e k
 ·rw[zaq,zaq,zaq,zaq,ha.val,hb.val];congr 1;have m:∀ (n:Int) (x:zag),za8 (x.map fun t=>(t.1,t.2 * n)) k=za8 x k * n:=fun n x=>by rw[zdR,zdR,zfO]
  rw[m,m,e]
theorem zjP {l a f:zag} (ha:zax l a) (hi:IsForm f) (h:∀ k,za8 f k=za8 [(0,1)] k-za8 l k):zax f (zs4 a):=zbl hi fun k=>by
 unfold zs4;rw[h,zaq,zdH,ha.val];omega
theorem K5.low {ls:List Nat}{f:zag} (h:K5 ls f) (h16:∀ x∈ls,x<16):∀ t∈f,0<=t.1/\t.1<2^16:=fun t ht=>by
 obtain⟨h0,hb⟩:=h t ht;have h1:t.1.toNat<2^16:=jbB _ fun j hj=>by
  cases z:t.1.toNat.testBit j
  ·rfl
  ·have:=h16 j (hb j z);omega
 omega
noncomputable def zpX:Sm->Str->List zag->Prop
 | .no s,w,fs=>w = "not" /\ ∃ f,fs=[f]/\zax f s.tl
 | .two j s t,w,fs=>w=wd j/\j<3/\∃ f g,fs=[f,g]/\zax f s.tl/\zax g t.tl
 | _,_,_=>False
noncomputable def FoC (s:Sm) (f:zag):Prop:=zax f s.tl
theorem zhY {a b:Int} (h:b≠0):zax [(a,b)] [(a,b)]:=zax.self ⟨List.pairwise_singleton ..,fun p hp=>by rw[jad.mp hp];exact h⟩
end My
namespace My
open PySem L2 OF
noncomputable abbrev Sts:=List (List Nat × zag)
noncomputable def FmR (H:Hp) (kv:Key × V) (nf:List Nat × zag):Prop:=kv.1=Sum.inr (S nf.1)/\∃ a,kv.2 = .ref a/\TLo H a nf.2
noncomputable def zdU (H:Hp) (d:Addr) (st:Sts):Prop:=∃ kvs,H d=some (.dK kvs)/\Paired (FmR H) kvs st
noncomputable def zef (st:Sts) (n:List Nat):Option zag:=(st.find? fun p=>decide (p.1=n)).map (·.2)
noncomputable def zmn (st:Sts) (n:List Nat) (f:zag):Sts:=if (st.any fun p=>decide (p.1=n))=true then st.map (fun p=>if p.1=n then (p.1,f) else p) else st ++ [(n,f)]
theorem zoq {a b:List Nat}:(Sum.inr (S a):Key)=Sum.inr (S b)↔a=b:=⟨fun z=>zbY (jdw z),fun z=>by rw[z]⟩
theorem zfj {H:Hp}{kvs:List (Key × V)}{st:Sts} (h:Paired (FmR H) kvs st) (n:List Nat) :
  (zia kvs (Sum.inr (S n))=none/\zef st n=none)\/∃ a f,zia kvs (Sum.inr (S n))=some (.ref a)/\zef st n=some f/\TLo H a f:=by
 induction h with
 | nil=>exact .inl ⟨rfl,rfl⟩
 | @cons p q ps qs hpq _ ih =>
  obtain⟨e,a,ea,hT⟩:=hpq;by_cases z:q.1=n
  ·refine .inr ⟨a,q.2,?_,?_,hT⟩
   ·rw[zeE (by rw[e,z]),ea]
   ·unfold zef;rw[jaw,decide_eq_true z];rfl
  ·have e1:zia (p :: ps) (Sum.inr (S n))=zia ps (Sum.inr (S n)):=zeD (by rw[e];exact fun y=>z (zoq.mp y));have e2:zef (q :: qs) n=zef qs n:=by unfold zef;rw[jaw,decide_eq_false z]
   rw[e1,e2];exact ih
theorem zk8 {H:Hp}{kvs:List (Key × V)}{st:Sts} (h:Paired (FmR H) kvs st) (n:List Nat):(kvs.any fun kv=>decide (kv.1=Sum.inr (S n)))=st.any fun p=>decide (p.1=n):=by
 induction h with
 | nil=>rfl
 | @cons p q ps qs hpq _ ih =>
  rw[jbK,jbK,ih,hpq.1];congr 1;by_cases z:q.1=n
  ·rw[decide_eq_true z,decide_eq_true (zoq.mpr z)]
  ·rw[decide_eq_false z,decide_eq_false fun y=>z (zoq.mp y)]
theorem zqR {H:Hp}{n:List Nat}{a:Addr}{f:zag} (hT:TLo H a f) {kvs:List (Key × V)}{st:Sts} (h:Paired (FmR H) kvs st):Paired (FmR H) (kvs.map fun kv=>if kv.1=Sum.inr (S n) then (kv.1,V.ref a) else kv) (st.map fun p=>if p.1=n then (p.1,f) else p):=by
 induction h with
 | nil=>exact .nil
 | @cons p q ps qs hpq _ ih =>
  refine .cons ?_ ih;show FmR H (if p.1=Sum.inr (S n) then (p.1,V.ref a) else p) (if q.1=n then (q.1,f) else q);by_cases z:q.1=n
  ·rw[if_pos (by rw[hpq.1,z]),if_pos z];exact⟨hpq.1,a,rfl,hT⟩
  ·rw[if_neg (by rw[hpq.1];exact fun y=>z (zoq.mp y)),if_neg z];exact hpq
theorem zrX {H:Hp}{kvs:List (Key × V)}{st:Sts} (h:Paired (FmR H) kvs st) {n:List Nat}{a:Addr}{f:zag} (hT:TLo H a f):Paired (FmR H) (zg7 kvs (Sum.inr (S n)) (.ref a)) (zmn st n f):=by
 unfold zg7 zmn;rw[zk8 h n];split
 ·exact zqR hT h
 ·exact zbA h ⟨rfl,a,rfl,hT⟩
theorem TLo.keepD {H H':Hp}{a b:Addr}{l:zag}{kvs:List (Key × V)} (h:TLo H a l) (k:zaJ b H H') (hb:H b=some (.dK kvs)):TLo H' a l:=by
 obtain⟨ps,h1,h2⟩:=h;exact⟨ps,k _ _ (fun z=>by rw[z,hb] at h1;cases h1) h1,h2.keep fun p xs e=>k p _ (fun z=>by rw[z,hb] at e;cases e) e⟩
theorem zjT {H H':Hp}{b:Addr}{kv0:List (Key × V)} (k:zaJ b H H') (hb:H b=some (.dK kv0)) {kvs:List (Key × V)}{st:Sts} (h:Paired (FmR H) kvs st):Paired (FmR H') kvs st :=
 Paired.mapP h fun p q ⟨e,a,ea,hT⟩=>⟨e,a,ea,TLo.keepD hT k hb⟩
theorem zdU.keep {H H':Hp}{d:Addr}{st:Sts} (h:zdU H d st) (s:zai H H'):zdU H' d st :=
 let ⟨kvs,h1,h2⟩:=h; ⟨kvs,s _ _ h1,Paired.mapP h2 fun p q ⟨e,a,ea,hT⟩=>⟨e,a,ea,hT.keep s⟩⟩
theorem zdU.keepD {H H':Hp}{b d:Addr}{st:Sts}{kv0:List (Key × V)} (h:zdU H d st) (k:zaJ b H H') (hb:H b=some (.dK kv0)) (hne:d≠b):zdU H' d st :=
 let ⟨kvs,h1,h2⟩:=h; ⟨kvs,k _ _ hne h1,zjT k hb h2⟩
theorem zdU.put {H:Hp}{d a:Addr}{kvs:List (Key × V)}{st:Sts}{n:List Nat}{f:zag} (h1:H d=some (.dK kvs)) (h2:Paired (FmR H) kvs st) (hT:TLo H a f):zdU (upd H d (.dK (zg7 kvs (Sum.inr (S n)) (.ref a)))) d (zmn st n f) :=
 ⟨_,zac,zrX (zjT zaJ.upd h1 h2) (TLo.keepD hT zaJ.upd h1)⟩
theorem zoD (st:Sts) (n:List Nat) (f:zag):(zmn st n f).length<=st.length+1:=by
 unfold zmn;split <;> simp
theorem zny {P:zag->Prop}{st:Sts}{n:List Nat}{f:zag} (h:∀ p∈st,P p.2) (hf:P f):∀ p∈zmn st n f,P p.2:=fun p hp=>by
 unfold zmn at hp;split at hp
 ·obtain⟨q,hq,rfl⟩:=jau.mp hp;by_cases z:q.1=n
  ·rw[if_pos z];exact hf
  ·rw[if_neg z];exact h q hq
 ·rcases jah.mp hp with y | y
  ·exact h p y
  ·rw[jad.mp y];exact hf
theorem za0 {P:zag->Prop}{st:Sts}{n:List Nat}{f:zag} (h:∀ p∈st,P p.2) (e:zef st n=some f):P f:=by
 unfold zef at e;obtain⟨p,hp,rfl⟩:=jbQ.mp e;exact h p (List.mem_of_find?_eq_some hp)
structure zcw (C:Addr) (H:Hp) (p d:Addr) (st:Sts):Prop where
 ob:∃ dx,H p=some (.ins C dx [("forms",.ref d)])
 dc:zdU H d st
theorem zcw.keep {C:Addr}{H H':Hp}{p d:Addr}{st:Sts} (h:zcw C H p d st) (s:zai H H'):zcw C H' p d st :=
 ⟨let ⟨dx,e⟩:=h.ob; ⟨dx,s _ _ e⟩,h.dc.keep s⟩
noncomputable def zkF (l:zag):Prop:=∃ f,zax f (zaV l l)/\f=l
noncomputable def opS (w:Nat):Str:=if w=0 then "plus" else if w=1 then "less" else "times"
noncomputable def opR (w:Nat) (l m:zag):zag:=if w=0 then l++m else if w=1 then l++m.map (fun t=>(t.1,-t.2)) else zaV l m
theorem zrg {w:Nat} (h:w<3):decide (V.str (opS w)=V.str "=")=false/\decide (V.str (opS w)=V.str ":=")=false/\decide (V.str (opS w)=V.str "fixed")=false/\decide (V.str (opS w)=V.str "put")=false:=by
 obtain rfl | rfl | rfl:w=0\/w=1\/w=2:=by omega
 ·exact⟨by decide,by decide,by decide,by decide⟩
 ·exact⟨by decide,by decide,by decide,by decide⟩
 ·exact⟨by decide,by decide,by decide,by decide⟩
inductive Cmd where
 | form (n t:List Nat) | stat (n:List Nat) (s:Sm) | fixd (n a:List Nat) (k:Nat) (b:Int) | put (n a:List Nat) (k:Nat) (b:List Nat) | two (w:Nat) (n a b:List Nat)
noncomputable def Cmd.nm:Cmd->List Nat
 | .form n _=>n | .stat n _=>n | .fixd n _ _ _=>n | .put n _ _ _=>n | .two _ n _ _=>n
noncomputable def Cmd.wd:Cmd->Str
 | .form _ _ => "=" | .stat _ _ => ":=" | .fixd _ _ _ _ => "fixed" | .put _ _ _ _ => "put" | .two w _ _ _=>opS w
noncomputable def Cmd.th:Cmd->List V
 | .form _ t=>[.str (S t)]
 | .stat _ s=>[.str (S (zcq s))]
 | .fixd _ a k b=>[.str (S a),.int (k:Int),.int b]
 | .put _ a k b=>[.str (S a),.int (k:Int),.str (S b)]
 | .two _ _ a b=>[.str (S a),.str (S b)]
inductive Rz where
 | name | yesno | form (f:zag)
noncomputable def FOk (ls:List Nat) (f:zag):Prop:=IsForm f/\K5 ls f/\∀ t∈f,t.2.natAbs<10^60
noncomputable def zn5 (ls:List Nat):Cmd->Prop
 | .form _ t=>(∀ c∈t,c<128)/\t.length<=900/\(zgH t).isSome=true
 | .stat _ s=>s.ok (fun k=>k∈ls)/\s.ln<=5
 | .fixd _ _ k b=>k<=100/\(b=0\/b=1)
 | .put _ _ k _=>k<=100
 | .two w _ _ _=>w<3
noncomputable def zdT (ls:List Nat) (st:Sts):Cmd->Rz->Prop
 | .form _ t,r=>∃ f,r = .form f/\zgH t=some f
 | .stat _ s,r=>∃ f,r = .form f/\zax f s.tl
 | .fixd _ a k b,r=>(zef st a=none/\r = .name)\/∃ l f,zef st a=some l/\r = .form f/\zax f (zlc k b l)
 | .put _ a k b,r=>(zef st a=none/\r = .name)\/(∃ l,zef st a=some l/\zef st b=none/\r = .name)\/∃ l o,zef st a=some l/\zef st b=some o/\((¬ zkF o/\r = .yesno)\/(zkF o/\∃ f,r = .form f/\zax f (znx k o l)))
 | .two w _ a b,r=>(zef st a=none/\r = .name)\/(∃ l,zef st a=some l/\zef st b=none/\r = .name)\/∃ l o f,zef st a=some l/\zef st b=some o/\r = .form f/\zax f (opR w l o)
theorem zfl {a b:Int} (ha:a.natAbs<10^60) (hb:b.natAbs<10^60):IntMulOk a b:=by
 have key:∀ x:Int,x.natAbs<10^60->Builtin.Int.intBits x<=200:=fun x hx=>by
  unfold Builtin.Int.intBits;split
  ·exact jaE _
  ·rename_i h;have h0:x.natAbs≠0:=fun z=>h (by simp;omega)
   have:x.natAbs.log2<200:=(jdv h0).mpr (jcX hx (by decide +kernel))
   omega
 have h1:=key a ha;have h2:=key b hb;unfold IntMulOk;intro z;rw[jaT,jaT] at z;have z2:=z.2;unfold Builtin.Int.intTooBig at z2
 have:(Builtin.Int.intBits a:Int)+(Builtin.Int.intBits b:Int) > bitsLine:=by simpa using z2
 have hbl:(400:Int)<=bitsLine:=by decide
 omega
noncomputable def opW (w:Nat):List Nat:=if w=0 then [112,108,117,115] else if w=1 then [108,101,115,115] else [116,105,109,101,115]
noncomputable def Cmd.wl:Cmd->List Nat
 | .form _ _=>[61] | .stat _ _=>[58,61] | .fixd _ _ _ _=>[102,105,120,101,100] | .put _ _ _ _=>[112,117,116] | .two w _ _ _=>opW w
theorem zuk (c:Cmd):S c.wl=c.wd:=by
 cases c with
 | form _ _=>show S [61]=Str.ofString "=";decide +kernel
 | stat _ _=>show S [58,61]=Str.ofString ":=";decide +kernel
 | fixd _ _ _ _=>show S [102,105,120,101,100]=Str.ofString "fixed";decide +kernel
 | put _ _ _ _=>show S [112,117,116]=Str.ofString "put";decide +kernel
 | two w _ _ _ =>
  show S (opW w)=opS w;unfold opW opS;split
  ·decide +kernel
  split
  ·decide +kernel
  ·decide +kernel
noncomputable def SHW:List Nat:=[115,104,111,119]
theorem zjN:("show" : Str)=S SHW:=by decide +kernel
end My
namespace My
open PySem L2 OF
theorem zfN:∀ {zs:List Nat},zs.Nodup->∀ j,((zs.map fun x=>2^x).sum).testBit j=decide (j∈zs)
 | [],_,j=>by simp
 | x :: r,hn,j=>by
  rw[jbd] at hn;have h0:((r.map fun x=>2^x).sum).testBit x=false:=by rw[zfN hn.2];exact decide_eq_false hn.1
  have h1:(r.map fun x=>2^x).sum / 2^x % 2=0:=by
   rw[ja1] at h0
   have:=of_decide_eq_false h0
   omega
  rw[jat,jb1,Nat.add_comm,zb7 h1,jbN,jbq,zfN hn.2];by_cases e:x=j
  ·subst e;simp
  ·have e':¬ j=x:=fun z=>e z.symm
   simp[e,e']
theorem zqC (m:Nat):((lst m).map fun k=>2^k).sum=m:=jb2 fun j=>by
 have hn:(lst m).Nodup:=by unfold lst;exact List.nodup_range.filter _
 rw[zfN hn];by_cases z:m.testBit j=true
 ·rw[z];exact decide_eq_true (zjA.mpr z)
 ·rw[jco.mpr z];exact decide_eq_false fun y=>z (zjA.mp y)
theorem ziL (m:Nat):zrN (zdC m)=m:=by
 unfold zrN zdC;rw[ja3]
 have:((fun c=>2^(c-97)) ∘ fun k=>97+k)=fun k:Nat=>2^k:=by
  funext k;show 2^(97+k-97)=_;rw[jde]
 rw[this,zqC]
theorem zob {m:Nat} (hm:m<2^16):Ris (-1) (zdC m):=⟨fun c hc=>zcR hm hc,by
 unfold zdC;refine jcr.mpr ?_;unfold lst;exact (List.pairwise_lt_range.filter _).imp fun h=>by omega,fun c hc=>by have:=zcR hm hc;omega⟩
theorem zmr {d l:List Nat} (h1:∀ c∈d,48<=c/\c<=57) (h2:∀ c∈l,97<=c):zde (d++l)=d/\zbv (d++l)=l:=by
 have h3:∀ c∈d,isD c=true:=fun c hc=>decide_eq_true (h1 c hc)
 have h4:l.takeWhile isD=[]/\l.dropWhile isD=l:=by
  cases l with
  | nil=>exact⟨rfl,rfl⟩
  | cons c r =>
   have:isD c=false:=decide_eq_false fun z=>by have:=h2 c (by simp);omega
   rw[jcL,List.dropWhile_cons,this];exact⟨rfl,rfl⟩
 unfold zde zbv;rw[List.takeWhile_append_of_pos h3,List.dropWhile_append_of_pos h3,h4.1,h4.2,jaZ];exact⟨rfl,rfl⟩
theorem znU {t:Int × Int}:∀ c∈zcP t.1.toNat t.2.natAbs,48<=c/\c<=57:=fun c hc=>by
 unfold zcP at hc;split at hc
 ·cases hc
 ·exact zhO hc
theorem zhz {m:Nat}:zdC m=[]↔m=0:=by
 constructor
 ·intro h
  have:=ziL m
  rw[h] at this;exact this.symm
 ·rintro rfl;rfl
theorem zmU {t:Int × Int} (h:zcn t):zhB [sgn t.2] (zaO t)=some t:=by
 obtain⟨h0,h1,h2,h3⟩:=h;have hm:t.1.toNat<2^16:=by omega
 obtain⟨e1,e2⟩:=zmr (znU (t:=t)) (fun c hc=>(zcR hm hc).1);have ew:zaO t=zcP t.1.toNat t.2.natAbs++zdC t.1.toNat:=rfl;have hn:0<t.2.natAbs:=by omega
 have eN:zfv (zcP t.1.toNat t.2.natAbs) (zdC t.1.toNat)=some t.2.natAbs:=by
  unfold zfv zcP;by_cases z:t.2.natAbs=1/\t.1.toNat≠0
  ·rw[if_pos z,if_pos ⟨rfl,fun y=>z.2 (zhz.mp y)⟩,z.1]
  ·obtain⟨d,r,ed,hd⟩:=ziw hn;rw[if_neg z,if_neg (fun y=>by rw[ed] at y;cases y.1),if_neg,zkg];rintro (y | y | ⟨y,y2⟩)
   ·rw[ed] at y;cases y
   ·rw[ed] at y;simp at y;omega
   ·exact z ⟨znw y,fun x=>y2 (zhz.mpr x)⟩
 unfold zhB;rw[if_pos (by unfold sgn;split <;> simp),ew,e1,e2,eN,zjW 0 (zob hm),ziL];show some (((0+t.1.toNat:Nat):Int),if [sgn t.2]=[45] then -((t.2.natAbs:Nat):Int) else ((t.2.natAbs:Nat):Int))=some t;have a1:((0+t.1.toNat:Nat):Int)=t.1:=by omega
 have a2:(if [sgn t.2]=[45] then -((t.2.natAbs:Nat):Int) else ((t.2.natAbs:Nat):Int))=t.2:=by
  unfold sgn;by_cases z:t.2<0
  ·rw[if_pos z,if_pos rfl];omega
  ·rw[if_neg z,if_neg (by decide)];omega
 rw[a1,a2]
theorem zel {ws:List (List Nat)} (h0:ws≠[]) (h:∀ w∈ws,32 ∉ w):zau (zbd 32 ws)=ws:=zh0 (zbG _) h0 (zeK _) h (zcQ _)
theorem zdA:∀ {a b:List Nat},32 ∉ a->zau (a++32 :: b)=a :: zau b
 | [],b,_=>by show zau (32 :: b)=_;rw[zau,if_pos rfl]
 | c :: r,b,h=>by
  have hc:¬ c=32:=fun z=>h (by rw[z];simp)
  show zau (c :: (r++32 :: b))=_;rw[zau,if_neg hc,zdA (a:=r) (b:=b) fun z=>h (by simp[z])]
theorem zmE {a:List Nat} (h:32 ∉ a):zau a=[a]:=zel (ws:=[a]) (by simp) fun w hw=>by rw[jad.mp hw];exact h
theorem zlz {t:Int × Int} (h:zcn t):32 ∉ zaO t:=fun z=>by
 have:=zg6 (by have:=h.1;have:=h.2.1;omega) z
 omega
theorem znN {f:zag} (h:∀ t∈f,zcn t):∀ w∈zcv f,32 ∉ w:=fun w hw=>by
 cases f with
 | nil=>rw[jad.mp hw];decide
 | cons t r =>
  rcases jaj.mp hw with rfl | hw
  ·intro z;rcases jah.mp z with y | y
   ·unfold za1 at y;split at y
    ·rw[jad] at y;cases y
    ·cases y
   ·exact zlz (h t (by simp)) y
  ·obtain⟨u,hu,hw⟩:=jcC.mp hw;have hw':w=[sgn u.2]\/w=zaO u:=by simpa using hw
   rcases hw' with rfl | rfl
   ·unfold sgn;split <;> decide
   ·exact zlz (h u (by simp[hu]))
theorem zmx (f:zag):zcv f≠[]:=by cases f <;> simp[zcv]
theorem zgV {f:zag} (h:∀ t∈f,zcn t):zau (txt f)=zcv f:=by
 rw[<- zfd];exact zel (zmx f) (znN h)
theorem zgP {t:Int × Int} (h:zcn t):∃ c r,zaO t=c :: r/\49<=c:=by
 obtain⟨h0,h1,h2,h3⟩:=h;have hm:t.1.toNat<2^16:=by omega
 have ew:zaO t=zcP t.1.toNat t.2.natAbs++zdC t.1.toNat:=rfl;rw[ew];unfold zcP;by_cases z:t.2.natAbs=1/\t.1.toNat≠0
 ·rw[if_pos z];cases hl:zdC t.1.toNat with
  | nil=>exact absurd (zhz.mp hl) z.2
  | cons c r=>exact⟨c,r,rfl,by have:=zcR hm (c:=c) (by rw[hl];simp);omega⟩
 ·obtain⟨d,r,ed,hd⟩:=ziw (m:=t.2.natAbs) (by omega);rw[if_neg z,ed];exact⟨49+d,_,rfl,by omega⟩
theorem zkN {t:Int × Int}{r:zag} (h:∀ u∈t :: r,zcn u):zbQ (txt (t :: r))=((t :: r).map fun u=>([sgn u.2],zaO u)).flatMap fun p=>[p.1,p.2]:=by
 obtain⟨c,w',ew,hc⟩:=zgP (h t (by simp));have e0:((t :: r).map fun u=>([sgn u.2],zaO u)).flatMap (fun p=>[p.1,p.2])=[sgn t.2] :: zaO t :: r.flatMap fun u=>[[sgn u.2],zaO u]:=by
  rw[List.flatMap_map];rfl
 rw[e0];unfold zbQ;rw[zgV h];have et:txt (t :: r)=za1 t.2++zaO t++r.flatMap zbh:=rfl;by_cases z:t.2<0
 ·have ea:za1 t.2=[45]:=if_pos z;have es:sgn t.2=45:=if_pos z;rw[if_pos (by rw[et,ea];rfl),es];show [45] :: (za1 t.2++zaO t).drop 1 :: _=_;rw[ea];rfl
 ·have ea:za1 t.2=[]:=if_neg z;have es:sgn t.2=43:=if_neg z;rw[if_neg (by rw[et,ea,ew];simp;omega),es];show [43] :: (za1 t.2++zaO t) :: _=_;rw[ea];rfl
theorem zpj:∀ {f:zag},(∀ t∈f,zcn t)->rdP (f.map fun u=>([sgn u.2],zaO u))=some f
 | [],_=>rfl
 | t :: r,h=>by
  rw[jat,rdP,zmU (h t (by simp)),zpj (f:=r) fun u hu=>h u (by simp[hu])]
theorem zoQ:∀ {f:zag}{la:Int},IsForm f->(∀ t∈f,la<t.1)->isF f la=true
 | [],_,_,_=>rfl
 | t :: r,la,h,hl=>by
  have h1:=jbi.mp h.rise;unfold isF;rw[if_neg (fun z=>z.elim (fun y=>by have:=hl t (by simp);omega) (h.nz t (by simp)))];exact zoQ ⟨h1.2,fun u hu=>h.nz u (by simp[hu])⟩ fun u hu=>h1.1 u hu
theorem zeM {f:zag} (hI:IsForm f) (h:∀ t∈f,zcn t):zgH (txt f)=some f:=by
 cases f with
 | nil=>rfl
 | cons t r =>
  have hne:¬ txt (t :: r)=[48]:=fun z=>by
   obtain⟨c,w',ew,hc⟩:=zgP (h t (by simp));have et:txt (t :: r)=za1 t.2++zaO t++r.flatMap zbh:=rfl;rw[et,ew] at z;unfold za1 at z;split at z
   ·simp at z
   ·simp at z;omega
  unfold zgH;rw[if_neg hne,zkN h,zdp,zpj h];show (if isF (t :: r) (-1)=true then some (t :: r) else none)=_;rw[if_pos (zoQ hI fun u hu=>by have:=(h u hu).1;omega)]
theorem zi6 {n:List Nat} (h:zb3 n=true):32 ∉ n:=fun z=>by
 unfold zb3 at h;rw[jaT,jaT,jaX] at h
 have:=of_decide_eq_true (h.2.2 32 z)
 omega
theorem zb0 {n:List Nat} (h:zb3 n=true):n.length<=8/\∀ c∈n,c<128:=by
 unfold zb3 at h;rw[jaT,jaT,jaX] at h;exact⟨of_decide_eq_true h.2.1,fun c hc=>by have:=of_decide_eq_true (h.2.2 c hc);omega⟩
noncomputable def zju:List Nat:=[102,105,120,101,100]
noncomputable def zi3:List Nat:=[112,117,116]
noncomputable def Cmd.line:Cmd->List Nat
 | .form n t=>n++([32,61,32]++t)
 | .stat n s=>n++([32,58,61,32]++zcq s)
 | .fixd n a k b=>zbd 32 [n,[61],zju,a,[97+k],[48+b.toNat]]
 | .put n a k b=>zbd 32 [n,[61],zi3,a,[97+k],b]
 | .two w n a b=>zbd 32 [n,[61],opW w,a,b]
theorem zdz {n sg t:List Nat} (hn:zb3 n=true) (hs:sg=[61]\/sg=[58,61]):zcp (n++32 :: (sg++32 :: t))=ze8 n sg t:=by
 have e:zau (n++32 :: (sg++32 :: t))=n :: sg :: zau t:=by
  rw[zdA (zi6 hn),zdA (by rcases hs with rfl | rfl <;> decide)]
 have hl:1<=(zau t).length:=by cases h:zau t with | nil=>exact absurd h (zbG t) | cons _ _=>simp
 unfold zcp;rw[e,if_pos ⟨by simp;omega,hs,hn⟩];show ze8 n sg _=_;congr 1;have e1:(n++32 :: (sg++32 :: t))=(n ++ [32]++sg ++ [32])++t:=by simp
 show (n++32 :: (sg++32 :: t)).drop (n.length+sg.length+2)=t;rw[e1];exact List.drop_left' (by simp;omega)
theorem zfy:("plus" : Str)=S [112,108,117,115]/\("less" : Str)=S [108,101,115,115]/\("times" : Str)=S [116,105,109,101,115]/\("fixed" : Str)=S [102,105,120,101,100]/\("put" : Str)=S [112,117,116]:=by decide +kernel
theorem zpJ {w:List Nat} (h:∀ c∈w,c<113):zb2 zdx w=none:=by
 obtain⟨e1,e2,e3,e4,e5⟩:=zfy;have no:∀ l:List Nat,(∃ c∈l,113<=c)->¬ (S l=S w):=fun l ⟨c,hc,h1⟩ z=>by
  have:=zbY z
  subst this
  have:=h c hc
  omega
 unfold zb2 zdx;rw[e1,e2,e3,e4,e5];rw[jaw,decide_eq_false (no _ ⟨117,by decide,by decide⟩),jaw,decide_eq_false (no _ ⟨115,by decide,by decide⟩),jaw,decide_eq_false (no _ ⟨116,by decide,by decide⟩),jaw,decide_eq_false (no _ ⟨120,by decide,by decide⟩),jaw,decide_eq_false (no _ ⟨117,by decide,by decide⟩)];rfl
theorem znW {f:zag} (h:∀ t∈f,zcn t):∀ c∈(zau (txt f)).headD [],c<113:=by
 rw[zgV h];cases f with
 | nil=>decide
 | cons t r =>
  intro c hc;have hc':c∈za1 t.2++zaO t:=hc;rcases jah.mp hc' with z | z
  ·unfold za1 at z;split at z
   ·rw[jad] at z;omega
   ·cases z
  ·have ht:=h t (by simp)
   have:=zg6 (by have:=ht.1;have:=ht.2.1;omega) z
   omega
theorem zm1 {n:List Nat}{f:zag} (hn:zb3 n=true) (h:∀ t∈f,zcn t):zcp (Cmd.form n (txt f)).line=some (some (Cmd.form n (txt f)).nm,(Cmd.form n (txt f)).wl,(Cmd.form n (txt f)).th):=by
 show zcp (n++32 :: ([61]++32 :: txt f))=_;rw[zdz hn (.inl rfl)];unfold ze8;rw[if_neg (fun z=>by rw[zpJ (znW h)] at z;cases z.2)];rfl
theorem zmI {n:List Nat}{s:Sm} (hn:zb3 n=true):zcp (Cmd.stat n s).line=some (some (Cmd.stat n s).nm,(Cmd.stat n s).wl,(Cmd.stat n s).th):=by
 show zcp (n++32 :: ([58,61]++32 :: zcq s))=_;rw[zdz hn (.inr rfl)];unfold ze8;rw[if_neg (fun z=>by cases z.1)];rfl
theorem zgC {n w:List Nat}{ws:List (List Nat)}{ks:List Kd} (hk:zb2 zdx w=some ks) (hw:32 ∉ w) (h0:ws≠[]) (hs:∀ v∈ws,32 ∉ v) (hl:ks.length=ws.length) (hall:(ks.zip ws).all (fun p=>zfP p.1 p.2)=true):ze8 n [61] (zbd 32 (w :: ws))=some (some n,w,(ks.zip ws).map fun p=>thV p.1 p.2):=by
 have e:zau (zbd 32 (w :: ws))=w :: ws:=zel (by simp) fun v hv=>by
  rcases jaj.mp hv with rfl | z
  ·exact hw
  ·exact hs v z
 unfold ze8;have hk':zb2 zdx ((w :: ws).headD [])=some ks:=hk;rw[e,if_pos ⟨rfl,by rw[hk'];rfl⟩,hk'];show (zdq ks ws).map _=_;unfold zdq;rw[if_pos ⟨hl,hall⟩];rfl
theorem zqm {w:Nat} (h:w<3):zb2 zdx (opW w)=some [.name,.name]:=by
 obtain⟨e1,e2,e3,e4,e5⟩:=zfy;unfold zb2 zdx;rw[e1,e2,e3,e4,e5];obtain rfl | rfl | rfl:w=0\/w=1\/w=2:=by omega
 ·rw[jaw,decide_eq_true (by rfl)];rfl
 ·rw[jaw,decide_eq_false (fun z=>by have:=zbY z;cases this),jaw,decide_eq_true (by rfl)];rfl
 ·rw[jaw,decide_eq_false (fun z=>by have:=zbY z;cases this),jaw,decide_eq_false (fun z=>by have:=zbY z;cases this),jaw,decide_eq_true (by rfl)];rfl
theorem zps:zb2 zdx zju=some [.name,.letter,.bit]:=by
 obtain⟨e1,e2,e3,e4,e5⟩:=zfy;unfold zb2 zdx;rw[e1,e2,e3,e4,e5];rw[jaw,decide_eq_false (fun z=>by have:=zbY z;cases this),jaw,decide_eq_false (fun z=>by have:=zbY z;cases this),jaw,decide_eq_false (fun z=>by have:=zbY z;cases this),jaw,decide_eq_true (by rfl)];rfl
theorem zpV:zb2 zdx zi3=some [.name,.letter,.name]:=by
 obtain⟨e1,e2,e3,e4,e5⟩:=zfy;unfold zb2 zdx;rw[e1,e2,e3,e4,e5];rw[jaw,decide_eq_false (fun z=>by have:=zbY z;cases this),jaw,decide_eq_false (fun z=>by have:=zbY z;cases this),jaw,decide_eq_false (fun z=>by have:=zbY z;cases this),jaw,decide_eq_false (fun z=>by have:=zbY z;cases this),jaw,decide_eq_true (by rfl)];rfl
theorem zjK {k:Nat} (h:k<16):zfP .letter [97+k]=true:=by
 show (decide (1=1) && (List.all [97+k] fun c=>decide (97<=c/\c<113)))=true;simp;omega
theorem zoG {w:Nat}{n a b:List Nat} (hw:w<3) (hn:zb3 n=true) (ha:zb3 a=true) (hb:zb3 b=true) : zcp (Cmd.two w n a b).line=some (some (Cmd.two w n a b).nm,(Cmd.two w n a b).wl,(Cmd.two w n a b).th):=by
  show zcp (n++32 :: ([61]++32 :: zbd 32 [opW w,a,b]))=_
  rw [zdz       hn (.inl rfl), zgC       (zqm     hw) (by obtain rfl | rfl | rfl : w = 0 ∨ w = 1 ∨ w = 2 := by omega
                                                          all_goals decide) (by simp) (fun v hv => by
    have:v=a\/v=b:=by simpa using hv
    rcases this with rfl | rfl
    · exact zi6 ha
    · exact zi6 hb) rfl (by show (zb3 a && (zb3 b && true))=true;rw [ha,hb];rfl)]
  rfl
theorem zma {n a:List Nat}{k:Nat}{b:Int} (hn:zb3 n=true) (ha:zb3 a=true) (hk:k<16) (hb:b=0\/b=1):zcp (Cmd.fixd n a k b).line=some (some (Cmd.fixd n a k b).nm,(Cmd.fixd n a k b).wl,(Cmd.fixd n a k b).th):=by
 show zcp (n++32 :: ([61]++32 :: zbd 32 [zju,a,[97+k],[48+b.toNat]]))=_;have hbit:zfP .bit [48+b.toNat]=true:=by rcases hb with rfl | rfl <;> decide
 rw[zdz hn (.inl rfl),zgC zps (by decide) (by simp) (fun v hv=>by
  have:v=a\/v=[97+k]\/v=[48+b.toNat]:=by simpa using hv
  rcases this with rfl | rfl | rfl
  ·exact zi6 ha
  ·simp;omega
  ·simp;omega) rfl (by show (zb3 a && (zfP .letter [97+k] && (zfP .bit [48+b.toNat] && true)))=true;rw[ha,zjK hk,hbit];rfl)]
 show some (some n,zju,[V.str (S a),V.int (Txt.find (S LET) (S [97+k])),V.int ((NumText.digitsVal [48+b.toNat]:Nat):Int)])=some (some n,zju,[V.str (S a),V.int (k:Int),V.int b]);rw[zhP k hk];rcases hb with rfl | rfl <;> rfl
theorem zon {n a b:List Nat}{k:Nat} (hn:zb3 n=true) (ha:zb3 a=true) (hb:zb3 b=true) (hk:k<16):zcp (Cmd.put n a k b).line=some (some (Cmd.put n a k b).nm,(Cmd.put n a k b).wl,(Cmd.put n a k b).th):=by
 show zcp (n++32 :: ([61]++32 :: zbd 32 [zi3,a,[97+k],b]))=_;rw[zdz hn (.inl rfl),zgC zpV (by decide) (by simp) (fun v hv=>by
  have:v=a\/v=[97+k]\/v=b:=by simpa using hv
  rcases this with rfl | rfl | rfl
  ·exact zi6 ha
  ·simp;omega
  ·exact zi6 hb) rfl (by show (zb3 a && (zfP .letter [97+k] && (zb3 b && true)))=true;rw[ha,zjK hk,hb];rfl)]
 show some (some n,zi3,[V.str (S a),V.int (Txt.find (S LET) (S [97+k])),V.str (S b)])=some (some n,zi3,[V.str (S a),V.int (k:Int),V.str (S b)]);rw[zhP k hk]
theorem zlY {n:List Nat} (hn:zb3 n=true):zcp (SHW++32 :: n)=some (none,SHW,[.str (S n)]):=by
 have e:zau (SHW++32 :: n)=[SHW,n]:=by rw[zdA (by decide),zmE (zi6 hn)]
 have hk:zb2 zoL SHW=some [.name]:=by
  unfold zb2 zoL;rw[zjN,jaw,decide_eq_true (by rfl)];rfl
 unfold zcp;rw[e,if_neg (fun z=>absurd z.1 (by simp))];show (ksR (zb2 zoL SHW) [n]).map _=_;rw[hk];show (zdq [.name] [n]).map _=_;unfold zdq;rw[if_pos ⟨rfl,by show (zb3 n && true)=true;rw[hn];rfl⟩];rfl
theorem zcm {ls:List Nat}{st:Sts}{c:Cmd}{r r':Rz} (h:zdT ls st c r) (h':zdT ls st c r'):r=r':=by
 cases c with
 | form n t =>
  obtain⟨f,rfl,e⟩:=h;obtain⟨f',rfl,e'⟩:=h';rw[e] at e';rw[jaD e']
 | stat n s =>
  obtain⟨f,rfl,h1⟩:=h;obtain⟨f',rfl,h1'⟩:=h';rw[zax.unique h1 h1' fun k=>rfl]
 | fixd n a k b =>
  rcases h with ⟨h1,rfl⟩ | ⟨l,f,h1,rfl,h2⟩ <;> rcases h' with ⟨h1',rfl⟩ | ⟨l',f',h1',rfl,h2'⟩
  ·rfl
  ·rw[h1] at h1';cases h1'
  ·rw[h1] at h1';cases h1'
  ·rw[h1] at h1';cases h1';rw[zax.unique h2 h2' fun k=>rfl]
 | put n a k b =>
  rcases h with ⟨h1,rfl⟩ | ⟨l,h1,h2,rfl⟩ | ⟨l,o,h1,h2,h3⟩ <;> rcases h' with ⟨h1',rfl⟩ | ⟨l',h1',h2',rfl⟩ | ⟨l',o',h1',h2',h3'⟩
  ·rfl
  ·rfl
  ·rw[h1] at h1';cases h1'
  ·rfl
  ·rfl
  ·rw[h2] at h2';cases h2'
  ·rw[h1] at h1';cases h1'
  ·rw[h2] at h2';cases h2'
  ·rw[h1] at h1';cases h1';rw[h2] at h2';cases h2';rcases h3 with ⟨y,rfl⟩ | ⟨y,f,rfl,h4⟩ <;> rcases h3' with ⟨y',rfl⟩ | ⟨y',f',rfl,h4'⟩
   ·rfl
   ·exact absurd y' y
   ·exact absurd y y'
   ·rw[zax.unique h4 h4' fun k=>rfl]
 | two w n a b =>
  rcases h with ⟨h1,rfl⟩ | ⟨l,h1,h2,rfl⟩ | ⟨l,o,f,h1,h2,rfl,h3⟩ <;> rcases h' with ⟨h1',rfl⟩ | ⟨l',h1',h2',rfl⟩ | ⟨l',o',f',h1',h2',rfl,h3'⟩
  ·rfl
  ·rfl
  ·rw[h1] at h1';cases h1'
  ·rfl
  ·rfl
  ·rw[h2] at h2';cases h2'
  ·rw[h1] at h1';cases h1'
  ·rw[h2] at h2';cases h2'
  ·rw[h1] at h1';cases h1';rw[h2] at h2';cases h2';rw[zax.unique h3 h3' fun k=>rfl]
theorem zhb {B:Nat}:∀ {l:zag},(∀ t∈l,t.2.natAbs<=B)->∀ k,(za8 l k).natAbs<=l.length * B
 | [],_,k=>by simp[za8]
 | t :: r,h,k=>by
  have ih:=zhb (l:=r) (fun u hu=>h u (by simp[hu])) k;have h1:=h t (by simp);rw[jae,Nat.succ_mul];unfold za8;split <;> omega
theorem zbS {f l:zag}{n B C:Nat} (hF:zax f l) (hl:l.length<=n) (h:∀ t∈l,t.2.natAbs<=B) (hC:n * B<C):∀ t∈f,t.2.natAbs<C:=fun t ht=>by
 have h1:=zhb h t.1;rw[<- hF.val,zhQ hF.toIsForm t ht] at h1;exact jbj (jak h1 (jbE _ hl)) hC
theorem zg3 {l m:zag}{A B:Nat} (h:∀ t∈l,t.2.natAbs<=A) (h':∀ t∈m,t.2.natAbs<=B):∀ t∈zaV l m,t.2.natAbs<=A * B:=fun t ht=>by
 obtain⟨u,hu,z⟩:=jcC.mp ht;obtain⟨v,hv,rfl⟩:=jau.mp z;show (u.2 * v.2).natAbs<=_;rw[jdt];exact jaS (h u hu) (h' v hv)
theorem FOk.len {ls:List Nat}{f:zag} (h:FOk ls f) (h5:ls.length<=5):f.length<=32:=h.2.1.len h.1 h5
theorem FOk.say {ls:List Nat}{f:zag} (h:FOk ls f) (h16:∀ x∈ls,x<16):∀ t∈f,zcn t:=fun t ht=>by
 obtain⟨h0,hb⟩:=h.2.1 t ht;refine⟨h0,?_,h.1.nz t ht,jcX (h.2.2 t ht) (by decide +kernel)⟩;have h1:t.1.toNat<2^16:=jbB _ fun j hj=>by
  cases z:t.1.toNat.testBit j
  ·rfl
  ·have:=h16 j (hb j z);omega
 omega
noncomputable def SmF (st:Sts) (a:List Nat):Prop:=∀ l,zef st a=some l->∀ t∈l,t.2.natAbs<10^20
noncomputable def zo2 (ls:List Nat) (st:Sts):Cmd->Prop
 | .form n t=>zb3 n=true/\∃ f,t=txt f/\FOk ls f/\f.length<=4/\∀ u∈f,u.2.natAbs<10^4
 | .stat n s=>zb3 n=true/\s.ok (fun k=>k∈ls)/\s.ln<=5
 | .fixd n a k b=>zb3 n=true/\zb3 a=true/\k<16/\(b=0\/b=1)/\SmF st a
 | .put n a k b=>zb3 n=true/\zb3 a=true/\zb3 b=true/\k<16/\SmF st a/\SmF st b
 | .two w n a b=>zb3 n=true/\zb3 a=true/\zb3 b=true/\w<3/\SmF st a/\SmF st b
theorem zo2.nm {ls:List Nat}{st:Sts}{c:Cmd} (h:zo2 ls st c):zb3 c.nm=true:=by
 cases c <;> exact h.1
theorem zj4 (c:Nat):∀ ws:List (List Nat),(∀ w∈ws,w.length<=8)->(zbd c ws).length<=9 * ws.length
 | [],_=>jaE _
 | [w],h=>by have:=h w (by simp);show w.length<=9 * 1;omega
 | w :: v :: r,h=>by
  have ih:=zj4 c (v :: r) fun x hx=>h x (by simp[jaj.mp hx])
  have:=h w (by simp)
  show (w++c :: zbd c (v :: r)).length<=_;rw[jab,jae];rw[jae] at ih ⊢;rw[jae];omega
theorem zjL:∀ ws:List (List Nat),(∀ w∈ws,∀ c∈w,c<128)->∀ c∈zbd 32 ws,c<128
 | [],_,c,hc=>by cases hc
 | [w],h,c,hc=>h w (by simp) c hc
 | w :: v :: r,h,c,hc=>by
  have ih:=zjL (v :: r) fun x hx=>h x (by simp[jaj.mp hx])
  have hc':c∈w++32 :: zbd 32 (v :: r):=hc;rcases jah.mp hc' with z | z
  ·exact h w (by simp) c z
  ·rcases jaj.mp z with rfl | z
   ·decide
   ·exact ih c z
theorem zo2.line {ls:List Nat}{st:Sts}{c:Cmd} (h:zo2 ls st c) (h16:∀ x∈ls,x<16):zcp c.line=some (some c.nm,c.wl,c.th)/\zn5 ls c/\c.line.length<=9000/\∀ x∈c.line,x<128:=by
 have six:∀ ws:List (List Nat),ws.length<=6->(∀ w∈ws,w.length<=8/\∀ c∈w,c<128)->(zbd 32 ws).length<=9000/\∀ x∈zbd 32 ws,x<128:=fun ws hl hw =>
  ⟨jak (zj4 32 ws fun w z=>(hw w z).1) (by omega),zjL ws fun w z=>(hw w z).2⟩
 cases c with
 | form n t =>
  obtain⟨hn,f,rfl,hf,hl,h4⟩:=h;have hs:=hf.say h16;obtain⟨t1,t2⟩:=zjw (f:=f) (by omega) fun t ht=>⟨hs t ht,h4 t ht⟩
  obtain⟨n1,n2⟩:=zb0 hn;refine⟨zm1 hn hs,⟨t2,by omega,by rw[zeM hf.1 hs];rfl⟩,?_,fun x hx=>?_⟩
  ·show (n++([32,61,32]++txt f)).length<=9000;rw[jab,jab];show n.length+(3+_)<=9000;omega
  ·have hx':x∈n++([32,61,32]++txt f):=hx;rcases jah.mp hx' with z | z
   ·exact n2 x z
   ·rcases jah.mp z with y | y
    ·simp at y;omega
    ·exact t2 x y
 | stat n s =>
  obtain⟨hn,ho,hl⟩:=h;obtain⟨n1,n2⟩:=zb0 hn;have t0:=zcH ho;have t1:=zcZ s;have t2:=(zhS (s:=s) (Sm.ok.imp (fun k hk=>h16 k hk) ho)).1;refine⟨zmI hn,⟨ho,hl⟩,?_,fun x hx=>?_⟩
  ·show (n++([32,58,61,32]++zcq s)).length<=9000;rw[jab,jab];show n.length+(4+_)<=9000;omega
  ·have hx':x∈n++([32,58,61,32]++zcq s):=hx;rcases jah.mp hx' with z | z
   ·exact n2 x z
   ·rcases jah.mp z with y | y
    ·simp at y;omega
    ·exact t2 x y
 | fixd n a k b =>
  obtain⟨hn,ha,hk,hb,_⟩:=h;refine⟨zma hn ha hk hb,⟨by omega,hb⟩,six [n,[61],zju,a,[97+k],[48+b.toNat]] (by simp) fun w hw=>?_⟩
  have:w=n\/w=[61]\/w=zju\/w=a\/w=[97+k]\/w=[48+b.toNat]:=by simpa using hw
  rcases this with rfl | rfl | rfl | rfl | rfl | rfl
  ·exact zb0 hn
  ·decide
  ·decide
  ·exact zb0 ha
  ·simp;omega
  ·rcases hb with rfl | rfl <;> decide
 | put n a k b =>
  obtain⟨hn,ha,hb,hk,_⟩:=h;refine⟨zon hn ha hb hk,(by show k<=100;omega),six [n,[61],zi3,a,[97+k],b] (by simp) fun w hw=>?_⟩
  have:w=n\/w=[61]\/w=zi3\/w=a\/w=[97+k]\/w=b:=by simpa using hw
  rcases this with rfl | rfl | rfl | rfl | rfl | rfl
  ·exact zb0 hn
  ·decide
  ·decide
  ·exact zb0 ha
  ·simp;omega
  ·exact zb0 hb
 | two w n a b =>
  obtain⟨hn,ha,hb,hw,_⟩:=h;refine⟨zoG hw hn ha hb,hw,six [n,[61],opW w,a,b] (by simp) fun v hv=>?_⟩
  have:v=n\/v=[61]\/v=opW w\/v=a\/v=b:=by simpa using hv
  rcases this with rfl | rfl | rfl | rfl | rfl
  ·exact zb0 hn
  ·decide
  ·obtain rfl | rfl | rfl:w=0\/w=1\/w=2:=by omega
   all_goals decide
  ·exact zb0 ha
  ·exact zb0 hb
theorem zcL {p:Nat->Prop}{s:Sm}{f:zag} (ho:s.ok p) (hl:s.ln<=5) (hF:zax f s.tl):∀ t∈f,t.2.natAbs<10^60:=by
 have h1:=zik s;have h2:=jaH (show 2 > 0 by decide) hl;have h3:=jaH (show 4 > 0 by decide) hl;refine zbS (n:=32) (B:=1024) hF (by omega) (fun t ht=>?_) (by decide +kernel)
 have:=zfQ ho t ht
 omega
theorem zo2.makes {ls:List Nat}{st:Sts}{c:Cmd}{f:zag} (h:zo2 ls st c) (h16:∀ x∈ls,x<16) (h5:ls.length<=5) (hst:∀ nf∈st,FOk ls nf.2) (hm:zdT ls st c (.form f)):FOk ls f:=by
 cases c with
 | form n t =>
  obtain⟨_,f0,rfl,hf,_⟩:=h;obtain⟨f',e,e'⟩:=hm;rw[zeM hf.1 (hf.say h16)] at e';injection e with e
  injection e' with e'
  rw[e,<- e'];exact hf
 | stat n s =>
  obtain⟨_,ho,hl⟩:=h;obtain⟨f',e,hF⟩:=hm;injection e with e
  subst e;exact⟨hF.toIsForm,(zjc ho).of hF,zcL ho hl hF⟩
 | fixd n a k b =>
  obtain⟨_,_,hk,hb,hs⟩:=h;rcases hm with ⟨_,e⟩ | ⟨l,f',h1,e,hF⟩
  ·cases e
  injection e with e
  subst e;have hl:=za0 hst h1;have n1:=hl.len h5;refine⟨hF.toIsForm,(hl.2.1.fix k b).of hF,zbS (n:=32) (B:=10^20) hF (jak (zkk k b l) n1) (fun t ht=>?_) (by decide +kernel)⟩;unfold zlc at ht;rcases jah.mp ht with z | z
  ·exact jaB (hs l h1 t (zhC z).1)
  ·split at z
   ·cases z
   ·obtain⟨_,u,hu,eu,_⟩:=zdD (fun t ht=>(hl.2.1 t ht).1) z;rw[eu];exact jaB (hs l h1 u hu)
 | put n a k b =>
  obtain⟨_,_,_,hk,hs,hs'⟩:=h;rcases hm with ⟨_,e⟩ | ⟨l,_,_,e⟩ | ⟨l,o,h1,h2,⟨_,e⟩ | ⟨_,f',e,hF⟩⟩
  ·cases e
  ·cases e
  ·cases e
  injection e with e
  subst e;have hl:=za0 hst h1;have ho:=za0 hst h2;have n1:=hl.len h5;have n2:=ho.len h5;have n3:=zex k l;have n4:=zfM k l;have n5:(zgS k l).length * o.length<=32 * 32:=jaS (by omega) n2;refine⟨hF.toIsForm,(hl.2.1.put ho.2.1 k).of hF,zbS (n:=1056) (B:=10^20 * 10^20) hF (by unfold znx;rw[jab,zbO];omega) (fun t ht=>?_) (by decide +kernel)⟩;unfold znx at ht;rcases jah.mp ht with z | z
  ·exact jak (jaB (hs l h1 t (zhC z).1)) (by decide +kernel)
  ·refine zg3 (fun u hu=>?_) (fun u hu=>jaB (hs' o h2 u hu)) t z;obtain⟨_,v,hv,ev,_⟩:=zdD (fun t ht=>(hl.2.1 t ht).1) hu;rw[ev];exact jaB (hs l h1 v hv)
 | two w n a b =>
  obtain⟨_,_,_,hw,hs,hs'⟩:=h;rcases hm with ⟨_,e⟩ | ⟨l,_,_,e⟩ | ⟨l,o,f',h1,h2,e,hF⟩
  ·cases e
  ·cases e
  injection e with e
  subst e;have hl:=za0 hst h1;have ho:=za0 hst h2;have n1:=hl.len h5;have n2:=ho.len h5;have n5:l.length * o.length<=32 * 32:=jaS n1 n2;obtain rfl | rfl | rfl:w=0\/w=1\/w=2:=by omega
  ·have hF':zax f (l++o):=hF;refine⟨hF.toIsForm,(hl.2.1.app ho.2.1).of hF',zbS (n:=64) (B:=10^20) hF' (by rw[jab];omega) (fun t ht=>?_) (by decide +kernel)⟩;exact jaB ((jah.mp ht).elim (hs l h1 t) (hs' o h2 t))
  ·have hF':zax f (l++o.map fun t=>(t.1,-t.2)):=hF;refine⟨hF.toIsForm,(hl.2.1.app (ho.2.1.map _)).of hF',zbS (n:=64) (B:=10^20) hF' (by rw[jab,jaa];omega) (fun t ht=>?_) (by decide +kernel)⟩;rcases jah.mp ht with z | z
   ·exact jaB (hs l h1 t z)
   ·obtain⟨u,hu,rfl⟩:=jau.mp z;show (-u.2).natAbs<=_;rw[Int.natAbs_neg];exact jaB (hs' o h2 u hu)
  ·have hF':zax f (zaV l o):=hF;refine⟨hF.toIsForm,(hl.2.1.prod ho.2.1).of hF',zbS (n:=1024) (B:=10^20 * 10^20) hF' (by rw[zbO];omega) (zg3 (fun t ht=>jaB (hs l h1 t ht)) (fun t ht=>jaB (hs' o h2 t ht))) (by decide +kernel)⟩
noncomputable def Cmd.dw:Cmd->Str
 | .form _ _ => "form" | .stat _ _ => "statement" | .fixd _ _ _ _ => "fixed" | .put _ _ _ _ => "put" | .two w _ _ _=>opS w
noncomputable def zs5 (H:Hp) (x:V):Cmd->Prop
 | .form _ t=>∃ a f,x = .ref a/\TLo H a f/\zgH t=some f
 | .stat _ s=>Is H x s.d
 | .fixd _ a k b=>∃ q,x = .ref q/\H q=some (.tup [.str (S a),.int (k:Int),.int b])
 | .put _ a k b=>∃ q,x = .ref q/\H q=some (.tup [.str (S a),.str (S b),.int (k:Int)])
 | .two _ _ a b=>∃ q,x = .ref q/\H q=some (.tup [.str (S a),.str (S b)])
theorem zs5.keep {H H':Hp}{x:V}{c:Cmd} (h:zs5 H x c) (s:zai H H'):zs5 H' x c:=by
 cases c with
 | form n t=>obtain⟨a,f,e,h1,h2⟩:=h;exact⟨a,f,e,h1.keep s,h2⟩
 | stat n t=>exact (show Is H x t.d from h).keep s
 | fixd n a k b=>obtain⟨q,e,h1⟩:=h;exact⟨q,e,s _ _ h1⟩
 | put n a k b=>obtain⟨q,e,h1⟩:=h;exact⟨q,e,s _ _ h1⟩
 | two w n a b=>obtain⟨q,e,h1⟩:=h;exact⟨q,e,s _ _ h1⟩
noncomputable def zdy (H:Hp) (p:Addr) (c:Cmd):Prop:=∃ x,H p=some (.tup [.str c.dw,x,.str (S c.line)])/\zs5 H x c
theorem zdy.keep {H H':Hp}{p:Addr}{c:Cmd} (h:zdy H p c) (s:zai H H'):zdy H' p c:=let ⟨x,h1,h2⟩:=h; ⟨x,s _ _ h1,h2.keep s⟩
theorem zbK {H:Hp}{e:Addr}{x:Str} (h:H e=some (.lst [.str x])):Is H (.ref e) (.lst [.str x]):=zrU h (by
 unfold zby;exact⟨_,[],rfl,zaX.mpr rfl,by unfold zby;rfl⟩)
end My
namespace My
open PySem L2 OF PyProof.Rows
theorem sl1:1<=sizeLine:=by decide
theorem sl2:2<=sizeLine:=by decide
theorem sl3:3<=sizeLine:=by decide
theorem sl4:4<=sizeLine:=by decide
theorem sl6:6<=sizeLine:=by decide
namespace Rw
noncomputable def scOk (r:Rw):Bool :=
 (match (zaC r.s).kind with | .function=>true | _=>false) && !(zaC r.s).isCoroutine && !(zaC r.s).isGenerator && decide r.N.Nodup && decide (r.N.take r.ps.length=r.ps) && decide (∀ x∈r.ps,(zaC r.s).names.lookup x=some .local\/(zaC r.s).names.lookup x=some .cell) && decide (∀ y∈(zaC r.s).names,y.2 ≠ .free)
theorem sc {r:Rw} (h:r.scOk=true):zcW r.N r.ps (zaC r.s):=by
 unfold scOk at h;simp only[jaT,decide_eq_true_eq,Bool.not_eq_true'] at h;obtain⟨⟨⟨⟨⟨⟨h1,h2⟩,h3⟩,h4⟩,h5⟩,h6⟩,h7⟩:=h;refine⟨?_,h2,h3,h4,h5,h6,h7⟩;cases e:(zaC r.s).kind with
 | function=>rfl
 | _=>rw[e] at h1;cases h1
end Rw
section
variable {P:Program}{w:World}{K:PySem.W.Frag}{mg:Str->Option Value}{base:Heap}{r:Rw}{C:Addr}
structure Def (K:PySem.W.Frag) (mg:Str->Option Value) (r:Rw):Prop where
 F:Fun K r.n r.q r.s r.a r.fd
 m:mg r.n=some (.ref r.a)
 b:zf2 K r.fd r.ps []
 S:zcW r.N r.ps (zaC r.s)
structure zoM (K:PySem.W.Frag) (C:Addr) (r:Rw):Prop where
 F:Fun K r.n r.q r.s r.a r.fd
 m:zsP K C r.n r.a
 b:zf2 K r.fd r.ps []
 S:zcW r.N r.ps (zaC r.s)
theorem zd1 {us:List Value}{n:Nat} (h:us.length=n+1):∃ a v,us=a :: v/\v.length=n:=by
 cases us with
 | nil=>cases h
 | cons a v=>exact⟨a,v,rfl,Nat.succ.inj h⟩
theorem us1 {fd:FuncData}{ps:List Str} (h:∀ a,bindArgs fd ⟨[a],[]⟩=pure (ps.zip [a])) (us:List Value) (hl:us.length=1):bindArgs fd ⟨us,[]⟩=pure (ps.zip us):=by
 obtain⟨a,v0,rfl,h0⟩:=zd1 hl;cases ja6 h0;exact h a
theorem us2 {fd:FuncData}{ps:List Str} (h:∀ a b,bindArgs fd ⟨[a,b],[]⟩=pure (ps.zip [a,b])) (us:List Value) (hl:us.length=2):bindArgs fd ⟨us,[]⟩=pure (ps.zip us):=by
 obtain⟨a,v0,rfl,h0⟩:=zd1 hl;obtain⟨b,v1,rfl,h1⟩:=zd1 h0;cases ja6 h1;exact h a b
theorem us3 {fd:FuncData}{ps:List Str} (h:∀ a b c,bindArgs fd ⟨[a,b,c],[]⟩=pure (ps.zip [a,b,c])) (us:List Value) (hl:us.length=3):bindArgs fd ⟨us,[]⟩=pure (ps.zip us):=by
 obtain⟨a,v0,rfl,h0⟩:=zd1 hl;obtain⟨b,v1,rfl,h1⟩:=zd1 h0;obtain⟨c,v2,rfl,h2⟩:=zd1 h1;cases ja6 h2;exact h a b c
theorem us4 {fd:FuncData}{ps:List Str} (h:∀ a b c d,bindArgs fd ⟨[a,b,c,d],[]⟩=pure (ps.zip [a,b,c,d])) (us:List Value) (hl:us.length=4):bindArgs fd ⟨us,[]⟩=pure (ps.zip us):=by
 obtain⟨a,v0,rfl,h0⟩:=zd1 hl;obtain⟨b,v1,rfl,h1⟩:=zd1 h0;obtain⟨c,v2,rfl,h2⟩:=zd1 h1;obtain⟨d,v3,rfl,h3⟩:=zd1 h2;cases ja6 h3;exact h a b c d
theorem Rw.fun (l:K.lookup r.a=some (⟨.type "function",none,.func r.fd,#[]⟩)) (c:PySem.W.codeIn K (.ref (r.a-1)) r.q=true) (k:PySem.W.keepIn K (.ref r.a)=true):Fun K r.n r.q r.s r.a r.fd:=zrC l c k
theorem Def.of {h:Heap} (X:K.In h) (G:h.Ns mainGlobals mg) (u:∀ us:List Value,us.length=r.ps.length->bindArgs r.fd ⟨us,[]⟩=pure (r.ps.zip us)) (a:PySem.W.nsIn K mainGlobals r.n=some (some (.ref r.a)))
  (l:K.lookup r.a=some (⟨.type "function",none,.func r.fd,#[]⟩)) (c:PySem.W.codeIn K (.ref (r.a-1)) r.q=true) (k:PySem.W.keepIn K (.ref r.a)=true) (s:r.scOk=true):Def K mg r :=
 ⟨Rw.fun l c k,PySem.W.mg_of X G a,.all u,Rw.sc s⟩
theorem zoM.of (u:∀ us:List Value,us.length=r.ps.length->bindArgs r.fd ⟨us,[]⟩=pure (r.ps.zip us)) (a:PySem.W.findIn K (.ref C) r.n=some (some (.ref r.a)))
  (l:K.lookup r.a=some (⟨.type "function",none,.func r.fd,#[]⟩)) (c:PySem.W.codeIn K (.ref (r.a-1)) r.q=true) (k:PySem.W.keepIn K (.ref r.a)=true) (s:r.scOk=true) (y:PySem.W.isFn K (.ref r.a)=true):zoM K C r :=
 ⟨Rw.fun l c k,⟨a,y,k⟩,.all u,Rw.sc s⟩
theorem sqK {a:Addr} (xs:List Str) (ts:List Tok) (hl:xs.length=ts.length) (hs:ts.length<=sizeLine) (h:K.lookup a=some ⟨.type "tuple",none,.seq ((xs.zip ts).map fun p=>.str p.1 p.2).toArray 0,#[]⟩) (H:Hp):SqT K H a (xs.map V.str):=by
 refine .inr ⟨_,_,_,h,rfl,rfl,?_,?_⟩
 ·rw[jai,jaa,List.length_zip,hl,Nat.min_self];exact hs
 ·show zba _ ((xs.zip ts).map _);clear h hs;induction xs generalizing ts with
  | nil=>exact .nil
  | cons x xs ih =>
   cases ts with
   | nil=>cases hl
   | cons t ts=>exact .cons ⟨_,rfl⟩ (ih ts (Nat.succ.inj hl))
noncomputable abbrev Rw.Ok (r:Rw) (P:Program) (w:World) (K:PySem.W.Frag) (mg:Str->Option Value) (base:Heap) (k:Nat) (sp:Sp):Prop:=zi9 P w K mg base CX0 k r.a r.fd r.ps sp
noncomputable abbrev Rw.OkE (r:Rw) (P:Program) (w:World) (K:PySem.W.Frag) (mg:Str->Option Value) (base:Heap) (k:Nat) (sp:Sp):Prop:=zi9 P w K mg base (CXe P w) k r.a r.fd r.ps sp
theorem Rw.ok {k:Nat}{sp:Sp} (F:Fun K r.n r.q r.s r.a r.fd) (S:zcW r.N r.ps (zaC r.s))
  (h:∀ vs H Q E,sp vs H Q E->vs.length=r.ps.length/\∀ (cdv:Value) (A:Around) (outer:List Env) (s:Shared),zeg k (A.deeper (envOfC r.q (zaC r.s) s.heap.objs.size r.a cdv))->(A.deeper (envOfC r.q (zaC r.s) s.heap.objs.size r.a cdv)).units+1<cLine->r.N.Nodup ->
   ∃ t,PSs (zmY CX0 P w K mg base r.N r.q (zaC r.s) r.a cdv A outer s H E).nox (zda r.s) t/\t { nx:=fun _ H'=>Q .non H',rt:=Q } (zgw r.N vs) H):r.Ok P w K mg base (k+1) sp :=
 F.ok S (fun vs H Q E z=>(h vs H Q E z).1) fun cdv A outer s H vs Q E hr z=>(h vs H Q E z).2 cdv A outer s hr (zr0 hr) S.nd
theorem Rw.okE {k:Nat}{sp:Sp} (F:Fun K r.n r.q r.s r.a r.fd) (S:zcW r.N r.ps (zaC r.s))
  (h:∀ vs H Q E,sp vs H Q E->vs.length=r.ps.length/\∀ (cdv:Value) (A:Around) (outer:List Env) (s:Shared),zeg k (A.deeper (envOfC r.q (zaC r.s) s.heap.objs.size r.a cdv))->(A.deeper (envOfC r.q (zaC r.s) s.heap.objs.size r.a cdv)).units+1<cLine->r.N.Nodup ->
   ∃ t,PSs (zmY (CXe P w) P w K mg base r.N r.q (zaC r.s) r.a cdv A outer s H E) (zda r.s) t/\t { nx:=fun _ H'=>Q .non H',rt:=Q } (zgw r.N vs) H):r.OkE P w K mg base (k+1) sp :=
 F.okE S (fun vs H Q E z=>(h vs H Q E z).1) fun cdv A outer s H vs Q E hr z=>(h vs H Q E z).2 cdv A outer s hr (zr0 hr) S.nd
end
section
variable {X:Cx}{r:Rw}{k:Nat}{sp:Sp}{e:Expr}{es:List Expr}{t:TA}{p pos:Pos}{E:XK}
theorem zaN {x:Str} (D:Def X.K X.mg r) (F:zi9 X.prog X.w X.K X.mg X.base CX0 k r.a r.fd r.ps sp) (hr:zeg k X.A) (ha:PA X (e :: es) t) (hx:r.n=x:=by rfl) (hg:Gl X x:=by rfl) (hdb:(x == ("__debug__" : Str))=false:=by decide)
  (he:starEach (e :: es) X.env=(false,eval e X.env) :: starEach es X.env:=by rfl) (hpl:(backTo pos (starEach es X.env)).any (·.1)=false:=by rfl):PE X (.Call (.Name x p) (e :: es) [] pos) (zsJ sp [] E0 t):=by
 subst hx;exact zmw F hr hg D.m D.F.kp D.b .nil zsc ha hdb he hpl
theorem zaS (i:Nat) {x:Str}{e:Expr}{te:TE}{pos':Pos} (hN:X.N.Nodup) (he:PE X e te) (hi:X.N[i]? = some x:=by rfl) (hx:Loc X.env.scope x:=by first | exact Or.inl rfl | exact Or.inr rfl) (hs:swapsWith e (some (.Name x pos')) pos.line X.env=pure false:=by rfl)
  (hf:X.fn x=true\/X.env.scope.names.lookup x=some .local:=by first | exact .inl rfl | exact .inr rfl | assumption):PS X (.Assign [.Name x pos'] e pos) (zpA te (zaH i)):=zoR hN hi hx he hs hf
theorem pgn (i:Nat) {x:Str} (hN:X.N.Nodup) (hi:X.N[i]? = some x:=by rfl) (hx:Loc X.env.scope x:=by first | exact Or.inl rfl | exact Or.inr rfl) (hf:X.fn x=true\/X.env.scope.names.lookup x=some .local:=by first | exact .inl rfl | exact .inr rfl | assumption):PG X (.Name x pos) (zaH i):=zm9 hN hi hx hf
theorem zfL (r:Rw) {scope:Scope}{N':List Str}{nT:Nat}{js:List Nat} (h1:X.env.scope=zaC r.s:=by rfl) (h2:X.N=r.N:=by rfl) (hk:scope.kind = .function:=by rfl)
  (hall:(scope.names.all fun y=>y.2 != .cell && (y.2 != .local || scope.names.lookup y.1 == some .local) && (y.2 != .free || (zaC r.s).names.lookup y.1 == some .cell))=true:=by decide +kernel)
  (hlen:N'.length=nT+js.length:=by rfl) (hf:(js.map fun j=>r.N[j]?)=(N'.drop nT).map some:=by decide +kernel) (hv:((N'.drop nT).all fun x=>scope.names.lookup x == some .free)=true:=by decide +kernel):zgs X scope N' nT js :=
 zgs.of _ _ h1 h2 hk hall hlen hf hv
end
end My
set_option maxHeartbeats 4000000
namespace My
open PySem L2 OF
noncomputable abbrev zho:Addr:=435
noncomputable abbrev zeB:Addr:=436
noncomputable abbrev zeS:Addr:=437
noncomputable abbrev zeu:Addr:=438
noncomputable abbrev zeG:Addr:=439
noncomputable abbrev zeC:Addr:=440
noncomputable abbrev zeJ:Addr:=441
noncomputable abbrev zeL:Addr:=442
noncomputable abbrev zbt:Addr:=543
noncomputable abbrev zcT:Addr:=150
noncomputable abbrev zaZ:Addr:=313
noncomputable abbrev zgZ:Addr:=443
noncomputable abbrev zhA:Addr:=444
noncomputable abbrev zhh:Addr:=445
noncomputable abbrev zhV:Addr:=446
noncomputable abbrev zhT:Addr:=447
noncomputable abbrev zhr:Addr:=448
noncomputable abbrev zdP:Addr:=187
noncomputable abbrev zdM:Addr:=199
noncomputable abbrev zaP:Addr:=211
noncomputable abbrev zdJ:Addr:=175
noncomputable abbrev zbq:Addr:=163
noncomputable abbrev zaL:Addr:=223
noncomputable abbrev zdO:Addr:=314
noncomputable abbrev zcK:Addr:=235
set_option genInjectivity false
structure Txt (w:World) (K:PySem.W.Frag) (mg:Str->Option Value):Prop where
 d_Z36:Def K mg zee
 d_Z37:Def K mg zcd
 d_Z32:Def K mg zc4
 d_Desk_init:zoM K zbt zc9
 d_Z27:Def K mg zhp
 d_Z45:Def K mg zc3
 d_Z34:Def K mg zdE
 d_Z52:Def K mg zbI
 d_Z48:Def K mg zci
 d_Z33:Def K mg zbz
 d_Z44:Def K mg zei
 d_Z50:Def K mg zdG
 d_Z28:Def K mg zcf
 d_Z35:Def K mg zec
 d_Z39:Def K mg zbZ
 d_Z40:Def K mg zdK
 d_Z51:Def K mg zcV
 d_Z41:Def K mg zf7
 d_Z47:Def K mg zcr
 d_Z30:Def K mg zej
 d_Z38:Def K mg zdu
 d_Z53:Def K mg zdw
 d_Z29:Def K mg zcC
 d_Z21:Def K mg zeR
 d_Z22:Def K mg zdd
 d_Z23:Def K mg zjz
 d_Z76:Def K mg zdm
 d_Z77:Def K mg zcb
 d_Z26:Def K mg zea
 d_Z56:Def K mg zd5
 d_Desk_kept:zoM K zbt zd7
 d_Z9:Def K mg zcS
 d_Z78:Def K mg zje
 d_Z58:Def K mg zlA
 d_Z64:Def K mg zmR
 d_Z71:Def K mg zfI
 d_Z55:Def K mg zmS
 d_Z3:Def K mg ze2
 d_Z67:Def K mg zcX
 d_Z4:Def K mg zgx
 d_Z68:Def K mg zfh
 d_Z69:Def K mg zdr
 d_Z20:Def K mg zgu
 d_Z14:Def K mg zc5
 d_Z79:Def K mg zeV
 d_Z80:Def K mg zd9
 d_Z88:Def K mg zcD
 d_Z89:Def K mg zek
 d_Z62:Def K mg zen
 d_Z61:Def K mg zdl
 d_Z66:Def K mg zlQ
 d_Z63:Def K mg ze9
 d_Z83:Def K mg zfg
 d_Z59:Def K mg zcl
 d_Z25:Def K mg zhR
 d_Z13:Def K mg zcE
 d_Z11:Def K mg zbB
 d_Z1:Def K mg zfS
 d_Z12:Def K mg zcB
 d_Z90:Def K mg zeP
 d_Z16:Def K mg zhx
 d_Z7:Def K mg zji
 d_Z65:Def K mg zhN
 d_Z24:Def K mg zeb
 d_Z92:Def K mg zhl
 d_Desk_form_for:zoM K zbt zcg
 d_Z70:Def K mg zbX
 d_Z73:Def K mg zdv
 d_Z2:Def K mg zgm
 d_Z57:Def K mg zfA
 d_Z72:Def K mg zcU
 d_Z74:Def K mg zc7
 d_Z15:Def K mg zcx
 d_Z81:Def K mg zgp
 d_Desk_answer:zoM K zbt zdb
 d_Desk_say:zoM K zbt ze5
 d_Z42:Def K mg zdB
 d_Z49:Def K mg zdk
 d_Z43:Def K mg ze1
 d_law:Def K mg zhM
 g_Desk:mg "Desk" = some (.ref zbt)
 cl_Desk:Cls K zbt
 nf_Desk_forms:zgl K zbt "forms"
 mk_Desk:Mk K zbt zc9.a
 n_ValueError:mg "ValueError" = none
 n_abs:mg "abs" = none
 n_all:mg "all" = none
 n_any:mg "any" = none
 n_enumerate:mg "enumerate" = none
 n_int:mg "int" = none
 n_isinstance:mg "isinstance" = none
 n_len:mg "len" = none
 n_max:mg "max" = none
 n_range:mg "range" = none
 n_reversed:mg "reversed" = none
 n_sorted:mg "sorted" = none
 n_str:mg "str" = none
 n_sum:mg "sum" = none
 n_zip:mg "zip" = none
 g_SMALL_LETTERS:mg "SMALL_LETTERS" = some (.str "abcdefghijklmnopqrstuvwxyz" 764)
 g_FIGURES:mg "FIGURES" = some (.str "0123456789" 696)
 g_LETTERS:mg "LETTERS" = some (.str "abcdefghijklmnop" 589)
 g_MADE:mg "MADE" = some (.ref zgZ)
 q_MADE_0:∀ H:Hp,SqT K H zhA [.str "name",.str "name"]
 q_MADE_1:∀ H:Hp,SqT K H zhh [.str "name",.str "name"]
 q_MADE_2:∀ H:Hp,SqT K H zhV [.str "name",.str "name"]
 q_MADE_3:∀ H:Hp,SqT K H zhT [.str "name",.str "letter",.str "bit"]
 q_MADE_4:∀ H:Hp,SqT K H zhr [.str "name",.str "letter",.str "name"]
 q_MADE:znE w K zgZ [("plus",zhA),("less",zhh),("times",zhV),("fixed",zhT),("put",zhr)]
 g_ASKED:mg "ASKED" = some (.ref zho)
 q_ASKED_0:∀ H:Hp,SqT K H zeB [.str "name"]
 q_ASKED_1:∀ H:Hp,SqT K H zeS [.str "name",.str "number"]
 q_ASKED_2:∀ H:Hp,SqT K H zeu [.str "name",.str "name"]
 q_ASKED_3:∀ H:Hp,SqT K H zeG [.str "name",.str "name",.str "divisor"]
 q_ASKED_4:∀ H:Hp,SqT K H zeC [.str "name"]
 q_ASKED_5:∀ H:Hp,SqT K H zeJ [.str "name"]
 q_ASKED_6:∀ H:Hp,SqT K H zeL [.str "name"]
 q_ASKED:znE w K zho [("show",zeB),("worth",zeS),("alike",zeu),("rest",zeG),("least",zeC),("ways",zeJ),("unknowns",zeL)]
 g_SPACED:mg "SPACED" = some (.ref zdO)
 q_SPACED:∀ H:Hp,SqT K H zdO [.str "not ",.str " and ",.str " or ",.str " xor "]
 g_JOINING:mg "JOINING" = some (.ref zaZ)
 q_JOINING:∀ H:Hp,SqT K H zaZ [.str "and",.str "or",.str "xor"]
 g_NoName:mg "NoName" = some (.ref zaP)
 x_NoName:zk6 K zaP (.ref zcT :: vB)=true
 g_FormError:mg "FormError" = some (.ref zcT)
 x_FormError:zk6 K zcT vB=true
 g_NoYesNo:mg "NoYesNo" = some (.ref zaL)
 x_NoYesNo:zk6 K zaL (.ref zcT :: vB)=true
 g_NoLine:mg "NoLine" = some (.ref zdM)
 g_NoForm:mg "NoForm" = some (.ref zdP)
 g_NoStatement:mg "NoStatement" = some (.ref zbq)
 g_TooMany:mg "TooMany" = some (.ref zcK)
 g_NoPull:mg "NoPull" = some (.ref zdJ)
 i_NoName_NoName:PySem.W.kitOne K (.ref zaP) (.ref zaP)=some true
 i_NoName_NoYesNo:PySem.W.kitOne K (.ref zaP) (.ref zaL)=some false
 i_NoName_NoLine:PySem.W.kitOne K (.ref zaP) (.ref zdM)=some false
 i_NoName_NoForm:PySem.W.kitOne K (.ref zaP) (.ref zdP)=some false
 i_NoName_NoStatement:PySem.W.kitOne K (.ref zaP) (.ref zbq)=some false
 i_NoName_TooMany:PySem.W.kitOne K (.ref zaP) (.ref zcK)=some false
 i_NoName_NoPull:PySem.W.kitOne K (.ref zaP) (.ref zdJ)=some false
 v_NoName:PySem.W.kitOne K (.ref zaP) (.type "ValueError")=some true
 i_NoYesNo_NoName:PySem.W.kitOne K (.ref zaL) (.ref zaP)=some false
 i_NoYesNo_NoYesNo:PySem.W.kitOne K (.ref zaL) (.ref zaL)=some true
 i_NoYesNo_NoLine:PySem.W.kitOne K (.ref zaL) (.ref zdM)=some false
 i_NoYesNo_NoForm:PySem.W.kitOne K (.ref zaL) (.ref zdP)=some false
 i_NoYesNo_NoStatement:PySem.W.kitOne K (.ref zaL) (.ref zbq)=some false
 i_NoYesNo_TooMany:PySem.W.kitOne K (.ref zaL) (.ref zcK)=some false
 i_NoYesNo_NoPull:PySem.W.kitOne K (.ref zaL) (.ref zdJ)=some false
 v_NoYesNo:PySem.W.kitOne K (.ref zaL) (.type "ValueError")=some true
set_option genInjectivity true
theorem zaW {X:Cx}{st:Stmt}:PS X st (fun _ _ _=>False):=fun _ _ _ _ _ _ h=>h.elim
seal L2.PS L2.PSs L2.PE L2.PT L2.PA L2.PI L2.PG L2.PW L2.PO L2.PTs
section
variable {P:Program}{w:World}{K:PySem.W.Frag}{mg:Str->Option Value}{base:Heap}
theorem zo4 (T:Txt w K mg):zee.Ok P w K mg base 1 ztQ:=by
  refine Rw.ok T.d_Z36.F T.d_Z36.S fun vs H Q E h=>?_
  obtain⟨c,k,rfl,k1,k2,q⟩:=h;refine⟨rfl,fun _ _ _ _ hr hu nd=>⟨_,(zab (zaS 2 nd (zao zaY (zao zbx (zao zbx (zao zbi (pv 0) zaf) (zao zbi (zao zbi zaf (pv 1)) (pv 1))) (pv 1)) zaf))
   (zab (zaS 2 nd (zao zaY (zao zbi (pv 2) (pv 2)) zaf))
   (zae (zak (zao zaY (zao zbi (pv 2) zaf) zaf))))),?_⟩⟩
  refine⟨_,rfl,_,_,rfl,rfl,zlM (by decide) (by decide),_,rfl,_,_,rfl,rfl,ziX (by decide) (by decide),_,rfl,_,_,rfl,rfl,zlM k1 k2,_,_,rfl,rfl,_,rfl,_,_,rfl,rfl,_,_,rfl,rfl,(by show (0:Int)<2147483647;decide),?_⟩;generalize hz:(c * 1103515245+7919 * k * k+k) % 2147483647=z;have z1:0<=z:=by rw[<- hz];exact jaV _ (by decide)
  have z2:z<2147483647:=by rw[<- hz];exact jaN _ (by decide)
  refine⟨_,rfl,_,rfl,_,_,rfl,rfl,ziX (by omega) (by omega),_,_,rfl,rfl,(by show (0:Int)<2147483629;decide),?_⟩;refine⟨_,rfl,_,_,rfl,rfl,zlM (by decide) (by decide),_,_,rfl,rfl,(by show (0:Int)<2147483587;decide),?_⟩;exact q _ (jaV _ (by decide)) (jaN _ (by decide))
noncomputable def zlf (K:PySem.W.Frag):Sp:=fun vs H Q _=>∃ (n:Int) (mo:Nat),vs=[.int n,.int (mo:Int)]/\mo<=8 /\
 ∀ (b:Addr) (ls:List Nat) (H':Hp),H b=none->H' b=some (.lst (zeh ls))->ls.Nodup->(∀ x∈ls,x<16)->ls.length=mo->zai H H'->Q (.ref b) H'
theorem zrI (T:Txt w K mg):zc4.Ok P w K mg base 1 (zlf K):=by
  refine Rw.ok T.d_Z32.F T.d_Z32.S fun vs H Q E h=>?_
  obtain⟨n,mo,rfl,hmo,q⟩:=h;refine⟨rfl,fun _ _ _ _ hr hu nd=>⟨_,(zab (zaS 2 nd (zaG zad))
   (zab (zbs jaG rfl (zbw rfl T.n_range (zaa (pv 1) zad)) (pgn 3 nd)
    (zab (zaS 4 nd (zao zaY (zao zbj (pv 0) (zao zbx (pv 3) zaf)) zaf))
   (zab (zeT jaG (zah zcj (pv 4) (pv 2) rfl) (zae (zaS 4 nd (zao zaY (zao zbx (pv 4) zaf) zaf))))
   (zae (zaU (za9 jaf jap jaq zaM (pv 2) (zaa (pv 4) zad)))))))
   (zae (zak (pv 2))))),?_⟩⟩
  refine⟨jaE _,fun c hc=>?_⟩;have s0:zai H (upd H c (.lst [])):=zai.upd hc;refine⟨_,rfl,(mo:Int),rfl,by omega,by omega,?_⟩;refine zco (n:=mo) (fun i σ H2=>∃ (ls:List Nat) (v4 v5:Option V),σ = [some (.int n),some (.int (mo:Int)),some (.ref c),v4,v5]/\H2 c=some (.lst (zeh ls))/\ls.length=i/\ls.Nodup/\(∀ x∈ls,x<16)/\zai H H2)
   ⟨[],none,none,rfl,zac,rfl,jds,(fun x hx=>by cases hx),s0⟩ ?_ ?_
  ·rintro i σ H2 hi ⟨ls,v4,v5,rfl,h1,h2,h3,h4,h5⟩;refine⟨_,rfl,_,rfl,_,_,rfl,rfl,_,_,rfl,rfl,zbT (by omega) (by omega),_,_,rfl,rfl,(by show (0:Int)<16;decide),?_⟩;have g1:=jaV (n / (0+(i:Int)+1)) (show ((16:Int))≠0 by omega);have g2:=jaN (n / (0+(i:Int)+1)) (show (0:Int)<16 by omega);obtain⟨x0,hx0⟩:∃ x0:Nat,n / (0+(i:Int)+1) % 16=(x0:Int):=⟨_,(ja5 g1).symm⟩;rw[hx0] at g2;dsimp only;rw[hx0];obtain⟨m0,hm0⟩:=zmK (ls:=ls) (x:=x0) (by omega);refine⟨fun m σ H3=>∃ x:Nat,σ = [some (.int n),some (.int (mo:Int)),some (.ref c),some (.int (0+(i:Int))),some (.int (x:Int))]/\x<16/\(x+5 * m) % 16 ∉ ls/\H3=H2,⟨m0,x0,rfl,by omega,hm0,rfl⟩,?_⟩;rintro m σ H3 ⟨x,rfl,hx,hm,rfl⟩;refine⟨_,rfl,_,rfl,c,_,rfl,.inl (SqL.of h1),rfl,zmu ls,_,rfl,?_⟩;show if (inV (.int (x:Int)) (zeh ls))=true then _ else _
   unfold zeh;rw[zpv];by_cases hin:x∈ls
   ·refine za4 (by simpa using hin) ?_;have hmp:m≠0:=by
     intro z;rw[z,Nat.mul_zero,Nat.add_zero,Nat.mod_eq_of_lt hx] at hm;exact hm hin
    refine⟨fun σ' H' => σ'=[some (.int n),some (.int (mo:Int)),some (.ref c),some (.int (0+(i:Int))),some (.int (((x+5) % 16:Nat):Int))]/\H'=H3,fun σ' H' ⟨e1,e2⟩=>⟨m-1,by omega,(x+5) % 16,e1,jdr _ (by omega),?_,e2⟩,?_⟩
    ·have e:((x+5) % 16+5 * (m-1)) % 16=(x+5 * m) % 16:=by omega
     rw[e];exact hm
    ·refine⟨_,rfl,_,_,rfl,rfl,_,_,rfl,rfl,(by show (0:Int)<16;decide),?_,rfl⟩;have e:((((x+5) % 16:Nat)):Int)=((x:Int)+5) % 16:=by norm_cast
     rw[e];rfl
   ·refine zaB (by simpa using hin) ?_;refine⟨_,rfl,.inl ⟨rfl,_,SqL.of h1⟩,_,rfl,c,_,_,rfl,rfl,h1,(by unfold zeh;rw[jaa];exact zaF (by omega)),ls ++ [x],_,_,rfl,(by rw[zac];unfold zeh;rw[jac];rfl),by simp[h2],?_,?_,h5.write hc⟩
    ·rw[List.nodup_append];refine⟨h3,by simp,fun a' ha' b' hb' z=>?_⟩
     have:b'=x:=by simpa using hb'
     subst z this;exact hin ha'
    ·intro y hy;rcases jah.mp hy with z | z
     ·exact h4 y z
     ·have:y=x:=by simpa using z
      rw[this];exact hx
  ·rintro σ H2 ⟨ls,v4,v5,rfl,h1,h2,h3,h4,h5⟩;exact⟨_,rfl,q c ls H2 hc h1 h3 h4 h2 h5⟩
noncomputable def zpE (C:Addr):Sp:=fun vs H Q _=>∃ p dx:Addr,vs=[.ref p]/\H p=some (.ins C dx [])/\∀ (d:Addr) (H':Hp),H d=none->zcw C H' p d []->(∀ b o,H b=some o->b≠p->H' b=some o)->Q .non H'
theorem ziA (T:Txt w K mg):zc9.Ok P w K mg base 1 (zpE zbt):=by
  refine Rw.ok T.d_Desk_init.F T.d_Desk_init.S fun vs H Q E h=>?_
  obtain⟨p,dx,rfl,hp,q⟩:=h;refine⟨rfl,fun _ _ _ _ hr hu nd=>⟨_,(zae (zsZ (pv 0) zdI rfl)),?_⟩⟩;intro d hd;have npd:p≠d:=zat hp hd;refine⟨_,rfl,p,zbt,dx,[],rfl,(by rw[zan npd];exact hp),T.cl_Desk,T.nf_Desk_forms,(by show 0<1000;decide),?_⟩;refine q d _ hd ⟨⟨dx,zac⟩,[],by rw[zan npd.symm,zac],.nil⟩ fun b o e hb=>?_
  rw[zan hb,zan (zat e hd)];exact e
theorem zsm (T:Txt w K mg):zhp.Ok P w K mg base 1 (zvf K):=by
  refine Rw.ok T.d_Z27.F T.d_Z27.S fun vs H Q E h=>?_
  obtain⟨a,ns,k,rfl,hS,q⟩:=h;refine⟨rfl,fun _ _ _ _ hr hu nd=>⟨_,(zab (zay (zah zh4 (pv 1) (zar zaz (by rfl) T.n_len jaF (zaa (pv 0) zad)) (zal _)) (zae (zak (zav zas (pv 0) (pv 1) (fun _ _=>rfl)))) zam)
   (zae (zak zaf))),?_⟩⟩
  refine⟨_,rfl,_,rfl,a,_,rfl,.inl hS,_,_,rfl,rfl,_,rfl,?_⟩;refine zgJ (fun h1=>?_) (fun h1=>?_)
  ·have h1':k<ns.length:=by have:=of_decide_eq_true h1;rw[jaa] at this;omega
   refine⟨_,rfl,_,rfl,a,_,_,_,rfl,rfl,hS,zaA (j:=k) (v:=V.int (ns.getD k 0)) ?_,q⟩;rw[jaC,jar h1',jcR,jar h1'];rfl
  ·have h1':ns.length<=k:=by
    by_cases z:ns.length<=k
    ·exact z
    ·exact absurd (decide_eq_true (by rw[jaa];omega)) h1
   rw[jcR,jcw h1'] at q;exact q
noncomputable def zow (K:PySem.W.Frag):Sp:=fun vs H Q _=>∃ (a:Addr) (f:zag),vs=[.ref a]/\TLo H a f/\f.length<=64/\∀ (b:Bool) (H':Hp),(b=true->∀ t∈f,t.2.natAbs<10^20)->zai H H'->Q (.bl b) H'
theorem zjV:(["_law_where", "_law_number"]:List Str).Nodup:=by decide +kernel
theorem zoK (T:Txt w K mg):zc3.Ok P w K mg base 1 (zow K):=by
  refine Rw.ok T.d_Z45.F T.d_Z45.S fun vs H Q E h=>?_
  obtain⟨a,f,rfl,hT,hlen,q⟩:=h;refine⟨rfl,fun _ _ _ _ hr hu nd=>⟨_,(zae (zak (zbp zh4 (zar (zlx rfl) (by rfl) T.n_max PyProof.Rows.boot_max (zaa (zao ziy (zaG (zaa zaf zad)) (zbb (g:=(zi1 K 2 (zbD (zaH 0) (zbD (zaH 1) ziZ)))) ["_law_where", "_law_number"] 2 [] rfl (zfL zc3) (zaR (pv 0))
    (fun cl C s₀ H₀ fp=>(zbe (n:=2) rfl (zap (pgn 0 zjV) (zap (pgn 1 zjV) zaT)))) (fun cl C s₀ H₀ fp=>zbW) (fun cl C s₀ H₀ fp=>(zar zeF (by rfl) T.n_abs jbx (zaa (pv 1) zad))))) zad)) (zao zj3 zaf zaf) (zal _)))),?_⟩⟩
  obtain⟨ps,hS,hP⟩:=id hT;have hpl:=hP.length;refine⟨sl1,fun l1 hl1=>?_⟩;have s1:zai H (upd H l1 (.lst [.int 0])):=zai.upd hl1;have y1:upd H l1 (.lst [.int 0]) l1=some (.lst [.int 0]):=zac;generalize upd H l1 (.lst [.int 0])=H1 at s1 y1;have hS1:=s1 _ _ hS;refine⟨_,rfl,a,rfl,⟨_,SqL.of hS1⟩,?_⟩;refine zbn (K:=K) (a:=a) (xs:=ps.map V.ref) (fun i ys σ G=>∃ v0 v1:Option V,σ = [v0,v1]/\ys=((f.take i).map fun t=>(t.2.natAbs:Int)).map V.int/\G=H1)
   ⟨none,none,rfl,rfl,rfl⟩ (fun i ys σ G hi ⟨_,_,_,e1,e2⟩=>⟨by rw[e2];exact SqL.of hS1,by rw[e1,jaa,jaa,jaJ];omega⟩) (by rw[jaa];exact jaB (zaF (by omega))) ?_ ?_
  ·rintro i y ys σ G hi ⟨v0,v1,rfl,rfl,rfl⟩;obtain⟨p,hpi,rfl⟩:=zcG hi;obtain⟨t,ht1,ht2⟩:=hP.at' hpi;have ea:(if t.2<0 then -t.2 else t.2)=((t.2.natAbs:Nat):Int):=by split <;> omega
   refine⟨p,_,rfl,SqT.of (s1 _ _ ht2),rfl,_,_,rfl,_,_,rfl,rfl,?_⟩;refine tt ?_;refine⟨_,rfl,_,rfl,?_⟩;refine⟨_,_,rfl,?_,rfl⟩;rw[jaI,ht1,ea,jac,jac];rfl
  ·rintro ys σ G ⟨v0,v1,rfl,rfl,rfl⟩ D hD;rw[jaa,hpl,jaK] at *;have s2:zai G (upd G D (.lst ((f.map fun t=>(t.2.natAbs:Int)).map V.int))):=zai.upd hD;have y2:upd G D (.lst ((f.map fun t=>(t.2.natAbs:Int)).map V.int)) D=some (.lst ((f.map fun t=>(t.2.natAbs:Int)).map V.int)):=zac;generalize upd G D (.lst ((f.map fun t=>(t.2.natAbs:Int)).map V.int))=H2 at s2 y2 ⊢;refine⟨l1,D,_,_,rfl,rfl,s2 _ _ y1,y2,(by rw[jaa,jaa];exact jaB (zaF (by show 1+f.length<=_;omega))),fun c hc=>?_⟩;refine⟨c,0 :: f.map (fun t=>(t.2.natAbs:Int)),rfl,SqL.of zac,Nat.succ_pos _,fun m hm=>?_⟩;refine⟨_,_,rfl,rfl,⟨by decide,by decide,by decide⟩,_,_,rfl,rfl,?_⟩;refine q _ _ (fun z t ht=>?_) (s1.trans (s2.trans (zai.upd hc)));have h1:=hm.2 (t.2.natAbs:Int) (jax _ (jau.mpr ⟨t,ht,rfl⟩));have h2:m<(10:Int)^Int.toNat 20:=of_decide_eq_true z;have h3:(10:Int)^Int.toNat 20=((10^20:Nat):Int):=by decide
   rw[h3] at h2;omega
theorem znC:(["_law_one", "_law_numbers"]:List Str).Nodup:=by decide +kernel
theorem zlS (T:Txt w K mg):zdE.Ok P w K mg base 1 (zm3 K):=by
  refine Rw.ok T.d_Z34.F T.d_Z34.S fun vs H Q E h=>?_
  obtain⟨a,l,rfl,⟨ps,hS,hT⟩,hlen,hfew,q⟩:=h;refine⟨rfl,fun _ _ _ _ hr hu nd=>⟨_,(zab (zaS 1 nd zdI)
   (zab (zbs jaG rfl (zaR (pv 0)) (zbe (n:=2) rfl (zap (pgn 2 nd) (zap (pgn 3 nd) zaT)))
    (zae (zeY hu (pv 1) (pv 2) (zao zbx (zer hu (pv 1) (pv 2) zaf ⟨rfl,rfl,rfl,rfl⟩) (pv 3)) rfl)))
   (zae (zak (zbb (g:=(zaH 0)) ["_law_one", "_law_numbers"] 1 [1] rfl (zfL zdE) (zaR (zar (zc8 rfl) (by rfl) T.n_sorted jca (zaa (pv 1) zad)))
    (fun cl C s₀ H₀ fp=>(pgn 0 znC)) (fun cl C s₀ H₀ fp=>(zck (zah zfe (zb4 hu (pv 1) (pv 0) (fun _ _=>rfl)) zaf (zal _)))) (fun cl C s₀ H₀ fp=>(zaE (zaa (pv 0) (zaa (zb4 hu (pv 1) (pv 0) (fun _ _=>rfl)) zad))))))))),?_⟩⟩
  intro d hd;have s0:zai H (upd H d (.dK [])):=zai.upd hd;refine⟨_,rfl,a,rfl,⟨_,s0.seq hS⟩,?_⟩;refine zbM (K:=K) (a:=a) (xs:=ps.map V.ref) (fun i σ H2=>∃ (dd:zag) (v2 v3:Option V),σ = [some (.ref a),some (.ref d),v2,v3]/\H2=upd H d (.dK (dd.map zgG))/\DictOf dd (l.take i))
   ⟨[],none,none,rfl,rfl,zfc⟩ (fun i σ H2 _ ⟨_,_,_,_,e,_⟩=>by rw[e];exact (zai.upd hd).seq hS) ?_ ?_
  ·rintro i y σ H2 hi ⟨dd,v2,v3,rfl,rfl,hdd⟩;obtain⟨p,hpi,rfl⟩:=zcG hi;obtain⟨t,ht1,ht2⟩:=hT.at' hpi;have htk:l.take (i+1)=l.take i ++ [t]:=by rw[jaI,ht1];rfl
   have hil:i<l.length:=(jam.mp ht1).1;have hdl:dd.length<=i:=jak hdd.len (by rw[jaJ];omega);have hdd2:=hdd.snoc t;rw[<- htk] at hdd2;refine⟨p,_,rfl,SqT.of ((zai.upd hd) _ _ ht2),rfl,_,_,rfl,_,_,rfl,rfl,?_⟩;refine⟨_,rfl,d,rfl,.inl ⟨_,.inl zac⟩,_,rfl,_,zft.k (k:=Sum.inl t.1) zac,?_⟩;rw[zc6];have eg:((look dd t.1).map V.int).getD (V.int 0)=V.int (zeU dd t.1):=by
    unfold zeU;cases look dd t.1 <;> rfl
   rw[eg];refine⟨_,rfl,_,_,rfl,rfl,_,rfl,_,rfl,d,_,rfl,zna.k (k:=Sum.inl t.1) zac ?_,zj5 dd t.1 (zeU dd t.1+t.2),_,_,rfl,?_,hdd2⟩
   ·rw[jaa];exact zaF (by omega)
   ·rw[zhJ,zhs]
  ·rintro σ H2 ⟨dd,v2,v3,rfl,rfl,hdd⟩;have hl0:l.take (ps.map V.ref).length=l:=by rw[jaa,hT.length,jaK]
   rw[hl0] at hdd;have hddl:dd.length<=100000:=jak hdd.len hlen;have hd0:upd H d (.dK (dd.map zgG)) d=some (.dK (dd.map zgG)):=zac;have s1:zai H (upd H d (.dK (dd.map zgG))):=zai.upd hd;generalize upd H d (.dK (dd.map zgG))=H1 at hd0 s1;refine⟨_,rfl,d,_,dd.map (·.1),rfl,hd0,zkp dd,(by rw[jaa];exact zf8 hdd hfew),fun e ks he hperm hsort=>?_⟩;have hed:d≠e:=zat hd0 he;refine⟨e,rfl,⟨_,SqL.of zac⟩,?_⟩;have hkl:ks.length<=100000:=by have:=hperm.length_eq;rw[jaa] at this;omega
   refine zbn (K:=K) (a:=e) (xs:=ks.map V.int) (fun i ys σ H2=>∃ (v0:Option V) (qs:List Addr),σ = [v0,some (.ref d)]/\ys=qs.map V.ref/\zdi H2 qs (za6 dd (ks.take i))/\H2 d=some (.dK (dd.map zgG))/\H2 e=some (.lst (ks.map V.int))/\zai H1 H2)
    ⟨none,[],rfl,rfl,.nil,(by rw[zan hed];exact hd0),zac,zai.upd he⟩ (fun i ys σ H2 hi ⟨_,qs,_,e1,e2,_,e4,_⟩=>⟨SqL.of e4,by
     rw[e1,jaa,e2.length]
     have:=zbN dd (ks.take i)
     rw[jaJ] at this;omega⟩) (by rw[jaa];exact jaB (zaF (by omega))) ?_ ?_
   ·rintro i y ys σ H2 hi ⟨v0,qs,rfl,rfl,g2,g3,g4,g5⟩;obtain⟨k,hki,rfl⟩:=zio hi;have hkm:k∈dd.map (·.1):=hperm.mem_iff.mp (jao hki);obtain⟨v,hv⟩:∃ v,look dd k=some v:=by
     cases e:look dd k with
     | none=>exact absurd e (zfw.mpr hkm)
     | some v=>exact⟨v,rfl⟩
    have hgv:zeU dd k=v:=by unfold zeU;rw[hv];rfl
    have htk:ks.take (i+1)=ks.take i ++ [k]:=by rw[jaI,hki];rfl
    have hget:∀ {H3:Hp},H3 d=some (.dK (dd.map zgG))->zft H3 d (.int k) (some (.int v)):=fun {H3} z=>by
     have:=zft.k (k:=Sum.inl k) z
     rw[zc6,hv] at this;exact this
    refine⟨_,rfl,_,rfl,d,_,rfl,hget g3,rfl,_,rfl,?_⟩;by_cases hv0:v=0
    ·subst hv0;refine zrT rfl ⟨_,qs,rfl,rfl,?_,g3,g4,g5⟩
     have:za6 dd (ks.take (i+1))=za6 dd (ks.take i):=by
      rw[htk];unfold za6;rw[jaO,jac];simp[hgv]
     rw[this];exact g2
    ·have hne:¬ (V.int v=V.int 0):=fun z=>hv0 (by injection z)
     rw[decide_eq_false hne];refine zhL ?_;refine⟨_,rfl,_,rfl,_,rfl,d,_,rfl,hget g3,sl2,fun t ht=>?_⟩;have s3:zai H2 (upd H2 t (.tup [.int k,.int v])):=zai.upd ht;refine⟨_,qs ++ [t],rfl,(by rw[jac];rfl),?_,s3 _ _ g3,s3 _ _ g4,g5.trans s3⟩
     have:za6 dd (ks.take (i+1))=za6 dd (ks.take i) ++ [(k,v)]:=by
      rw[htk];unfold za6;rw[jaO,jac];simp[hgv,hv0]
     rw[this];exact zdi.snoc (g2.keep fun b xs z=>s3 b _ z) zac
   ·rintro ys σ H2 ⟨v0,qs,rfl,rfl,g2,g3,g4,g5⟩ D hD;rw[jaa,jaK] at g2;have s3:zai H2 (upd H2 D (.lst (qs.map V.ref))):=zai.upd hD;refine q D (za6 dd ks) _ ((s1.trans g5).free hD) ⟨qs,zac,g2.keep fun b xs z=>s3 b _ z⟩ (zgE hdd hperm hsort) ?_ (s1.trans (g5.trans s3));have h1:=zbN dd ks;have h2:=hperm.length_eq;rw[jaa] at h2;have h3:=hdd.len;omega
noncomputable def zpT (K:PySem.W.Frag):Sp:=fun vs H Q _=>∃ (a b:Addr) (xs:List Int) (ls:List Nat),vs=[.ref a,.ref b]/\H a=some (.lst (xs.map V.int))/\(xs.length=12/\∀ x∈xs,0<=x)/\H b=some (.lst (zeh ls))/\ls.Nodup/\ls.length<=5/\(∀ x∈ls,x<16) /\
 ∀ (c:Addr) (f:zag) (H':Hp),TLo H' c f->FOk ls f->f.length<=4->(∀ t∈f,t.2.natAbs<10^4)->zai H H'->Q (.ref c) H'
theorem zns:(["_law_letter", "_law_xs", "_law_j"]:List Str).Nodup:=by decide +kernel
theorem zqJ (T:Txt w K mg):zbI.Ok P w K mg base 2 (zpT K):=by
  refine Rw.ok T.d_Z52.F T.d_Z52.S fun vs H Q E h=>?_
  obtain⟨a,b,xs,ls,rfl,hX,hx12,hL,hnd,hl5,hl16,q⟩:=h;refine⟨rfl,fun _ _ _ _ hr hu nd=>⟨_,(zab (zaS 2 nd (zaG zad))
   (zab (zbs jaG rfl (zbw rfl T.n_range (zaa (zao zaY (zav zas (pv 0) zaf (fun _ _=>rfl)) zaf) zad)) (pgn 3 nd)
    (zab (zaS 4 nd (zar (zmM rfl) (by rfl) T.n_sum PyProof.Rows.boot_sum (zaa (zbb (g:=(zaH 0)) ["_law_letter", "_law_xs", "_law_j"] 1 [0,3] rfl (zfL zbI) (zaR (pv 1))
    (fun cl C s₀ H₀ fp=>(pgn 0 zns)) (fun cl C s₀ H₀ fp=>(zck (zah zaD (zao zaY (zao zbj (zav (znP K rfl) (pv 1) (zao zbx zaf (pv 2)) (fun _ _=>rfl)) (zao ziu zaf (pv 0))) zaf) zaf (zal _)))) (fun cl C s₀ H₀ fp=>(zao ziu zaf (pv 0)))) zad)))
   (zae (zaU (za9 jaf jap jaq zaM (pv 2) (zaa (zaE (zaa (pv 4) (zaa (zao zd3 (zao zaY (zav zas (pv 0) (zao zbx zaf (pv 3)) (fun _ _=>rfl)) zaf) zaf) zad))) zad))))))
   (zae (zak (zaN T.d_Z34 (zlS T) hr (zaa (pv 2) zad)))))),?_⟩⟩
  obtain⟨hxl,hx0⟩:=hx12;have eX:∀ i:Nat,i<12->∃ x:Int,0<=x/\atI (xs.map V.int) (i:Int)=some (V.int x):=fun i hi=>⟨xs[i]'(by omega),hx0 _ (jbl _),zaA (by rw[jaC,jar (by omega)];rfl)⟩
  refine⟨jaE _,fun e he=>?_⟩;have s0:zai H (upd H e (.lst [])):=zai.upd he;have t0:TLo (upd H e (.lst [])) e []:=⟨[],zac,.nil⟩;generalize upd H e (.lst [])=H1 at s0 t0;obtain⟨x2,x20,e2⟩:=eX 2 (by decide);have hm5:=jaV x2 (show (5:Int)≠0 by decide);have hm5':=jaN x2 (show (0:Int)<5 by decide);refine⟨_,rfl,a,_,_,_,rfl,rfl,SqL.of (s0 _ _ hX),e2,_,_,rfl,rfl,(by show (0:Int)<5;decide),x2 % 5,rfl,by omega,by omega,?_⟩;refine zco (n:=(x2 % 5).toNat) (fun i σ G=>∃ (e:Addr) (l:zag) (v3 v4:Option V),σ = [some (.ref a),some (.ref b),some (.ref e),v3,v4]/\H e=none/\TLo G e l/\l.length=i/\K5 ls l/\(∀ t∈l,t.2.natAbs<=6)/\zai H G)
   ⟨e,[],none,none,rfl,he,t0,rfl,(fun t ht=>by cases ht),(fun t ht=>by cases ht),s0⟩ ?_ ?_
  ·rintro i σ G hi ⟨e,l,v3,v4,rfl,he,hT,hll,hk5,h6,sG⟩;have hi4:i<4:=by omega
   obtain⟨x3,x30,e3⟩:=eX (3+i) (by omega);obtain⟨x4,x40,e4⟩:=eX (4+i) (by omega);refine⟨_,rfl,b,rfl,⟨_,SqL.of (sG _ _ hL)⟩,?_⟩;refine zbn (K:=K) (a:=b) (xs:=zeh ls) (fun i' ys σ G'=>∃ v0:Option V,σ = [v0,some (.ref a),some (.int (0+(i:Int)))]/\ys=(((ls.take i').filter fun k=>x3.toNat.testBit k).map fun k:Nat=>((2^k:Nat):Int)).map V.int/\G'=G)
    ⟨none,rfl,rfl,rfl⟩ (fun i' ys σ G' hi ⟨_,_,e1,e2⟩=>⟨by rw[e2];exact SqL.of (sG _ _ hL),by rw[e1,jaa,jaa];exact jak (ja0 _ _) (by rw[jaJ];omega)⟩) (by unfold zeh;rw[jaa];exact jaB (zaF (by omega))) ?_ ?_
   ·rintro i' y ys σ G' hi' ⟨v0,rfl,rfl,rfl⟩;have hi2:(ls.map fun k:Nat=>V.int (k:Int))[i']? = some y:=hi';rw[jaC] at hi2;obtain⟨k,hk,rfl⟩:∃ k:Nat,ls[i']? = some k/\V.int (k:Int)=y:=by
     cases z:ls[i']? with
     | none=>rw[z] at hi2;cases hi2
     | some k=>rw[z] at hi2;exact⟨k,rfl,jaD hi2⟩
    have hk16:=hl16 k (jao hk);have htk:ls.take (i'+1)=ls.take i' ++ [k]:=by rw[jaI,hk];rfl
    have hlt:(2:Nat)^k<2^60:=Nat.pow_lt_pow_right (by decide) (by omega);have hpp:=jce k;have e1:(1:Int) * 2^((k:Int)).toNat=((2^k:Nat):Int):=by rw[zkc,zdS]
    have ei:(3:Int)+(0+(i:Int))=((3+i:Nat):Int):=by omega
    unfold zaH;refine⟨_,rfl,_,rfl,_,_,rfl,rfl,a,_,_,V.int x3,rfl,rfl,SqL.of (sG _ _ hX),(by rw[ei];exact e3),_,rfl,_,_,rfl,rfl,⟨by omega,by omega,by decide⟩,_,_,rfl,rfl,(by rw[e1];exact zbT (by omega) (by omega)),_,_,rfl,rfl,(by show (0:Int)<2;decide),rfl,_,rfl,?_⟩;have ex:x3=((x3.toNat:Nat):Int):=(ja5 x30).symm;have eb:x3 / (1 * 2^((k:Int)).toNat) % 2=if x3.toNat.testBit k=true then 1 else 0:=by
     rw[e1,ja1];generalize x3.toNat=n3 at ex;rw[ex]
     have:((n3:Int) / ((2^k:Nat):Int) % 2)=((n3 / 2^k % 2:Nat):Int):=by norm_cast
     rw[this];by_cases z:n3 / 2^k % 2=1
     ·simp[z]
     ·have:n3 / 2^k % 2=0:=by omega
      simp[this]
    show if decide (V.int (x3 / (1 * 2^((k:Int)).toNat) % 2)=V.int 1)=true then _ else _
    rw[eb];by_cases hb:x3.toNat.testBit k=true
    ·rw[if_pos hb];refine za4 (by decide) ?_;refine⟨_,rfl,_,_,rfl,rfl,⟨by omega,by omega,by decide⟩,_,rfl,?_,rfl⟩;rw[htk,jaO,jac,jac];dsimp only;rw[e1];simp[hb]
    ·rw[if_neg hb];refine zaB (by decide) ⟨_,rfl,?_,rfl⟩;rw[htk,jaO];simp[hb]
   ·rintro ys σ G' ⟨v0,rfl,rfl,rfl⟩ D hD;have enl:(zeh ls).length=ls.length:=by unfold zeh;rw[jaa]
    rw[enl,jaK];refine⟨D,_,rfl,SqL.of zac,?_⟩;have s1:zai G' (upd G' D (.lst (((ls.filter fun k=>x3.toNat.testBit k).map fun k:Nat=>((2^k:Nat):Int)).map V.int))):=zai.upd hD;generalize upd G' D (.lst (((ls.filter fun k=>x3.toNat.testBit k).map fun k:Nat=>((2^k:Nat):Int)).map V.int))=H2 at s1;have S1:=sG.trans s1;have hT2:=hT.keep s1;obtain⟨ps,hps,hpt⟩:=id hT2;have ei:(4:Int)+(0+(i:Int))=((4+i:Nat):Int):=by omega
    refine⟨_,rfl,.inl ⟨rfl,_,SqL.of hps⟩,_,rfl,_,rfl,_,rfl,_,_,rfl,rfl,a,_,_,V.int x4,rfl,rfl,SqL.of (S1 _ _ hX),(by rw[ei];exact e4),_,_,rfl,rfl,(by show (0:Int)<13;decide),_,_,rfl,rfl,sl2,fun t1 ht1=>?_⟩;have esum:∀ zs:List Nat,(zs.map fun k:Nat=>((2^k:Nat):Int)).sum=(((zs.map fun k=>2^k).sum:Nat):Int):=fun zs=>by
     induction zs with
     | nil=>rfl
     | cons z r ih=>rw[jat,jb1,jat,jb1,ih];norm_cast
    rw[esum];have hnf:(ls.filter fun k=>x3.toNat.testBit k).Nodup:=hnd.filter _;have hbt:∀ j,((((ls.filter fun k=>x3.toNat.testBit k).map fun k=>2^k).sum:Nat)).testBit j=true->j∈ls:=fun j hj=>(ja8.mp (show j∈_ from of_decide_eq_true ((zfN hnf j).symm.trans hj))).1
    generalize ((ls.filter fun k=>x3.toNat.testBit k).map fun k=>2^k).sum=W at hbt ⊢;have m0:=jaV x4 (show (13:Int)≠0 by decide);have m1:=jaN x4 (show (0:Int)<13 by decide);generalize x4 % 13=N at m0 m1 ⊢;obtain⟨H3,eH3⟩:∃ H3,H3=upd H2 t1 (.tup [.int (W:Int),.int (N-6)]):=⟨_,rfl⟩;have s3:zai H2 H3:=by rw[eH3];exact zai.upd ht1
    have y3:H3 t1=some (.tup [.int (W:Int),.int (N-6)]):=by rw[eH3];exact zac
    refine (?_:(fun H3=>_) (upd H2 t1 (.tup [.int (W:Int),.int (N-6)])));rw[<- eH3];have hpl:=hpt.length;refine⟨e,_,_,rfl,rfl,s3 _ _ hps,zaF (by rw[jaa];omega),?_⟩;have et:t1≠e:=fun z=>by have:=s3 _ _ hps;rw[<- z,y3] at this;cases this
    refine⟨e,l ++ [((W:Int),N-6)],_,_,rfl,he,⟨ps ++ [t1],(by rw[zac,jac];rfl),zdi.append (hpt.keep fun b xs z=>?_) (.cons (by rw[zan et];exact y3) .nil)⟩,by rw[jab,hll];rfl,hk5.app (fun t ht=>?_),(fun t ht=>?_),(S1.trans s3).write he⟩
    ·have hz:=s3 _ _ z
     have:b≠e:=fun y=>by rw[y,s3 _ _ hps] at hz;cases hz
     rw[zan this];exact hz
    ·rw[jad.mp ht];exact⟨jaM _,fun j hj=>hbt j (by simpa using hj)⟩
    ·rcases jah.mp ht with z | z
     ·exact h6 t z
     ·rw[jad.mp z];show (N-6).natAbs<=6;omega
  ·rintro σ G ⟨e,l,v3,v4,rfl,he,hT,hll,hk5,h6,sG⟩;refine⟨_,rfl,e,l,rfl,hT.tl,by omega,⟨ls,hl5,hk5⟩,fun c f H' hc hT' hF hfl s'=>?_⟩;have hlt:=zbS (n:=4) (B:=6) (C:=10^4) hF (by omega) h6 (by decide);exact q c f H' hT' ⟨hF.toIsForm,hk5.of hF,fun t ht=>jcX (hlt t ht) (by decide +kernel)⟩ (by omega) hlt (sG.trans s')
structure StW (ls:List Nat) (n:Nat) (G:Hp) (c:Addr) (xs:List V):Prop where
 here:G c=some (.lst xs)
 all:∃ ss:List Sm,Paired (fun x (s:Sm)=>Is G x s.d/\s.ok (fun k=>k∈ls)) xs ss/\(ss.map Sm.ln).sum<=n
theorem StW.keep {ls:List Nat}{n:Nat}{G G':Hp}{c:Addr}{xs:List V} (h:StW ls n G c xs) (k:zai G G'):StW ls n G' c xs:=by
 obtain⟨h1,ss,h2,h3⟩:=h;exact⟨k _ _ h1,ss,Paired.mapP h2 fun _ _ e=>⟨e.1.keep k,e.2⟩,h3⟩
theorem StW.pop {ls:List Nat}{n:Nat}{G:Hp}{c:Addr}{xs:List V} (h:StW ls n G c xs) (h0:0<xs.length):∃ (y:V) (s:Sm),xs[xs.length-1]? = some y/\Is (upd G c (.lst xs.dropLast)) y s.d/\s.ok (fun k=>k∈ls)/\s.ln<=n/\StW ls (n-s.ln) (upd G c (.lst xs.dropLast)) c xs.dropLast:=by
 obtain⟨h1,ss,h2,h3⟩:=h;rcases zdL ss with rfl | ⟨r,s,rfl⟩
 ·cases h2;exact absurd h0 (jbw _)
 ·obtain⟨xs',y,rfl,p,q⟩:=zed h2;rw[jac,jbr] at h3;have h3':(r.map Sm.ln).sum+(s.ln+0)<=n:=h3;rw[jbk];exact⟨y,s,by simp,zfR q.1 h1,q.2,by omega,zac,r,Paired.mapP p fun _ _ e=>⟨zfR e.1 h1,e.2⟩,by omega⟩
theorem StW.push {ls:List Nat}{n n':Nat}{G:Hp}{c t:Addr}{xs zs:List V}{s:Sm} (h:StW ls n G c xs) (ht:G t=none) (hs:∀ G':Hp,(∀ p ys,G p=some (.tup ys)->G' p=some (.tup ys))->G' t=some (.tup zs)->Is G' (.ref t) s.d) (hok:s.ok fun k=>k∈ls) (hd:n+s.ln<=n') :
  upd G t (.tup zs) c=some (.lst xs)/\StW ls n' (upd (upd G t (.tup zs)) c (.lst (xs ++ [.ref t]))) c (xs ++ [.ref t]):=by
 obtain⟨h1,ss,h2,h3⟩:=h;have s1:zai G (upd G t (.tup zs)):=zai.upd ht;have k:∀ p ys,G p=some (.tup ys)->upd (upd G t (.tup zs)) c (.lst (xs ++ [.ref t])) p=some (.tup ys):=fun p ys e=>by
  have hne:p≠c:=fun z=>by rw[z,h1] at e;cases e
  rw[zan hne];exact s1 _ _ e
 have htc:t≠c:=fun z=>by rw[z,h1] at ht;cases ht
 refine⟨s1 _ _ h1,zac,ss ++ [s],zbA (Paired.mapP h2 fun _ _ e=>⟨za7 k e.1,e.2⟩) ⟨hs _ k (by rw[zan htc];exact zac),hok⟩,?_⟩;rw[jac,jbr];show _+(s.ln+0)<=n';omega
theorem itA {c A B X:Prop} [Decidable c] (b:B) (h:c->B->A):if c then A else (if false=true then X else B):=by
 by_cases z:c
 ·rw[if_pos z];exact h z b
 ·rw[if_neg z];exact zf6 b
theorem StW.up {ls:List Nat}{n m:Nat}{G:Hp}{c:Addr}{xs:List V} (h:StW ls n G c xs) (k:n<=m):StW ls m G c xs:=⟨h.1,let ⟨ss,h2,h3⟩:=h.2; ⟨ss,h2,jak h3 k⟩⟩
noncomputable def zpz (K:PySem.W.Frag):Sp:=fun vs H Q _=>∃ (a b:Addr) (ns:List Int) (ls:List Nat),vs=[.ref a,.ref b]/\H a=some (.lst (ns.map V.int))/\H b=some (.lst (zeh ls))/\ns.length<=5/\0<ls.length/\ls.length<=8 /\
 ∀ (v:V) (s:Sm) (H':Hp),Is H' v s.d->s.ok (fun k=>k∈ls)->s.ln<=5->zai H H'->Q v H'
theorem zqL (T:Txt w K mg):zci.Ok P w K mg base 1 (zpz K):=by
  refine Rw.ok T.d_Z48.F T.d_Z48.S fun vs H Q E h=>?_
  obtain⟨a,b,ns,ls,rfl,hS,hb,hns,hl0,hl8,q⟩:=h;refine⟨rfl,fun _ _ _ _ hr hu nd=>⟨_,(zab (zaS 2 nd (zaG zad))
   (zab (zbs jaG rfl (zaR (pv 0)) (pgn 3 nd)
    (zae (zay (PW.pt (zcO (zah zaD (zao zaY (pv 3) zaf) zaf (zal _)) (zb5 (zah zhn (zar zaz (by rfl) T.n_len jaF (zaa (pv 2) zad)) zaf (zal _))))) (zae (zaU (za9 jaf jap jaq zaM (pv 2) (zaa (zaE (zaa zaj (zaa (zb8 jaf jaQ jaR zdg (pv 2)) zad))) zad)))) (zae (zay (PW.pt (zcO (zah zhn (zao zaY (pv 3) zaf) zaf (zal _)) (zb5 (zah zhn (zar zaz (by rfl) T.n_len jaF (zaa (pv 2) zad)) zaf (zal _))))) (zab (zaS 4 nd (zb8 jaf jaQ jaR zdg (pv 2)))
   (zab (zaS 5 nd (zb8 jaf jaQ jaR zdg (pv 2)))
   (zae (zaU (za9 jaf jap jaq zaM (pv 2) (zaa (zaE (zaa (zav zas (zaG (zaa zaj (zaa zaj (zaa zaj zad)))) (zao zaY (zao zbj (pv 3) zaf) zaf) (fun _ _=>rfl)) (zaa (pv 5) (zaa (pv 4) zad)))) zad)))))) (zae (zay (zah zaD (zao zaY (pv 3) zaf) zaf (zal _)) (zae (zaU (za9 jaf jap jaq zaM (pv 2) (zaa (zaE (zaa zaj (zaa (zao zaY (zao zbj (pv 3) zaf) zaf) zad))) zad)))) (zae (zaU (za9 jaf jap jaq zaM (pv 2) (zaa (zaE (zaa zaj (zaa (zav zas (pv 1) (zao zaY (zao zbj (pv 3) zaf) (zar zaz (by rfl) T.n_len jaF (zaa (pv 1) zad))) (fun _ _=>rfl)) zad))) zad)))))))))))
   (zab (zeT jaG (zah zhn (zar zaz (by rfl) T.n_len jaF (zaa (pv 2) zad)) zaf (zal _)) (zab (zaS 4 nd (zb8 jaf jaQ jaR zdg (pv 2)))
   (zab (zaS 5 nd (zb8 jaf jaQ jaR zdg (pv 2)))
   (zae (zaU (za9 jaf jap jaq zaM (pv 2) (zaa (zaE (zaa (zav zas (zaG (zaa zaj (zaa zaj (zaa zaj zad)))) (zao zaY (zar zaz (by rfl) T.n_len jaF (zaa (pv 2) zad)) zaf) (fun _ _=>rfl)) (zaa (pv 5) (zaa (pv 4) zad)))) zad)))))))
   (zab (zay (zah zaD (zar zaz (by rfl) T.n_len jaF (zaa (pv 2) zad)) zaf (zal _)) (zae (zak (zaE (zaa zaj (zaa zaf zad))))) zam)
   (zae (zak (zav zas (pv 2) zaf (fun _ _=>rfl)))))))),?_⟩⟩
  refine⟨jaE _,fun c hc=>?_⟩;have s0:zai H (upd H c (.lst [])):=zai.upd hc;have k0:StW ls 0 (upd H c (.lst [])) c []:=⟨zac,[],.nil,jag _⟩;generalize upd H c (.lst [])=H1 at s0 k0;refine⟨_,rfl,a,rfl,⟨_,SqL.of (s0 _ _ hS)⟩,?_⟩;refine zbM (K:=K) (a:=a) (xs:=ns.map V.int) (fun i σ G=>∃ (xs:List V) (v3 v4 v5:Option V),σ = [some (.ref a),some (.ref b),some (.ref c),v3,v4,v5]/\StW ls i G c xs/\xs.length<=i/\zai H G)
   ⟨[],none,none,none,rfl,k0,jag _,s0⟩ (fun i σ G _ ⟨_,_,_,_,_,_,_,e⟩=>SqL.of (e _ _ hS)) ?_ ?_
  ·rintro i y0 σ G hi ⟨xs,v3,v4,v5,rfl,hs,hxl,sG⟩;obtain⟨x,hxi,rfl⟩:=zio hi;have hi8:i<ns.length:=(jam.mp hxi).1;refine⟨_,rfl,_,_,rfl,rfl,(by show (0:Int)<7;decide),rfl,_,rfl,?_⟩;refine itA ?_ (fun h1 els=>?_)
   rotate_left
   refine⟨_,rfl,c,_,rfl,.inl (SqL.of hs.here),_,_,rfl,rfl,_,rfl,zgJ (fun h2=>?_) (fun h2=>els)⟩
   ·have h0:0<xs.length:=by have:=of_decide_eq_true h2;omega
    obtain⟨y,s1,hy1,hy2,hy3,hy4,hk⟩:=hs.pop h0;refine⟨_,rfl,.inl ⟨rfl,_,SqL.of hs.here⟩,_,rfl,.inl ⟨rfl,_,SqL.of hs.here⟩,c,xs,y,rfl,rfl,hs.here,hy1,sl2,fun t ht=>?_⟩;have hl1:=jbp (xs:=xs);obtain⟨p1,p2⟩:=hk.push (n':=i+1) (zs:=[.str "not",y]) (s := .no s1) ht (fun G' kk h3=>zbU h3 (zaX.mpr rfl) (za7 kk hy2)) hy3 (by show _+(s1.ln+1)<=i+1;omega);exact⟨c,_,_,rfl,rfl,p1,zaF (by omega),_,_,_,_,rfl,p2,(by rw[jab];show xs.dropLast.length+1<=i+1;omega),((sG.write hc).trans (zai.upd ht)).write hc⟩
   ·refine⟨_,rfl,_,_,rfl,rfl,(by show (0:Int)<7;decide),_,_,rfl,rfl,_,rfl,?_⟩;refine itA ?_ (fun h3 els=>?_)
    rotate_left
    refine⟨_,rfl,c,_,rfl,.inl (SqL.of hs.here),_,_,rfl,rfl,_,rfl,zgJ (fun h4=>?_) (fun h4=>els)⟩
    ·have h0:1<xs.length:=by have:=of_decide_eq_true h4;omega
     obtain⟨y,s1,hy1,hy2,hy3,hy4,hk⟩:=hs.pop (by omega);refine⟨_,rfl,.inl ⟨rfl,_,SqL.of hs.here⟩,c,xs,y,rfl,rfl,hs.here,hy1,?_⟩;have hl1:=jbp (xs:=xs);have sG1:=sG.write (o := .lst xs.dropLast) hc;generalize upd G c (.lst xs.dropLast)=G1 at hy2 hk sG1;obtain⟨z,s2,hz1,hz2,hz3,hz4,hk2⟩:=hk.pop (by omega);refine⟨_,rfl,.inl ⟨rfl,_,SqL.of hk.here⟩,c,xs.dropLast,z,rfl,rfl,hk.here,hz1,?_⟩;have hl2:=jbp (xs:=xs.dropLast);have sG2:=sG1.write (o := .lst xs.dropLast.dropLast) hc;have hy2':Is (upd G1 c (.lst xs.dropLast.dropLast)) y s1.d:=zfR hy2 hk.here;generalize upd G1 c (.lst xs.dropLast.dropLast)=G2 at hy2' hz2 hk2 sG2;have gj1:=jaV (x / 7) (show (3:Int)≠0 by decide);have gj2:=jaN (x / 7) (show (0:Int)<3 by decide);obtain⟨j,hj⟩:∃ j:Nat,x / 7 % 3=(j:Int):=⟨_,(ja5 gj1).symm⟩;have hj3:j<3:=by omega
     refine⟨_,rfl,.inl ⟨rfl,_,SqL.of hk2.here⟩,sl3,fun l hl=>?_⟩;have sl:zai G2 (upd G2 l (.lst [.str "and",.str "or",.str "xor"])):=zai.upd hl;have wl:upd G2 l (.lst [.str "and",.str "or",.str "xor"]) l=some (.lst [.str "and",.str "or",.str "xor"]):=zac;generalize upd G2 l (.lst [.str "and",.str "or",.str "xor"])=G3 at sl wl;refine⟨_,rfl,_,_,rfl,rfl,zbT (by decide) (by decide),_,_,rfl,rfl,(by show (0:Int)<3;decide),l,_,_,V.str (wd j),rfl,rfl,SqL.of wl,(by rw[hj];exact zj1 hj3),_,rfl,_,rfl,sl3,fun t ht=>?_⟩;obtain⟨p1,p2⟩:=(hk2.keep sl).push (n':=i+1) (zs:=[.str (wd j),z,y]) (s := .two j s2 s1) ht (fun G' kk h3=>zhj h3 (zaX.mpr rfl) (za7 kk (hz2.keep sl)) (za7 kk (hy2'.keep sl))) ⟨hj3,hz3,hy3⟩ (by show _+(s2.ln+s1.ln)<=i+1;omega);exact⟨c,_,_,rfl,rfl,p1,zaF (by omega),_,_,_,_,rfl,p2,(by rw[jab];show xs.dropLast.dropLast.length+1<=i+1;omega),((sG2.trans sl).trans (zai.upd ht)).write hc⟩
    ·refine⟨_,rfl,_,_,rfl,rfl,(by show (0:Int)<28;decide),rfl,_,rfl,?_⟩;refine zgJ (fun h5=>?_) (fun h5=>?_)
     ·refine⟨_,rfl,.inl ⟨rfl,_,SqL.of hs.here⟩,_,rfl,_,_,rfl,rfl,zbT (by decide) (by decide),_,_,rfl,rfl,(by show (0:Int)<2;decide),sl2,fun t ht=>?_⟩;obtain⟨p1,p2⟩:=hs.push (n':=i+1) (zs:=[.str "fix",.int (x / 28 % 2)]) (s := .fix (x / 28 % 2)) ht (fun G' kk h3=>zbU h3 (zaX.mpr rfl) (zdX.mpr rfl)) (by show x / 28 % 2=0\/x / 28 % 2=1;omega) (jag _);exact⟨c,_,_,rfl,rfl,p1,zaF (by omega),_,_,_,_,rfl,p2,(by rw[jab];show xs.length+1<=i+1;omega),(sG.trans (zai.upd ht)).write hc⟩
     ·have hbG:=sG _ _ hb;have hll:(zeh ls).length=ls.length:=by unfold zeh;rw[jaa]
      have gk1:=jaV (x / 7) (show ((zeh ls).length:Int)≠0 by omega);have gk2:=jaN (x / 7) (show (0:Int)<((zeh ls).length:Int) by omega);obtain⟨m,hm⟩:∃ m:Nat,x / 7 % ((zeh ls).length:Int)=(m:Int):=⟨_,(ja5 gk1).symm⟩;have hml:m<ls.length:=by omega
      have hmk:(zeh ls)[m]? = some (V.int ((ls[m]:Nat):Int)):=by unfold zeh;rw[jaC,jar hml];rfl
      refine⟨_,rfl,.inl ⟨rfl,_,SqL.of hs.here⟩,_,rfl,_,rfl,_,_,rfl,rfl,zbT (by decide) (by decide),_,rfl,b,_,rfl,.inl (SqL.of hbG),_,_,rfl,rfl,(by omega),b,_,_,_,rfl,rfl,SqL.of hbG,(by rw[hm];exact zaA hmk),sl2,fun t ht=>?_⟩;obtain⟨p1,p2⟩:=hs.push (n':=i+1) (zs:=[.str "bit",.int ((ls[m]:Nat):Int)]) (s := .bit ls[m]) ht (fun G' kk h3=>zbU h3 (zaX.mpr rfl) (zdX.mpr rfl)) (jbl hml) (jag _);exact⟨c,_,_,rfl,rfl,p1,zaF (by omega),_,_,_,_,rfl,p2,(by rw[jab];show xs.length+1<=i+1;omega),(sG.trans (zai.upd ht)).write hc⟩
  ·rintro σ G ⟨xs,v3,v4,v5,rfl,hs,hxl,sG⟩;rw[jaa] at hs hxl;refine⟨fun m σ G=>∃ (xs:List V) (v4 v5:Option V),σ = [some (.ref a),some (.ref b),some (.ref c),v3,v4,v5]/\xs.length=m/\m<=5/\StW ls 5 G c xs/\zai H G,⟨_,xs,v4,v5,rfl,rfl,by omega,hs.up hns,sG⟩,?_⟩;rintro m σ G ⟨xs,v4,v5,rfl,hm,hm5,hs,sG⟩;refine⟨_,rfl,c,_,rfl,.inl (SqL.of hs.here),_,_,rfl,rfl,_,rfl,?_⟩;refine zgJ (fun h4=>?_) (fun h4=>?_)
   ·have h0:1<xs.length:=by have:=of_decide_eq_true h4;omega
    refine⟨fun σ' G'=>∃ (xs':List V) (v4 v5:Option V),σ'=[some (.ref a),some (.ref b),some (.ref c),v3,v4,v5]/\xs'.length+1=m/\StW ls 5 G' c xs'/\zai H G',fun σ' G' ⟨xs',v4',v5',z1,z2,z3,z4⟩=>⟨xs'.length,by omega,xs',v4',v5',z1,rfl,by omega,z3,z4⟩,?_⟩;obtain⟨y,s1,hy1,hy2,hy3,hy4,hk⟩:=hs.pop (by omega);refine⟨_,rfl,.inl ⟨rfl,_,SqL.of hs.here⟩,c,xs,y,rfl,rfl,hs.here,hy1,?_⟩;have hl1:=jbp (xs:=xs);have sG1:=sG.write (o := .lst xs.dropLast) hc;generalize upd G c (.lst xs.dropLast)=G1 at hy2 hk sG1;obtain⟨z,s2,hz1,hz2,hz3,hz4,hk2⟩:=hk.pop (by omega);refine⟨_,rfl,.inl ⟨rfl,_,SqL.of hk.here⟩,c,xs.dropLast,z,rfl,rfl,hk.here,hz1,?_⟩;have hl2:=jbp (xs:=xs.dropLast);have sG2:=sG1.write (o := .lst xs.dropLast.dropLast) hc;have hy2':Is (upd G1 c (.lst xs.dropLast.dropLast)) y s1.d:=zfR hy2 hk.here;generalize upd G1 c (.lst xs.dropLast.dropLast)=G2 at hy2' hz2 hk2 sG2;refine⟨_,rfl,.inl ⟨rfl,_,SqL.of hk2.here⟩,sl3,fun l hl=>?_⟩;have sl:zai G2 (upd G2 l (.lst [.str "and",.str "or",.str "xor"])):=zai.upd hl;have wl:upd G2 l (.lst [.str "and",.str "or",.str "xor"]) l=some (.lst [.str "and",.str "or",.str "xor"]):=zac;generalize upd G2 l (.lst [.str "and",.str "or",.str "xor"])=G3 at sl wl;have hc3:=(hk2.keep sl).here;have ej:((xs.dropLast.dropLast.length:Nat):Int) % 3=((xs.dropLast.dropLast.length % 3:Nat):Int):=by norm_cast
    have hj3:=jdr xs.dropLast.dropLast.length (show 0<3 by decide);generalize hjj:xs.dropLast.dropLast.length % 3=j at ej hj3;refine⟨_,rfl,c,_,rfl,.inl (SqL.of hc3),_,_,rfl,rfl,(by show (0:Int)<3;decide),l,_,_,V.str (wd j),rfl,rfl,SqL.of wl,(by rw[ej];exact zj1 hj3),_,rfl,_,rfl,sl3,fun t ht=>?_⟩;obtain⟨p1,p2⟩:=(hk2.keep sl).push (n':=5) (zs:=[.str (wd j),z,y]) (s := .two j s2 s1) ht (fun G' kk h3=>zhj h3 (zaX.mpr rfl) (za7 kk (hz2.keep sl)) (za7 kk (hy2'.keep sl))) ⟨hj3,hz3,hy3⟩ (by show _+(s2.ln+s1.ln)<=5;omega);have hlen:(xs.dropLast.dropLast ++ [V.ref t]).length=xs.length-1:=by rw[jab];show xs.dropLast.dropLast.length+1=_;omega
    exact⟨c,_,_,rfl,rfl,p1,zaF (by omega),_,_,_,rfl,by omega,p2,((sG2.trans sl).trans (zai.upd ht)).write hc⟩
   ·have h1:¬ 1<xs.length:=fun z=>h4 (decide_eq_true (by omega))
    refine⟨_,rfl,c,_,rfl,.inl (SqL.of hs.here),rfl,_,rfl,?_⟩;refine zgJ (fun h5=>?_) (fun h5=>?_)
    ·refine⟨sl2,fun t ht=>?_⟩;exact q (.ref t) (.fix 1) _ (zbU zac (zaX.mpr rfl) (zdX.mpr rfl)) (.inr rfl) (by decide) (sG.trans (zai.upd ht))
    ·have h6:0<xs.length:=by
      rcases Nat.eq_zero_or_pos xs.length with z | z
      ·exact absurd (decide_eq_true (by rw[z];rfl)) h5
      ·exact z
     obtain⟨h7,ss,h8,h9⟩:=id hs;have h10:xs.length=1:=by omega
     obtain⟨x0,rfl⟩:=List.length_eq_one_iff.mp h10;cases h8 with
     | @cons _ s1 _ ss' r r' =>
      cases r';have h11:s1.ln+0<=5:=h9;exact⟨_,rfl,c,_,_,x0,rfl,rfl,SqL.of hs.here,rfl,q _ s1 G r.1 r.2 h11 sG⟩
noncomputable def zi5 (K:PySem.W.Frag):Sp:=fun vs H Q _=>∃ m:Nat,vs=[.int (m:Int)]/\m<2^16/\∀ H',zai H H'->Q (.str (S (zdC m))) H'
theorem znf:(["_law_k", "_law_one"]:List Str).Nodup:=by decide +kernel
theorem zsI (T:Txt w K mg):zbz.Ok P w K mg base 1 (zi5 K):=by
  refine Rw.ok T.d_Z33.F T.d_Z33.S fun vs H Q E h=>?_
  obtain⟨m,rfl,hm,q⟩:=h;refine⟨rfl,fun _ _ _ _ hr hu nd=>⟨_,(zae (zak (za9 jaz ja9 jbb zdn zaj (zaa (zbb (g:=(zaH 0)) ["_law_k", "_law_one"] 1 [0] rfl (zfL zbz) (zbw rfl T.n_range (zaa zaf zad))
    (fun cl C s₀ H₀ fp=>(pgn 0 znf)) (fun cl C s₀ H₀ fp=>(zck (zah zaD (zao zaY (zao zbj (pv 1) (zao ziu zaf (pv 0))) zaf) zaf (zal _)))) (fun cl C s₀ H₀ fp=>(zav zfp zaj (pv 0) (fun _ _=>rfl)))) zad)))),?_⟩⟩
  refine⟨rfl,?_⟩;refine⟨_,rfl,by decide,by decide,?_⟩;refine ze0 (lo:=0) (n:=(16:Int).toNat) (fun i ys σ G=>∃ v0:Option V,σ = [v0,some (.int (m:Int))]/\ys=((((List.range i).filter fun k=>m.testBit k).map fun k=>97+k).map fun c=>S [c]).map V.str/\G=H)
   ⟨none,rfl,rfl,rfl⟩ (fun i ys σ G ⟨_,_,e,_⟩=>by rw[e,jaa,jaa,jaa];exact jak (ja0 _ _) (by simp)) (by decide) ?_ ?_
  ·rintro i ys σ G hi ⟨v0,rfl,rfl,rfl⟩;have hi':i<16:=hi;unfold zaH;have e0:(1:Int) * 2^((0+(i:Int))).toNat=((2^i:Nat):Int):=by rw[jcV,zkc,zdS]
   have hlt:(2:Nat)^i<=2^16:=jaH (by decide) (by omega);have hpp:=jce i;refine⟨_,rfl,_,rfl,_,_,rfl,rfl,⟨by omega,by omega,by decide⟩,_,_,rfl,rfl,(by rw[e0];exact zbT (by omega) (by omega)),_,_,rfl,rfl,(by show (0:Int)<2;decide),rfl,_,rfl,?_⟩;have eb:(m:Int) / (1 * 2^((0+(i:Int))).toNat) % 2=if m.testBit i=true then 1 else 0:=by
    rw[e0,ja1]
    have:((m:Int) / ((2^i:Nat):Int) % 2)=((m / 2^i % 2:Nat):Int):=by norm_cast
    rw[this];by_cases y:m / 2^i % 2=1
    ·simp[y]
    ·have:m / 2^i % 2=0:=by omega
     simp[this]
   show if decide (V.int ((m:Int) / (1 * 2^((0+(i:Int))).toNat) % 2)=V.int 1)=true then _ else _
   rw[eb];cases hc:m.testBit i
   ·refine zaB (by decide) ⟨_,rfl,?_,rfl⟩;rw[jbW,jaO];simp[hc]
   ·refine za4 (by decide) ?_;refine⟨_,rfl,_,_,_,rfl,rfl,(by rw[zb6,zaw];show 16<=sizeLine;decide),(by rw[zb6,zbE,jcV];exact zaA (zjJ i hi')),?_⟩;refine⟨_,rfl,?_,rfl⟩;rw[jbW,jaO];simp[hc];rfl
  ·rintro ys σ G ⟨v0,rfl,rfl,rfl⟩ E hE;have e16:((List.range (16:Int).toNat).filter fun k=>m.testBit k).map (fun k=>97+k)=zdC m:=by
    unfold zdC;rw[<- zoX hm];rfl
   rw[e16];refine⟨_,E,(zdC m).map fun c=>S [c],rfl,rfl,SqL.of zac,?_,?_⟩
   ·rw[zfz,zdt]
    have:=zdc hm
    simp[zaw];omega
   ·rw[zdt,zgA];exact q _ (zai.upd hE)
theorem zpP (T:Txt w K mg) (d:Nat):zcf.Ok P w K mg base (1+d) ((ztg K) d)/\zdG.Ok P w K mg base (1+d) ((zuY K) d):=by
 induction d with
 | zero=>exact⟨Rw.ok T.d_Z28.F T.d_Z28.S fun vs H Q E h=>by obtain⟨v,s0,rfl,hI,hok,hd,hlen,q⟩:=h;exact absurd hd (jcJ _),Rw.ok T.d_Z50.F T.d_Z50.S fun vs H Q E h=>by obtain⟨v,s0,rfl,hI,hok,hd,hlen,q⟩:=h;exact absurd hd (jcJ _)⟩
 | succ d ih =>
 refine⟨?_,?_⟩
 ·refine Rw.ok (k:=1+d) T.d_Z28.F T.d_Z28.S fun vs H Q E h=>?_
  obtain⟨v,s0,rfl,hI,hok,hd,hlen,q⟩:=h;refine⟨rfl,fun _ _ _ _ hr hu nd=>⟨_,(zab (zay (zah zcj (zav zaK (pv 0) zaf (fun _ _=>rfl)) (zaG (zaa zaj (zaa zaj (zaa zaj zad)))) rfl) (zae (zak (zao zaI (zao zaI zaj (zaN T.d_Z50 ih.2 hr (zaa (pv 0) zad))) zaj))) zam)
   (zae (zak (zaN T.d_Z50 ih.2 hr (zaa (pv 0) zad))))),?_⟩⟩
  cases s0 with
  | bit k =>
   obtain⟨p,rfl,hp⟩:=zfn hI;have e:zc2 (.bit k)=zcq (.bit k):=rfl;rw[e] at q;refine⟨_,rfl,p,_,_,_,rfl,rfl,SqT.of hp,rfl,sl3,fun l hl=>?_⟩;have z1:zai H (upd H l (.lst [.str "and",.str "or",.str "xor"])):=zai.upd hl;refine⟨l,_,rfl,.inl (SqL.of zac),rfl,rfl,_,rfl,zaB (by decide) ?_⟩;exact⟨_,rfl,.ref p,(.bit k),rfl,hI.keep z1,hok,by omega,hlen,fun H1 k1=>q H1 (z1.trans k1)⟩
  | fix c =>
   obtain⟨p,rfl,hp⟩:=zfo hI;have e:zc2 (.fix c)=zcq (.fix c):=rfl;rw[e] at q;refine⟨_,rfl,p,_,_,_,rfl,rfl,SqT.of hp,rfl,sl3,fun l hl=>?_⟩;have z1:zai H (upd H l (.lst [.str "and",.str "or",.str "xor"])):=zai.upd hl;refine⟨l,_,rfl,.inl (SqL.of zac),rfl,rfl,_,rfl,zaB (by decide) ?_⟩;exact⟨_,rfl,.ref p,(.fix c),rfl,hI.keep z1,hok,by omega,hlen,fun H1 k1=>q H1 (z1.trans k1)⟩
  | no s1 =>
   obtain⟨p,x,rfl,hp,hx⟩:=zhy hI;have e:zc2 (.no s1)=zcq (.no s1):=rfl;rw[e] at q;refine⟨_,rfl,p,_,_,_,rfl,rfl,SqT.of hp,rfl,sl3,fun l hl=>?_⟩;have z1:zai H (upd H l (.lst [.str "and",.str "or",.str "xor"])):=zai.upd hl;refine⟨l,_,rfl,.inl (SqL.of zac),rfl,rfl,_,rfl,zaB (by decide) ?_⟩;exact⟨_,rfl,.ref p,(.no s1),rfl,hI.keep z1,hok,by omega,hlen,fun H1 k1=>q H1 (z1.trans k1)⟩
  | two w s1 s2 =>
   obtain⟨p,x,y,rfl,hp,hx,hy⟩:=zeN hI;have e:zc2 (.two w s1 s2)=[40]++zcq (.two w s1 s2) ++ [41]:=rfl;rw[e] at q;refine⟨_,rfl,p,_,_,_,rfl,rfl,SqT.of hp,rfl,sl3,fun l hl=>?_⟩;have z1:zai H (upd H l (.lst [.str "and",.str "or",.str "xor"])):=zai.upd hl;refine⟨l,_,rfl,.inl (SqL.of zac),rfl,rfl,_,rfl,za4 (zsg hok.1) ?_⟩;refine⟨_,rfl,.ref p,.two w s1 s2,rfl,hI.keep z1,hok,by omega,hlen,fun H1 k1=>?_⟩;refine⟨_,_,rfl,rfl,(by rw[zh7,zaw,zaw];exact zds (by simp;omega)),?_⟩;rw[zh7,zbR];refine⟨_,_,rfl,rfl,(by rw[zmT,zaw,zaw];exact zds (by simp;omega)),?_⟩;rw[zmT,zbR];exact q H1 (z1.trans k1)
 ·refine Rw.ok (k:=1+d) T.d_Z50.F T.d_Z50.S fun vs H Q E h=>?_
  obtain⟨v,s0,rfl,hI,hok,hd,hlen,q⟩:=h;refine⟨rfl,fun _ _ _ _ hr hu nd=>⟨_,(zab (zay (zah zaD (zav zaK (pv 0) zaf (fun _ _=>rfl)) zaj (zal _)) (zae (zak (zav zfp zaj (zav zaK (pv 0) zaf (fun _ _=>rfl)) (fun _ _=>rfl)))) zam)
   (zab (zay (zah zaD (zav zaK (pv 0) zaf (fun _ _=>rfl)) zaj (zal _)) (zae (zak (zbL zcu rfl T.n_str jbS (zaa (zav zaK (pv 0) zaf (fun _ _=>rfl)) zad)))) zam)
   (zab (zay (zah zaD (zav zaK (pv 0) zaf (fun _ _=>rfl)) zaj (zal _)) (zae (zak (zao zaI zaj (zaN T.d_Z28 ih.1 hr (zaa (zav zaK (pv 0) zaf (fun _ _=>rfl)) zad))))) zam)
   (zab (zaS 1 nd (zaN T.d_Z28 ih.1 hr (zaa (zav zaK (pv 0) zaf (fun _ _=>rfl)) zad)))
   (zae (zak (zao zaI (zao zaI (zao zaI (zao zaI (pv 1) zaj) (zav zaK (pv 0) zaf (fun _ _=>rfl))) zaj) (zaN T.d_Z28 ih.1 hr (zaa (zav zaK (pv 0) zaf (fun _ _=>rfl)) zad))))))))),?_⟩⟩
  cases s0 with
  | bit k =>
   obtain⟨p,rfl,hp⟩:=zfn hI;have hk:k<16:=hok;refine⟨_,rfl,p,_,_,_,rfl,rfl,SqT.of hp,rfl,rfl,_,rfl,za4 (by decide) ?_⟩;refine⟨_,rfl,p,_,_,_,rfl,rfl,SqT.of hp,rfl,_,_,_,rfl,rfl,(by rw[zb6,zaw];show 16<=sizeLine;decide),(by rw[zb6,zbE];exact zaA (zjJ k hk)),?_⟩;exact q H (zai.refl _)
  | fix c =>
   obtain⟨p,rfl,hp⟩:=zfo hI;have hc:c=0\/c=1:=hok;obtain⟨n,rfl⟩:∃ n:Nat,c=(n:Int):=⟨c.toNat,by omega⟩;refine⟨_,rfl,p,_,_,_,rfl,rfl,SqT.of hp,rfl,rfl,_,rfl,zaB (by decide) ?_⟩;refine⟨_,rfl,p,_,_,_,rfl,rfl,SqT.of hp,rfl,rfl,_,rfl,za4 (by decide) ?_⟩;refine⟨_,rfl,p,_,_,_,rfl,rfl,SqT.of hp,rfl,_,rfl,zmt (by omega),?_⟩;rw[zga];exact q H (zai.refl _)
  | no s1 =>
   obtain⟨p,x,rfl,hp,hx⟩:=zhy hI;rw[ziH] at hlen;have hl1:(zc2 s1).length<=10000:=by rw[jab] at hlen;omega
   have hl2:(zcq s1).length<=10000:=jak (zlw s1) hl1;refine⟨_,rfl,p,_,_,_,rfl,rfl,SqT.of hp,rfl,rfl,_,rfl,zaB (by decide) ?_⟩;refine⟨_,rfl,p,_,_,_,rfl,rfl,SqT.of hp,rfl,rfl,_,rfl,zaB (by decide) ?_⟩;refine⟨_,rfl,p,_,_,_,rfl,rfl,SqT.of hp,rfl,rfl,_,rfl,za4 (by decide) ?_⟩;refine⟨_,rfl,p,_,_,_,rfl,rfl,SqT.of hp,rfl,x,s1,rfl,hx,hok,(by have:2 * (s1.dp+1)+1<d+1:=hd;omega),hl2,fun H1 k1=>?_⟩;refine⟨_,_,rfl,rfl,(by rw[zd8,zaw,zaw];exact zds (by simp;omega)),?_⟩;rw[zd8,zbR,<- ziH];exact q H1 k1
  | two w s1 s2 =>
   obtain⟨p,x,y,rfl,hp,hx,hy⟩:=zeN hI;obtain⟨hw3,ok1,ok2⟩:=hok;obtain⟨n1,n2,n3⟩:=zsU hw3;rw[zgb] at hlen;have hwl:=zpy w;have hl1:(zc2 s1).length<=10000:=by simp only[jab] at hlen;omega
   have hl1':(zc2 s2).length<=10000:=by simp only[jab] at hlen;omega
   have hl2:(zcq s1).length<=10000:=jak (zlw s1) hl1;have hl3:(zcq s2).length<=10000:=jak (zlw s2) hl1';have hdd:2 * (max s1.dp s2.dp+1)+1<d+1:=hd;refine⟨_,rfl,p,_,_,_,rfl,rfl,SqT.of hp,rfl,rfl,_,rfl,zaB (by rw[n1];decide) ?_⟩;refine⟨_,rfl,p,_,_,_,rfl,rfl,SqT.of hp,rfl,rfl,_,rfl,zaB (by rw[n2];decide) ?_⟩;refine⟨_,rfl,p,_,_,_,rfl,rfl,SqT.of hp,rfl,rfl,_,rfl,zaB (by rw[n3];decide) ?_⟩;refine⟨_,rfl,p,_,_,_,rfl,rfl,SqT.of hp,rfl,x,s1,rfl,hx,ok1,by omega,hl2,fun H1 k1=>?_⟩;refine⟨_,rfl,_,_,rfl,rfl,(by rw[zd2,zaw,zaw];exact zds (by simp;omega)),?_⟩;rw[zd2,zbR];have hp1:=k1 _ _ hp;rw[zu4 hw3] at hp1;refine⟨_,rfl,p,_,_,_,rfl,rfl,SqT.of hp1,rfl,_,_,rfl,rfl,(by rw[zaw,zaw];exact zds (by simp;omega)),?_⟩;rw[zbR];refine⟨_,_,rfl,rfl,(by rw[zaw,zaw];exact zds (by simp;omega)),?_⟩;rw[zbR];refine⟨_,rfl,p,_,_,_,rfl,rfl,SqT.of hp1,rfl,y,s2,rfl,hy.keep k1,ok2,by omega,hl3,fun H2 k2=>?_⟩;refine⟨_,_,rfl,rfl,(by rw[zaw,zaw];exact zds (by simp;omega)),?_⟩;rw[zbR,<- zgb];exact q H2 (k1.trans k2)
theorem zq1 (T:Txt w K mg):zdG.Ok P w K mg base 101 ((zuY K) 100):=(zpP T 100).2
noncomputable def zms (K:PySem.W.Frag):Sp:=fun vs H Q _=>∃ (a:Addr) (l:zag) (k:Nat),vs=[.ref a,.int (k:Int)]/\TLo H a l/\(∀ t∈l,0<=t.1)/\l.length<=5000/\k<=100 /\
 ∀ (p c d:Addr) (H':Hp),H' p=some (.tup [.ref c,.ref d])->TLo H' c (zgS k l)->TLo H' d (zjh k l)->zai H H'->Q (.ref p) H'
theorem zjX:(["_law_where", "_law_number", "_law_bit"]:List Str).Nodup:=by decide +kernel
theorem zjS:(["_law_where", "_law_number", "_law_bit"]:List Str).Nodup:=by decide +kernel
theorem zoT (T:Txt w K mg):zbZ.Ok P w K mg base 1 (zms K):=by
  refine Rw.ok T.d_Z39.F T.d_Z39.S fun vs H Q E h=>?_
  obtain⟨a,l,k,rfl,hT,h0,hlen,hk,q⟩:=h;refine⟨rfl,fun _ _ _ _ hr hu nd=>⟨_,(zab (zaS 2 nd (zao ziu zaf (pv 1)))
   (zab (zht (i:=3) (g:=(zi1 K 2 (zbD (zaH 0) (zbD (zaH 1) ziZ)))) ["_law_where", "_law_number", "_law_bit"] 2 [2] nd rfl (Or.inl rfl) rfl (zfL zbZ) (zaR (pv 0))
    (fun cl C s₀ H₀ fp=>(zbe (n:=2) rfl (zap (pgn 0 zjX) (zap (pgn 1 zjX) zaT)))) (fun cl C s₀ H₀ fp=>(zck (zah zhn (zao zkB (pv 0) (pv 2)) zaf (zal _)))) (fun cl C s₀ H₀ fp=>(zaE (zaa (zao zd3 (pv 0) (pv 2)) (zaa (pv 1) zad)))))
   (zae (zak (zaE (zaa (pv 3) (zaa (zbb (g:=(zi1 K 2 (zbD (zaH 0) (zbD (zaH 1) ziZ)))) ["_law_where", "_law_number", "_law_bit"] 2 [2] rfl (zfL zbZ) (zaR (pv 0))
    (fun cl C s₀ H₀ fp=>(zbe (n:=2) rfl (zap (pgn 0 zjS) (zap (pgn 1 zjS) zaT)))) (fun cl C s₀ H₀ fp=>(zck (zah zaD (zao zkB (pv 0) (pv 2)) zaf (zal _)))) (fun cl C s₀ H₀ fp=>(zaE (zaa (pv 0) (zaa (pv 1) zad))))) zad))))))),?_⟩⟩
  refine⟨_,rfl,_,_,rfl,rfl,⟨jaM _,by omega,by decide⟩,?_⟩;dsimp only;rw[zkc];refine⟨_,rfl,a,rfl,hT.tl.seq,?_⟩;refine zfF (fun t=>zgU k t) (fun t=>(t.1-2^k,t.2)) hT.tl (by omega) [some (.int (2^k))] rfl (fun t ht H2 R s2 r=>?_) (fun t ht hp H2 R s2 r=>?_) fun D ys H2 hD hT1 s1=>?_
  ·refine⟨_,rfl,_,rfl,_,_,rfl,rfl,_,_,rfl,rfl,?_⟩;dsimp only;rw[zj0 (h0 t ht)];have e:decide ((0:Int)<if zgU k t=true then 2^k else 0)=zgU k t:=by
    cases zgU k t
    ·rfl
    ·rw[if_pos rfl,zdS];exact decide_eq_true (Int.natCast_pos.mpr (jce k))
   rw[e];exact⟨_,rfl,r⟩
  ·exact⟨_,rfl,_,rfl,_,_,rfl,rfl,_,rfl,sl2,r⟩
  ·refine⟨_,rfl,_,rfl,a,rfl,(hT.keep s1).tl.seq,?_⟩;refine zfF (fun t => !zgU k t) (fun t=>t) (hT.keep s1).tl (by omega) [some (.int (2^k))] rfl (fun t ht H2 R s2 r=>?_) (fun t ht hp H2 R s2 r=>?_) fun D2 ys2 H3 hD2 hT2 s2=>?_
   ·refine⟨_,rfl,_,rfl,_,_,rfl,rfl,rfl,_,rfl,?_⟩;rw[zfX (h0 t ht)];exact r
   ·exact⟨_,rfl,_,rfl,sl2,r⟩
   ·rw[List.map_id'] at hT2;refine⟨by show 2<=sizeLine;decide,fun p hp=>?_⟩;exact q p D D2 _ zac ((hT1.keep s2).keep (zai.upd hp)) (hT2.keep (zai.upd hp)) (s1.trans (s2.trans (zai.upd hp)))
noncomputable def zp4 (K:PySem.W.Frag):Sp:=fun vs H Q _=>∃ (a b:Addr) (l m:zag) (s:Int),vs=[.ref a,.ref b,.int s]/\TLo H a l/\TLo H b m/\l.length+m.length<=5000/\zgF (l++m)/\(∀ t∈m,IntMulOk s t.2) /\
 ∀ (c:Addr) (f:zag) (H':Hp),H c=none->TLo H' c f->zax f (l++m.map fun t=>(t.1,s * t.2))->zai H H'->Q (.ref c) H'
theorem zjI:(["_law_where", "_law_number", "_law_sign"]:List Str).Nodup:=by decide +kernel
theorem zfq (T:Txt w K mg):zdK.Ok P w K mg base 2 (zp4 K):=by
  refine Rw.ok T.d_Z40.F T.d_Z40.S fun vs H Q E h=>?_
  obtain⟨a,b,l,m,s,rfl,hTa,hTb,hlen,h5,hmul,q⟩:=h;refine⟨rfl,fun _ _ _ _ hr hu nd=>⟨_,(zae (zak (zaN T.d_Z34 (zlS T) hr (zaa (zao ziy (pv 0) (zbb (g:=(zi1 K 2 (zbD (zaH 0) (zbD (zaH 1) ziZ)))) ["_law_where", "_law_number", "_law_sign"] 2 [2] rfl (zfL zdK) (zaR (pv 1))
    (fun cl C s₀ H₀ fp=>(zbe (n:=2) rfl (zap (pgn 0 zjI) (zap (pgn 1 zjI) zaT)))) (fun cl C s₀ H₀ fp=>zbW) (fun cl C s₀ H₀ fp=>(zaE (zaa (pv 0) (zaa (zao zbi (pv 2) (pv 1)) zad)))))) zad)))),?_⟩⟩
  obtain⟨ps,ha,hp⟩:=id hTa;refine⟨_,rfl,_,rfl,b,rfl,hTb.tl.seq,?_⟩;refine zeW (fun t=>(t.1,s * t.2)) hTb.tl (by omega) [some (.int s)] rfl (fun t ht H2 R s2 k=>?_) fun D ys H2 hD hT1 s1=>?_
  ·exact⟨_,rfl,_,rfl,_,rfl,_,_,rfl,rfl,hmul t ht,sl2,k⟩
  ·obtain⟨qs,hb,hq⟩:=id hT1;have n1:=hp.length;have n2:=hq.length;rw[jaa] at n2;refine⟨a,D,_,_,rfl,rfl,s1 _ _ ha,hb,(by rw[jaa,jaa];exact jaB (zaF (by omega))),fun c hc=>?_⟩;have hT2:=TLo.cat (a:=a) (b:=D) (c:=c) (hp.keep fun b xs z=>s1 b _ z) hq (zai.upd hc) zac;refine⟨c,_,rfl,hT2.tl,(by rw[jab,jaa];omega),zj6 h5 (fun t ht=>?_),fun x f H' hx hT' hF hl s'=>q x f H' (s1.free ((zai.upd hc).free hx)) hT' hF (s1.trans ((zai.upd hc).trans s'))⟩;rw[jac,jah];rcases jah.mp ht with z | z
   ·exact .inl (jau.mpr ⟨t,z,rfl⟩)
   ·obtain⟨u,hu,rfl⟩:=jau.mp z;exact .inr (jau.mpr ⟨u,hu,rfl⟩)
noncomputable def zoH (K:PySem.W.Frag):Sp:=fun vs H Q _=>∃ (a b:Addr) (l m:zag),vs=[.ref a,.ref b]/\TLo H a l/\TLo H b m/\l.length * m.length<=5000/\zgF (zaV l m)/\(∀ t∈l,∀ u∈m,IntMulOk t.2 u.2) /\
 ∀ (c:Addr) (f:zag) (H':Hp),H c=none->TLo H' c f->zax f (zaV l m)->zai H H'->Q (.ref c) H'
theorem zkq:(["_law_theirs", "_law_own", "_law_mine", "_law_number"]:List Str).Nodup:=by decide +kernel
theorem zkf (T:Txt w K mg):zcV.Ok P w K mg base 2 (zoH K):=by
  refine Rw.ok T.d_Z51.F T.d_Z51.S fun vs H Q E h=>?_
  obtain⟨a,b,l,m,rfl,hTa,hTb,hlen,h5,hmul,q⟩:=h;refine⟨rfl,fun _ _ _ _ hr hu nd=>⟨_,(zab (zaS 2 nd (zaG zad))
   (zab (zbs jaG rfl (zaR (pv 0)) (zbe (n:=2) rfl (zap (pgn 3 nd) (zap (pgn 4 nd) zaT)))
    (zae (zaS 2 nd (zao ziy (pv 2) (zbb (g:=(zi1 K 2 (zbD (zaH 0) (zbD (zaH 1) ziZ)))) ["_law_theirs", "_law_own", "_law_mine", "_law_number"] 2 [3,4] rfl (zfL zcV) (zaR (pv 1))
    (fun cl C s₀ H₀ fp=>(zbe (n:=2) rfl (zap (pgn 0 zkq) (zap (pgn 1 zkq) zaT)))) (fun cl C s₀ H₀ fp=>zbW) (fun cl C s₀ H₀ fp=>(zaE (zaa (zao zoy (pv 2) (pv 0)) (zaa (zao zbi (pv 3) (pv 1)) zad)))))))))
   (zae (zak (zaN T.d_Z34 (zlS T) hr (zaa (pv 2) zad)))))),?_⟩⟩
  obtain⟨ps,ha,hp⟩:=id hTa;obtain⟨qs,hb,hq⟩:=id hTb;refine⟨jaE _,fun e he=>?_⟩;have s0:zai H (upd H e (.lst [])):=zai.upd he;have t0:TLo (upd H e (.lst [])) e []:=⟨[],zac,.nil⟩;generalize upd H e (.lst [])=H1 at s0 t0;refine⟨_,rfl,a,rfl,⟨_,SqL.of (s0 _ _ ha)⟩,?_⟩;refine zbM (K:=K) (a:=a) (xs:=ps.map V.ref) (fun i σ H2=>∃ (e:Addr) (v3 v4:Option V),σ = [some (.ref a),some (.ref b),some (.ref e),v3,v4]/\TLo H2 e (zaV (l.take i) m)/\zai H H2)
   ⟨e,none,none,rfl,t0,s0⟩ (fun i σ H2 _ ⟨_,_,_,_,_,s2⟩=>SqL.of (s2 _ _ ha)) ?_ ?_
  ·rintro i y σ H2 hi ⟨e,v3,v4,rfl,hT2,s2⟩;obtain⟨p,hpi,rfl⟩:=zcG hi;obtain⟨t,ht1,ht2⟩:=hp.at' hpi;have hil:i<l.length:=(jam.mp ht1).1;have htk:l.take (i+1)=l.take i ++ [t]:=by rw[jaI,ht1];rfl
   have h10:i * m.length+m.length<=l.length * m.length:=by rw[<- Nat.succ_mul];exact jbE _ hil
   refine⟨p,_,rfl,SqT.of (s2 _ _ ht2),rfl,_,_,rfl,_,_,rfl,rfl,?_⟩;obtain⟨rs,hr,hrp⟩:=id hT2;have hm:m.length<=1000000:=by
    have:1<=l.length:=by omega
    have:1 * m.length<=l.length * m.length:=jbE _ this;omega
   refine⟨_,rfl,_,rfl,b,rfl,(hTb.keep s2).tl.seq,?_⟩;refine zeW (fun u=>(Builtin.bitOr t.1 u.1,t.2 * u.2)) (hTb.keep s2).tl hm [some (.int t.1),some (.int t.2)] rfl (fun u hu H3 R s3 k=>?_) fun D ys H3 hD hT3 s3=>?_
   ·exact⟨_,rfl,_,rfl,_,_,rfl,rfl,_,rfl,_,rfl,_,_,rfl,rfl,hmul t (jao ht1) u hu,sl2,k⟩
   ·obtain⟨us,hu,hup⟩:=id hT3;have n1:=hrp.length;have n2:=hup.length;rw[zbO,jaJ,jbo (jaB hil)] at n1;rw[jaa] at n2;refine⟨e,D,_,_,rfl,rfl,s3 _ _ hr,hu,(by rw[jaa,jaa];exact jaB (zaF (by omega))),fun c hc=>?_⟩;have hT4:=TLo.cat (a:=e) (b:=D) (c:=c) (hrp.keep fun b xs z=>s3 b _ z) hup (zai.upd hc) zac;refine⟨c,_,_,rfl,?_,s2.trans (s3.trans (zai.upd hc))⟩;rw[htk,zg1];exact hT4
  ·rintro σ H2 ⟨e,v3,v4,rfl,hT2,s2⟩;rw[jaa,hp.length,jaK] at hT2;refine⟨_,rfl,e,_,rfl,hT2.tl,(by rw[zbO];omega),h5,fun x f H' hx hT' hF hl s'=>q x f H' (s2.free hx) hT' hF (s2.trans s')⟩
noncomputable def zqY (K:PySem.W.Frag):Sp:=fun vs H Q _=>∃ (a b:Addr) (l o:zag) (k:Nat),vs=[.ref a,.int (k:Int),.ref b]/\TLo H a l/\TLo H b o/\(∀ t∈l,0<=t.1)/\(l.length<=64/\o.length<=64)/\zgF (l++o)/\k<=100/\(∀ t∈l,∀ u∈o,IntMulOk t.2 u.2)/\(∀ f,zax f (zaV (zgS k l) o)->∀ t∈f,IntMulOk 1 t.2) /\
 ∀ (c:Addr) (f:zag) (H':Hp),H c=none->TLo H' c f->zax f (znx k o l)->zai H H'->Q (.ref c) H'
theorem zsk (T:Txt w K mg):zf7.Ok P w K mg base 3 (zqY K):=by
  refine Rw.ok T.d_Z41.F T.d_Z41.S fun vs H Q E h=>?_
  obtain⟨a,b,l,o,k,rfl,hT,hTo,h0,hlen,h5,hk,hmul,h1m,q⟩:=h;refine⟨rfl,fun _ _ _ _ hr hu nd=>⟨_,(zab (zgi (zaN T.d_Z39 (zoT T) (hr.mono (by decide)) (zaa (pv 0) (zaa (pv 1) zad))) (zbe (n:=2) rfl (zap (pgn 3 nd) (zap (pgn 4 nd) zaT))))
   (zae (zak (zaN T.d_Z40 (zfq T) hr (zaa (pv 4) (zaa (zaN T.d_Z51 (zkf T) hr (zaa (pv 3) (zaa (pv 2) zad))) (zaa zaf zad))))))),?_⟩⟩
  obtain⟨zs,z5,zz⟩:=h5;have zl:K5 zs l:=fun t ht=>zz t (ja4 _ ht)
  have zo:K5 zs o:=fun t ht=>zz t (jaA _ ht)
  have n1:=zex k l;have n2:=zfM k l;have n3:(zgS k l).length * o.length<=64 * 64:=jaS (by omega) hlen.2;refine⟨_,rfl,_,rfl,a,l,k,rfl,hT,h0,by omega,hk,fun p c d H1 hp hc hd s1=>?_⟩;refine⟨p,_,rfl,SqT.of hp,rfl,_,_,rfl,_,_,rfl,rfl,?_⟩;refine⟨_,rfl,_,rfl,_,rfl,c,b,zgS k l,o,rfl,hc,hTo.keep s1,by omega,⟨zs,z5,(zl.off k).prod zo⟩,(fun t ht u hu=>?_),fun e g H2 he hT2 hF2 s2=>?_⟩
  ·obtain⟨_,v,hv,e,_⟩:=zdD h0 ht;rw[e];exact hmul v hv u hu
  have hg5:K5 zs g:=((zl.off k).prod zo).of hF2;have hgl:=hg5.len hF2.toIsForm z5;refine⟨d,e,zjh k l,g,1,rfl,hd.keep s2,hT2,by omega,⟨zs,z5,(zl.out k).app hg5⟩,h1m g hF2,fun x f H3 hx hT3 hF s3=>?_⟩;refine q x f H3 (s1.free (s2.free hx)) hT3 (zbl hF.toIsForm fun j=>?_) (s1.trans (s2.trans s3));rw[hF.val,zaq,zbF,jdh,hF2.val];unfold znx;rw[zaq]
noncomputable def ziz (K:PySem.W.Frag) (d:Nat):Sp:=fun vs H Q _=>∃ (v:V) (s:Sm) (ls:List Nat),vs=[v]/\Is H v s.d/\s.ok (fun k=>k∈ls)/\s.dp<d/\ls.length<=5/\(∀ x∈ls,x<16)/\s.ln<=5 /\
 ∀ (b:Addr) (f:zag) (H':Hp),TLo H' b f->zax f s.tl->zai H H'->Q (.ref b) H'
theorem zge {w:Nat}{n:Int} (hw:w≠0) (hn:n=if w=1 then -1 else -2) {l o p g f:zag} (hp:zax p (zaV l o)) (hg:zax g (l++o.map fun t=>(t.1,1 * t.2))) (hf:zax f (g++p.map fun t=>(t.1,n * t.2))):zax f (zcN w l o):=zbl hf.toIsForm fun k=>by
 have e:∀ (x:zag),za8 (x.map fun t=>(t.1,t.2 * n)) k=za8 x k * n:=fun x=>by rw[zdR,zdR,zfO]
 unfold zcN;rw[if_neg hw,<- hn,hf.val,zaq,zbF,hg.val,hp.val,zaq,zbF,zaq,zaq,e,jdh,Int.mul_comm n]
theorem zqa (T:Txt w K mg) (d:Nat):zcr.Ok P w K mg base (3+d) ((ziz K) d):=by
  induction d with
  | zero=>exact Rw.ok T.d_Z47.F T.d_Z47.S fun vs H Q E h=>by obtain⟨v,s',ls,rfl,hI,hok,hd,hl5,hl16,hln,q⟩:=h;exact absurd hd (jcJ _)
  | succ d ih =>
  refine Rw.ok (k:=3+d) T.d_Z47.F T.d_Z47.S fun vs H Q E h=>?_
  obtain⟨v,s',ls,rfl,hI,hok,hd,hl5,hl16,hln,q⟩:=h;refine⟨rfl,fun _ _ _ _ hr hu nd=>⟨_,(zab (zay (zah zaD (zav zaK (pv 0) zaf (fun _ _=>rfl)) zaj (zal _)) (zae (zak (zaG (zaa (zaE (zaa (zao ziu zaf (zav zaK (pv 0) zaf (fun _ _=>rfl))) (zaa zaf zad))) zad)))) zam)
   (zab (zay (zah zaD (zav zaK (pv 0) zaf (fun _ _=>rfl)) zaj (zal _)) (zae (zak (zbP zfa (zaG (zaa (zaE (zaa zaf (zaa zaf zad))) zad)) zc1 (zbo (zav zaK (pv 0) zaf (fun _ _=>rfl)))))) zam)
   (zab (zaS 1 nd (zaN T.d_Z47 ih hr (zaa (zav zaK (pv 0) zaf (fun _ _=>rfl)) zad)))
   (zab (zay (zah zaD (zav zaK (pv 0) zaf (fun _ _=>rfl)) zaj (zal _)) (zae (zak (zaN T.d_Z40 (zfq T) (hr.mono (by omega)) (zaa (zaG (zaa (zaE (zaa zaf (zaa zaf zad))) zad)) (zaa (pv 1) (zaa (zao zd3 zaf zaf) zad)))))) zam)
   (zab (zaS 2 nd (zaN T.d_Z47 ih hr (zaa (zav zaK (pv 0) zaf (fun _ _=>rfl)) zad)))
   (zab (zaS 3 nd (zaN T.d_Z51 (zkf T) (hr.mono (by omega)) (zaa (pv 1) (zaa (pv 2) zad))))
   (zab (zay (zah zaD (zav zaK (pv 0) zaf (fun _ _=>rfl)) zaj (zal _)) (zae (zak (pv 3))) zam)
   (zab (zay (zah zaD (zav zaK (pv 0) zaf (fun _ _=>rfl)) zaj (zal _)) (zae (zak (zaN T.d_Z40 (zfq T) (hr.mono (by omega)) (zaa (zaN T.d_Z40 (zfq T) (hr.mono (by omega)) (zaa (pv 1) (zaa (pv 2) (zaa zaf zad)))) (zaa (pv 3) (zaa (zao zd3 zaf zaf) zad)))))) zam)
   (zae (zak (zaN T.d_Z40 (zfq T) (hr.mono (by omega)) (zaa (zaN T.d_Z40 (zfq T) (hr.mono (by omega)) (zaa (pv 1) (zaa (pv 2) (zaa zaf zad)))) (zaa (pv 3) (zaa (zao zd3 zaf zaf) zad)))))))))))))),?_⟩⟩
  have k5:∀ {s:Sm}{f:zag},s.ok (fun k=>k∈ls)->zax f s.tl->K5 ls f/\f.length<=32:=fun h hF=>⟨(zjc h).of hF,((zjc h).of hF).len hF.toIsForm hl5⟩
  cases s' with
  | bit k =>
   obtain⟨p,rfl,hp⟩:=zfn hI;have hk:k<16:=hl16 k hok;refine⟨_,rfl,p,_,_,_,rfl,rfl,SqT.of hp,rfl,rfl,_,rfl,za4 (by decide) ?_⟩;refine⟨_,rfl,p,_,_,_,rfl,rfl,SqT.of hp,rfl,_,_,rfl,rfl,⟨jaM _,by omega,by decide⟩,sl2,fun t1 ht1=>⟨sl1,fun e1 he1=>?_⟩⟩;dsimp only at ht1 he1 ⊢;rw[zkc] at he1 ⊢;have b1:zai H (upd H t1 (.tup [.int (2^k),.int 1])):=zai.upd ht1;have b2:zai (upd H t1 (.tup [.int (2^k),.int 1])) (upd (upd H t1 (.tup [.int (2^k),.int 1])) e1 (.lst [.ref t1])):=zai.upd he1;exact q e1 _ _ ⟨[t1],zac,.cons (b2 _ _ zac) .nil⟩ (zhY (by decide)) (b1.trans b2)
  | fix c =>
   obtain⟨p,rfl,hp⟩:=zfo hI;refine⟨_,rfl,p,_,_,_,rfl,rfl,SqT.of hp,rfl,rfl,_,rfl,zaB (by decide) ?_⟩;refine⟨_,rfl,p,_,_,_,rfl,rfl,SqT.of hp,rfl,rfl,_,rfl,za4 (by decide) ?_⟩;refine⟨sl2,fun t1 ht1=>⟨sl1,fun e1 he1=>?_⟩⟩;have b1:zai H (upd H t1 (.tup [.int 0,.int 1])):=zai.upd ht1;have b2:zai (upd H t1 (.tup [.int 0,.int 1])) (upd (upd H t1 (.tup [.int 0,.int 1])) e1 (.lst [.ref t1])):=zai.upd he1;refine⟨_,rfl,p,_,_,_,rfl,rfl,SqT.of ((b1.trans b2) _ _ hp),rfl,c,rfl,e1,_,rfl,SqL.of zac,fun d1 hd1=>?_⟩;have b3:=(b1.trans b2).trans (zai.upd (o := .lst (ziJ [.ref t1] none (some c))) hd1);have hc:c=0\/c=1:=hok;rcases hc with rfl | rfl
   ·exact q d1 [] _ ⟨[],zac,.nil⟩ ⟨⟨.nil,fun p hp=>by cases hp⟩,fun k=>by simp[Sm.tl,za8],fun p hp=>by cases hp⟩ b3
   ·exact q d1 [(0,1)] _ ⟨[t1],zac,.cons ((zai.upd hd1) _ _ (b2 _ _ zac)) .nil⟩ (zhY (by decide)) b3
  | no s1 =>
   obtain⟨p,x,rfl,hp,hx⟩:=zhy hI;have hd1:s1.dp<d:=by have:s1.dp+1<d+1:=hd;omega
   refine⟨_,rfl,p,_,_,_,rfl,rfl,SqT.of hp,rfl,rfl,_,rfl,zaB (by decide) ?_⟩;refine⟨_,rfl,p,_,_,_,rfl,rfl,SqT.of hp,rfl,rfl,_,rfl,zaB (by decide) ?_⟩;refine⟨_,rfl,p,_,_,_,rfl,rfl,SqT.of hp,rfl,x,s1,ls,rfl,hx,hok,hd1,hl5,hl16,(by have h:s1.ln+1<=5:=hln;omega),fun b f H1 hT1 hF1 s1'=>?_⟩;obtain⟨kf,hfl⟩:=k5 (s:=s1) hok hF1;have hp1:=s1' _ _ hp;refine⟨_,rfl,p,_,_,_,rfl,rfl,SqT.of hp1,rfl,rfl,_,rfl,za4 (by decide) ?_⟩;refine⟨sl2,fun t1 ht1=>⟨sl1,fun e1 he1=>?_⟩⟩;have b1:zai H1 (upd H1 t1 (.tup [.int 0,.int 1])):=zai.upd ht1;have b2:zai (upd H1 t1 (.tup [.int 0,.int 1])) (upd (upd H1 t1 (.tup [.int 0,.int 1])) e1 (.lst [.ref t1])):=zai.upd he1;have B:=b1.trans b2;refine⟨_,rfl,_,_,rfl,rfl,e1,b,[(0,1)],f,-1,rfl,⟨[t1],zac,.cons (b2 _ _ zac) .nil⟩,hT1.keep B,(by show 1+f.length<=5000;omega),⟨ls,hl5,(zky 1).app kf⟩,(fun t _=>ziX (by decide) (by decide)),fun c g H2 hc hT2 hF2 s2=>?_⟩;exact q c g H2 hT2 (zjP hF1 hF2.toIsForm fun k=>by rw[hF2.val,zaq,zbF];omega) (s1'.trans (B.trans s2))
  | two w s1 s2 =>
   obtain⟨p,x,y,rfl,hp,hx,hy⟩:=zeN hI;obtain⟨hw3,ok1,ok2⟩:=hok;have hdd:s1.dp<d/\s2.dp<d:=by
    have h1:max s1.dp s2.dp+1<d+1:=hd;omega
   have hls:s1.ln+s2.ln<=5:=hln;obtain⟨n1,n2,n3⟩:=zkD (w:=w);refine⟨_,rfl,p,_,_,_,rfl,rfl,SqT.of hp,rfl,rfl,_,rfl,zaB (by simpa using n1) ?_⟩;refine⟨_,rfl,p,_,_,_,rfl,rfl,SqT.of hp,rfl,rfl,_,rfl,zaB (by simpa using n2) ?_⟩;refine⟨_,rfl,p,_,_,_,rfl,rfl,SqT.of hp,rfl,x,s1,ls,rfl,hx,ok1,hdd.1,hl5,hl16,by omega,fun b f H1 hT1 hF1 t1=>?_⟩;have hp1:=t1 _ _ hp;refine⟨_,rfl,p,_,_,_,rfl,rfl,SqT.of hp1,rfl,rfl,_,rfl,zaB (by simpa using n3) ?_⟩;refine⟨_,rfl,p,_,_,_,rfl,rfl,SqT.of hp1,rfl,y,s2,ls,rfl,hy.keep t1,ok2,hdd.2,hl5,hl16,by omega,fun b2 o H2 hT2 hF2 t2=>?_⟩;have hp2:=t2 _ _ hp1;obtain⟨kf,l1⟩:=k5 ok1 hF1;obtain⟨ko,l2⟩:=k5 ok2 hF2;have hll:f.length * o.length<=32 * 32:=jaS l1 l2;refine⟨_,rfl,_,rfl,b,b2,f,o,rfl,hT1.keep t2,hT2,by omega,⟨ls,hl5,kf.prod ko⟩,(fun t ht u hu=>zfl (zcL ok1 (by omega) hF1 t ht) (zcL ok2 (by omega) hF2 u hu)),fun b3 pr H3 hb3 hT3 hF3 t3=>?_⟩;have hp3:=t3 _ _ hp2;have hT1':=(hT1.keep t2).keep t3;have hT2':=hT2.keep t3;have k3:K5 ls pr:=(kf.prod ko).of hF3;have l3:=k3.len hF3.toIsForm hl5;have fin:∀ (c:Addr) (g:zag) (H4:Hp),TLo H4 c g->zax g (zcN w f o)->zai H3 H4->Q (.ref c) H4:=fun c g H4 hT4 hF4 t4=>by
    exact q c g H4 hT4 (zij hF1 hF2 hF4) (t1.trans (t2.trans (t3.trans t4)))
   obtain rfl | rfl | rfl:w=0\/w=1\/w=2:=by omega
   ·refine⟨_,rfl,p,_,_,_,rfl,rfl,SqT.of hp3,rfl,rfl,_,rfl,za4 (by decide) ?_⟩;exact⟨_,rfl,fin b3 pr H3 hT3 (by unfold zcN;rw[if_pos rfl];exact hF3) (zai.refl _)⟩
   ·refine⟨_,rfl,p,_,_,_,rfl,rfl,SqT.of hp3,rfl,rfl,_,rfl,zaB (by decide) ?_⟩;refine⟨_,rfl,p,_,_,_,rfl,rfl,SqT.of hp3,rfl,rfl,_,rfl,za4 (by decide) ?_⟩;refine⟨_,rfl,_,rfl,b,b2,f,o,1,rfl,hT1',hT2',by omega,⟨ls,hl5,kf.app ko⟩,(fun t _=>ziX (by decide) (by decide)),fun b4 g H4 hb4 hT4 hF4 t4=>?_⟩;have kg:K5 ls g:=(kf.app (ko.map _)).of hF4;have lg:=kg.len hF4.toIsForm hl5;refine⟨_,rfl,_,_,rfl,rfl,b4,b3,g,pr,-1,rfl,hT4,hT3.keep t4,by omega,⟨ls,hl5,kg.app k3⟩,(fun t _=>ziX (by decide) (by decide)),fun b5 h H5 hb5 hT5 hF5 t5=>?_⟩;exact fin b5 h H5 hT5 (zge (by decide) (by decide) hF3 hF4 hF5) (t4.trans t5)
   ·refine⟨_,rfl,p,_,_,_,rfl,rfl,SqT.of hp3,rfl,rfl,_,rfl,zaB (by decide) ?_⟩;refine⟨_,rfl,p,_,_,_,rfl,rfl,SqT.of hp3,rfl,rfl,_,rfl,zaB (by decide) ?_⟩;refine⟨_,rfl,_,rfl,b,b2,f,o,1,rfl,hT1',hT2',by omega,⟨ls,hl5,kf.app ko⟩,(fun t _=>ziX (by decide) (by decide)),fun b4 g H4 hb4 hT4 hF4 t4=>?_⟩;have kg:K5 ls g:=(kf.app (ko.map _)).of hF4;have lg:=kg.len hF4.toIsForm hl5;refine⟨_,rfl,_,_,rfl,rfl,b4,b3,g,pr,-2,rfl,hT4,hT3.keep t4,by omega,⟨ls,hl5,kg.app k3⟩,(fun t _=>ziX (by decide) (by decide)),fun b5 h H5 hb5 hT5 hF5 t5=>?_⟩;exact fin b5 h H5 hT5 (zge (by decide) (by decide) hF3 hF4 hF5) (t4.trans t5)
theorem zr7 (T:Txt w K mg):zcr.Ok P w K mg base 25 ((ziz K) 22):=zqa T 22
noncomputable def zoh (K:PySem.W.Frag):Sp:=fun vs H Q _=>∃ (a:Addr) (l:zag) (k:Nat) (b:Int),vs=[.ref a,.int (k:Int),.int b]/\TLo H a l/\(∀ t∈l,0<=t.1)/\l.length<=2000/\zgF l/\k<=100/\(b=0\/b=1)/\(∀ t∈l,IntMulOk b t.2) /\
 ∀ (c:Addr) (f:zag) (H':Hp),H c=none->TLo H' c f->zax f (zlc k b l)->zai H H'->Q (.ref c) H'
theorem zsi (T:Txt w K mg):zej.Ok P w K mg base 3 (zoh K):=by
  refine Rw.ok T.d_Z30.F T.d_Z30.S fun vs H Q E h=>?_
  obtain⟨a,l,k,b,rfl,hT,h0,hlen,h5,hk,hb,hmul,q⟩:=h;refine⟨rfl,fun _ _ _ _ hr hu nd=>⟨_,(zab (zgi (zaN T.d_Z39 (zoT T) (hr.mono (by decide)) (zaa (pv 0) (zaa (pv 1) zad))) (zbe (n:=2) rfl (zap (pgn 3 nd) (zap (pgn 4 nd) zaT))))
   (zae (zak (zaN T.d_Z40 (zfq T) hr (zaa (pv 4) (zaa (pv 3) (zaa (pv 2) zad))))))),?_⟩⟩
  refine⟨_,rfl,_,rfl,a,l,k,rfl,hT,h0,by omega,hk,fun p c d H1 hp hc hd s1=>?_⟩;refine⟨p,_,rfl,SqT.of hp,rfl,_,_,rfl,_,_,rfl,rfl,?_⟩;have n1:=zex k l;have n2:=zfM k l;refine⟨_,rfl,_,rfl,_,rfl,d,c,zjh k l,zgS k l,b,rfl,hd,hc,by omega,(let ⟨ls,z5,z⟩:=h5; ⟨ls,z5,(z.out k).app (z.off k)⟩),(fun t ht=>?_),fun x f H2 hx hT2 hF s2=>?_⟩
  ·obtain⟨_,v,hv,e,_⟩:=zdD h0 ht;rw[e];exact hmul v hv
  refine q x f H2 (s1.free hx) hT2 (zbl hF.toIsForm fun j=>?_) (s1.trans s2);rw[hF.val,zaq,zbF];unfold zlc;rw[zaq];rcases hb with rfl | rfl
  ·rw[if_pos rfl];simp[za8]
  ·rw[if_neg (by decide),jdh]
noncomputable def zsY (K:PySem.W.Frag):Sp:=fun vs H Q _=>∃ (w:Nat) (a b:Addr) (l m:zag),vs=[.str (opS w),.ref a,.ref b]/\w<3/\TLo H a l/\TLo H b m/\(l.length<=64/\m.length<=64)/\(∃ ls,ls.length<=5/\K5 ls l/\K5 ls m)/\(w=2->∀ t∈l,∀ u∈m,IntMulOk t.2 u.2) /\
 ∀ (c:Addr) (f:zag) (H':Hp),H c=none->TLo H' c f->zax f (opR w l m)->zai H H'->Q (.ref c) H'
theorem zrM (T:Txt w K mg):zdu.Ok P w K mg base 3 (zsY K):=by
  refine Rw.ok T.d_Z38.F T.d_Z38.S fun vs H Q E h=>?_
  obtain⟨wo,a,b,l,m,rfl,hw,hTa,hTb,hlen,h5,hmul,q⟩:=h;refine⟨rfl,fun _ _ _ _ hr hu nd=>⟨_,(zab (zay (zah zaD (pv 0) zaj (zal _)) (zae (zak (zaN T.d_Z51 (zkf T) hr (zaa (pv 1) (zaa (pv 2) zad))))) zam)
   (zae (zak (zaN T.d_Z40 (zfq T) hr (zaa (pv 1) (zaa (pv 2) (zaa (zao zd3 zaf (zao zbi zaf (zbL zir rfl T.n_int jbv (zaa (zbp zaD (pv 0) zaj (zal _)) zad)))) zad))))))),?_⟩⟩
  obtain⟨ls,z5,zl,zm⟩:=h5;have hll:l.length * m.length<=64 * 64:=jaS hlen.1 hlen.2;obtain rfl | rfl | rfl:wo=0\/wo=1\/wo=2:=by omega
  ·refine⟨_,rfl,rfl,_,rfl,zaB (by decide) ?_⟩;refine⟨_,rfl,_,rfl,_,rfl,rfl,.inr ⟨_,rfl,?_⟩⟩;refine⟨_,_,rfl,rfl,ziX (by decide) (by decide),_,_,rfl,rfl,a,b,l,m,1,rfl,hTa,hTb,by omega,⟨ls,z5,zl.app zm⟩,(fun t _=>ziX (by decide) (by decide)),fun c f H1 hc hT hF s1=>q c f H1 hc hT (zbl hF.toIsForm fun k=>?_) s1⟩;show _=za8 (l++m) k;rw[hF.val,zaq,zaq,zbF,jdh]
  ·refine⟨_,rfl,rfl,_,rfl,zaB (by decide) ?_⟩;refine⟨_,rfl,_,rfl,_,rfl,rfl,.inr ⟨_,rfl,?_⟩⟩;refine⟨_,_,rfl,rfl,ziX (by decide) (by decide),_,_,rfl,rfl,a,b,l,m,-1,rfl,hTa,hTb,by omega,⟨ls,z5,zl.app zm⟩,(fun t _=>ziX (by decide) (by decide)),fun c f H1 hc hT hF s1=>q c f H1 hc hT (zbl hF.toIsForm fun k=>?_) s1⟩;show _=za8 (l++m.map fun t=>(t.1,-t.2)) k;rw[hF.val,zaq,zaq,zbF,zdH];omega
  ·refine⟨_,rfl,rfl,_,rfl,za4 (by decide) ?_⟩;exact⟨_,rfl,_,rfl,a,b,l,m,rfl,hTa,hTb,by omega,⟨ls,z5,zl.prod zm⟩,hmul rfl,fun c f H1 hc hT hF s1=>q c f H1 hc hT hF s1⟩
noncomputable def zto (K:PySem.W.Frag):Sp:=fun vs H Q _=>∃ (a:Addr) (l:zag),vs=[.ref a]/\TLo H a l/\l.length<=64/\zgF l/\(∀ t∈l,∀ u∈l,IntMulOk t.2 u.2) /\
 (∀ H',zai H H'->zkF l->Q (.bl true) H')/\(∀ H',zai H H'->¬ zkF l->Q (.bl false) H')
theorem zrv (T:Txt w K mg):zdw.Ok P w K mg base 3 (zto K):=by
  refine Rw.ok T.d_Z53.F T.d_Z53.S fun vs H Q E h=>?_
  obtain⟨a,l,rfl,hT,hlen,h5,hmul,q⟩:=h;refine⟨rfl,fun _ _ _ _ hr hu nd=>⟨_,(zae (zak (zbp (zin (zqx hr)) (zaN T.d_Z51 (zkf T) hr (zaa (pv 0) (zaa (pv 0) zad))) (pv 0) (zal _)))),?_⟩⟩;have n3:l.length * l.length<=64 * 64:=jaS hlen hlen;refine⟨_,rfl,_,rfl,a,a,l,l,rfl,hT,hT,by omega,(let ⟨ls,z5,z⟩:=h5; ⟨ls,z5,z.prod z⟩),hmul,fun c f H1 hc hT1 hF1 s1=>?_⟩;refine⟨_,rfl,dF f,dF l,hT1.is,(hT.keep s1).is,jak (zjM f) (by decide),?_⟩;rw[zpn];by_cases z:f=l
  ·rw[decide_eq_true z];exact q.1 H1 s1 ⟨f,hF1,z⟩
  ·rw[decide_eq_false z];refine q.2 H1 s1 fun ⟨g,hg,eg⟩=>z ?_
   rw[<- eg];exact zax.unique hF1 (eg ▸ hg) fun k=>rfl
noncomputable def zsp:Sp:=fun vs H Q _=>∃ w:List Nat,vs=[.str (S w)]/\(∀ c∈w,c<128)/\w.length<=10000/\∀ H',zai H H'->Q (.bl (zb3 w)) H'
theorem zom:(["letter"]:List Str).Nodup:=by decide +kernel
theorem zpa (T:Txt w K mg):zeR.Ok P w K mg base 1 zsp:=by
  refine Rw.ok T.d_Z21.F T.d_Z21.S fun vs H Q E h=>?_
  obtain⟨wo,rfl,ha,hl,q⟩:=h;refine⟨rfl,fun _ _ _ _ hr hu nd=>⟨_,(zae (zak (zg4 (zko zjB zjB zaf (zar za3 (by rfl) T.n_len jaF (zaa (pv 0) zad)) zaf) (zgd (zar (zh8 rfl) (by rfl) T.n_all PyProof.Rows.boot_all (zaa (zbb (g:=(zaH 0)) ["letter"] 1 [] rfl (zfL zeR) (zkw (pv 0))
    (fun cl C s₀ H₀ fp=>(pgn 0 zom)) (fun cl C s₀ H₀ fp=>zbW) (fun cl C s₀ H₀ fp=>(zbp zf1 (pv 0) (za5 (v := .str "abcdefghijklmnopqrstuvwxyz") (by rfl) T.g_SMALL_LETTERS ⟨_,rfl⟩) rfl))) zad)))))),?_⟩⟩
  have hz:(S wo).length<=sizeLine:=by rw[zaw];exact zds (by omega)
  refine⟨_,rfl,_,rfl,hz,_,_,rfl,rfl,_,rfl,?_⟩;by_cases h1:1<=wo.length
  rotate_left
  ·refine zaB (fun y=>h1 (by have:=of_decide_eq_true y;rw[zaw] at this;omega)) ⟨_,rfl,zaB (by decide) ?_⟩;have e:zb3 wo=false:=by unfold zb3;rw[decide_eq_false h1];rfl
   rw[e] at q;exact q H (zai.refl _)
  refine za4 (decide_eq_true (by rw[zaw];omega)) ⟨_,_,rfl,rfl,_,rfl,?_⟩;by_cases h2:wo.length<=8
  rotate_left
  ·refine zaB (fun y=>h2 (by have:=of_decide_eq_true y;rw[zaw] at this;omega)) ?_;have e:zb3 wo=false:=by unfold zb3;rw[decide_eq_false h2,jcZ,jb4]
   rw[e] at q;exact q H (zai.refl _)
  refine za4 (decide_eq_true (by rw[zaw];omega)) ?_;have e:zb3 wo=(wo.map fun c=>decide (97<=c/\c<123)).all id:=by unfold zb3;rw[decide_eq_true h1,decide_eq_true h2,jcd,jcd,List.all_map];rfl
  rw[e] at q;refine⟨_,rfl,_,rfl,zhZ ha,?_⟩;refine zkA (l:=wo) (fun i ys σ G=>∃ v0:Option V,σ = [v0]/\ys=((wo.take i).map fun c=>decide (97<=c/\c<123)).map V.bl/\G=H)
   ⟨none,rfl,rfl,rfl⟩ (fun i ys σ G ⟨_,_,e1,_⟩=>by rw[e1];simp;omega) (by rw[<- zaw];exact hz) ?_ ?_
  ·rintro i c ys σ G hc ⟨v0,rfl,rfl,rfl⟩;have htk:wo.take (i+1)=wo.take i ++ [c]:=by rw[jaI,hc];rfl
   unfold zaH;refine tt ?_;refine⟨_,rfl,_,_,rfl,rfl,?_⟩;rw[zlP,zrr c (ha c (jao hc))];refine⟨_,rfl,?_,rfl⟩;rw[htk,jac,jac];rfl
  ·rintro ys σ G ⟨v0,rfl,rfl,rfl⟩ D hD;rw[jaK];exact⟨D,_,rfl,SqL.of zac,q _ (zai.upd hD)⟩
noncomputable def zqH:Sp:=fun vs H Q _=>∃ w:List Nat,vs=[.str (S w)]/\(∀ c∈w,c<128)/\w.length<=10000/\∀ H',zai H H'->Q (.bl (ziE w)) H'
theorem znZ (l:List Nat):Txt.startswith (S l) (S [48])=decide (l.head? = some 48):=by
 unfold Txt.startswith;rw[jdj,zbE,zbE,zaw,zaw];cases l with
 | nil=>rfl
 | cons c r =>
  by_cases z:c=48
  ·subst z;simp
  ·simp[z]
theorem znq:(["figure"]:List Str).Nodup:=by decide +kernel
theorem zrE (T:Txt w K mg):zdd.Ok P w K mg base 1 zqH:=by
  refine Rw.ok T.d_Z22.F T.d_Z22.S fun vs H Q E h=>?_
  obtain⟨wo,rfl,ha,hl,q⟩:=h;refine⟨rfl,fun _ _ _ _ hr hu nd=>⟨_,(zab (zay (zcs (za9 jaz jbU jbT zeA (pv 0) (zaa zaj zad)) (fun _=>rfl)) (zae (zak (zbp zaD (pv 0) zaj (zal _)))) zam)
   (zae (zak (zg4 (zko zjB zjB zaf (zar za3 (by rfl) T.n_len jaF (zaa (pv 0) zad)) zaf) (zgd (zar (zh8 rfl) (by rfl) T.n_all PyProof.Rows.boot_all (zaa (zbb (g:=(zaH 0)) ["figure"] 1 [] rfl (zfL zdd) (zkw (pv 0))
    (fun cl C s₀ H₀ fp=>(pgn 0 znq)) (fun cl C s₀ H₀ fp=>zbW) (fun cl C s₀ H₀ fp=>(zbp zf1 (pv 0) (za5 (v := .str "0123456789") (by rfl) T.g_FIGURES ⟨_,rfl⟩) rfl))) zad))))))),?_⟩⟩
  have hz:(S wo).length<=sizeLine:=by rw[zaw];exact zds (by omega)
  refine⟨_,rfl,rfl,_,_,rfl,rfl,_,rfl,?_⟩;rw[zes,znZ];by_cases h0:wo.head? = some 48
  ·refine za4 (decide_eq_true h0) ?_;refine⟨_,rfl,rfl,?_⟩;have e:ziE wo=decide (V.str (S wo)=V.str (Str.ofString "0")):=by
    unfold ziE;rw[if_pos h0,zes];by_cases z:wo=[48]
    ·rw[z,decide_eq_true rfl,decide_eq_true rfl]
    ·rw[decide_eq_false z,decide_eq_false (fun y=>z (by injection y with y;exact zbY y))]
   rw[e] at q;exact q H (zai.refl _)
  refine zaB (fun y=>h0 (of_decide_eq_true y)) ?_;refine⟨_,rfl,_,rfl,hz,_,_,rfl,rfl,_,rfl,?_⟩;by_cases h1:1<=wo.length
  rotate_left
  ·refine zaB (fun y=>h1 (by have:=of_decide_eq_true y;rw[zaw] at this;omega)) ⟨_,rfl,zaB (by decide) ?_⟩;have e:ziE wo=false:=by unfold ziE;rw[if_neg h0,decide_eq_false h1];rfl
   rw[e] at q;exact q H (zai.refl _)
  refine za4 (decide_eq_true (by rw[zaw];omega)) ⟨_,_,rfl,rfl,_,rfl,?_⟩;by_cases h2:wo.length<=18
  rotate_left
  ·refine zaB (fun y=>h2 (by have:=of_decide_eq_true y;rw[zaw] at this;omega)) ?_;have e:ziE wo=false:=by unfold ziE;rw[if_neg h0,decide_eq_false h2,jcZ,jb4]
   rw[e] at q;exact q H (zai.refl _)
  refine za4 (decide_eq_true (by rw[zaw];omega)) ?_;have e:ziE wo=(wo.map fun c=>decide (48<=c/\c<58)).all id:=by unfold ziE;rw[if_neg h0,decide_eq_true h1,decide_eq_true h2,jcd,jcd,List.all_map];rfl
  rw[e] at q;refine⟨_,rfl,_,rfl,zhZ ha,?_⟩;refine zkA (l:=wo) (fun i ys σ G=>∃ v0:Option V,σ = [v0]/\ys=((wo.take i).map fun c=>decide (48<=c/\c<58)).map V.bl/\G=H)
   ⟨none,rfl,rfl,rfl⟩ (fun i ys σ G ⟨_,_,e1,_⟩=>by rw[e1];simp;omega) (by rw[<- zaw];exact hz) ?_ ?_
  ·rintro i c ys σ G hc ⟨v0,rfl,rfl,rfl⟩;have htk:wo.take (i+1)=wo.take i ++ [c]:=by rw[jaI,hc];rfl
   unfold zaH;refine tt ?_;refine⟨_,rfl,_,_,rfl,rfl,?_⟩;rw[zmD,zqX c (ha c (jao hc))];refine⟨_,rfl,?_,rfl⟩;rw[htk,jac,jac];rfl
  ·rintro ys σ G ⟨v0,rfl,rfl,rfl⟩ D hD;rw[jaK];exact⟨D,_,rfl,SqL.of zac,q _ (zai.upd hD)⟩
theorem zq5 (w:List Nat):zfP .letter w=(decide (w.length=1) && w.all fun c=>decide (97<=c/\c<113)):=rfl
theorem zmH (w:List Nat):zfP .bit w=(decide (w=[48]) || decide (w=[49])):=rfl
theorem zl8 (w:List Nat):zfP .divisor w=(ziE w && !decide (w=[48])):=rfl
theorem ziW {w:List Nat} (h:ziE w=true):NumText.AllDigits w/\w≠[]/\w.length<=18:=by
 unfold ziE at h;split at h
 ·rw[of_decide_eq_true h];exact⟨fun c hc=>by rw[jad.mp hc];decide,by simp,by simp⟩
 ·simp only[jaT,decide_eq_true_eq] at h;exact⟨fun c hc=>by have:=of_decide_eq_true (jaX.mp h.2.2 c hc);omega,fun z=>by rw[z] at h;simp at h,h.2.1⟩
theorem zk3 {w:List Nat} (h:NumText.AllDigits w) (h1:w≠[]) (h2:w.length<=18):intText? (S w)=some ((NumText.digitsVal w:Nat):Int):=intText_digits (x:=S w) h h1 (by rw[zaw];omega)
noncomputable def zsn:Sp:=fun vs H Q _=>∃ (k:Kd) (w:List Nat),vs=[.str k.s,.str (S w)]/\(∀ c∈w,c<128)/\w.length<=10000/\∀ H',zai H H'->Q (.bl (zfP k w)) H'
theorem zrf (T:Txt w K mg):zjz.Ok P w K mg base 2 zsn:=by
  refine Rw.ok T.d_Z23.F T.d_Z23.S fun vs H Q E h=>?_
  obtain⟨k,wo,rfl,ha,hl,q⟩:=h;refine⟨rfl,fun _ _ _ _ hr hu nd=>⟨_,(zab (zay (zah zaD (pv 0) zaj (zal _)) (zae (zak (zaN T.d_Z21 (zpa T) hr (zaa (pv 1) zad)))) zam)
   (zab (zay (zah zaD (pv 0) zaj (zal _)) (zae (zak (zg4 (zbp zaD (zar za3 (by rfl) T.n_len jaF (zaa (pv 1) zad)) zaf (zal _)) (zgd (zbp zf1 (pv 1) (za5 (v := .str "abcdefghijklmnop") (by rfl) T.g_LETTERS ⟨_,rfl⟩) rfl))))) zam)
   (zab (zay (zah zaD (pv 0) zaj (zal _)) (zae (zak (zts (zbp zaD (pv 1) zaj (zal _)) (zgd (zbp zaD (pv 1) zaj (zal _)))))) zam)
   (zae (zak (zg4 (zaN T.d_Z22 (zrE T) hr (zaa (pv 1) zad)) (zgd (zss (zg4 (zbp zaD (pv 0) zaj (zal _)) (zgd (zbp zaD (pv 1) zaj (zal _)))))))))))),?_⟩⟩
  have hz:(S wo).length<=sizeLine:=by rw[zaw];exact zds (by omega)
  cases k with
  | name =>
   refine⟨_,rfl,rfl,_,rfl,za4 (by decide) ?_⟩;exact⟨_,rfl,wo,rfl,ha,hl,fun H1 s1=>q H1 s1⟩
  | letter =>
   refine⟨_,rfl,rfl,_,rfl,zaB (by decide) ?_⟩;refine⟨_,rfl,rfl,_,rfl,za4 (by decide) ?_⟩;refine⟨_,rfl,_,rfl,hz,rfl,_,rfl,?_⟩;by_cases h1:wo.length=1
   ·obtain⟨c,rfl⟩:=List.length_eq_one_iff.mp h1;refine za4 (by rw[zaw];exact decide_eq_true rfl) ?_;refine⟨_,rfl,_,_,rfl,rfl,?_⟩;rw[zb6,zsB c (ha c (by simp))];have e:zfP .letter [c]=decide (97<=c/\c<113):=by unfold zfP;simp
    rw[e] at q;exact q H (zai.refl _)
   ·refine zaB (by rw[zaw];exact fun y=>h1 (by have:=of_decide_eq_true y;injection this with this;omega)) ?_;have e:zfP .letter wo=false:=by rw[zq5];rw[decide_eq_false h1];rfl
    rw[e] at q;exact q H (zai.refl _)
  | bit =>
   refine⟨_,rfl,rfl,_,rfl,zaB (by decide) ?_⟩;refine⟨_,rfl,rfl,_,rfl,zaB (by decide) ?_⟩;refine⟨_,rfl,rfl,_,rfl,za4 (by decide) ?_⟩;refine⟨_,rfl,rfl,_,rfl,?_⟩;by_cases h1:wo=[48]
   ·refine za4 (decide_eq_true (by rw[h1,zes])) ?_;have e:zfP .bit wo=true:=by rw[zmH];rw[decide_eq_true h1];rfl
    rw[e] at q;exact q H (zai.refl _)
   ·refine zaB (fun y=>h1 (by have:=of_decide_eq_true y;injection this with this;rw[zes] at this;exact zbY this)) ?_;refine⟨_,rfl,rfl,?_⟩;have e:zfP .bit wo=decide (V.str (S wo)=V.str (Str.ofString "1")):=by
     rw[zmH,decide_eq_false h1,Bool.false_or,zlT];by_cases z:wo=[49]
     ·rw[z,decide_eq_true rfl,decide_eq_true rfl]
     ·rw[decide_eq_false z,decide_eq_false (fun y=>z (by injection y with y;exact zbY y))]
    rw[e] at q;exact q H (zai.refl _)
  | number =>
   refine⟨_,rfl,rfl,_,rfl,zaB (by decide) ?_⟩;refine⟨_,rfl,rfl,_,rfl,zaB (by decide) ?_⟩;refine⟨_,rfl,rfl,_,rfl,zaB (by decide) ?_⟩;refine⟨_,rfl,wo,rfl,ha,hl,fun H1 s1=>⟨_,rfl,?_⟩⟩;cases hn:ziE wo with
   | false =>
    have e:zfP .number wo=false:=hn;rw[e] at q;exact zaB (by decide) (q H1 s1)
   | true =>
    have e:zfP .number wo=true:=hn;rw[e] at q;refine za4 rfl ?_;refine⟨_,rfl,rfl,_,rfl,zaB (by decide) ?_⟩;exact⟨_,rfl,q H1 s1⟩
  | divisor =>
   refine⟨_,rfl,rfl,_,rfl,zaB (by decide) ?_⟩;refine⟨_,rfl,rfl,_,rfl,zaB (by decide) ?_⟩;refine⟨_,rfl,rfl,_,rfl,zaB (by decide) ?_⟩;refine⟨_,rfl,wo,rfl,ha,hl,fun H1 s1=>⟨_,rfl,?_⟩⟩;cases hn:ziE wo with
   | false =>
    have e:zfP .divisor wo=false:=by rw[zl8];rw[hn];rfl
    rw[e] at q;exact zaB (by decide) (q H1 s1)
   | true =>
    refine za4 rfl ?_;refine⟨_,rfl,rfl,_,rfl,za4 (by decide) ?_⟩;refine⟨_,rfl,rfl,_,rfl,?_⟩;have e:zfP .divisor wo = !decide (V.str (S wo)=V.str (Str.ofString "0")):=by
     rw[zl8,hn,jcd,zes];congr 1;by_cases z:wo=[48]
     ·rw[z,decide_eq_true rfl,decide_eq_true rfl]
     ·rw[decide_eq_false z,decide_eq_false (fun y=>z (by injection y with y;exact zbY y))]
    rw[e] at q;exact q H1 s1
noncomputable def zp8:Sp:=fun vs H Q E=>∃ (k:Kd) (w:List Nat),vs=[.str k.s,.str (S w)]/\(∀ c∈w,c<128)/\w.length<=10000/\(∀ H',zai H H'->zfP k w=true->Q (thV k w) H')/\(∀ H',zai H H'->zfP k w=false->False)
theorem zre (T:Txt w K mg):zdm.Ok P w K mg base 3 zp8:=by
  refine Rw.ok T.d_Z76.F T.d_Z76.S fun vs H Q E h=>?_
  obtain⟨k,wo,rfl,ha,hl,q,e⟩:=h;refine⟨rfl,fun _ _ _ _ hr hu nd=>⟨_,(zab (zay (zd0 (zcs (zaN T.d_Z23 (zrf T) hr (zaa (pv 0) (zaa (pv 1) zad))) (fun _=>rfl))) (zae zaW) zam)
   (zab (zay (zah zaD (pv 0) zaj (zal _)) (zae (zak (pv 1))) zam)
   (zab (zay (zah zaD (pv 0) zaj (zal _)) (zae (zak (za9 jaz jct jcx zi8 (za5 (v := .str "abcdefghijklmnop") (by rfl) T.g_LETTERS ⟨_,rfl⟩) (zaa (pv 1) zad)))) zam)
   (zae (zak (zbL zdj rfl T.n_int jbv (zaa (pv 1) zad))))))),?_⟩⟩
  refine⟨_,rfl,_,rfl,k,wo,rfl,ha,hl,fun H1 s1=>?_⟩;cases hb:zfP k wo with
  | false =>
   refine⟨_,rfl,zhL ?_⟩;exact e H1 s1 hb
  | true =>
   refine⟨_,rfl,zf6 ?_⟩;have dig:NumText.AllDigits wo->wo≠[]->wo.length<=18->∀ x,x=V.int ((NumText.digitsVal wo:Nat):Int)->thV k wo=x->(ztc (tCB (fun xs H Q=>∃ x n,xs=[V.str x]/\intText? x=some n/\x.length<=640/\Q (V.int n) H) (ziC (zlo 1) zqk))) { nx:=fun x H'=>Q V.non H',rt:=Q } [some (.str k.s),some (.str (S wo))] H1:=fun h1 h2 h3 x hx hk=>by
    refine⟨_,rfl,_,_,rfl,zk3 h1 h2 h3,(by rw[zaw];omega),?_⟩
    have:=q H1 s1 hb
    rw[hk,hx] at this;exact this
   cases k with
   | name =>
    refine⟨_,rfl,rfl,_,rfl,za4 (by decide) ?_⟩;exact⟨_,rfl,q H1 s1 hb⟩
   | letter =>
    refine⟨_,rfl,rfl,_,rfl,zaB (by decide) ?_⟩;refine⟨_,rfl,rfl,_,rfl,za4 (by decide) ?_⟩;refine⟨rfl,_,rfl,_,_,rfl,rfl,?_⟩;rw[zb6];exact q H1 s1 hb
   | bit =>
    refine⟨_,rfl,rfl,_,rfl,zaB (by decide) ?_⟩;refine⟨_,rfl,rfl,_,rfl,zaB (by decide) ?_⟩;rw[zmH,jdq,decide_eq_true_eq,decide_eq_true_eq] at hb;rcases hb with z | z
    ·exact dig (by rw[z];intro c hc;rw[jad.mp hc];decide) (by rw[z];simp) (by rw[z];simp) _ rfl rfl
    ·exact dig (by rw[z];intro c hc;rw[jad.mp hc];decide) (by rw[z];simp) (by rw[z];simp) _ rfl rfl
   | number =>
    refine⟨_,rfl,rfl,_,rfl,zaB (by decide) ?_⟩;refine⟨_,rfl,rfl,_,rfl,zaB (by decide) ?_⟩;obtain⟨d1,d2,d3⟩:=ziW (show ziE wo=true from hb);exact dig d1 d2 d3 _ rfl rfl
   | divisor =>
    refine⟨_,rfl,rfl,_,rfl,zaB (by decide) ?_⟩;refine⟨_,rfl,rfl,_,rfl,zaB (by decide) ?_⟩;rw[zl8,jaT] at hb;obtain⟨d1,d2,d3⟩:=ziW hb.1;exact dig d1 d2 d3 _ rfl rfl
noncomputable def znH (K:PySem.W.Frag):Sp:=fun vs H Q E=>∃ (kv:V) (b:Addr) (ks:Option (List Kd)) (ws:List (List Nat)),vs=[kv,.ref b]/\H b=some (.lst (ws.map fun w=>V.str (S w))) /\
 ztn K kv ks/\(∀ w∈ws,w.length<=10000/\∀ c∈w,c<128)/\ws.length<=10000 /\
 (∀ vs H' c,H c=none->ksR ks ws=some vs->H' c=some (.lst vs)->zai H H'->Q (.ref c) H')/\(∀ H',ksR ks ws=none->zai H H'->False)
theorem zjD:(["kind", "word"]:List Str).Nodup:=by decide +kernel
theorem zo8 (T:Txt w K mg):zcb.Ok P w K mg base 4 (znH K):=by
  refine Rw.ok T.d_Z77.F T.d_Z77.S fun vs H Q E h=>?_
  obtain⟨kv,b,ks,ws,rfl,hb,hk,ha,hl,q,e⟩:=h;refine⟨rfl,fun _ _ _ _ hr hu nd=>⟨_,(zab (zay (PW.pt (zgN (zah zgX (pv 0) zcI (zal _)) (zeq (zah zfe (zar zaz (by rfl) T.n_len jaF (zaa (pv 0) zad)) (zar zaz (by rfl) T.n_len jaF (zaa (pv 1) zad)) (zal _))))) (zae zaW) zam)
   (zae (zak (zbb (g:=(zi1 K 2 (zbD (zaH 0) (zbD (zaH 1) ziZ)))) ["kind", "word"] 2 [] rfl (zfL zcb) (zqt rfl T.n_zip (zaa (pv 0) (zaa (pv 1) zad)))
    (fun cl C s₀ H₀ fp=>(zbe (n:=2) rfl (zap (pgn 0 zjD) (zap (pgn 1 zjD) zaT)))) (fun cl C s₀ H₀ fp=>zbW) (fun cl C s₀ H₀ fp=>(zaN T.d_Z76 (zre T) hr (zaa (pv 0) (zaa (pv 1) zad)))))))),?_⟩⟩
  cases ks with
  | none =>
   cases (show kv = .non from hk);refine⟨_,rfl,rfl,_,rfl,za4 (by decide) ?_⟩;refine zhL ?_;exact e H rfl (zai.refl _)
  | some ks =>
   obtain⟨a,rfl,hk1,hk2⟩:=hk;refine⟨_,rfl,rfl,_,rfl,zaB (by simp) ?_⟩;refine⟨_,rfl,a,_,rfl,.inr (hk2 _),_,rfl,b,_,rfl,.inl (SqL.of hb),rfl,_,rfl,?_⟩;rw[jaa,jaa];by_cases hlen:ks.length=ws.length
   rotate_left
   ·refine za4 (by rw[decide_eq_false (fun y=>hlen (by injection y with y;omega))];rfl) ?_;exact e H (by unfold ksR zdq;exact if_neg fun z=>hlen z.1) (zai.refl _)
   refine zaB (by rw[hlen,decide_eq_true rfl];decide) ?_;have hzl:(ks.zip ws).length=ks.length:=by rw[List.length_zip];omega
   refine⟨_,rfl,_,rfl,a,b,rfl,⟨_,hk2 _⟩,⟨_,SqL.of hb⟩,?_⟩;refine zm7 (K:=K) (a:=a) (b:=b) (xs:=ks.map fun k=>V.str k.s) (ys:=ws.map fun w=>V.str (S w)) (by rw[jaa,jaa];exact hlen)
    (fun i zs σ G=>∃ v0 v1:Option V,σ = [v0,v1]/\zs=((ks.zip ws).take i).map (fun p=>thV p.1 p.2)/\((ks.zip ws).take i).all (fun p=>zfP p.1 p.2)=true/\zai H G)
    ⟨none,none,rfl,rfl,rfl,zai.refl _⟩ (fun i zs σ G hi ⟨_,_,_,e1,_,e3⟩=>⟨hk2 _,SqL.of (e3 _ _ hb),by rw[e1,jaa,jaJ];omega⟩) (by rw[jaa];exact jaB (zaF (by omega))) ?_ ?_
   ·rintro i x y zs σ G T' hx hy ⟨v0,v1,rfl,rfl,g1,g2⟩ hT';rw[jaC] at hx hy;obtain⟨k,hki,rfl⟩:∃ k,ks[i]? = some k/\V.str k.s=x:=by
     cases e:ks[i]? with
     | none=>rw[e] at hx;cases hx
     | some t=>rw[e] at hx;exact⟨t,rfl,jaD hx⟩
    obtain⟨wo,hwi,rfl⟩:∃ wo,ws[i]? = some wo/\V.str (S wo)=y:=by
     cases e:ws[i]? with
     | none=>rw[e] at hy;cases hy
     | some t=>rw[e] at hy;exact⟨t,rfl,jaD hy⟩
    have hzi:(ks.zip ws)[i]? = some (k,wo):=by rw[List.getElem?_zip_eq_some];exact⟨hki,hwi⟩
    have htk:(ks.zip ws).take (i+1)=(ks.zip ws).take i ++ [(k,wo)]:=by rw[jaI,hzi];rfl
    have c1:zai G (upd G T' (.tup [V.str k.s,V.str (S wo)])):=zai.upd hT';obtain⟨a1,a2⟩:=ha wo (jao hwi);refine⟨T',_,rfl,SqT.of zac,rfl,_,_,rfl,_,_,rfl,rfl,?_⟩;refine tt ?_;refine⟨_,rfl,_,rfl,k,wo,rfl,a2,a1,fun H2 s2 hy=>?_,fun H2 s2 hn=>?_⟩
    ·refine⟨_,_,rfl,(by rw[htk,jac];rfl),?_,g2.trans (c1.trans s2)⟩;rw[htk,List.all_append,g1];simp[hy]
    ·refine e H2 ?_ (g2.trans (c1.trans s2));unfold ksR zdq;refine if_neg fun z=>?_
     have:=jaX.mp z.2 (k,wo) (jao hzi)
     rw[hn] at this;cases this
   ·rintro zs σ G ⟨v0,v1,rfl,rfl,g1,g2⟩ D hD;rw[jaa,<- hzl,jaK] at g1;rw[jaa,<- hzl,jaK];refine q _ _ D (g2.free hD) ?_ zac (g2.trans (zai.upd hD));unfold ksR zdq;exact if_pos ⟨hlen,g1⟩
theorem zm4:("=" : Str)=S [61]:=by decide +kernel
theorem zqr:(":=" : Str)=S [58,61]:=by decide +kernel
noncomputable def zsQ (K:PySem.W.Frag):Sp:=fun vs H Q E=>∃ n sg l:List Nat,vs=[.str (S n),.str (S sg),.str (S l)]/\(∀ c∈l,c<128)/\l.length<=9000 /\
 (∀ o wo vs p c H',ze8 n sg l=some (o,wo,vs)->H' p=some (.tup [onV o,.str (S wo),.ref c])->H' c=some (.lst vs)->zai H H'->Q (.ref p) H')/\(∀ H',ze8 n sg l=none->zai H H'->False)
theorem zqQ (T:Txt w K mg):zea.Ok P w K mg base 5 (zsQ K):=by
  refine Rw.ok T.d_Z26.F T.d_Z26.S fun vs H Q E h=>?_
  obtain⟨n,sg,l,rfl,ha,hl,q,e⟩:=h;refine⟨rfl,fun _ _ _ _ hr hu nd=>⟨_,(zab (zaS 3 nd (za9 jaz jcm jck zhk (pv 2) (zaa zaj zad)))
   (zab (zay (PW.pt (zcO (zah zaD (pv 1) zaj (zal _)) (zb5 (zie (zpH hu (zav zas (pv 3) zaf (fun _ _=>rfl)) (za5 (v := .ref zgZ) (by rfl) T.g_MADE rfl)))))) (zae (zak (zaE (zaa (pv 0) (zaa (zav zas (pv 3) zaf (fun _ _=>rfl)) (zaa (zaN T.d_Z77 (zo8 T) hr (zaa (znr hu (za5 (v := .ref zgZ) (by rfl) T.g_MADE rfl) (zav zas (pv 3) zaf (fun _ _=>rfl)) (fun _ _=>rfl)) (zaa (zbP zfa (pv 3) (zbo zaf) zc1) zad))) zad)))))) zam)
   (zae (zak (zaE (zaa (pv 0) (zaa (pv 1) (zaa (zaG (zaa (pv 2) zad)) zad)))))))),?_⟩⟩
  have hsp:Txt.split (S l) (S [32])=(zau l).map S:=by
   have:=zjq (c:=32) (zbG l) (zeK l)
   rwa [zcQ l] at this
  have hlz:(S l).length<=sizeLine:=by rw[zaw];exact zds (by omega)
  have hmk:Paired (DkR K) [(Str.ofString "plus",zhA),(Str.ofString "less",zhh),(Str.ofString "times",zhV),(Str.ofString "fixed",zhT),(Str.ofString "put",zhr)] zdx :=
   .cons ⟨rfl,by decide,T.q_MADE_0⟩ (.cons ⟨rfl,by decide,T.q_MADE_1⟩ (.cons ⟨rfl,by decide,T.q_MADE_2⟩ (.cons ⟨rfl,by decide,T.q_MADE_3⟩ (.cons ⟨rfl,by decide,T.q_MADE_4⟩ .nil))))
  refine⟨_,rfl,rfl,_,_,rfl,rfl,(by rw[zd2];rfl),(by rw[zaw];exact jbj hl (by decide)),fun W hW=>?_⟩;rw[zd2,hsp];obtain⟨w0,wr,ew⟩:∃ w0 wr,zau l=w0 :: wr:=by
   cases e:zau l with
   | nil=>exact absurd e (zbG l)
   | cons a b=>exact⟨a,b,rfl⟩
  have hlens:=zcF l;have hcs:=zeO l;rw[ew] at hlens hcs;have s1:zai H (upd H W (.lst (((zau l).map S).map V.str))):=zai.upd hW;have w1:upd H W (.lst (((zau l).map S).map V.str)) W=some (.lst (((w0 :: wr).map S).map V.str)):=by rw[zac,ew]
  generalize upd H W (.lst (((zau l).map S).map V.str))=H1 at s1 w1;have fin:(∀ o wo vs,ze8 n sg l=some (o,wo,vs)->o=some n->wo=sg->vs=[V.str (S l)]->∀ c,H1 c=none->∀ p,upd H1 c (.lst [V.str (S l)]) p=none->Q (.ref p) (upd (upd H1 c (.lst [V.str (S l)])) p (.tup [.str (S n),.str (S sg),.ref c]))):=fun o wo vs hk h1 h2 h3 c hc p hp=>by
   subst h1 h2 h3;refine q _ _ _ p c _ hk zac ?_ (s1.trans ((zai.upd hc).trans (zai.upd hp)));rw[zan (fun z=>by rw[z,zac] at hp;cases hp)];exact zac
  have hkp:ze8 n sg l=if sg=[61]/\(zb2 zdx w0).isSome=true then (ksR (zb2 zdx w0) wr).map fun vs=>(some n,w0,vs) else some (some n,sg,[.str (S l)]):=by
   unfold ze8;rw[ew];rfl
  have hwl:(((w0 :: wr).map S).map V.str)=(w0 :: wr).map fun w=>V.str (S w):=by rw[ja3];rfl
  have hwr:wr.length<=9000:=by have:=hlens.1;rw[jae] at this;omega
  have last:¬ (sg=[61]/\(zb2 zdx w0).isSome=true)->(ztc (zub (ziC (zlo 0) (ziC (zlo 1) (ziC (zt7 (ziC (zlo 2) zqk)) zqk))))) { nx:=fun x H'=>Q V.non H',rt:=Q } [some (.str (S n)),some (.str (S sg)),some (.str (S l)),some (.ref W)] H1:=fun hn=>by
   rw[if_neg hn] at hkp;exact⟨_,rfl,_,rfl,_,rfl,sl1,fun c hc=>⟨sl3,fun p hp=>fin _ _ _ hkp rfl rfl rfl c hc p hp⟩⟩
  refine⟨_,rfl,rfl,_,rfl,?_⟩;by_cases hs:sg=[61]
  rotate_left
  ·refine zaB (fun y=>hs (by have:=of_decide_eq_true y;injection this with this;rw[zm4] at this;exact zbY this)) ?_;refine zf6 ?_;exact last fun z=>hs z.1
  refine za4 (decide_eq_true (by rw[hs,zm4])) ?_;refine⟨_,rfl,W,_,_,V.str (S w0),rfl,rfl,SqL.of w1,(zaA (j:=0) rfl),zgZ,_,_,rfl,T.q_MADE,rfl,_,rfl,?_⟩;rcases zlJ hmk w0 with ⟨b,kl,hb,hkl,hka⟩ | ⟨hb,hkl⟩
  rotate_left
  ·refine zaB (by rw[hb];decide) ?_;exact last fun z=>by rw[hkl] at z;exact absurd z.2 (by decide)
  refine za4 (by rw[hb];rfl) ?_;have hc2:sg=[61]/\(zb2 zdx w0).isSome=true:=⟨hs,by rw[hkl];rfl⟩;rw[if_pos hc2,hkl] at hkp;refine⟨_,rfl,_,rfl,W,_,_,V.str (S w0),rfl,rfl,SqL.of w1,(zaA (j:=0) rfl),_,rfl,W,_,_,V.str (S w0),rfl,rfl,SqL.of w1,(zaA (j:=0) rfl),zgZ,_,_,b,rfl,T.q_MADE,rfl,hb,?_⟩;refine⟨_,rfl,_,rfl,W,_,rfl,SqL.of w1,fun V1 hV1=>?_⟩;have ec:ziJ (((w0 :: wr).map S).map V.str) (some 1) none=wr.map fun w=>V.str (S w):=by rw[hwl];exact zg9 _ _
  rw[ec];have s2:zai H1 (upd H1 V1 (.lst (wr.map fun w=>V.str (S w)))):=zai.upd hV1;refine⟨.ref b,V1,some kl,wr,rfl,zac,hka,(fun w hw=>⟨?_,fun c hc=>?_⟩),by omega,fun vs H2 c hc hvs hcl s3=>?_,fun H2 hn s3=>?_⟩
  ·have:=hlens.2 w (jax _ hw);omega
  ·exact ha c (hcs w (jax _ hw) c hc)
  ·refine⟨sl3,fun p hp=>?_⟩;have s4:zai H2 (upd H2 p (.tup [.str (S n),.str (S w0),.ref c])):=zai.upd hp;exact q _ _ _ p c _ (by rw[hkp,hvs];rfl) zac (s4 _ _ hcl) (s1.trans (s2.trans (s3.trans s4)))
  ·exact e H2 (by rw[hkp,hn];rfl) (s1.trans (s2.trans s3))
noncomputable def zqV (K:PySem.W.Frag):Sp:=fun vs H Q E=>∃ l:List Nat,vs=[.str (S l)]/\(∀ c∈l,c<128)/\l.length<=9000 /\
 (∀ o wo vs p c H',zcp l=some (o,wo,vs)->H' p=some (.tup [onV o,.str (S wo),.ref c])->H' c=some (.lst vs)->zai H H'->Q (.ref p) H')/\(∀ H',zcp l=none->zai H H'->False)
theorem zsR (T:Txt w K mg):zd5.Ok P w K mg base 6 (zqV K):=by
  refine Rw.ok T.d_Z56.F T.d_Z56.S fun vs H Q E h=>?_
  obtain⟨l,rfl,ha,hl,q,e⟩:=h;refine⟨rfl,fun _ _ _ _ hr hu nd=>⟨_,(zab (zaS 1 nd (za9 jaz jcm jck zhk (pv 0) (zaa zaj zad)))
   (zab (zdZ (zay (PW.pt (zcO (zah zhn (zar zaz (by rfl) T.n_len jaF (zaa (pv 1) zad)) zaf (zal _)) (zcO (zah zcj (zav zas (pv 1) zaf (fun _ _=>rfl)) (zaE (zaa zaj (zaa zaj zad))) rfl) (zb5 (zcs (zaN T.d_Z21 (zpa T) (hr.mono (by decide)) (zaa (zav zas (pv 1) zaf (fun _ _=>rfl)) zad)) (fun _=>rfl)))))) (zae (zak (zaN T.d_Z26 (zqQ T) hr (zaa (zav zas (pv 1) zaf (fun _ _=>rfl)) (zaa (zav zas (pv 1) zaf (fun _ _=>rfl)) (zaa (zbP zjO (pv 0) (zbo (zao zbx (zao zbx (zar za3 (by rfl) T.n_len jaF (zaa (zav zas (pv 1) zaf (fun _ _=>rfl)) zad)) (zar za3 (by rfl) T.n_len jaF (zaa (zav zas (pv 1) zaf (fun _ _=>rfl)) zad))) zaf)) zc1) zad)))))) zam))
   (zae (zak (zaE (zaa zcI (zaa (zav zas (pv 1) zaf (fun _ _=>rfl)) (zaa (zaN T.d_Z77 (zo8 T) (hr.mono (by decide)) (zaa (zmk hu (za5 (v := .ref zho) (by rfl) T.g_ASKED rfl) (zav zas (pv 1) zaf (fun _ _=>rfl)) ⟨rfl,rfl,rfl,rfl⟩) (zaa (zbP zfa (pv 1) (zbo zaf) zc1) zad))) zad)))))))),?_⟩⟩
  have hsp:Txt.split (S l) (S [32])=(zau l).map S:=by
   have:=zjq (c:=32) (zbG l) (zeK l)
   rwa [zcQ l] at this
  have hlz:(S l).length<=sizeLine:=by rw[zaw];exact zds (by omega)
  have hmk:Paired (DkR K) [(Str.ofString "show",zeB),(Str.ofString "worth",zeS),(Str.ofString "alike",zeu),(Str.ofString "rest",zeG),(Str.ofString "least",zeC),(Str.ofString "ways",zeJ),(Str.ofString "unknowns",zeL)] zoL :=
   .cons ⟨rfl,by decide,T.q_ASKED_0⟩ (.cons ⟨rfl,by decide,T.q_ASKED_1⟩ (.cons ⟨rfl,by decide,T.q_ASKED_2⟩ (.cons ⟨rfl,by decide,T.q_ASKED_3⟩ (.cons ⟨rfl,by decide,T.q_ASKED_4⟩ (.cons ⟨rfl,by decide,T.q_ASKED_5⟩ (.cons ⟨rfl,by decide,T.q_ASKED_6⟩ .nil))))))
  refine⟨_,rfl,rfl,_,_,rfl,rfl,(by rw[zd2];rfl),(by rw[zaw];exact jbj hl (by decide)),fun W hW=>?_⟩;rw[zd2,hsp];obtain⟨w0,wr,ew⟩:∃ w0 wr,zau l=w0 :: wr:=by
   cases e:zau l with
   | nil=>exact absurd e (zbG l)
   | cons a b=>exact⟨a,b,rfl⟩
  have hlens:=zcF l;have hcs:=zeO l;rw[ew] at hlens hcs;have s1:zai H (upd H W (.lst (((zau l).map S).map V.str))):=zai.upd hW;have w1:upd H W (.lst (((zau l).map S).map V.str)) W=some (.lst (((w0 :: wr).map S).map V.str)):=by rw[zac,ew]
  generalize upd H W (.lst (((zau l).map S).map V.str))=H1 at s1 w1;have hwl:(((w0 :: wr).map S).map V.str)=(w0 :: wr).map fun w=>V.str (S w):=by rw[ja3];rfl
  have hwr:wr.length<=9000:=by have:=hlens.1;rw[jae] at this;omega
  have hlp:zcp l=if 2<(w0 :: wr).length/\((w0 :: wr).getD 1 []=[61]\/(w0 :: wr).getD 1 []=[58,61])/\zb3 w0=true then ze8 w0 ((w0 :: wr).getD 1 []) (l.drop (w0.length+((w0 :: wr).getD 1 []).length+2)) else (ksR (zb2 zoL w0) wr).map fun vs=>(none,w0,vs):=by
   unfold zcp;rw[ew];rfl
  have x1e:∀ x:List Nat,inV (V.str (S x)) [V.str (Str.ofString "="),V.str (Str.ofString ":=")]=decide (x=[61]\/x=[58,61]):=fun x=>by
   rw[zm4,zqr];show (S [61] == S x || (S [58,61] == S x || false))=_;have e1:∀ b:List Nat,(S b == S x)=decide (x=b):=fun b=>by
    by_cases z:x=b
    ·rw[z,decide_eq_true rfl];simp
    ·rw[decide_eq_false z];exact jco.mpr fun y=>z (zbY (beq_iff_eq.mp y)).symm
   rw[e1,e1,jdy,<- Bool.decide_or]
  refine⟨fun σ' G' => σ'=[some (.str (S l)),some (.ref W)]/\zai H1 G'/\¬ (2<(w0 :: wr).length/\((w0 :: wr).getD 1 []=[61]\/(w0 :: wr).getD 1 []=[58,61])/\zb3 w0=true),?_,?_⟩
  ·refine⟨_,rfl,W,_,rfl,.inl (SqL.of w1),_,_,rfl,rfl,_,rfl,?_⟩;by_cases h2:2<(w0 :: wr).length
   rotate_left
   ·refine zaB (fun y=>h2 (by have:=of_decide_eq_true y;rw[jaa,jaa] at this;omega)) ?_;refine zf6 ?_;exact⟨rfl,zai.refl _,fun z=>h2 z.1⟩
   refine za4 (decide_eq_true (by rw[jaa,jaa];omega)) ?_;obtain⟨x1,xr,rfl⟩:∃ x1 xr,wr=x1 :: xr:=by
    cases wr with
    | nil=>simp at h2
    | cons a b=>exact⟨a,b,rfl⟩
   refine⟨_,rfl,W,_,_,V.str (S x1),rfl,rfl,SqL.of w1,zaA (j:=1) rfl,sl2,fun tp htp=>?_⟩;have s2:zai H1 (upd H1 tp (.tup [V.str (Str.ofString "="),V.str (Str.ofString ":=")])):=zai.upd htp;refine⟨tp,_,rfl,.inr (SqT.of zac),rfl,rfl,_,rfl,?_⟩;rw[show (if false=true then !inV (V.str (S x1)) [V.str (Str.ofString "="),V.str (Str.ofString ":=")] else inV (V.str (S x1)) [V.str (Str.ofString "="),V.str (Str.ofString ":=")])=decide (x1=[61]\/x1=[58,61]) from x1e x1];by_cases h3:x1=[61]\/x1=[58,61]
   rotate_left
   ·refine zaB (fun y=>h3 (of_decide_eq_true y)) ?_;refine zf6 ?_;exact⟨rfl,s2,fun z=>h3 z.2.1⟩
   refine za4 (decide_eq_true h3) ?_;have a0:=hlens.2 w0 (by simp);have a1:=hlens.2 x1 (by simp);refine⟨_,rfl,W,_,_,V.str (S w0),rfl,rfl,SqL.of (s2 _ _ w1),zaA (j:=0) rfl,w0,rfl,(fun c hc=>ha c (hcs w0 (by simp) c hc)),by omega,fun H2 s3=>⟨_,rfl,?_⟩⟩;cases h4:zb3 w0 with
   | false =>
    refine zaB (by decide) ?_;exact⟨rfl,s2.trans s3,fun z=>absurd z.2.2 (by decide)⟩
   | true =>
    refine za4 rfl ?_;rw[if_pos ⟨h2,h3,h4⟩] at hlp;have w2:=(s2.trans s3) _ _ w1;have S2:=s1.trans (s2.trans s3);refine⟨_,rfl,W,_,_,V.str (S w0),rfl,rfl,SqL.of w2,zaA (j:=0) rfl,_,rfl,W,_,_,V.str (S x1),rfl,rfl,SqL.of w2,zaA (j:=1) rfl,_,rfl,_,rfl,W,_,_,V.str (S w0),rfl,rfl,SqL.of w2,zaA (j:=0) rfl,_,rfl,(by rw[zaw];exact zds (by omega)),_,rfl,W,_,_,V.str (S x1),rfl,rfl,SqL.of w2,zaA (j:=1) rfl,_,rfl,(by rw[zaw];exact zds (by omega)),_,_,rfl,rfl,_,_,rfl,rfl,_,rfl,_,rfl,hlz,?_⟩;have ei:((S w0).length:Int)+((S x1).length:Int)+2=((w0.length+x1.length+2:Nat):Int):=by rw[zaw,zaw];omega
    rw[ei,zor];refine⟨w0,x1,l.drop (w0.length+x1.length+2),rfl,(fun c hc=>ha c (List.mem_of_mem_drop hc)),(by rw[jbc];omega),fun o wo vs p c H3 hk hp hc s4=>?_,fun H3 hk s4=>?_⟩
    ·exact q o wo vs p c H3 (by rw[hlp];exact hk) hp hc (S2.trans s4)
    ·exact e H3 (by rw[hlp];exact hk) (S2.trans s4)
  ·rintro σ' G' ⟨rfl,s2,hn⟩;rw[if_neg hn] at hlp;have w2:=s2 _ _ w1;refine⟨_,rfl,W,_,_,V.str (S w0),rfl,rfl,SqL.of w2,zaA (j:=0) rfl,zho,_,rfl,T.q_ASKED,_,rfl,W,_,_,V.str (S w0),rfl,rfl,SqL.of w2,zaA (j:=0) rfl,_,rfl,?_⟩;refine⟨_,rfl,_,rfl,W,_,rfl,SqL.of w2,fun V1 hV1=>?_⟩;have ec:ziJ (((w0 :: wr).map S).map V.str) (some 1) none=wr.map fun w=>V.str (S w):=by rw[hwl];exact zg9 _ _
   rw[ec];have s3:zai G' (upd G' V1 (.lst (wr.map fun w=>V.str (S w)))):=zai.upd hV1;have S3:=s1.trans (s2.trans s3);have hka:ztn K (match atK [(Str.ofString "show",zeB),(Str.ofString "worth",zeS),(Str.ofString "alike",zeu),(Str.ofString "rest",zeG),(Str.ofString "least",zeC),(Str.ofString "ways",zeJ),(Str.ofString "unknowns",zeL)] (S w0) with | some b=>V.ref b | none=>V.non) (zb2 zoL w0):=by
    rcases zlJ hmk w0 with ⟨b,kl,hb,hkl,hka⟩ | ⟨hb,hkl⟩
    ·rw[hb,hkl];exact hka
    ·rw[hb,hkl];rfl
   refine⟨_,V1,zb2 zoL w0,wr,rfl,zac,hka,(fun w hw=>⟨?_,fun c hc=>?_⟩),by omega,fun vs H2 c hc hvs hcl s4=>?_,fun H2 hn s4=>?_⟩
   ·have:=hlens.2 w (jax _ hw);omega
   ·exact ha c (hcs w (jax _ hw) c hc)
   ·refine⟨sl3,fun p hp=>?_⟩;have s5:zai H2 (upd H2 p (.tup [.non,.str (S w0),.ref c])):=zai.upd hp;exact q _ _ _ p c _ (by rw[hlp,hvs];rfl) zac (s5 _ _ hcl) (S3.trans (s4.trans s5))
   ·exact e H2 (by rw[hlp,hn];rfl) (S3.trans s4)
noncomputable def zpw (C NN:Addr):Sp:=fun vs H Q E=>∃ (p d:Addr) (st:Sts) (n:List Nat),vs=[.ref p,.str (S n)]/\zcw C H p d st/\(∀ a f,zef st n=some f->TLo H a f->Q (.ref a) H)/\(zef st n=none->E (.ref NN) none H)
theorem ze4 (d:Addr):([(("forms" : Str),V.ref d)]:List (Str × V)).lookup ("forms" : Str)=some (.ref d):=by
 rw[jbM];simp
theorem zbH (d:Addr) {m:Str} (h:¬ m = "forms"):([(("forms" : Str),V.ref d)]:List (Str × V)).lookup m=none:=by
 rw[jbM]
 have:(m == ("forms" : Str))=false:=beq_eq_false_iff_ne.mpr h
 rw[this];rfl
theorem zct (T:Txt w K mg):zd7.OkE P w K mg base 1 (zpw zbt zaP):=by
  refine Rw.okE T.d_Desk_kept.F T.d_Desk_kept.S fun vs H Q E h=>?_
  obtain⟨p,d,st,n,rfl,hD,q,e⟩:=h;refine⟨rfl,fun _ _ _ _ hr hu nd=>⟨_,(zab (zay (zie (zfU hu (pv 1) (zlr (pv 0) rfl))) (zae (zki zcc rfl (by rfl) T.g_NoName T.x_NoName)) zam)
   (zae (PS.nox (zak (zb4 hu (zlr (pv 0) rfl) (pv 1) (fun _ _=>rfl)))))),?_⟩⟩
  obtain⟨⟨dx,ho⟩,kvs,hd,hk⟩:=id hD;have hg:=zft.k (k:=Sum.inr (S n)) hd;refine⟨_,rfl,_,rfl,p,_,dx,_,_,rfl,ho,T.cl_Desk,T.nf_Desk_forms,ze4 d,d,_,rfl,hg,_,rfl,?_⟩;rcases zfj hk n with ⟨h1,h2⟩ | ⟨a,f,h1,h2,h3⟩
  ·refine za4 (by rw[h1];rfl) ?_;exact e h2
  ·refine zaB (by rw[h1];simp) ?_;rw[h1] at hg;exact⟨_,rfl,p,_,dx,_,_,rfl,ho,T.cl_Desk,T.nf_Desk_forms,ze4 d,_,rfl,d,_,rfl,hg,q a f h2 h3⟩
noncomputable def zjn:Sp:=fun vs H Q _=>∃ (d:Addr) (dd:zag),vs=[.ref d]/\H d=some (.dK (dd.map zgG))/\(dd.map (·.1)).Nodup/\dd.length<64 /\
 ∀ (b:Addr) (ks:List Int) (H':Hp),H b=none->TLo H' b (za6 dd ks)->ks.Perm (dd.map (·.1))->ks.Pairwise (· <= ·)->zai H H'->Q (.ref b) H'
theorem zqb:(["members", "numbers"]:List Str).Nodup:=by decide +kernel
theorem zq8 (T:Txt w K mg):zcS.Ok P w K mg base 1 zjn:=by
  refine Rw.ok T.d_Z9.F T.d_Z9.S fun vs H Q E h=>?_
  obtain⟨d,dd,rfl,hd,hnd,hlen,q⟩:=h;refine⟨rfl,fun _ _ _ _ hr hu nd=>⟨_,(zae (zak (zbb (g:=(zaH 0)) ["members", "numbers"] 1 [0] rfl (zfL zcS) (zaR (zar (zc8 rfl) (by rfl) T.n_sorted jca (zaa (pv 0) zad)))
    (fun cl C s₀ H₀ fp=>(pgn 0 zqb)) (fun cl C s₀ H₀ fp=>(zck (zah zfe (zb4 hu (pv 1) (pv 0) (fun _ _=>rfl)) zaf (zal _)))) (fun cl C s₀ H₀ fp=>(zaE (zaa (pv 0) (zaa (zb4 hu (pv 1) (pv 0) (fun _ _=>rfl)) zad))))))),?_⟩⟩
  refine⟨_,rfl,d,_,dd.map (·.1),rfl,hd,zkp dd,(by rw[jaa];exact hlen),fun e ks he hperm hsort=>?_⟩;have hed:d≠e:=zat hd he;refine⟨e,rfl,⟨_,SqL.of zac⟩,?_⟩;have hkl:ks.length<=100000:=by have:=hperm.length_eq;rw[jaa] at this;omega
  refine zbn (K:=K) (a:=e) (xs:=ks.map V.int) (fun i ys σ H2=>∃ (v0:Option V) (qs:List Addr),σ = [v0,some (.ref d)]/\ys=qs.map V.ref/\zdi H2 qs (za6 dd (ks.take i))/\H2 d=some (.dK (dd.map zgG))/\H2 e=some (.lst (ks.map V.int))/\zai H H2)
   ⟨none,[],rfl,rfl,.nil,(by rw[zan hed];exact hd),zac,zai.upd he⟩ (fun i ys σ H2 hi ⟨_,qs,_,e1,e2,_,e4,_⟩=>⟨SqL.of e4,by
    rw[e1,jaa,e2.length]
    have:=zbN dd (ks.take i)
    rw[jaJ] at this;omega⟩) (by rw[jaa];exact jaB (zaF (by omega))) ?_ ?_
  ·rintro i y ys σ H2 hi ⟨v0,qs,rfl,rfl,g2,g3,g4,g5⟩;obtain⟨k,hki,rfl⟩:=zio hi;have hkm:k∈dd.map (·.1):=hperm.mem_iff.mp (jao hki);obtain⟨v,hv⟩:∃ v,look dd k=some v:=by
    cases e:look dd k with
    | none=>exact absurd e (zfw.mpr hkm)
    | some v=>exact⟨v,rfl⟩
   have hgv:zeU dd k=v:=by unfold zeU;rw[hv];rfl
   have htk:ks.take (i+1)=ks.take i ++ [k]:=by rw[jaI,hki];rfl
   have hget:∀ {H3:Hp},H3 d=some (.dK (dd.map zgG))->zft H3 d (.int k) (some (.int v)):=fun {H3} z=>by
    have:=zft.k (k:=Sum.inl k) z
    rw[zc6,hv] at this;exact this
   refine⟨_,rfl,_,rfl,d,_,rfl,hget g3,rfl,_,rfl,?_⟩;by_cases hv0:v=0
   ·subst hv0;refine zrT rfl ⟨_,qs,rfl,rfl,?_,g3,g4,g5⟩
    have:za6 dd (ks.take (i+1))=za6 dd (ks.take i):=by
     rw[htk];unfold za6;rw[jaO,jac];simp[hgv]
    rw[this];exact g2
   ·have hne:¬ (V.int v=V.int 0):=fun z=>hv0 (by injection z)
    rw[decide_eq_false hne];refine zhL ?_;refine⟨_,rfl,_,rfl,_,rfl,d,_,rfl,hget g3,sl2,fun t ht=>?_⟩;have s3:zai H2 (upd H2 t (.tup [.int k,.int v])):=zai.upd ht;refine⟨_,qs ++ [t],rfl,(by rw[jac];rfl),?_,s3 _ _ g3,s3 _ _ g4,g5.trans s3⟩
    have:za6 dd (ks.take (i+1))=za6 dd (ks.take i) ++ [(k,v)]:=by
     rw[htk];unfold za6;rw[jaO,jac];simp[hgv,hv0]
    rw[this];exact zdi.snoc (g2.keep fun b xs z=>s3 b _ z) zac
  ·rintro ys σ H2 ⟨v0,qs,rfl,rfl,g2,g3,g4,g5⟩ D hD;rw[jaa,jaK] at g2;have s3:zai H2 (upd H2 D (.lst (qs.map V.ref))):=zai.upd hD;exact q D ks _ (g5.free hD) ⟨qs,zac,g2.keep fun b xs z=>s3 b _ z⟩ hperm hsort (g5.trans s3)
noncomputable def znO (K:PySem.W.Frag):Sp:=fun vs H Q _=>∃ (a b:Addr) (l m:zag),vs=[.ref a,.ref b]/\TL K H a l/\TL K H b m/\l.length * m.length<=100000/\zgF (zaV l m)/\(∀ t∈l,∀ u∈m,IntMulOk t.2 u.2) /\
 ∀ (c:Addr) (f:zag) (H':Hp),H c=none->TLo H' c f->zax f (zaV l m)->f.length<=l.length * m.length->zai H H'->Q (.ref c) H'
theorem zj2 (T:Txt w K mg):zje.Ok P w K mg base 2 (znO K):=by
  refine Rw.ok T.d_Z78.F T.d_Z78.S fun vs H Q E h=>?_
  obtain⟨a,b,l,m,rfl,⟨ps,hS,hT⟩,⟨qs,hS2,hT2⟩,hlen,h5,hmul,q⟩:=h;refine⟨rfl,fun _ _ _ _ hr hu nd=>⟨_,(zab (zaS 2 nd zdI)
   (zab (zbs jaG rfl (zaR (pv 0)) (zbe (n:=2) rfl (zap (pgn 3 nd) (zap (pgn 4 nd) zaT)))
    (zae (zbs jaG rfl (zaR (pv 1)) (zbe (n:=2) rfl (zap (pgn 5 nd) (zap (pgn 6 nd) zaT)))
    (zab (zaS 7 nd (zao zoy (pv 3) (pv 5)))
   (zae (zeY hu (pv 2) (pv 7) (zao zbx (zer hu (pv 2) (pv 7) zaf ⟨rfl,rfl,rfl,rfl⟩) (zao zbi (pv 4) (pv 6))) rfl))))))
   (zae (zak (zaN T.d_Z9 (zq8 T) hr (zaa (pv 2) zad)))))),?_⟩⟩
  intro d hd;have s0:∀ o,zai H (upd H d o):=fun o=>zai.upd hd
  refine⟨_,rfl,a,rfl,⟨_,(s0 _).seq hS⟩,?_⟩;refine zbM (K:=K) (a:=a) (xs:=ps.map V.ref) (fun i σ H2=>∃ (dd:zag) (v3 v4 v5 v6 v7:Option V),σ = [some (.ref a),some (.ref b),some (.ref d),v3,v4,v5,v6,v7]/\H2=upd H d (.dK (dd.map zgG))/\DictOf dd (zaV (l.take i) m))
   ⟨[],none,none,none,none,none,rfl,rfl,zfc⟩ (fun i σ H2 _ ⟨_,_,_,_,_,_,_,e,_⟩=>by rw[e];exact (s0 _).seq hS) ?_ ?_
  ·rintro i y σ H2 hi ⟨dd,v3,v4,v5,v6,v7,rfl,rfl,hdd⟩;obtain⟨p,hpi,rfl⟩:=zcG hi;obtain⟨t,ht1,ht2⟩:=hT.at' hpi;have hil:i<l.length:=(jam.mp ht1).1;have htk:l.take (i+1)=l.take i ++ [t]:=by rw[jaI,ht1];rfl
   refine⟨p,_,rfl,SqT.of (s0 _ _ _ ht2),rfl,_,_,rfl,_,_,rfl,rfl,?_⟩;refine⟨_,rfl,b,rfl,⟨_,(s0 _).seq hS2⟩,?_⟩;refine zbM (K:=K) (a:=b) (xs:=qs.map V.ref) (fun j σ H2=>∃ (dd:zag) (v5 v6 v7:Option V),σ = [some (.ref a),some (.ref b),some (.ref d),some (.int t.1),some (.int t.2),v5,v6,v7]/\H2=upd H d (.dK (dd.map zgG))/\DictOf dd (zaV (l.take i) m++zfW t (m.take j)))
    ⟨dd,v5,v6,v7,rfl,rfl,by rw[List.take_zero];exact (jaZ _).symm ▸ hdd⟩ (fun i σ H2 _ ⟨_,_,_,_,_,e,_⟩=>by rw[e];exact (s0 _).seq hS2) ?_ ?_
   ·rintro j z σ H2 hj ⟨dd,v5,v6,v7,rfl,rfl,hdd⟩;obtain⟨p',hpj,rfl⟩:=zcG hj;obtain⟨u,hu1,hu2⟩:=hT2.at' hpj;have hjl:j<m.length:=(jam.mp hu1).1;have huk:m.take (j+1)=m.take j ++ [u]:=by rw[jaI,hu1];rfl
    refine⟨p',_,rfl,SqT.of (s0 _ _ _ hu2),rfl,_,_,rfl,_,_,rfl,rfl,?_⟩;refine⟨_,rfl,_,rfl,_,_,rfl,rfl,?_⟩;have hdd2:=hdd.snoc (Builtin.bitOr t.1 u.1,t.2 * u.2);rw[jaP,<- zl1,<- huk] at hdd2;have hdl:=hdd.len;have h9:=zbO (l.take i) m;rw[jab,zkz,h9,jaJ,jaJ,jbo (jaB hil),jbo (jaB hjl)] at hdl;have h10:i * m.length+m.length<=l.length * m.length:=by rw[<- Nat.succ_mul];exact jbE _ hil
    refine⟨_,rfl,d,rfl,.inl ⟨_,.inl zac⟩,_,rfl,_,zft.k (k:=Sum.inl (Builtin.bitOr t.1 u.1)) zac,?_⟩;rw[zc6];have eg:((look dd (Builtin.bitOr t.1 u.1)).map V.int).getD (V.int 0)=V.int (zeU dd (Builtin.bitOr t.1 u.1)):=by
     unfold zeU;cases look dd (Builtin.bitOr t.1 u.1) <;> rfl
    rw[eg];refine⟨_,rfl,_,rfl,_,_,rfl,rfl,hmul t (jao ht1) u (jao hu1),_,_,rfl,rfl,_,rfl,_,rfl,d,_,rfl,zna.k (k:=Sum.inl (Builtin.bitOr t.1 u.1)) zac ?_,zj5 dd (Builtin.bitOr t.1 u.1) (zeU dd (Builtin.bitOr t.1 u.1)+t.2 * u.2),_,_,_,rfl,?_,hdd2⟩
    ·rw[jaa];exact zaF (by omega)
    ·rw[zhJ,zhs]
   ·rintro σ H2 ⟨dd,v5,v6,v7,rfl,rfl,hdd⟩;have hl0:m.take (qs.map V.ref).length=m:=by rw[jaa,hT2.length,jaK]
    rw[hl0,<- zg1,<- htk] at hdd;exact⟨dd,_,_,_,_,_,rfl,rfl,hdd⟩
  ·rintro σ H2 ⟨dd,v3,v4,v5,v6,v7,rfl,rfl,hdd⟩;have hl0:l.take (ps.map V.ref).length=l:=by rw[jaa,hT.length,jaK]
   rw[hl0] at hdd;have hdl:=hdd.len;rw[zbO] at hdl;refine⟨_,rfl,d,dd,rfl,zac,hdd.nd,zf8 hdd h5,fun c ks H3 hc hT3 hperm hsort s3=>?_⟩;refine q c (za6 dd ks) H3 ((s0 _).free hc) hT3 (zgE hdd hperm hsort) ?_ ((s0 _).trans s3);have h1:=zbN dd ks;have h2:=hperm.length_eq;rw[jaa] at h2;omega
theorem zli (T:Txt w K mg):zlA.Ok P w K mg base 2 (zm3 K):=by
  refine Rw.ok T.d_Z58.F T.d_Z58.S fun vs H Q E h=>?_
  obtain⟨a,l,rfl,⟨ps,hS,hT⟩,hlen,hfew,q⟩:=h;refine⟨rfl,fun _ _ _ _ hr hu nd=>⟨_,(zab (zaS 1 nd zdI)
   (zab (zbs jaG rfl (zaR (pv 0)) (zbe (n:=2) rfl (zap (pgn 2 nd) (zap (pgn 3 nd) zaT)))
    (zae (zeY hu (pv 1) (pv 2) (zao zbx (zer hu (pv 1) (pv 2) zaf ⟨rfl,rfl,rfl,rfl⟩) (pv 3)) rfl)))
   (zae (zak (zaN T.d_Z9 (zq8 T) hr (zaa (pv 1) zad)))))),?_⟩⟩
  intro d hd;have s0:zai H (upd H d (.dK [])):=zai.upd hd;refine⟨_,rfl,a,rfl,⟨_,s0.seq hS⟩,?_⟩;refine zbM (K:=K) (a:=a) (xs:=ps.map V.ref) (fun i σ H2=>∃ (dd:zag) (v2 v3:Option V),σ = [some (.ref a),some (.ref d),v2,v3]/\H2=upd H d (.dK (dd.map zgG))/\DictOf dd (l.take i))
   ⟨[],none,none,rfl,rfl,zfc⟩ (fun i σ H2 _ ⟨_,_,_,_,e,_⟩=>by rw[e];exact (zai.upd hd).seq hS) ?_ ?_
  ·rintro i y σ H2 hi ⟨dd,v2,v3,rfl,rfl,hdd⟩;obtain⟨p,hpi,rfl⟩:=zcG hi;obtain⟨t,ht1,ht2⟩:=hT.at' hpi;have htk:l.take (i+1)=l.take i ++ [t]:=by rw[jaI,ht1];rfl
   have hil:i<l.length:=(jam.mp ht1).1;have hdl:dd.length<=i:=jak hdd.len (by rw[jaJ];omega);have hdd2:=hdd.snoc t;rw[<- htk] at hdd2;refine⟨p,_,rfl,SqT.of ((zai.upd hd) _ _ ht2),rfl,_,_,rfl,_,_,rfl,rfl,?_⟩;refine⟨_,rfl,d,rfl,.inl ⟨_,.inl zac⟩,_,rfl,_,zft.k (k:=Sum.inl t.1) zac,?_⟩;rw[zc6];have eg:((look dd t.1).map V.int).getD (V.int 0)=V.int (zeU dd t.1):=by
    unfold zeU;cases look dd t.1 <;> rfl
   rw[eg];refine⟨_,rfl,_,_,rfl,rfl,_,rfl,_,rfl,d,_,rfl,zna.k (k:=Sum.inl t.1) zac ?_,zj5 dd t.1 (zeU dd t.1+t.2),_,_,rfl,?_,hdd2⟩
   ·rw[jaa];exact zaF (by omega)
   ·rw[zhJ,zhs]
  ·rintro σ H2 ⟨dd,v2,v3,rfl,rfl,hdd⟩;have hl0:l.take (ps.map V.ref).length=l:=by rw[jaa,hT.length,jaK]
   rw[hl0] at hdd;refine⟨_,rfl,d,dd,rfl,zac,hdd.nd,zf8 hdd hfew,fun b ks H3 hb hT3 hperm hsort s3=>?_⟩;have hbd:b≠d:=by intro z;subst z;rw[zac] at hb;cases hb
   have hHb:H b=none:=by have:=hb;rw[zan hbd] at this;exact this
   refine q b (za6 dd ks) H3 hHb hT3 (zgE hdd hperm hsort) ?_ ((zai.upd hd).trans s3);have h1:=zbN dd ks;have h2:=hperm.length_eq;rw[jaa] at h2;have h3:=hdd.len;omega
noncomputable def zp0:Sp:=fun vs H Q _=>∃ (a b:Addr) (l m:zag),vs=[.ref a,.ref b]/\TLo H a l/\TLo H b m/\l.length+m.length<=100000/\zgF (l++m) /\
 ∀ (c:Addr) (f:zag) (H':Hp),H c=none->TLo H' c f->zax f (l++m)->f.length<=l.length+m.length->zai H H'->Q (.ref c) H'
theorem zhe (T:Txt w K mg):zmR.Ok P w K mg base 3 zp0:=by
  refine Rw.ok T.d_Z64.F T.d_Z64.S fun vs H Q E h=>?_
  obtain⟨a,b,l,m,rfl,hTa,hTb,hlen,h5,q⟩:=h;refine⟨rfl,fun _ _ _ _ hr hu nd=>⟨_,(zae (zak (zaN T.d_Z58 (zli T) hr (zaa (zao ziy (pv 0) (pv 1)) zad)))),?_⟩⟩;obtain⟨ps,ha,hp⟩:=id hTa;obtain⟨qs,hb,hq⟩:=id hTb;have n1:=hp.length;have n2:=hq.length;refine⟨_,rfl,_,rfl,a,b,_,_,rfl,rfl,ha,hb,(by rw[jaa,jaa];exact jaB (zaF (by omega))),fun c hc=>?_⟩;have s1:zai H (upd H c (.lst (ps.map V.ref++qs.map V.ref))):=zai.upd hc;refine⟨c,l++m,rfl,(TLo.cat (a:=a) (b:=b) hp hq s1 zac).tl,(by rw[jab];exact hlen),h5,fun d f H' hd hT hF hl s2=>?_⟩;rw[jab] at hl;exact q d f H' (s1.free hd) hT hF hl (s1.trans s2)
noncomputable def zm5 (K:PySem.W.Frag):Sp:=fun vs H Q _=>∃ (a:Addr) (l:zag) (n:Int),vs=[.ref a,.int n]/\TL K H a l/\l.length<=100000/\zgF l/\(∀ t∈l,IntMulOk t.2 n) /\
 ∀ (b:Addr) (f:zag) (H':Hp),H b=none->TLo H' b f->zax f (l.map fun t=>(t.1,t.2 * n))->f.length<=l.length->zai H H'->Q (.ref b) H'
theorem zkj:(["members", "own", "number"]:List Str).Nodup:=by decide +kernel
theorem zoU (T:Txt w K mg):zfI.Ok P w K mg base 3 (zm5 K):=by
  refine Rw.ok T.d_Z71.F T.d_Z71.S fun vs H Q E h=>?_
  obtain⟨a,l,n,rfl,hT,hlen,h5,hmul,q⟩:=h;refine⟨rfl,fun _ _ _ _ hr hu nd=>⟨_,(zae (zak (zaN T.d_Z58 (zli T) hr (zaa (zbb (g:=(zi1 K 2 (zbD (zaH 0) (zbD (zaH 1) ziZ)))) ["members", "own", "number"] 2 [1] rfl (zfL zfI) (zaR (pv 0))
    (fun cl C s₀ H₀ fp=>(zbe (n:=2) rfl (zap (pgn 0 zkj) (zap (pgn 1 zkj) zaT)))) (fun cl C s₀ H₀ fp=>zbW) (fun cl C s₀ H₀ fp=>(zaE (zaa (pv 0) (zaa (zao zbi (pv 1) (pv 2)) zad))))) zad)))),?_⟩⟩
  refine⟨_,rfl,a,rfl,hT.seq,?_⟩;refine zeW (fun t=>(t.1,t.2 * n)) hT (by omega) [some (.int n)] rfl (fun t ht H2 R s2 k=>?_) fun D ys H2 hD hT1 s1=>?_
  ·exact⟨_,rfl,_,rfl,_,rfl,_,_,rfl,rfl,hmul t ht,sl2,k⟩
  ·refine⟨D,_,rfl,hT1.tl,(by rw[jaa];exact hlen),zoo h5 _,fun b f H' hb hT' hF hl s'=>?_⟩;rw[jaa] at hl;exact q b f H' (s1.free hb) hT' hF hl (s1.trans s')
noncomputable def zpG:Sp:=fun vs H Q _=>∃ (a b:Addr) (l m:zag),vs=[.ref a,.ref b]/\TLo H a l/\TLo H b m/\l.length+m.length<=100000/\zgF (l++m) /\
 ∀ (c:Addr) (f:zag) (H':Hp),H c=none->TLo H' c f->IsForm f->(∀ k,za8 f k=za8 l k-za8 m k)->f.length<=l.length+m.length->zai H H'->Q (.ref c) H'
theorem zpp (T:Txt w K mg):zmS.Ok P w K mg base 4 zpG:=by
  refine Rw.ok T.d_Z55.F T.d_Z55.S fun vs H Q E h=>?_
  obtain⟨a,b,l,m,rfl,hTa,hTb,hlen,h5,q⟩:=h;refine⟨rfl,fun _ _ _ _ hr hu nd=>⟨_,(zae (zak (zaN T.d_Z64 (zhe T) hr (zaa (pv 0) (zaa (zaN T.d_Z71 (zoU T) hr (zaa (pv 1) (zaa (zhW zeQ zaf) zad))) zad))))),?_⟩⟩;refine⟨_,rfl,_,rfl,_,rfl,b,m,-1,rfl,hTb.tl,by omega,zqU h5,fun t _=>zlM (by decide) (by decide),fun d g H1 hd hT1 hF1 hl1 s1=>?_⟩;refine⟨a,d,l,g,rfl,hTa.keep s1,hT1,by omega,zj6 h5 (fun t ht=>?_),fun c f H2 hc hT2 hF2 hl2 s2=>?_⟩
  ·rw[jac,jah];rcases jah.mp ht with z | z
   ·exact .inl (jau.mpr ⟨t,z,rfl⟩)
   ·have:=hF1.src t z
    rw[ja3] at this;exact .inr this
  refine q c f H2 (s1.free hc) hT2 hF2.toIsForm (fun k=>?_) (by omega) (s1.trans s2);rw[hF2.val,zaq,hF1.val];have e:(m.map fun t=>(t.1,t.2 * -1))=m.map fun t=>(t.1,-t.2):=jb8 fun t _=>by rw[show t.2 * -1 = -t.2 by omega]
  rw[e,zdH];omega
noncomputable def zqM (K:PySem.W.Frag):Sp:=fun vs H Q _=>∃ (w:Nat) (a b:Addr) (l m:zag),vs=[.str (opS w),.ref a,.ref b]/\w<3/\TLo H a l/\TLo H b m/\(l.length<=64/\m.length<=64)/\(∃ ls,ls.length<=5/\K5 ls l/\K5 ls m)/\(w=2->∀ t∈l,∀ u∈m,IntMulOk t.2 u.2) /\
 ∀ (c:Addr) (f:zag) (H':Hp),H c=none->TLo H' c f->zax f (opR w l m)->zai H H'->Q (.ref c) H'
theorem ztv (T:Txt w K mg):ze2.Ok P w K mg base 5 (zqM K):=by
  refine Rw.ok T.d_Z3.F T.d_Z3.S fun vs H Q E h=>?_
  obtain⟨wo,a,b,l,m,rfl,hw,hTa,hTb,hlen,h5,hmul,q⟩:=h;refine⟨rfl,fun _ _ _ _ hr hu nd=>⟨_,(zab (zay (zah zaD (pv 0) zaj (zal _)) (zae (zak (zaN T.d_Z64 (zhe T) (hr.mono (by decide)) (zaa (pv 1) (zaa (pv 2) zad))))) zam)
   (zab (zay (zah zaD (pv 0) zaj (zal _)) (zae (zak (zaN T.d_Z55 (zpp T) hr (zaa (pv 1) (zaa (pv 2) zad))))) zam)
   (zae (zak (zaN T.d_Z78 (zj2 T) (hr.mono (by decide)) (zaa (pv 1) (zaa (pv 2) zad))))))),?_⟩⟩
  obtain⟨ls,z5,zl,zm⟩:=h5;have hll:l.length * m.length<=64 * 64:=jaS hlen.1 hlen.2;obtain rfl | rfl | rfl:wo=0\/wo=1\/wo=2:=by omega
  ·refine⟨_,rfl,rfl,_,rfl,za4 (by decide) ?_⟩;exact⟨_,rfl,_,rfl,a,b,l,m,rfl,hTa,hTb,by omega,⟨ls,z5,zl.app zm⟩,fun c f H1 hc hT hF hl s1=>q c f H1 hc hT hF s1⟩
  ·refine⟨_,rfl,rfl,_,rfl,zaB (by decide) ?_⟩;refine⟨_,rfl,rfl,_,rfl,za4 (by decide) ?_⟩;refine⟨_,rfl,_,rfl,a,b,l,m,rfl,hTa,hTb,by omega,⟨ls,z5,zl.app zm⟩,fun c f H1 hc hT hI hv hl s1=>?_⟩;refine q c f H1 hc hT (zbl hI fun k=>?_) s1;show _=za8 (l++m.map fun t=>(t.1,-t.2)) k;rw[hv,zaq,zdH];omega
  ·refine⟨_,rfl,rfl,_,rfl,zaB (by decide) ?_⟩;refine⟨_,rfl,rfl,_,rfl,zaB (by decide) ?_⟩;exact⟨_,rfl,_,rfl,a,b,l,m,rfl,hTa.tl,hTb.tl,by omega,⟨ls,z5,zl.prod zm⟩,hmul rfl,fun c f H1 hc hT hF hl s1=>q c f H1 hc hT hF s1⟩
noncomputable def zoa:Sp:=fun vs H Q E=>∃ fs ls:List Nat,vs=[.str (S fs),.str (S ls)]/\(∀ c∈fs,48<=c/\c<=57)/\fs.length<=1000/\(∀ n:Nat,zfv fs ls=some n->Q (.int (n:Int)) H)/\(zfv fs ls=none->False)
theorem zsa (T:Txt w K mg):zcX.Ok P w K mg base 1 zoa:=by
  refine Rw.ok T.d_Z67.F T.d_Z67.S fun vs H Q E h=>?_
  obtain⟨fs,ls,rfl,hd,hlen,q,e⟩:=h;refine⟨rfl,fun _ _ _ _ hr hu nd=>⟨_,(zab (zay (PW.pt (zcO (zah zaD (pv 0) zaj (zal _)) (zb5 (zah zfe (pv 1) zaj (zal _))))) (zae (zak zaf)) zam)
   (zab (zay (PW.pt (zgN (zah zaD (pv 0) zaj (zal _)) (zgN (zah zaD (zav zfp (pv 0) zaf (fun _ _=>rfl)) zaj (zal _)) (zeq (PW.pt (zcO (zah zaD (pv 0) zaj (zal _)) (zb5 (zah zfe (pv 1) zaj (zal _))))))))) (zae zaW) zam)
   (zab (zaS 2 nd zaf)
   (zab (zbs jaG rfl (zkw (pv 0)) (pgn 3 nd)
    (zae (zaS 2 nd (zao zbx (zao zbi (pv 2) zaf) (zbL zdj rfl T.n_int jbv (zaa (pv 3) zad))))))
   (zae (zak (pv 2))))))),?_⟩⟩
  have run:∀ n:Nat,NumText.digitsVal fs=n->Q (.int (n:Int)) H->zt0 (zpA (tC (V.int 0)) (zaH 2)) (zt0 (zut (zuV (zlo 0)) (zaH 3) (zpA (tOp (rI0 fun i j=>V.int (i+j)) (tOp (rI IntMulOk fun i j=>V.int (i * j)) (zlo 2) (tC (V.int 10))) (tCB (fun xs H Q=>∃ x n,xs=[V.str x]/\intText? x=some n/\x.length<=640/\Q (V.int n) H) (ziC (zlo 3) zqk))) (zaH 2))) (ztc (zlo 2))) { nx:=fun x H'=>Q V.non H',rt:=Q } [some (V.str (S (fs))),some (V.str (S (ls))),none,none] H:=by
   intro n hn hq;refine⟨_,rfl,_,rfl,zhZ (fun c hc=>by have:=hd c hc;omega),?_⟩;refine zmg (l:=fs) (fun i σ G=>∃ v3:Option V,σ = [some (.str (S fs)),some (.str (S ls)),some (.int ((NumText.digitsVal (fs.take i):Nat):Int)),v3]/\G=H)
    ⟨none,rfl,rfl⟩ ?_ ?_
   ·rintro i c σ G hc ⟨v3,rfl,rfl⟩;have hcd:=hd c (jao hc);obtain⟨d,rfl⟩:∃ d,c=48+d:=⟨c-48,by omega⟩;have htk:fs.take (i+1)=fs.take i ++ [48+d]:=by rw[jaI,hc];rfl
    unfold zaH;refine⟨_,rfl,_,_,rfl,rfl,zlM (by decide) (by decide),_,rfl,_,_,rfl,zi7 d (by omega),(by show 1<=640;decide),_,_,rfl,rfl,?_⟩;refine⟨some (.str (S [48+d])),?_,rfl⟩;rw[htk,NumText.digitsVal_snoc];have e:((NumText.digitsVal (fs.take i) * 10+(48+d-48):Nat):Int)=((NumText.digitsVal (fs.take i):Nat):Int) * 10+(d:Int):=by omega
    rw[e];rfl
   ·rintro σ G ⟨v3,rfl,rfl⟩;refine⟨_,rfl,?_⟩;rw[jaK,hn];exact hq
  refine⟨_,rfl,rfl,_,rfl,?_⟩;by_cases h1:fs=[]
  ·refine za4 (decide_eq_true ((ziQ _).mpr h1)) ?_;refine⟨_,rfl,rfl,_,rfl,?_⟩;by_cases h2:ls=[]
   ·refine zaB (by rw[decide_eq_true ((ziQ _).mpr h2)];decide) ?_;refine⟨_,rfl,rfl,_,rfl,za4 (decide_eq_true ((ziQ _).mpr h1)) ?_⟩;exact e (by unfold zfv;rw[if_neg (fun z=>z.2 h2),if_pos (.inl h1)])
   ·refine za4 (by rw[decide_eq_false (fun y=>h2 ((ziQ _).mp y))];rfl) ?_;exact q 1 (by unfold zfv;rw[if_pos ⟨h1,h2⟩])
  ·refine zaB (fun y=>h1 ((ziQ _).mp (of_decide_eq_true y))) ?_;refine⟨_,rfl,rfl,_,rfl,zaB (fun y=>h1 ((ziQ _).mp (of_decide_eq_true y))) ?_⟩;obtain⟨c,r,hcr⟩:∃ c r,fs=c :: r:=by
    cases fs with
    | nil=>exact absurd rfl h1
    | cons c r=>exact⟨c,r,rfl⟩
   have hz:(S fs).length<=sizeLine:=by rw[zaw];exact jak hlen (by decide)
   have hat:atI (S fs).cps.toList 0=some c:=by rw[zbE,hcr];exact zaA (j:=0) rfl
   refine⟨_,rfl,_,_,_,rfl,rfl,hz,hat,rfl,_,rfl,?_⟩;by_cases h3:c=48
   ·refine za4 (decide_eq_true (by rw[h3,zes];rfl)) ?_;exact e (by unfold zfv;rw[if_neg (fun z=>h1 z.1),if_pos (.inr (.inl (by rw[hcr,h3];rfl)))])
   ·refine zaB (fun y=>h3 (by
     have:=of_decide_eq_true y
     injection this with this
     rw[zes] at this
     have:=zbY (a:=[c]) this
     simpa using this)) ?_
    have h3':¬ fs.head? = some 48:=by rw[hcr];simpa using h3
    refine⟨_,rfl,rfl,_,rfl,?_⟩;by_cases h4:fs=[49]
    ·refine za4 (decide_eq_true (by rw[h4,zlT])) ?_;refine⟨_,rfl,rfl,_,rfl,?_⟩;by_cases h2:ls=[]
     ·refine zaB (by rw[decide_eq_true ((ziQ _).mpr h2)];decide) ?_;exact run _ rfl (q _ (by unfold zfv;rw[if_neg (fun z=>h1 z.1),if_neg (fun z=>by
       rcases z with z | z | z
       ·exact h1 z
       ·exact h3' z
       ·exact z.2 h2)]))
     ·refine za4 (by rw[decide_eq_false (fun y=>h2 ((ziQ _).mp y))];rfl) ?_;exact e (by unfold zfv;rw[if_neg (fun z=>h1 z.1),if_pos (.inr (.inr ⟨h4,h2⟩))])
    ·refine zaB (fun w=>h4 (by
      have:=of_decide_eq_true w
      injection this with this
      rw[zlT] at this;exact zbY this)) ?_
     exact run _ rfl (q _ (by unfold zfv;rw[if_neg (fun z=>h1 z.1),if_neg (fun z=>by
      rcases z with z | z | z
      ·exact h1 z
      ·exact h3' z
      ·exact h4 z.1)]))
noncomputable def zlZ:Sp:=fun vs H Q _=>∃ m:Nat,vs=[.int (m:Int)]/\m<=100/\Q (.int (2^m)) H
theorem zlC (T:Txt w K mg):zgx.Ok P w K mg base 1 zlZ:=by
  refine Rw.ok T.d_Z4.F T.d_Z4.S fun vs H Q E h=>?_
  obtain⟨m,rfl,hm,q⟩:=h;refine⟨rfl,fun _ _ _ _ hr hu nd=>⟨_,(zab (zaS 1 nd zaf)
   (zab (zbs jaG rfl (zbw rfl T.n_range (zaa (pv 0) zad)) (pgn 2 nd)
    (zae (zaS 1 nd (zao zbi (pv 1) zaf))))
   (zae (zak (pv 1))))),?_⟩⟩
  refine⟨_,rfl,(m:Int),rfl,by omega,by omega,zco (n:=m) (fun i σ H2=>∃ v2:Option V,σ = [some (.int (m:Int)),some (.int (2^i)),v2]/\H2=H) ⟨none,rfl,rfl⟩ ?_ ?_⟩
  ·rintro i σ H2 hi ⟨v2,rfl,rfl⟩;refine⟨_,rfl,_,_,rfl,rfl,zlM (by decide) (by decide),some (.int (0+(i:Int))),?_,rfl⟩;rw[Int.pow_succ];rfl
  ·rintro σ H2 ⟨v2,rfl,rfl⟩;exact⟨_,rfl,q⟩
noncomputable def zni:Sp:=fun vs H Q E=>∃ l:List Nat,vs=[.str (S l)]/\(∀ c∈l,c<128)/\(∀ m:Nat,zfu l (-1) 0=some m->Q (.int (m:Int)) H)/\(zfu l (-1) 0=none->False)
theorem zq0 (T:Txt w K mg):zfh.Ok P w K mg base 2 zni:=by
  refine Rw.ok T.d_Z68.F T.d_Z68.S fun vs H Q E h=>?_
  obtain⟨l,rfl,ha,q,e⟩:=h;refine⟨rfl,fun _ _ _ _ hr hu nd=>⟨_,(zab (zaS 1 nd zaf)
   (zab (zaS 2 nd (zhW zeQ zaf))
   (zab (zbs jaG rfl (zkw (pv 0)) (pgn 3 nd)
    (zab (zaS 4 nd (za9 jaz jct jcx zi8 (za5 (v := .str "abcdefghijklmnop") (by rfl) T.g_LETTERS ⟨_,rfl⟩) (zaa (pv 3) zad)))
   (zab (zay (zah zjB (pv 4) (pv 2) (zal _)) (zae zaW) zam)
   (zab (zaS 1 nd (zao zbx (pv 1) (zaN T.d_Z4 (zlC T) hr (zaa (pv 4) zad))))
   (zae (zaS 2 nd (pv 4)))))))
   (zae (zak (pv 1)))))),?_⟩⟩
  refine⟨_,rfl,_,rfl,_,rfl,zhZ ha,?_⟩;refine zmg (l:=l) (fun i σ G=>∃ (v3 v4:Option V) (la:Int) (m:Nat),σ = [some (.str (S l)),some (.int (m:Int)),some (.int la),v3,v4] /\ -1<=la/\zfu l (-1) 0=zfu (l.drop i) la m/\G=H)
   ⟨none,none,-1,0,rfl,by omega,by rw[jcs],rfl⟩ ?_ ?_
  ·rintro i c σ G hc ⟨v3,v4,la,m,rfl,hla,hr,rfl⟩;have hil:=(jam.mp hc).1;have ed:l.drop i=c :: l.drop (i+1):=by
    rw[jbC hil];congr 1;exact (jam.mp hc).2
   have hc128:=ha c (jao hc);rw[ed] at hr;unfold zaH;refine⟨rfl,_,rfl,_,_,rfl,rfl,?_⟩;rw[zb6,zn8 c hc128];refine⟨_,rfl,_,rfl,_,_,rfl,rfl,_,rfl,zgJ (fun z=>?_) (fun z=>?_)⟩
   ·have z':=of_decide_eq_true z;exact e (by rw[hr];unfold zfu;rw[if_pos z'])
   ·have z':¬ zn3 c<=la:=fun y=>z (decide_eq_true y)
    obtain⟨k,hk⟩:∃ k:Nat,zn3 c=(k:Int):=⟨(zn3 c).toNat,by omega⟩;have hk16:k<16:=by
     unfold zn3 at hk;split at hk <;> omega
    rw[hk];refine⟨_,rfl,_,rfl,k,rfl,by omega,_,_,rfl,rfl,?_⟩;refine⟨_,rfl,some (.str (S [c])),some (.int (k:Int)),(k:Int),m+2^k,?_,by omega,?_,rfl⟩
    ·rw[show ((m+2^k:Nat):Int)=(m:Int)+2^k by rw[zdS];omega];rfl
    ·rw[hr];show zfu (c :: l.drop (i+1)) la m=_
     conv=>lhs;unfold zfu
     rw[if_neg z',hk,jbf]
  ·rintro σ G ⟨v3,v4,la,m,rfl,hla,hr,rfl⟩;rw[jdn] at hr;exact⟨_,rfl,q m hr⟩
noncomputable def znX:Sp:=fun vs H Q E=>∃ sg wo:List Nat,vs=[.str (S sg),.str (S wo)]/\(∀ c∈wo,c<128)/\wo.length<=1000/\(∀ t,zhB sg wo=some t->∀ c,H c=none->Q (.ref c) (upd H c (.tup [.int t.1,.int t.2])))/\(zhB sg wo=none->False)
theorem zqS (T:Txt w K mg):zdr.Ok P w K mg base 3 znX:=by
  refine Rw.ok T.d_Z69.F T.d_Z69.S fun vs H Q E h=>?_
  obtain⟨sgn',wo,rfl,ha,hl,q,e⟩:=h;refine⟨rfl,fun _ _ _ _ hr hu nd=>⟨_,(zab (zay (PW.pt (zcO (zah zfe (pv 0) zaj (zal _)) (zb5 (zah zfe (pv 0) zaj (zal _))))) (zae zaW) zam)
   (zab (zaS 2 nd (za9 jaz PySem.F.slot_str_lstrip PySem.F.type_str_lstrip zkX (pv 1) (zaa (za5 (v := .str "0123456789") (by rfl) T.g_FIGURES ⟨_,rfl⟩) zad)))
   (zab (zaS 3 nd (zaN T.d_Z67 (zsa T) (hr.mono (by decide)) (zaa (zbP zjO (pv 1) zc1 (zbo (zao zd3 (zar za3 (by rfl) T.n_len jaF (zaa (pv 1) zad)) (zar za3 (by rfl) T.n_len jaF (zaa (pv 2) zad))))) (zaa (pv 2) zad))))
   (zae (zak (zaE (zaa (zaN T.d_Z68 (zq0 T) hr (zaa (pv 2) zad)) (zaa (zfK (zah zaD (pv 0) zaj (zal _)) (zhW zeQ (pv 3)) (pv 3)) zad)))))))),?_⟩⟩
  have sg:∀ (a:List Nat) (b:Nat),(V.str (S a)=V.str (S [b]))↔a=[b]:=fun a b=>⟨fun z=>by
   injection z with z
   exact zbY z,fun z=>by rw[z]⟩
  have hcut:=zot wo;have hll':(zde wo).length+(zbv wo).length=wo.length:=by
   have:=congrArg List.length hcut
   rw[jab] at this;omega
  have hwl:(S wo).length<=sizeLine:=by rw[zaw];exact jak hl (by decide)
  have hll:(S (zbv wo)).length<=sizeLine:=by rw[zaw];exact jak (show (zbv wo).length<=1000 by omega) (by decide)
  have el:Txt.lstripChars (S wo) (Str.ofString "0123456789")=S (zbv wo):=by
   rw[zmD]
   conv=>lhs;rw[hcut]
   exact zoC (zhH wo) zkL
  have es:Txt.slice (S wo) none (some (((S wo).length:Int)-((S (zbv wo)).length:Int)))=S (zde wo):=by
   have e1:((S wo).length:Int)-((S (zbv wo)).length:Int)=((zde wo).length:Int):=by
    rw[zaw,zaw];omega
   rw[e1]
   have:=znz (a:=zde wo) (b:=zbv wo)
   rwa [<- hcut] at this
  have hal:∀ c∈zbv wo,c<128:=fun c hc=>ha c (by rw[hcut];exact jaA _ hc)
  by_cases hs:sgn'=[43]\/sgn'=[45]
  ·have hT:zhB sgn' wo=match zfv (zde wo) (zbv wo),zfu (zbv wo) (-1) 0 with
    | some n,some m=>some ((m:Int),if sgn'=[45] then -(n:Int) else (n:Int))
    | _,_=>none:=if_pos hs
   rcases hs with rfl | rfl
   ·refine⟨_,rfl,rfl,_,rfl,zaB (by rw[zev,decide_eq_true rfl];decide) ?_⟩;refine⟨_,rfl,rfl,_,_,rfl,rfl,hwl,?_⟩;rw[el];refine⟨_,rfl,_,rfl,_,rfl,hwl,_,rfl,_,rfl,hll,_,_,rfl,rfl,_,rfl,_,rfl,hwl,_,rfl,zde wo,zbv wo,(by rw[es];rfl),zhH wo,by omega,fun n hn=>?_,fun hn=>e (by rw[hT,hn])⟩;refine⟨_,rfl,zbv wo,rfl,hal,fun m hm=>?_,fun hm=>e (by rw[hT,hn,hm])⟩;refine⟨_,rfl,rfl,_,rfl,?_⟩;refine zaB (by rw[zbc];exact fun y=>absurd ((sg _ _).mp (of_decide_eq_true y)) (by decide)) ?_;exact⟨_,rfl,sl2,fun c hc=>q _ (by rw[hT,hn,hm]) c hc⟩
   ·refine⟨_,rfl,rfl,_,rfl,za4 (by rw[zev,decide_eq_false (fun y=>absurd ((sg _ _).mp y) (by decide))];rfl) ?_⟩;refine⟨_,rfl,rfl,_,rfl,zaB (by rw[zbc,decide_eq_true rfl];decide) ?_⟩;refine⟨_,rfl,rfl,_,_,rfl,rfl,hwl,?_⟩;rw[el];refine⟨_,rfl,_,rfl,_,rfl,hwl,_,rfl,_,rfl,hll,_,_,rfl,rfl,_,rfl,_,rfl,hwl,_,rfl,zde wo,zbv wo,(by rw[es];rfl),zhH wo,by omega,fun n hn=>?_,fun hn=>e (by rw[hT,hn])⟩;refine⟨_,rfl,zbv wo,rfl,hal,fun m hm=>?_,fun hm=>e (by rw[hT,hn,hm])⟩;refine⟨_,rfl,rfl,_,rfl,?_⟩;refine za4 (by rw[zbc];exact decide_eq_true rfl) ?_;exact⟨_,rfl,_,rfl,sl2,fun c hc=>q _ (by rw[hT,hn,hm]) c hc⟩
  ·refine⟨_,rfl,rfl,_,rfl,za4 (by rw[zev,decide_eq_false (fun y=>hs (.inl ((sg _ _).mp y)))];rfl) ?_⟩;refine⟨_,rfl,rfl,_,rfl,za4 (by rw[zbc,decide_eq_false (fun y=>hs (.inr ((sg _ _).mp y)))];rfl) ?_⟩;exact e (by unfold zhB;rw[if_neg hs])
noncomputable def zmF (K:PySem.W.Frag):Sp:=fun vs H Q _=>∃ (a:Addr) (f:zag),vs=[.ref a]/\TLo H a f/\Q (.bl (isF f (-1))) H
theorem zry (T:Txt w K mg):zgu.Ok P w K mg base 1 (zmF K):=by
  refine Rw.ok T.d_Z20.F T.d_Z20.S fun vs H Q E h=>?_
  obtain⟨a,f,rfl,hT,q⟩:=h;refine⟨rfl,fun _ _ _ _ hr hu nd=>⟨_,(zab (zaS 1 nd (zhW zeQ zaf))
   (zab (zbs jaG rfl (zaR (pv 0)) (zbe (n:=2) rfl (zap (pgn 2 nd) (zap (pgn 3 nd) zaT)))
    (zab (zay (PW.pt (zgN (zah zjB (pv 2) (pv 1) (zal _)) (zeq (zah zaD (pv 3) zaf (zal _))))) (zae (zak zjj)) zam)
   (zae (zaS 1 nd (pv 2)))))
   (zae (zak zjj)))),?_⟩⟩
  obtain⟨ps,hS,hP⟩:=id hT;have hpl:=hP.length;refine⟨_,rfl,_,rfl,a,rfl,⟨_,SqL.of hS⟩,?_⟩;refine zbM (K:=K) (a:=a) (xs:=ps.map V.ref) (fun i σ G=>∃ (v2 v3:Option V) (la:Int),σ = [some (.ref a),some (.int la),v2,v3]/\isF f (-1)=isF (f.drop i) la/\G=H)
   ⟨none,none,-1,rfl,by rw[jcs],rfl⟩ (fun i σ G _ ⟨_,_,_,_,_,e⟩=>by rw[e];exact SqL.of hS) ?_ ?_
  ·rintro i y σ G hi ⟨v2,v3,la,rfl,hla,rfl⟩;obtain⟨p,hpi,rfl⟩:=zcG hi;obtain⟨t,ht1,ht2⟩:=hP.at' hpi;have ed:f.drop i=t :: f.drop (i+1):=by
    rw[jbC (jam.mp ht1).1];congr 1;exact (jam.mp ht1).2
   rw[ed] at hla;refine⟨p,_,rfl,SqT.of ht2,rfl,_,_,rfl,_,_,rfl,rfl,?_⟩;refine⟨_,rfl,_,rfl,_,_,rfl,rfl,_,rfl,zgJ (fun z=>?_) (fun z=>?_)⟩
   ·have z':=of_decide_eq_true z;have e1:isF f (-1)=false:=by rw[hla];unfold isF;rw[if_pos (.inl z')]
    rw[e1] at q;exact zhL q
   ·have z':¬ t.1<=la:=fun y=>z (decide_eq_true y)
    refine⟨_,rfl,rfl,_,rfl,zgJ (fun z2=>?_) (fun z2=>?_)⟩
    ·have y:t.2=0:=by have h:=of_decide_eq_true z2;injection h
     have e1:isF f (-1)=false:=by rw[hla];unfold isF;rw[if_pos (.inr y)]
     rw[e1] at q;exact q
    ·have y:¬ t.2=0:=fun y=>z2 (decide_eq_true (by rw[y]))
     refine⟨_,rfl,_,_,t.1,rfl,?_,rfl⟩;rw[hla]
     conv=>lhs;unfold isF
     rw[if_neg (fun w=>w.elim z' y)]
  ·rintro σ G ⟨v2,v3,la,rfl,hla,rfl⟩;rw[jaa,hpl,jdn] at hla;rw[hla] at q;exact q
noncomputable def zqd:Sp:=fun vs H Q E=>∃ l:List Nat,vs=[.str (S l)]/\(∀ c∈l,c<128)/\l.length<=900/\(∀ f,zgH l=some f->∀ (c:Addr) (H':Hp),H c=none->TLo H' c f->zai H H'->Q (.ref c) H')/\(zgH l=none->∀ H',zai H H'->False)
theorem zkr:(["sign", "word"]:List Str).Nodup:=by decide +kernel
theorem zrD (T:Txt w K mg):zc5.Ok P w K mg base 4 zqd:=by
  refine Rw.ok T.d_Z14.F T.d_Z14.S fun vs H Q E h=>?_
  obtain⟨l,rfl,ha,hl,q,e⟩:=h;refine⟨rfl,fun _ _ _ _ hr hu nd=>⟨_,(zab (zay (zah zaD (pv 0) zaj (zal _)) (zae (zak (zaG zad))) zam)
   (zab (zaS 1 nd (za9 jaz jcm jck zhk (pv 0) (zaa zaj zad)))
   (zab (zdZ (zay (zcs (za9 jaz jbU jbT zeA (pv 0) (zaa zaj zad)) (fun _=>rfl)) (zab (zgi (zbP zjO (zav zas (pv 1) zaf (fun _ _=>rfl)) (zbo zaf) zc1) (zoV (pv 1) zaf zku))
   (zae (zaU (za9 jaf jc5 jc9 ziS (pv 1) (zaa zaf (zaa zaj zad)))))) (zae (zaU (za9 jaf jc5 jc9 ziS (pv 1) (zaa zaf (zaa zaj zad)))))))
   (zab (zay (zah zfe (zao zaY (zar zaz (by rfl) T.n_len jaF (zaa (pv 1) zad)) zaf) zaf (zal _)) (zae zaW) zam)
   (zab (zht (i:=2) (g:=(zi1 K 2 (zbD (zaH 0) (zbD (zaH 1) ziZ)))) ["sign", "word"] 2 [] nd rfl (Or.inl rfl) rfl (zfL zc5) (zqP rfl T.n_zip (zaa (zpb (pv 1) (zbo zaf) (zbo zaf)) (zaa (zpb (pv 1) (zbo zaf) (zbo zaf)) zad)))
    (fun cl C s₀ H₀ fp=>(zbe (n:=2) rfl (zap (pgn 0 zkr) (zap (pgn 1 zkr) zaT)))) (fun cl C s₀ H₀ fp=>zbW) (fun cl C s₀ H₀ fp=>(zaN T.d_Z69 (zqS T) hr (zaa (pv 0) (zaa (pv 1) zad)))))
   (zab (zay (zd0 (zcs (zaN T.d_Z20 (zry T) (hr.mono (by decide)) (zaa (pv 2) zad)) (fun _=>rfl))) (zae zaW) zam)
   (zae (zak (pv 2))))))))),?_⟩⟩
  refine⟨_,rfl,rfl,_,rfl,?_⟩;by_cases h0:l=[48]
  ·refine za4 (decide_eq_true (by rw[h0,zes])) ?_;exact⟨jaE _,fun c hc=>q [] (by unfold zgH;rw[if_pos h0]) c _ hc ⟨[],zac,.nil⟩ (zai.upd hc)⟩
  refine zaB (fun w=>h0 (by
   have:=of_decide_eq_true w
   injection this with this
   rw[zes] at this;exact zbY this)) ?_
  have hsp:Txt.split (S l) (S [32])=(zau l).map S:=by
   have:=zjq (c:=32) (zbG l) (zeK l)
   rwa [zcQ l] at this
  refine⟨_,rfl,rfl,_,_,rfl,rfl,(by rw[zd2];rfl),(by rw[zaw];exact jbj hl (by decide)),fun W hW=>?_⟩;rw[zd2,hsp];have s1:zai H (upd H W (.lst (((zau l).map S).map V.str))):=zai.upd hW;have w1:upd H W (.lst (((zau l).map S).map V.str)) W=some (.lst (((zau l).map S).map V.str)):=zac;generalize upd H W (.lst (((zau l).map S).map V.str))=H1 at s1 w1;have hlens:=zcF l;have hcs:=zeO l;refine⟨fun σ' G' => σ'=[some (.str (S l)),some (.ref W),none]/\G' W=some (.lst (((zbQ l).map S).map V.str))/\zai H G',?_,?_⟩
  ·obtain⟨w0,wr,ew⟩:∃ w0 wr,zau l=w0 :: wr:=by
    cases e:zau l with
    | nil=>exact absurd e (zbG l)
    | cons a b=>exact⟨a,b,rfl⟩
   rw[ew] at w1;refine⟨_,rfl,rfl,_,_,rfl,rfl,_,rfl,?_⟩;have hwrl:((wr.map S).map V.str).length<=1001:=by rw[jaa,jaa];rw[ew,jae] at hlens;omega
   by_cases h45:l.head? = some 45
   ·refine za4 (by rw[zbc,zgr];exact decide_eq_true h45) ?_;obtain⟨w',rfl⟩:∃ w',w0=45 :: w':=zkR h45 (by decide) ew;have hwl:(S (45 :: w')).length<=sizeLine:=by
     rw[zaw]
     have:=hlens.2 (45 :: w') (by rw[ew];simp)
     exact jak this (jak hl (by decide))
    have esl:Txt.slice (S (45 :: w')) (some 1) none=S w':=ziM (a:=[45]) (b:=w');refine⟨_,rfl,W,_,_,_,rfl,rfl,SqL.of w1,zaA (j:=0) rfl,_,rfl,_,rfl,hwl,_,rfl,W,_,_,0,rfl,rfl,w1,(by show ixN (_+1) 0=some 0;unfold ixN;simp),?_⟩;refine⟨_,rfl,.inl ⟨rfl,_,SqL.of zac⟩,W,_,0,_,rfl,rfl,zac,jaE _,?_,?_⟩
    ·rw[jbR];show ((wr.map S).map V.str).length+1<_;exact zaF (by omega)
    refine⟨rfl,?_,(s1.write hW).write hW⟩;rw[zac,esl,zbc];unfold zbQ;rw[if_pos h45,ew];rfl
   ·refine zaB (by rw[zbc,zgr,decide_eq_false h45];decide) ?_;refine⟨_,rfl,.inl ⟨rfl,_,SqL.of w1⟩,W,_,0,_,rfl,rfl,w1,jaE _,?_,?_⟩
    ·show ((wr.map S).map V.str).length+1<_;exact zaF (by omega)
    refine⟨rfl,?_,s1.write hW⟩;rw[zac,zev];unfold zbQ;rw[if_neg h45,ew];rfl
  ·rintro σ' G' ⟨rfl,w2,s2⟩;have hwr:=zl2 l;have hfr:∀ x,zeH (zbQ l)=x->zgH l=match x with
     | some f=>if isF f (-1)=true then some f else none
     | none=>none:=fun x hx=>by unfold zgH;rw[if_neg h0,hx] <;> (cases x <;> rfl)
   refine⟨_,rfl,W,_,rfl,.inl (SqL.of w2),_,_,rfl,rfl,(by show (0:Int)<2;decide),rfl,_,rfl,?_⟩;by_cases hev:(zbQ l).length % 2=0
   rotate_left
   ·refine za4 (by
     show (!decide (V.int (((((zbQ l).map S).map V.str).length:Int) % 2)=V.int 0))=true;rw[jaa,jaa,decide_eq_false (fun z=>by injection z with z;omega)];rfl) ?_
    exact e (hfr none (zhd hev)) G' s2
   refine zaB (by
    show ¬ (!decide (V.int (((((zbQ l).map S).map V.str).length:Int) % 2)=V.int 0))=true;rw[jaa,jaa,decide_eq_true (by congr 1;omega)];decide) ?_
   obtain⟨pp,hpp⟩:=zkd hev;have hpl:2 * pp.length=(zbQ l).length:=by rw[hpp,zkO]
   have ev:((zbQ l).map S).map V.str=pp.flatMap fun t:List Nat × List Nat=>[V.str (S t.1),V.str (S t.2)]:=by
    rw[hpp,ja3,List.map_flatMap];rfl
   have hrd:zeH (zbQ l)=rdP pp:=by rw[hpp];exact zdp pp
   have hmem:∀ t∈pp,t.2∈zbQ l:=fun t ht=>by rw[hpp];exact jcC.mpr ⟨t,ht,by simp⟩
   rw[ev] at w2;have hln:(pp.flatMap fun t:List Nat × List Nat=>[V.str (S t.1),V.str (S t.2)]).length=2 * pp.length:=zcM _ _ _;refine⟨_,rfl,_,rfl,_,rfl,rfl,0,W,_,rfl,rfl,SqL.of w2,jaE _,fun A hA=>?_⟩;rw[zrP (fun t:List Nat × List Nat=>V.str (S t.1)) (fun t=>V.str (S t.2))];have b1:zai G' (upd G' A (.lst (pp.map fun t=>V.str (S t.1)))):=zai.upd hA;have hp1:1<=pp.length:=by have:=hwr.1;omega
   refine⟨_,rfl,_,rfl,_,rfl,rfl,1,W,_,rfl,rfl,SqL.of (b1 _ _ w2),by rw[hln];omega,fun B hB=>?_⟩;rw[zr4 (fun t:List Nat × List Nat=>V.str (S t.1)) (fun t=>V.str (S t.2))];have b2:zai (upd G' A (.lst (pp.map fun t=>V.str (S t.1)))) (upd (upd G' A (.lst (pp.map fun t=>V.str (S t.1)))) B (.lst (pp.map fun t=>V.str (S t.2)))):=zai.upd hB;have s3:=s2.trans (b1.trans b2);have wA:=b2 _ _ (zac:upd G' A (.lst (pp.map fun t=>V.str (S t.1))) A=_);have wB:(upd (upd G' A (.lst (pp.map fun t=>V.str (S t.1)))) B (.lst (pp.map fun t=>V.str (S t.2)))) B=some (.lst (pp.map fun t=>V.str (S t.2))):=zac;generalize upd (upd G' A (.lst (pp.map fun t=>V.str (S t.1)))) B (.lst (pp.map fun t=>V.str (S t.2)))=H2 at s3 wA wB;refine⟨A,B,rfl,⟨_,SqL.of wA⟩,⟨_,SqL.of wB⟩,?_⟩;refine zov (K:=K) (a:=A) (b:=B) (xs:=pp.map fun t=>V.str (S t.1)) (ys:=pp.map fun t=>V.str (S t.2)) (by rw[jaa,jaa])
    (fun i zs σ G=>∃ (v0 v1:Option V) (qs:List Addr) (fs:zag),σ = [v0,v1]/\zs=qs.map V.ref/\zdi G qs fs/\fs.length=i/\(∀ rest,rdP (pp.drop i)=some rest->rdP pp=some (fs++rest))/\(rdP (pp.drop i)=none->rdP pp=none)/\G A=some (.lst (pp.map fun t=>V.str (S t.1)))/\G B=some (.lst (pp.map fun t=>V.str (S t.2)))/\zai H G)
    ⟨none,none,[],[],rfl,rfl,.nil,rfl,(fun rest h=>by rw[jcs] at h;exact h),(fun h=>by rw[jcs] at h;exact h),wA,wB,s3⟩ (fun i zs σ G hi ⟨_,_,qs,fs,_,e1,e2,e5,_,_,e3,e4,_⟩=>⟨SqL.of e3,SqL.of e4,by rw[e1,jaa,e2.length,e5];exact jag _⟩) (by rw[jaa];exact jaB (zaF (by have:=hwr.2.1;omega))) ?_ ?_
   ·rintro i x y zs σ G T' hx hy ⟨v0,v1,qs,fs,rfl,rfl,g1,g5,g6,g7,g2,g3,g4⟩ hT';rw[jaC] at hx hy;obtain⟨t,ht,rfl⟩:∃ t,pp[i]? = some t/\V.str (S t.1)=x:=by
     cases e:pp[i]? with
     | none=>rw[e] at hx;cases hx
     | some t=>rw[e] at hx;exact⟨t,rfl,jaD hx⟩
    rw[ht] at hy;cases hy;have ed:pp.drop i=t :: pp.drop (i+1):=by
     rw[jbC (jam.mp ht).1];congr 1;exact (jam.mp ht).2
    have htm:=hmem t (jao ht);have c1:zai G (upd G T' (.tup [V.str (S t.1),V.str (S t.2)])):=zai.upd hT';refine⟨T',_,rfl,SqT.of zac,rfl,_,_,rfl,_,_,rfl,rfl,?_⟩;refine tt ?_;refine⟨_,rfl,_,rfl,t.1,t.2,rfl,(fun c hc=>((hwr.2.2 t.2 htm).1 c hc).elim (ha c) (fun z=>by rw[z];decide)),(by have:=(hwr.2.2 t.2 htm).2;omega),fun u hu c hc=>?_,fun hn=>?_⟩
    ·have c2:zai (upd G T' (.tup [V.str (S t.1),V.str (S t.2)])) (upd (upd G T' (.tup [V.str (S t.1),V.str (S t.2)])) c (.tup [.int u.1,.int u.2])):=zai.upd hc;have c3:=c1.trans c2;refine⟨_,_,qs ++ [c],fs ++ [u],rfl,(by rw[jac];rfl),zdi.snoc (g1.keep fun b xs z=>c3 b _ z) zac,by rw[jab,g5];rfl,fun rest hr=>?_,fun hr=>?_,c3 _ _ g2,c3 _ _ g3,g4.trans c3⟩
     ·rw[jaP];exact g6 (u :: rest) (by rw[ed];unfold rdP;rw[hu,hr])
     ·exact g7 (by rw[ed];unfold rdP;rw[hu,hr])
    ·exact e (hfr none (by rw[hrd];exact g7 (by rw[ed];unfold rdP;rw[hn]))) _ (g4.trans c1)
   ·rintro zs σ G ⟨v0,v1,qs,fs,rfl,rfl,g1,g5,g6,g7,g2,g3,g4⟩ D hD;rw[jaa,jdn] at g6;have hfs:=g6 [] rfl;rw[jaZ] at hfs;have d1:zai G (upd G D (.lst (qs.map V.ref))):=zai.upd hD;have hT:TLo (upd G D (.lst (qs.map V.ref))) D fs:=⟨qs,zac,g1.keep fun b xs z=>d1 b _ z⟩;have hff:=hfr (some fs) (by rw[hrd];exact hfs);refine⟨_,rfl,D,fs,rfl,hT,?_⟩;cases hi:isF fs (-1) with
    | true=>exact⟨true,rfl,zf6 ⟨_,rfl,q fs (by rw[hff];exact if_pos hi) D _ (g4.free hD) hT (g4.trans d1)⟩⟩
    | false=>exact⟨false,rfl,zhL (e (by rw[hff];exact if_neg (by rw[hi];decide)) _ (g4.trans d1))⟩
noncomputable def ztZ (K:PySem.W.Frag):Sp:=fun vs H Q _=>∃ (l:List Nat) (k:Nat),vs=[.str (S l),.int (k:Int)]/\k<l.length/\l.length<=100000/\Q (.str (S (zdf (l.drop k)))) H
theorem zsq (T:Txt w K mg):zeV.Ok P w K mg base 1 (ztZ K):=by
  refine Rw.ok T.d_Z79.F T.d_Z79.S fun vs H Q E h=>?_
  obtain⟨l,k,rfl,hk,hl,q⟩:=h;refine⟨rfl,fun _ _ _ _ hr hu nd=>⟨_,(zab (zbs jaG rfl (zq6 (za5 (v := .ref zdO) (by rfl) T.g_SPACED rfl)) (pgn 2 nd)
    (zae (zay (zcs (za9 jaz jbU jbT zgK (pv 0) (zaa (pv 2) (zaa (pv 1) zad))) (fun _=>rfl)) (zae (zak (pv 2))) zam)))
   (zae (zak (zav zfp (pv 0) (pv 1) (fun _ _=>rfl))))),?_⟩⟩
  have hq:∀ G:Hp,SqT K G zdO (znb.map fun t=>V.str (S t)):=fun G=>by rw[<- zri];exact T.q_SPACED G
  refine⟨zdO,rfl,⟨_,hq _⟩,?_⟩;refine zqv (K:=K) (a:=zdO) (xs:=znb.map fun t=>V.str (S t)) (fun i σ G=>∃ v2:Option V,σ = [some (.str (S l)),some (.int (k:Int)),v2]/\(∀ j t',j<i->znb[j]? = some t'->¬ t' <+: l.drop k)/\G=H)
   ⟨none,rfl,(fun j t' hj _=>absurd hj (jcJ _)),rfl⟩ (fun i σ G _ _=>hq _) ?_ ?_
  ·rintro i y σ G hi ⟨v2,rfl,hb,rfl⟩;rw[jaC] at hi;obtain⟨t,ht,rfl⟩:∃ t,znb[i]? = some t/\V.str (S t)=y:=by
    cases e:znb[i]? with
    | none=>rw[e] at hi;cases hi
    | some t=>rw[e] at hi;exact⟨t,rfl,jaD hi⟩
   unfold zaH;refine⟨_,rfl,rfl,_,rfl,_,rfl,_,_,k,rfl,rfl,_,rfl,?_⟩;rw[zmp l t k (jaB hk)];by_cases z:t <+: l.drop k
   ·refine za4 (decide_eq_true z) ?_;refine⟨_,rfl,?_⟩;rw[zmW ht hb z] at q;exact q
   ·refine zaB (fun y=>z (of_decide_eq_true y)) ?_;refine⟨_,rfl,fun j t' hj hj'=>?_,rfl⟩;rcases jcu j i with w | w
    ·exact hb j t' w hj'
    ·have:j=i:=by omega
     subst this;rw[ht] at hj';cases hj';exact z
  ·rintro σ G ⟨v2,rfl,hb,rfl⟩;have e:=zn1 hb;obtain⟨c,hc⟩:∃ c,l[k]? = some c:=⟨_,jar hk⟩;have e1:(l.drop k).take 1=[c]:=by rw[List.take_one,List.head?_drop,hc];rfl
   rw[e,e1] at q;exact⟨_,rfl,_,rfl,_,_,c,rfl,rfl,by rw[zaw];exact jaB (zaF (by omega)),by rw[zbE];exact zaA hc,q⟩
noncomputable def zrS (K:PySem.W.Frag):Sp:=fun vs H Q _=>∃ ts:List (List Nat),vs=[.str (S ts.flatten)]/\zh3 ts []/\ts.flatten.length<=10000/\∀ (c:Addr) (H':Hp),H c=none->H' c=some (.lst (ts.map fun t=>V.str (S t)))->zai H H'->Q (.ref c) H'
theorem zsN (T:Txt w K mg):zd9.Ok P w K mg base 2 (zrS K):=by
  refine Rw.ok T.d_Z80.F T.d_Z80.S fun vs H Q E h=>?_
  obtain⟨ts,rfl,hc,hl,q⟩:=h;refine⟨rfl,fun _ _ _ _ hr hu nd=>⟨_,(zab (zaS 1 nd (zaG zad))
   (zab (zaS 2 nd zaf)
   (zab (zeT jaG (zah zh4 (pv 2) (zar za3 (by rfl) T.n_len jaF (zaa (pv 0) zad)) (zal _)) (zab (zaS 3 nd (zaN T.d_Z79 (zsq T) hr (zaa (pv 0) (zaa (pv 2) zad))))
   (zab (zaU (za9 jaf jap jaq zaM (pv 1) (zaa (pv 3) zad)))
   (zae (zaS 2 nd (zao zbx (pv 2) (zar za3 (by rfl) T.n_len jaF (zaa (pv 3) zad))))))))
   (zae (zak (pv 1)))))),?_⟩⟩
  refine⟨jaE _,fun c hcn=>?_⟩;have s0:zai H (upd H c (.lst [])):=zai.upd hcn;have hz:(S ts.flatten).length<=sizeLine:=by rw[zaw];exact zds (by omega)
  refine⟨fun m σ G=>∃ (i:Nat) (v3:Option V),σ = [some (.str (S ts.flatten)),some (.ref c),some (.int (((ts.take i).flatten.length:Nat):Int)),v3]/\i<=ts.length/\m=ts.length-i/\G c=some (.lst ((ts.take i).map fun t=>V.str (S t)))/\zai H G,⟨ts.length,0,none,rfl,jaE _,rfl,zac,s0⟩,?_⟩;rintro m σ G ⟨i,v3,rfl,hi,rfl,g1,sG⟩;refine⟨_,rfl,_,rfl,_,rfl,hz,_,_,rfl,rfl,_,rfl,?_⟩;by_cases z:i<ts.length
  ·obtain⟨t,ht⟩:∃ t,ts[i]? = some t:=⟨_,jar z⟩;obtain⟨tn,tf⟩:=zlL hc ht;rw[jaZ] at tf;have htk:ts.take (i+1)=ts.take i ++ [t]:=by rw[jaI,ht];rfl
   have hfl:(ts.take (i+1)).flatten.length=(ts.take i).flatten.length+t.length:=by rw[htk,jbH,jab];simp
   have htp:0<t.length:=List.length_pos_iff.mpr tn;have hle:(ts.take (i+1)).flatten.length<=ts.flatten.length:=by
    have:=congrArg (fun x:List (List Nat)=>x.flatten.length) (List.take_append_drop (i+1) ts)
    simp only[jbH,jab] at this;omega
   refine za4 (by rw[zaw];exact decide_eq_true (by omega)) ?_;refine⟨fun σ' G'=>∃ v3:Option V,σ'=[some (.str (S ts.flatten)),some (.ref c),some (.int (((ts.take (i+1)).flatten.length:Nat):Int)),v3]/\G' c=some (.lst ((ts.take (i+1)).map fun t=>V.str (S t)))/\zai H G',fun σ' G' ⟨v3,e1,e2,e3⟩=>⟨ts.length-(i+1),by omega,i+1,v3,e1,z,rfl,e2,e3⟩,?_⟩;refine⟨_,rfl,_,rfl,ts.flatten,(ts.take i).flatten.length,rfl,by omega,by omega,?_⟩;rw[zid,tf];refine⟨_,rfl,.inl ⟨rfl,_,SqL.of g1⟩,_,rfl,c,_,_,rfl,rfl,g1,(by
    rw[jaa,jaJ];have hn:ts.length<=ts.flatten.length:=zhI hc;exact zaF (by omega)),?_⟩
   refine⟨_,rfl,_,rfl,_,rfl,(by rw[zaw];exact zds (by omega)),_,_,rfl,rfl,?_⟩;refine⟨some (.str (S t)),?_,?_,sG.write hcn⟩
   ·have e:(((ts.take (i+1)).flatten.length:Nat):Int)=(((ts.take i).flatten.length:Nat):Int)+((S t).length:Int):=by rw[hfl,zaw];omega
    rw[e];rfl
   ·rw[zac,htk,jac];rfl
  ·have hi':i=ts.length:=by omega
   subst hi';rw[jaK] at g1 ⊢;refine zaB (by rw[zaw];simp) ?_;exact⟨_,rfl,q c G hcn g1 sG⟩
noncomputable def zkS (t:Sm) (its:List Itm):Sm × List Itm:=match its.getLast? with
 | some (.jn w s)=>(.two w s t,its.dropLast)
 | _=>(t,its)
theorem ziF (t:Sm) (r:List Itm) (it:Itm):zkS t (r ++ [it])=match it with | .jn w s=>(.two w s t,r) | _=>(t,r ++ [it]):=by
 unfold zkS;rw[zfB];cases it <;> simp
noncomputable def zsS (K:PySem.W.Frag):Sp:=fun vs H Q _=>∃ (v:V) (s:Sm) (b:Addr) (its:List Itm),vs=[v,.ref b]/\Is H v s.d/\zh2 H b its/\its.length<=10000 /\
 ∀ (v':V) (H':Hp),Is H' v' (zkS s its).1.d->zh2 H' b (zkS s its).2->zaJ b H H'->Q v' H'
theorem zoN (T:Txt w K mg):zcD.Ok P w K mg base 1 (zsS K):=by
  refine Rw.ok T.d_Z88.F T.d_Z88.S fun vs H Q E h=>?_
  obtain⟨v,s0,b,its,rfl,hI,hB,hl,q⟩:=h;refine⟨rfl,fun _ _ _ _ hr hu nd=>⟨_,(zab (zay (PW.pt (zcO (zc0 (pv 1) (fun _=>rfl)) (zb5 (zah zcj (zav zaK (zav zas (pv 1) (zhW zeQ zaf) (fun _ _=>rfl)) zaf (fun _ _=>rfl)) (za5 (v := .ref zaZ) (by rfl) T.g_JOINING rfl) rfl)))) (zae (zak (zao zml (zb8 jaf jaQ jaR zdg (pv 1)) (zaE (zaa (pv 0) zad))))) zam)
   (zae (zak (pv 0)))),?_⟩⟩
  rcases zdL its with rfl | ⟨r,it,rfl⟩
  ·refine⟨_,rfl,false,.inl ⟨_,SqL.of hB.nil,rfl⟩,?_⟩;refine zf6 ?_;refine zf6 ?_;exact⟨_,rfl,q v H hI hB (zaJ.refl _ _)⟩
  ·obtain⟨xs,y,hb,hp,hy⟩:=hB.last;rw[ziF] at q;refine⟨_,rfl,true,.inl ⟨_,SqL.of hb,by simp⟩,?_⟩;refine zhL ?_;cases it with
   | nt =>
    obtain⟨p,rfl,h1⟩:=zkt hy;refine⟨_,rfl,_,rfl,b,_,_,_,rfl,rfl,SqL.of hb,zcy _ _,p,_,_,_,rfl,rfl,SqT.of h1,rfl,zaZ,_,rfl,.inr (T.q_JOINING _),rfl,rfl,_,rfl,zaB (by decide) ?_⟩;exact⟨_,rfl,q v H hI hB (zaJ.refl _ _)⟩
   | op =>
    obtain⟨p,rfl,h1⟩:=zkv hy;refine⟨_,rfl,_,rfl,b,_,_,_,rfl,rfl,SqL.of hb,zcy _ _,p,_,_,_,rfl,rfl,SqT.of h1,rfl,zaZ,_,rfl,.inr (T.q_JOINING _),rfl,rfl,_,rfl,zaB (by decide) ?_⟩;exact⟨_,rfl,q v H hI hB (zaJ.refl _ _)⟩
   | jn w s2 =>
    obtain⟨p,x,rfl,h1,h2⟩:=zlt hy;refine⟨_,rfl,_,rfl,b,_,_,_,rfl,rfl,SqL.of hb,zcy _ _,p,_,_,_,rfl,rfl,SqT.of h1,rfl,zaZ,_,rfl,.inr (T.q_JOINING _),rfl,rfl,_,rfl,za4 (zpc w) ?_⟩;refine⟨_,rfl,.inl ⟨rfl,_,SqL.of hb⟩,b,_,.ref p,rfl,rfl,hb,(by simp),?_⟩;rw[jbk];have b1:zaJ b H (upd H b (.lst xs)):=zaJ.upd;refine⟨_,rfl,sl1,fun t ht=>?_⟩;have hpb:p≠b:=fun z=>by rw[z,hb] at h1;cases h1
    have hp1:upd H b (.lst xs) p=some (.tup [.str (wd w),x]):=by rw[zan hpb];exact h1
    have b2:zai (upd H b (.lst xs)) (upd (upd H b (.lst xs)) t (.tup [v])):=zai.upd ht;refine⟨p,t,_,_,rfl,rfl,SqT.of (b2 _ _ hp1),SqT.of zac,by simp,sl3,(fun z=>by cases z),fun _ p' hp'=>?_⟩;have b3:zai (upd (upd H b (.lst xs)) t (.tup [v])) (upd (upd (upd H b (.lst xs)) t (.tup [v])) p' (.tup ([.str (wd w),x] ++ [v]))):=zai.upd hp';have sAll:zaJ b H (upd (upd (upd H b (.lst xs)) t (.tup [v])) p' (.tup ([.str (wd w),x] ++ [v]))):=b1.trans (zaJ.of (b2.trans b3));have kt:=sAll.tups hb;exact q (.ref p') _ (zhj zac (zaX.mpr rfl) (za7 kt h2) (za7 kt hI)) ⟨xs,(b2.trans b3) _ _ zac,zbC kt hp⟩ sAll
noncomputable def zsD (K:PySem.W.Frag):Sp:=fun vs H Q _=>∃ (v:V) (s:Sm) (b:Addr) (its:List Itm) (k:Nat),vs=[v,.ref b]/\Is H v s.d/\zh2 H b (its++List.replicate k .nt)/\zbu zk2 its/\its.length+k<=10000 /\
 ∀ (v':V) (H':Hp),Is H' v' (noK k s).d->zh2 H' b its->zaJ b H H'->Q v' H'
theorem zm2 (T:Txt w K mg):zek.Ok P w K mg base 1 (zsD K):=by
  refine Rw.ok T.d_Z89.F T.d_Z89.S fun vs H Q E h=>?_
  obtain⟨v,s0,b,its,kk,rfl,hI,hB,hn,hl,q⟩:=h;refine⟨rfl,fun _ _ _ _ hr hu nd=>⟨_,(zab (zeT jaG (PW.pt (zcO (zc0 (pv 1) (fun _=>rfl)) (zb5 (zah zaD (zav zaK (zav zas (pv 1) (zhW zeQ zaf) (fun _ _=>rfl)) zaf (fun _ _=>rfl)) zaj (zal _))))) (zae (zaS 0 nd (zao zml (zb8 jaf jaQ jaR zdg (pv 1)) (zaE (zaa (pv 0) zad))))))
   (zae (zak (pv 0)))),?_⟩⟩
  refine⟨fun m σ G=>∃ (v1:V) (s1:Sm) (k:Nat),σ = [some v1,some (.ref b)]/\Is G v1 s1.d/\zh2 G b (its++List.replicate k .nt)/\m=k/\noK k s1=noK kk s0/\k<=kk/\zaJ b H G,⟨kk,v,s0,kk,rfl,hI,hB,rfl,rfl,jag _,zaJ.refl _ _⟩,?_⟩;rintro m σ G ⟨v1,s1,k,rfl,hI1,hB1,rfl,e,hk,sB⟩;cases m with
  | zero =>
   rw[jcO,jaZ] at hB1;have fin:∀ G',G'=G->Q v1 G':=fun G' z=>by rw[z];exact q v1 G (by rw[<- e];exact hI1) hB1 sB
   rcases zdL its with rfl | ⟨r,it,rfl⟩
   ·refine⟨_,rfl,false,.inl ⟨_,SqL.of hB1.nil,rfl⟩,?_⟩;refine zf6 ?_;refine zf6 ?_;exact⟨_,rfl,fin _ rfl⟩
   ·obtain⟨xs,y,hb,hp,hy⟩:=hB1.last;have hne:=hn it (zfB r it);refine⟨_,rfl,true,.inl ⟨_,SqL.of hb,by simp⟩,?_⟩;refine zhL ?_;cases it with
    | nt=>exact absurd trivial hne
    | op =>
     obtain⟨p,rfl,h1⟩:=zkv hy;refine⟨_,rfl,_,rfl,b,_,_,_,rfl,rfl,SqL.of hb,zcy _ _,p,_,_,_,rfl,rfl,SqT.of h1,rfl,rfl,_,rfl,?_⟩;refine zaB (by decide) ?_;exact⟨_,rfl,fin _ rfl⟩
    | jn w s2 =>
     obtain⟨p,x,rfl,h1,h2⟩:=zlt hy;refine⟨_,rfl,_,rfl,b,_,_,_,rfl,rfl,SqL.of hb,zcy _ _,p,_,_,_,rfl,rfl,SqT.of h1,rfl,rfl,_,rfl,?_⟩;refine zaB (fun z=>zkD.2.2 (by have z':=of_decide_eq_true z;injection z')) ?_;exact⟨_,rfl,fin _ rfl⟩
  | succ k =>
   rw[<- zjZ] at hB1;obtain⟨xs,y,hb,hp,hy⟩:=hB1.last;obtain⟨p,rfl,h1⟩:=zkt hy;have hlen:xs.length=its.length+k:=by have:=jaL hp;rw[jab,jbX] at this;exact this
   refine⟨_,rfl,true,.inl ⟨_,SqL.of hb,by simp⟩,?_⟩;refine zhL ?_;refine⟨_,rfl,_,rfl,b,_,_,_,rfl,rfl,SqL.of hb,zcy _ _,p,_,_,_,rfl,rfl,SqT.of h1,rfl,rfl,_,rfl,?_⟩;refine za4 (by decide) ?_;refine⟨fun σ' G'=>∃ (v2:V) (s2:Sm),σ'=[some v2,some (.ref b)]/\Is G' v2 s2.d/\zh2 G' b (its++List.replicate k .nt)/\noK k s2=noK kk s0/\zaJ b H G',fun σ' G' ⟨v2,s2,e1,e2,e3,e4,e5⟩=>⟨k,jdm k,v2,s2,k,e1,e2,e3,rfl,e4,by omega,e5⟩,?_⟩;refine⟨_,rfl,.inl ⟨rfl,_,SqL.of hb⟩,b,_,.ref p,rfl,rfl,hb,(by simp),?_⟩;rw[jbk];have b1:zaJ b G (upd G b (.lst xs)):=zaJ.upd;refine⟨_,rfl,sl1,fun t ht=>?_⟩;have hpb:p≠b:=fun z=>by rw[z,hb] at h1;cases h1
   have hp1:upd G b (.lst xs) p=some (.tup [.str "not"]):=by rw[zan hpb];exact h1
   have b2:zai (upd G b (.lst xs)) (upd (upd G b (.lst xs)) t (.tup [v1])):=zai.upd ht;refine⟨p,t,_,_,rfl,rfl,SqT.of (b2 _ _ hp1),SqT.of zac,by simp,sl2,(fun z=>by cases z),fun _ p' hp'=>?_⟩;have b3:zai (upd (upd G b (.lst xs)) t (.tup [v1])) (upd (upd (upd G b (.lst xs)) t (.tup [v1])) p' (.tup ([.str "not"] ++ [v1]))):=zai.upd hp';have sAll:zaJ b G (upd (upd (upd G b (.lst xs)) t (.tup [v1])) p' (.tup ([.str "not"] ++ [v1]))):=b1.trans (zaJ.of (b2.trans b3));have kt:=sAll.tups hb;exact⟨.ref p',.no s1,rfl,zbU zac (zaX.mpr rfl) (za7 kt hI1),⟨xs,(b2.trans b3) _ _ zac,zbC kt hp⟩,e,sB.trans sAll⟩
noncomputable def zt1 (H:Hp) (v:V):Option Sm->Prop
 | none=>v = .non
 | some s=>Is H v s.d
noncomputable def zrz (K:PySem.W.Frag):Sp:=fun vs H Q _=>∃ (t:List Nat) (b:Addr) (its:List Itm) (st:Mst),vs=[.str (S t),.ref b]/\zh2 H b its/\its.length<=9000/\zjb (none,its) t st /\
 ∀ (v':V) (H':Hp),zt1 H' v' st.1->zh2 H' b st.2->zaJ b H H'->Q v' H'
theorem zmQ:Txt.strip (S [110,111,116,32])=Str.ofString "not" := by decide +kernel
theorem zok:Txt.strip (S [40])=Str.ofString "(" := by decide +kernel
theorem zst (T:Txt w K mg):zen.Ok P w K mg base 2 (zrz K):=by
  refine Rw.ok T.d_Z62.F T.d_Z62.S fun vs H Q E h=>?_
  obtain⟨t,b,its,st,rfl,hB,hl,hst,q⟩:=h;refine⟨rfl,fun _ _ _ _ hr hu nd=>⟨_,(zab (zay (PW.pt (zgN (zah zaD (pv 0) zaj (zal _)) (zeq (zah zaD (pv 0) zaj (zal _))))) (zab (zaU (za9 jaf jap jaq zaM (pv 1) (zaa (zaE (zaa (zb8 jaz PySem.F.slot_str_strip PySem.F.type_str_strip zib (pv 0)) zad)) zad)))
   (zae (zak zcI))) zam)
   (zab (zay (PW.pt (zgN (zah zaD (pv 0) zaj (zal _)) (zeq (zah zaD (pv 0) zaj (zal _))))) (zae (zak (zaN T.d_Z89 (zm2 T) hr (zaa (zaE (zaa zaj (zaa (zbL zdj rfl T.n_int jbv (zaa (pv 0) zad)) zad))) (zaa (pv 1) zad))))) zam)
   (zab (zaS 2 nd (za9 jaz jct jcx zi8 (za5 (v := .str "abcdefghijklmnop") (by rfl) T.g_LETTERS ⟨_,rfl⟩) (zaa (pv 0) zad)))
   (zab (zay (zah zh4 (pv 2) zaf (zal _)) (zae zaW) zam)
   (zae (zak (zaN T.d_Z89 (zm2 T) hr (zaa (zaE (zaa zaj (zaa (pv 2) zad))) (zaa (pv 1) zad))))))))),?_⟩⟩
  have nb:∀ {a c:List Nat},a≠c->¬ decide (V.str (S a)=V.str (S c))=true:=fun h z=>h (by have:=of_decide_eq_true z;injection this with this;exact zbY this)
  cases hst with
  | no its =>
   obtain⟨xs,h1,h2⟩:=hB;refine⟨_,rfl,rfl,_,rfl,za4 (by rw[zd8];exact decide_eq_true rfl) ?_⟩;refine zhL ?_;refine⟨_,rfl,.inl ⟨rfl,_,SqL.of h1⟩,_,rfl,rfl,_,rfl,rfl,(by rw[zaw];show 4<=sizeLine;decide),?_⟩;rw[zmQ];refine⟨sl1,fun t' ht=>?_⟩;have c1:zai H (upd H t' (.tup [.str "not"])):=zai.upd ht;refine⟨b,_,_,rfl,rfl,c1 _ _ h1,(by rw[jaL h2];exact zaF (by omega)),?_⟩;have c2:zaJ b H (upd (upd H t' (.tup [.str "not"])) b (.lst (xs ++ [.ref t']))):=(zaJ.of c1).trans zaJ.upd;have kt:=c2.tups h1;have ntb:t'≠b:=fun z=>by rw[z,h1] at ht;cases ht
   exact q .non _ rfl ⟨xs ++ [.ref t'],zac,zbA (zbC kt h2) (show Is _ _ (.tup [.str "not"]) from zhg (by rw[zan ntb];exact zac) (zaX.mpr rfl))⟩ c2
  | op its =>
   obtain⟨xs,h1,h2⟩:=hB;refine⟨_,rfl,rfl,_,rfl,zaB (by rw[zd8];exact nb (by decide)) ?_⟩;refine⟨_,rfl,rfl,_,rfl,?_⟩;have e40:decide (V.str (S [40])=V.str (Str.ofString "("))=true:=by rw[zh7];exact decide_eq_true rfl
   rw[e40];refine zhL ?_;refine⟨_,rfl,.inl ⟨rfl,_,SqL.of h1⟩,_,rfl,rfl,_,rfl,rfl,(by rw[zaw];show 1<=sizeLine;decide),?_⟩;rw[zok];refine⟨sl1,fun t' ht=>?_⟩;have c1:zai H (upd H t' (.tup [.str "("])):=zai.upd ht;refine⟨b,_,_,rfl,rfl,c1 _ _ h1,(by rw[jaL h2];exact zaF (by omega)),?_⟩;have c2:zaJ b H (upd (upd H t' (.tup [.str "("])) b (.lst (xs ++ [.ref t']))):=(zaJ.of c1).trans zaJ.upd;have kt:=c2.tups h1;have ntb:t'≠b:=fun z=>by rw[z,h1] at ht;cases ht
   exact q .non _ rfl ⟨xs ++ [.ref t'],zac,zbA (zbC kt h2) (show Is _ _ (.tup [.str "("]) from zhg (by rw[zan ntb];exact zac) (zaX.mpr rfl))⟩ c2
  | bit its k j hn hj =>
   refine⟨_,rfl,rfl,_,rfl,zaB (by rw[zd8];exact nb (fun z=>by simp at z)) ?_⟩;refine⟨_,rfl,rfl,_,rfl,zaB (by rw[zh7];exact nb (fun z=>by simp at z;omega)) ?_⟩;refine⟨_,rfl,rfl,_,rfl,zaB (by rw[zes];exact nb (fun z=>by simp at z;omega)) ?_⟩;refine⟨_,rfl,rfl,_,rfl,zaB (by rw[zlT];exact nb (fun z=>by simp at z;omega)) ?_⟩;refine⟨rfl,_,rfl,_,_,rfl,rfl,?_⟩;rw[zb6,zhP j hj];refine⟨_,rfl,_,_,rfl,rfl,_,rfl,zaB (by intro w;have:=of_decide_eq_true w;omega) ?_⟩;refine⟨_,rfl,sl2,fun t' ht=>?_⟩;have c1:zai H (upd H t' (.tup [.str "bit",.int (j:Int)])):=zai.upd ht;exact⟨_,rfl,.ref t',.bit j,b,its,k,rfl,zbU zac (zaX.mpr rfl) (zdX.mpr rfl),hB.keep c1,hn,by simp at hl;omega,fun v' H' i' s' b'=>q v' H' i' s' ((zaJ.of c1).trans b')⟩
  | fix its k c hn hc =>
   refine⟨_,rfl,rfl,_,rfl,zaB (by rw[zd8];exact nb (fun z=>by simp at z)) ?_⟩;refine⟨_,rfl,rfl,_,rfl,zaB (by rw[zh7];exact nb (fun z=>by simp at z;omega)) ?_⟩;rcases hc with rfl | rfl
   ·refine⟨_,rfl,rfl,_,rfl,za4 (by rw[zes];exact decide_eq_true rfl) ?_⟩;refine zhL ?_;refine⟨_,rfl,_,_,rfl,zi7 0 (by decide),(by show 1<=640;decide),sl2,fun t' ht=>?_⟩;have c1:zai H (upd H t' (.tup [.str "fix",.int ((0:Nat):Int)])):=zai.upd ht;exact⟨_,rfl,.ref t',.fix 0,b,its,k,rfl,zbU zac (zaX.mpr rfl) (zdX.mpr rfl),hB.keep c1,hn,by simp at hl;omega,fun v' H' i' s' b'=>q v' H' i' s' ((zaJ.of c1).trans b')⟩
   ·refine⟨_,rfl,rfl,_,rfl,zaB (by rw[zes];exact nb (by decide)) ?_⟩;refine⟨_,rfl,rfl,_,rfl,?_⟩;have e1:decide (V.str (S [48+(1:Int).toNat])=V.str (Str.ofString "1"))=true:=by rw[zlT];exact decide_eq_true rfl
    rw[e1];refine zhL ?_;refine⟨_,rfl,_,_,rfl,zi7 1 (by decide),(by show 1<=640;decide),sl2,fun t' ht=>?_⟩;have c1:zai H (upd H t' (.tup [.str "fix",.int ((1:Nat):Int)])):=zai.upd ht;exact⟨_,rfl,.ref t',.fix 1,b,its,k,rfl,zbU zac (zaX.mpr rfl) (zdX.mpr rfl),hB.keep c1,hn,by simp at hl;omega,fun v' H' i' s' b'=>q v' H' i' s' ((zaJ.of c1).trans b')⟩
theorem znn {w:Nat} (h:w<3):Txt.strip (S ([32]++wdL w ++ [32]))=wd w:=by
 rcases (show w=0\/w=1\/w=2 by omega) with rfl | rfl | rfl <;> decide +kernel
theorem znG:Txt.strip (S [41])=Str.ofString ")" := by decide +kernel
noncomputable def zqu (K:PySem.W.Frag):Sp:=fun vs H Q _=>∃ (t:List Nat) (v:V) (s:Sm) (b:Addr) (its:List Itm) (st:Mst),vs=[.str (S t),v,.ref b]/\Is H v s.d/\zh2 H b its/\its.length<=9000/\zjb (some s,its) t st /\
 ∀ (v':V) (H':Hp),zt1 H' v' st.1->zh2 H' b st.2->zaJ b H H'->Q v' H'
theorem zqK (T:Txt w K mg):zdl.Ok P w K mg base 2 (zqu K):=by
  refine Rw.ok T.d_Z61.F T.d_Z61.S fun vs H Q E h=>?_
  obtain⟨t,v,s0,b,its,st,rfl,hI,hB,hl,hst,q⟩:=h;refine⟨rfl,fun _ _ _ _ hr hu nd=>⟨_,(zab (zaS 3 nd (zb8 jaz PySem.F.slot_str_strip PySem.F.type_str_strip zib (pv 0)))
   (zab (zay (zah zcj (pv 3) (za5 (v := .ref zaZ) (by rfl) T.g_JOINING rfl) rfl) (zab (zdZ (zay (PW.pt (zcO (zc0 (pv 2) (fun _=>rfl)) (zb5 (zah zcj (zav zaK (zav zas (pv 2) (zhW zeQ zaf) (fun _ _=>rfl)) zaf (fun _ _=>rfl)) (za5 (v := .ref zaZ) (by rfl) T.g_JOINING rfl) rfl)))) (zae zaW) zam))
   (zab (zaU (za9 jaf jap jaq zaM (pv 2) (zaa (zaE (zaa (pv 3) (zaa (pv 1) zad))) zad)))
   (zae (zak zcI)))) zam)
   (zab (zay (zah zfe (pv 0) zaj (zal _)) (zae zaW) zam)
   (zab (zaS 1 nd (zaN T.d_Z88 (zoN T) hr (zaa (pv 1) (zaa (pv 2) zad))))
   (zab (zay (zd0 (zc0 (pv 2) (fun _=>rfl))) (zae zaW) zam)
   (zab (zaU (zb8 jaf jaQ jaR zdg (pv 2)))
   (zae (zak (zaN T.d_Z89 (zm2 T) hr (zaa (pv 1) (zaa (pv 2) zad))))))))))),?_⟩⟩
  cases hst with
  | jn its s1 w hn hw =>
   obtain⟨xs,h1,h2⟩:=id hB;have hwl:=zpy w;refine⟨_,rfl,rfl,_,rfl,rfl,(by rw[zaw];exact zds (by simp;omega)),?_⟩;rw[znn hw];refine⟨_,rfl,zaZ,_,rfl,.inr (T.q_JOINING _),rfl,rfl,_,rfl,za4 (zpc w) ?_⟩;refine⟨fun σ' G' => σ'=[some (.str (S ([32]++wdL w ++ [32]))),some v,some (.ref b),some (.str (wd w))]/\G'=H,?_,?_⟩
   ·rcases zdL its with rfl | ⟨r,it,rfl⟩
    ·refine⟨_,rfl,false,.inl ⟨_,SqL.of hB.nil,rfl⟩,?_⟩;refine zf6 ?_;refine zf6 ?_;exact⟨rfl,rfl⟩
    ·obtain⟨xs',y,hb,hp,hy⟩:=hB.last;have hne:=hn it (zfB r it);refine⟨_,rfl,true,.inl ⟨_,SqL.of hb,by simp⟩,?_⟩;refine zhL ?_;cases it with
     | jn w' s'=>exact absurd trivial hne
     | nt =>
      obtain⟨p,rfl,h3⟩:=zkt hy;refine⟨_,rfl,_,rfl,b,_,_,_,rfl,rfl,SqL.of hb,zcy _ _,p,_,_,_,rfl,rfl,SqT.of h3,rfl,zaZ,_,rfl,.inr (T.q_JOINING _),rfl,rfl,_,rfl,zaB (by decide) ?_⟩;exact⟨rfl,rfl⟩
     | op =>
      obtain⟨p,rfl,h3⟩:=zkv hy;refine⟨_,rfl,_,rfl,b,_,_,_,rfl,rfl,SqL.of hb,zcy _ _,p,_,_,_,rfl,rfl,SqT.of h3,rfl,zaZ,_,rfl,.inr (T.q_JOINING _),rfl,rfl,_,rfl,zaB (by decide) ?_⟩;exact⟨rfl,rfl⟩
   ·rintro σ' G' ⟨rfl,rfl⟩;refine⟨_,rfl,.inl ⟨rfl,_,SqL.of h1⟩,_,rfl,_,rfl,sl2,fun t' ht=>?_⟩;have c1:zai G' (upd G' t' (.tup [.str (wd w),v])):=zai.upd ht;refine⟨b,_,_,rfl,rfl,c1 _ _ h1,(by rw[jaL h2];exact zaF (by omega)),?_⟩;have c2:zaJ b G' (upd (upd G' t' (.tup [.str (wd w),v])) b (.lst (xs ++ [.ref t']))):=(zaJ.of c1).trans zaJ.upd;have kt:=c2.tups h1;have ntb:t'≠b:=fun z=>by rw[z,h1] at ht;cases ht
    exact q .non _ rfl ⟨xs ++ [.ref t'],zac,zbA (zbC kt h2) (show Is _ _ (.tup [.str (wd w),s0.d]) from zbU (by rw[zan ntb];exact zac) (zaX.mpr rfl) (za7 kt hI))⟩ c2
  | cl its k w s1 t1 hn hw =>
   have ej:zkS s0 (its++List.replicate k .nt ++ [.op,.jn w s1])=(.two w s1 s0,its++List.replicate k .nt ++ [.op]):=by
    have:its++List.replicate k Itm.nt ++ [.op,.jn w s1]=(its++List.replicate k Itm.nt ++ [.op]) ++ [.jn w s1]:=by simp
    rw[this,ziF]
   refine⟨_,rfl,rfl,_,rfl,rfl,(by rw[zaw];show 1<=sizeLine;decide),?_⟩;rw[znG];refine⟨_,rfl,zaZ,_,rfl,.inr (T.q_JOINING _),rfl,rfl,_,rfl,zaB (by decide) ?_⟩;refine⟨_,rfl,rfl,_,rfl,zaB (by rw[zmT,decide_eq_true rfl];decide) ?_⟩;refine⟨_,rfl,_,rfl,v,s0,b,_,rfl,hI,hB,by simp at hl ⊢;omega,fun v1 H1 i1 st1 b1=>?_⟩;rw[ej] at i1 st1;obtain⟨xs,y,hb,hp,hy⟩:=st1.last;refine⟨_,rfl,true,.inl ⟨_,SqL.of hb,by simp⟩,?_⟩;refine zf6 ?_;refine⟨_,rfl,.inl ⟨rfl,_,SqL.of hb⟩,b,_,y,rfl,rfl,hb,(by simp),?_⟩;rw[jbk];have c1:zaJ b H1 (upd H1 b (.lst xs)):=zaJ.upd;have kt:=c1.tups hb;exact⟨_,rfl,_,rfl,v1,.two w s1 s0,b,its,k,rfl,za7 kt i1,⟨xs,zac,zbC kt hp⟩,hn,by simp at hl;omega,fun v' H' i' s' b'=>q v' H' i' s' (b1.trans (c1.trans b'))⟩
noncomputable def znY (K:PySem.W.Frag):Sp:=fun vs H Q _=>∃ s:Sm,vs=[.str (S (zcq s))]/\s.ok (fun k=>k<16)/\(zcq s).length<=9000/\∀ (v':V) (H':Hp),Is H' v' s.d->zai H H'->Q v' H'
theorem zrb (T:Txt w K mg):zlQ.Ok P w K mg base 3 (znY K):=by
  refine Rw.ok T.d_Z66.F T.d_Z66.S fun vs H Q E h=>?_
  obtain⟨s0,rfl,hok,hl,q⟩:=h;refine⟨rfl,fun _ _ _ _ hr hu nd=>⟨_,(zab (zaS 1 nd (zaG zad))
   (zab (zaS 2 nd zcI)
   (zab (zbs jaG rfl (zaR (zaN T.d_Z80 (zsN T) hr (zaa (pv 0) zad))) (pgn 3 nd)
    (zae (zay (zah zgX (pv 2) zcI (zal _)) (zae (zaS 2 nd (zaN T.d_Z62 (zst T) hr (zaa (pv 3) (zaa (pv 1) zad))))) (zae (zaS 2 nd (zaN T.d_Z61 (zqK T) hr (zaa (pv 3) (zaa (pv 2) (zaa (pv 1) zad)))))))))
   (zab (zay (zah zgX (pv 2) zcI (zal _)) (zae zaW) zam)
   (zab (zaS 2 nd (zaN T.d_Z88 (zoN T) (hr.mono (by decide)) (zaa (pv 2) (zaa (pv 1) zad))))
   (zab (zay (zc0 (pv 1) (fun _=>rfl)) (zae zaW) zam)
   (zae (zak (pv 2))))))))),?_⟩⟩
  obtain⟨e,fits,hrun,hend⟩:=zpF hok;obtain⟨f,f0,fn,fs⟩:=hrun.path;have htx:=(zfx hok).1;have hcut:=(zjU (r:=[]) hok).1 [] (.inl rfl);have htn:(zbk s0).length<=9000:=by have:=zhI hcut;rw[htx] at this;omega
  refine⟨jaE _,fun b hb=>?_⟩;have s1:zai H (upd H b (.lst [])):=zai.upd hb;refine⟨_,rfl,zbk s0,by rw[htx];rfl,hcut,by rw[htx];omega,fun c H1 hc hc1 s2=>?_⟩;have hb1:H1 b=some (.lst []):=s2 _ _ zac;have ncb:c≠b:=fun z=>by rw[z,zac] at hc;cases hc
  refine⟨c,rfl,⟨_,SqL.of hc1⟩,?_⟩;refine zbM (K:=K) (a:=c) (xs:=(zbk s0).map fun t=>V.str (S t)) (fun i σ G=>∃ (v:V) (v3:Option V),σ = [some (.str (S (zcq s0))),some (.ref b),some v,v3]/\zt1 G v (f i).1/\zh2 G b (f i).2/\(f i).2.length<=i/\zaJ b H1 G)
   ⟨.non,none,rfl,(by rw[f0];rfl),(by rw[f0];exact⟨[],hb1,.nil⟩),(by rw[f0];exact jag _),zaJ.refl _ _⟩ (fun i σ G _ ⟨_,_,_,_,_,_,e⟩=>SqL.of (e _ _ ncb hc1)) ?_ ?_
  ·rintro i y σ G hi ⟨v,v3,rfl,g1,g2,g3,g4⟩;rw[jaC] at hi;obtain⟨t,ht,rfl⟩:∃ t,(zbk s0)[i]? = some t/\V.str (S t)=y:=by
    cases e:(zbk s0)[i]? with
    | none=>rw[e] at hi;cases hi
    | some t=>rw[e] at hi;exact⟨t,rfl,jaD hi⟩
   have hst:=fs i t ht;have hil:i<(zbk s0).length:=(jam.mp ht).1;have hsl:=znt hst;unfold zaH;cases hp:(f i).1 with
   | none =>
    rw[hp] at g1;cases (show v = .non from g1);have hst':zjb (none,(f i).2) t (f (i+1)):=by rw[<- hp];exact hst
    refine⟨_,rfl,rfl,_,rfl,za4 (by decide) ?_⟩;refine⟨_,rfl,_,rfl,t,b,(f i).2,f (i+1),rfl,g2,by omega,hst',fun v' G' p' s' b'=>?_⟩;exact⟨v',_,rfl,p',s',by omega,g4.trans b'⟩
   | some s1' =>
    rw[hp] at g1;have hI:Is G v s1'.d:=g1;have hst':zjb (some s1',(f i).2) t (f (i+1)):=by rw[<- hp];exact hst
    refine⟨_,rfl,rfl,_,rfl,zaB (fun z=>zpm hI (of_decide_eq_true z)) ?_⟩;refine⟨_,rfl,_,rfl,_,rfl,t,v,s1',b,(f i).2,f (i+1),rfl,hI,g2,by omega,hst',fun v' G' p' s' b'=>?_⟩;exact⟨v',_,rfl,p',s',by omega,g4.trans b'⟩
  ·rintro σ G ⟨v,v3,rfl,g1,g2,g3,g4⟩;rw[jaa,fn] at g1 g2;have hI:Is G v e.d:=g1;have ej:zkS e fits=(s0,[]):=by
    rcases hend with ⟨rfl,rfl⟩ | ⟨w,a,rfl,rfl⟩
    ·rfl
    ·rfl
   have hfl:fits.length<=1:=by
    rcases hend with ⟨rfl,_⟩ | ⟨w,a,rfl,_⟩
    ·exact jaE _
    ·exact jag _
   refine⟨_,rfl,rfl,_,rfl,zaB (fun z=>zpm hI (of_decide_eq_true z)) ?_⟩;refine⟨_,rfl,_,rfl,v,e,b,fits,rfl,hI,g2,by omega,fun v1 H2 i1 st1 b1=>?_⟩;rw[ej] at i1 st1;refine⟨_,rfl,false,.inl ⟨_,SqL.of st1.nil,rfl⟩,?_⟩;refine zf6 ?_;exact⟨_,rfl,q v1 H2 i1 (zaJ.same (s1.trans s2) (g4.trans b1) hb)⟩
noncomputable def zmd:Sp:=fun vs H Q _=>∃ (v:V) (s:Sm),vs=[v]/\Is H v s.d/\s.dp<=20/\∀ (D:Addr) (xs:List V) (H':Hp),H D=none->H' D=some (.lst xs)->Smr H xs s.pre->zai H H'->Q (.ref D) H'
theorem zoZ (T:Txt w K mg):ze9.Ok P w K mg base 1 zmd:=by
  refine Rw.ok T.d_Z63.F T.d_Z63.S fun vs H Q E h=>?_
  obtain⟨v,s',rfl,hI,hdp,q⟩:=h;refine⟨rfl,fun _ _ _ _ hr hu nd=>⟨_,(zab (zaS 1 nd (zaG zad))
   (zab (zaS 2 nd (zaG (zaa (pv 0) zad)))
   (zab (zeT jaG (zc0 (pv 2) (fun _=>rfl)) (zab (zaS 3 nd (zb8 jaf jaQ jaR zdg (pv 2)))
   (zab (zaU (za9 jaf jap jaq zaM (pv 1) (zaa (pv 3) zad)))
   (zae (zay (PW.pt (zgN (zah zaD (zav zaK (pv 3) zaf (fun _ _=>rfl)) zaj (zal _)) (zeq (zah zcj (zav zaK (pv 3) zaf (fun _ _=>rfl)) (za5 (v := .ref zaZ) (by rfl) T.g_JOINING rfl) rfl)))) (zae (zaU (za9 jaf PySem.F.slot_list_extend PySem.F.type_list_extend zkW (pv 2) (zaa (zbP zrQ (pv 3) (zbo zaf) zc1) zad)))) zam)))))
   (zae (zak (pv 1)))))),?_⟩⟩
  refine⟨jaE _,fun D hD=>?_⟩;refine⟨_,rfl,sl1,fun W hW=>?_⟩;have s0:zai H (upd H D (.lst [])):=zai.upd hD;have s1:zai (upd H D (.lst [])) (upd (upd H D (.lst [])) W (.lst [v])):=zai.upd hW;have hDW:D≠W:=fun z=>by rw[<- z,zac] at hW;cases hW
  have hW0:H W=none:=s0.free hW;refine⟨fun m σ G=>∃ (ps ws:List V) (dn td:List Sm) (v3:Option V),σ = [some v,some (.ref D),some (.ref W),v3]/\G D=some (.lst ps)/\G W=some (.lst ws)/\Smr H ps dn/\Smr H ws td/\dn++(td.reverse.flatMap Sm.pre)=s'.pre/\(td.map Sm.sz).sum=m/\zai H G,
   ⟨s'.sz,[],[v],[],[s'],none,rfl,s1 _ _ zac,zac,.nil,.cons hI .nil,by simp,by simp,s0.trans s1⟩,?_⟩
  rintro m σ G ⟨ps,ws,dn,td,v3,rfl,g1,g2,g3,g4,g5,g6,sG⟩;refine⟨_,rfl,_,.inl ⟨ws,SqL.of g2,rfl⟩,?_⟩;have hpl:ps.length=dn.length:=jaL g3;have hdl:dn.length+(td.reverse.flatMap Sm.pre).length=s'.sz:=by rw[<- Sm.pre_len,<- g5,jab]
  have hsm:=zih hdp;by_cases hne:ws=[]
  ·refine zaB (by rw[hne];simp) ?_;have e:td=[]:=by subst hne;cases g4;rfl
   subst e;exact⟨_,rfl,q D ps G hD g1 (by rw[<- g5];simpa using g3) sG⟩
  ·refine za4 (by simpa using hne) ?_;obtain⟨ys,y,td',p,rfl,rfl,h1,h2⟩:=Smr.last g4 hne;have hyl:ys.length=td'.length:=jaL h1;have htl:td'.length+p.sz<=((td' ++ [p]).reverse.flatMap Sm.pre).length:=by
    rw[jbe,List.reverse_singleton,List.singleton_append,jaY,jab,Sm.pre_len]
    have:∀ l:List Sm,l.length<=(l.flatMap Sm.pre).length:=fun l=>by
     induction l with
     | nil=>exact jag _
     | cons a l ih =>
      rw[jaY,jab,Sm.pre_len,jae]
      have:=a.sz_pos
      omega
    have:=this td'.reverse
    rw[jcK] at this;omega
   have hpz:=p.sz_pos;refine⟨_,fun σ' G' z=>z,?_⟩;refine⟨_,rfl,.inl ⟨rfl,_,SqL.of g2⟩,W,ys ++ [y],y,rfl,rfl,g2,(by simp),?_⟩;have sG1:=sG.write (o := .lst (ys ++ [y]).dropLast) hW0;have w1:upd G W (.lst (ys ++ [y]).dropLast) W=some (.lst ys):=by rw[zac,jbk]
   have w2:upd G W (.lst (ys ++ [y]).dropLast) D=some (.lst ps):=by rw[zan hDW];exact g1
   generalize upd G W (.lst (ys ++ [y]).dropLast)=G1 at sG1 w1 w2 ⊢;refine⟨_,rfl,.inl ⟨rfl,_,SqL.of w2⟩,_,rfl,D,_,_,rfl,rfl,w2,zem (by omega),?_⟩;have sG2:=sG1.write (o := .lst (ps ++ [y])) hD;have w3:upd G1 D (.lst (ps ++ [y])) D=some (.lst (ps ++ [y])):=zac;have w4:upd G1 D (.lst (ps ++ [y])) W=some (.lst ys):=by rw[zan (Ne.symm hDW)];exact w1
   generalize upd G1 D (.lst (ps ++ [y]))=G2 at sG2 w3 w4 ⊢;have hps:=Smr.snoc g3 h2;cases p with
   | bit k =>
    obtain⟨p,rfl,hp⟩:=zfn (h2.keep sG2);refine⟨_,rfl,p,_,_,_,rfl,rfl,SqT.of hp,rfl,rfl,_,rfl,zaB (by decide) ?_⟩;refine⟨_,rfl,p,_,_,_,rfl,rfl,SqT.of hp,rfl,zaZ,_,rfl,.inr (T.q_JOINING _),rfl,rfl,_,rfl,zaB (by decide) ?_⟩;refine⟨(td'.map Sm.sz).sum,?_,ps ++ [.ref p],ys,dn ++ [.bit k],td',_,rfl,w3,w4,hps,h1,?_,rfl,sG2⟩
    ·rw[<- g6,jac,jbr];simp[Sm.sz]
    ·rw[<- g5,jbe];simp[Sm.pre]
   | fix c =>
    obtain⟨p,rfl,hp⟩:=zfo (h2.keep sG2);refine⟨_,rfl,p,_,_,_,rfl,rfl,SqT.of hp,rfl,rfl,_,rfl,zaB (by decide) ?_⟩;refine⟨_,rfl,p,_,_,_,rfl,rfl,SqT.of hp,rfl,zaZ,_,rfl,.inr (T.q_JOINING _),rfl,rfl,_,rfl,zaB (by decide) ?_⟩;refine⟨(td'.map Sm.sz).sum,?_,ps ++ [.ref p],ys,dn ++ [.fix c],td',_,rfl,w3,w4,hps,h1,?_,rfl,sG2⟩
    ·rw[<- g6,jac,jbr];simp[Sm.sz]
    ·rw[<- g5,jbe];simp[Sm.pre]
   | no s1 =>
    obtain⟨p,x,rfl,hp,hx⟩:=zhy (h2.keep sG2);have hxH:Is H x s1.d:=by
     obtain⟨p',x',e',hp',hx'⟩:=zhy h2;cases e'
     have:=sG2 _ _ hp'
     rw[hp] at this;cases this;exact hx'
    refine⟨_,rfl,p,_,_,_,rfl,rfl,SqT.of hp,rfl,rfl,_,rfl,za4 (by decide) (zhL ?_)⟩;refine⟨_,rfl,.inl ⟨rfl,_,SqL.of w4⟩,_,rfl,_,rfl,p,_,rfl,SqT.of hp,(by show ¬ (1=0/\_);exact fun z=>absurd z.1 (by decide)),fun t ht=>?_⟩;have st:zai G2 (upd G2 t (.tup [x])):=zai.upd ht;have wt:upd G2 t (.tup [x]) t=some (.tup [x]):=zac;refine⟨W,t,ys,[x],rfl,rfl,st _ _ w4,SqT.of wt,(by show ys.length+1<=sizeLine;exact zem (by omega)),?_⟩;refine⟨((td' ++ [s1]).map Sm.sz).sum,?_,ps ++ [.ref p],ys ++ [x],dn ++ [.no s1],td' ++ [s1],_,rfl,(by rw[zan hDW];exact st _ _ w3),zac,hps,Smr.snoc h1 hxH,?_,rfl,(sG2.trans st).write hW0⟩
    ·rw[<- g6,jac,jac,jbr,jbr];simp[Sm.sz]
    ·rw[<- g5,jbe,jbe];simp[Sm.pre]
   | two j s1 s2 =>
    obtain⟨p,x,z,rfl,hp,hx,hz⟩:=zeN (h2.keep sG2);obtain⟨hxH,hzH⟩:Is H x s1.d/\Is H z s2.d:=by
     obtain⟨p',x',z',e',hp',hx',hz'⟩:=zeN h2;cases e'
     have:=sG2 _ _ hp'
     rw[hp] at this;cases this;exact⟨hx',hz'⟩
    obtain⟨n1,n2,n3⟩:=zkD (w:=j);have hsz:(Sm.two j s1 s2).sz=s1.sz+s2.sz+1:=rfl;have hz1:=s1.sz_pos;have hz2:=s2.sz_pos;refine⟨_,rfl,p,_,_,_,rfl,rfl,SqT.of hp,rfl,rfl,_,rfl,zaB (by simpa using n3) ?_⟩;refine⟨_,rfl,p,_,_,_,rfl,rfl,SqT.of hp,rfl,zaZ,_,rfl,.inr (T.q_JOINING _),rfl,rfl,_,rfl,za4 (zty j) ?_⟩;refine⟨_,rfl,.inl ⟨rfl,_,SqL.of w4⟩,_,rfl,_,rfl,p,_,rfl,SqT.of hp,(by show ¬ (1=0/\_);exact fun z=>absurd z.1 (by decide)),fun t ht=>?_⟩;have st:zai G2 (upd G2 t (.tup [x,z])):=zai.upd ht;have wt:upd G2 t (.tup [x,z]) t=some (.tup [x,z]):=zac;refine⟨W,t,ys,[x,z],rfl,rfl,st _ _ w4,SqT.of wt,(by show ys.length+2<=sizeLine;exact zem (by omega)),?_⟩;refine⟨((td' ++ [s1,s2]).map Sm.sz).sum,?_,ps ++ [.ref p],ys ++ [x,z],dn ++ [.two j s1 s2],td' ++ [s1,s2],_,rfl,(by rw[zan hDW];exact st _ _ w3),zac,hps,?_,?_,rfl,(sG2.trans st).write hW0⟩
    ·rw[<- g6,jac,jac,jbr,jbr];simp[Sm.sz]
    ·have:=Smr.snoc (Smr.snoc h1 hxH) hzH
     rwa [jaP,jaP] at this
    ·rw[<- g5,jbe,jbe];simp[Sm.pre]
noncomputable def zte (K:PySem.W.Frag):Sp:=fun vs H Q _=>∃ (a:Addr) (l:zag),vs=[.ref a]/\TL K H a l/\(∀ t∈l,0<=t.1)/\Q (.int (zca l 0:Nat)) H
theorem zoW (T:Txt w K mg):zfg.Ok P w K mg base 1 (zte K):=by
  refine Rw.ok T.d_Z83.F T.d_Z83.S fun vs H Q E h=>?_
  obtain⟨a,l,rfl,⟨ps,hS,hT⟩,h0,q⟩:=h;refine⟨rfl,fun _ _ _ _ hr hu nd=>⟨_,(zab (zaS 1 nd zaf)
   (zab (zbs jaG rfl (zaR (pv 0)) (zbe (n:=2) rfl (zap (pgn 2 nd) (zap (pgn 3 nd) zaT)))
    (zae (zaS 1 nd (zao zoy (pv 1) (pv 2)))))
   (zae (zak (pv 1))))),?_⟩⟩
  refine⟨_,rfl,a,rfl,⟨_,hS⟩,?_⟩;refine zbM (K:=K) (a:=a) (xs:=ps.map V.ref) (fun i σ H2=>∃ (v2 v3:Option V),σ = [some (.ref a),some (.int (zca (l.take i) 0:Nat)),v2,v3]/\H2=H)
   ⟨none,none,rfl,rfl⟩ (fun i σ H2 _ ⟨_,_,_,e⟩=>by rw[e];exact hS) ?_ ?_
  ·rintro i y σ H2 hi ⟨v2,v3,rfl,rfl⟩;obtain⟨p,hpi,rfl⟩:=zcG hi;obtain⟨t,ht1,ht2⟩:=hT.at' hpi;have htm:=jao ht1;have htk:l.take (i+1)=l.take i ++ [t]:=by rw[jaI,ht1];rfl
   have e:((t.1.toNat:Nat):Int)=t.1:=ja5 (h0 t htm);refine⟨p,_,rfl,SqT.of ht2,rfl,_,_,rfl,_,_,rfl,rfl,?_⟩;refine⟨_,rfl,_,rfl,_,_,rfl,rfl,some (.int t.1),some (.int t.2),?_,rfl⟩;rw[htk,zg8];show [some (.ref a),some (V.int (Builtin.bitOr ((zca (l.take i) 0:Nat):Int) t.1)),_,_]=_;rw[<- e,zfV,e]
  ·rintro σ H2 ⟨v2,v3,rfl,rfl⟩;refine⟨_,rfl,?_⟩;rw[jaa,hT.length,jaK];exact q
noncomputable def zlD (K:PySem.W.Frag):Sp:=fun vs H Q _=>∃ (p r:Addr) (l o:zag) (M:Nat),vs=[.ref p,.ref r]/\TLo H p l/\TLo H r o/\(∀ t∈l,0<=t.1/\t.1<2^M)/\(∀ t∈o,0<=t.1/\t.1<2^M)/\l.length<=32/\o.length<=32/\M<=16/\(∀ m:Nat,(∀ t∈l,0<=t.1/\t.1<2^m)->(∀ t∈o,0<=t.1/\t.1<2^m)->l.length * o.length<=(m+1) * 2^m)/\Q .non H
theorem zrl (T:Txt w K mg):zcl.Ok P w K mg base 2 (zlD K):=by
  refine Rw.ok T.d_Z59.F T.d_Z59.S fun vs H Q E h=>?_
  obtain⟨p,r,l,o,M,rfl,hp2,hr2,hl,ho,ll,lo,hM,hth,q1⟩:=h;refine⟨rfl,fun _ _ _ _ hr hu nd=>⟨_,(zab (zaS 2 nd (zb8 PySem.F.plainAttrs_int jci jcj zeI (zao zoy (zaN T.d_Z83 (zoW T) hr (zaa (pv 0) zad)) (zaN T.d_Z83 (zoW T) hr (zaa (pv 1) zad)))))
   (zab (zay (zah zjB (zao zbi (zar zaz (by rfl) T.n_len jaF (zaa (pv 0) zad)) (zar zaz (by rfl) T.n_len jaF (zaa (pv 1) zad))) (zao zbi (zao zbx (pv 2) zaf) (zaN T.d_Z4 (zlC T) hr (zaa (pv 2) zad))) (zal _)) (zae (zak zcI)) zam)
   (zae zaW))),?_⟩⟩
  have u1:=zjG hl;have u2:=zjG ho;refine⟨_,rfl,p,l,rfl,hp2.tl,(fun t ht=>(hl t ht).1),?_⟩;refine⟨_,rfl,r,o,rfl,hr2.tl,(fun t ht=>(ho t ht).1),_,_,rfl,rfl,rfl,_,rfl,rfl,?_⟩;have eor:Builtin.bitOr ((zca l 0:Nat):Int) ((zca o 0:Nat):Int)=((zca l 0 ||| zca o 0:Nat):Int):=zfV _ _;have hmany:Builtin.Int.intBits (Builtin.bitOr ((zca l 0:Nat):Int) ((zca o 0:Nat):Int))<=M:=by
   rw[eor];exact zff (Nat.or_lt_two_pow u1 u2)
  have kl:=zii (U:=zca l 0 ||| zca o 0) (fun t ht=>(hl t ht).1) fun j hj=>by rw[jbN,hj];rfl
  have ko:=zii (U:=zca l 0 ||| zca o 0) (fun t ht=>(ho t ht).1) fun j hj=>by rw[jbN,hj,Bool.or_true]
  rw[<- eor] at kl ko;generalize Builtin.Int.intBits (Builtin.bitOr ((zca l 0:Nat):Int) ((zca o 0:Nat):Int))=many at hmany kl ko;obtain⟨pa,hpa1,hpa2⟩:=id hp2;obtain⟨pc,hpc1,hpc2⟩:=id hr2;have la:=hpa2.length;have lc:=hpc2.length;refine⟨_,rfl,p,_,rfl,.inl (SqL.of hpa1),_,rfl,r,_,rfl,.inl (SqL.of hpc1),_,_,rfl,rfl,ziX (by rw[jaa];omega) (by rw[jaa];omega),?_⟩;refine⟨_,rfl,_,_,rfl,rfl,_,rfl,many,rfl,by omega,_,_,rfl,rfl,ziX (by have:=jaM many;omega) (by omega),_,_,rfl,rfl,_,rfl,?_⟩;have h:=hth many kl ko;refine za4 (decide_eq_true ?_) q1;rw[jaa,jaa,la,lc];exact_mod_cast h
noncomputable def zmZ (K:PySem.W.Frag):Sp:=fun vs H Q _=>∃ (a b:Addr) (l o:zag) (w:Nat),vs=[.str (wd w),.ref a,.ref b]/\TLo H a l/\TLo H b o/\w<3/\l.length+o.length+l.length * o.length<=100000/\zgF (l++o)/\(∀ t∈l,∀ u∈o,IntMulOk t.2 u.2) /\
 ∀ (c:Addr) (f:zag) (H':Hp),H c=none->TLo H' c f->zax f (zcN w l o)->zai H H'->Q (.ref c) H'
theorem zsw (T:Txt w K mg):zhR.Ok P w K mg base 4 (zmZ K):=by
  refine Rw.ok T.d_Z25.F T.d_Z25.S fun vs H Q E h=>?_
  obtain⟨a,b,l,o,w',rfl,hT,hTo,hw,hlen,h5,hmul,q⟩:=h;refine⟨rfl,fun _ _ _ _ hr hu nd=>⟨_,(zab (zaS 3 nd (zaN T.d_Z78 (zj2 T) (hr.mono (by decide)) (zaa (pv 1) (zaa (pv 2) zad))))
   (zab (zay (zah zaD (pv 0) zaj (zal _)) (zae (zak (pv 3))) zam)
   (zab (zaS 4 nd (zfK (zah zaD (pv 0) zaj (zal _)) (zhW zeQ zaf) (zhW zeQ zaf)))
   (zae (zak (zaN T.d_Z64 (zhe T) hr (zaa (zaN T.d_Z64 (zhe T) hr (zaa (pv 1) (zaa (pv 2) zad))) (zaa (zaN T.d_Z71 (zoU T) hr (zaa (pv 3) (zaa (pv 4) zad))) zad)))))))),?_⟩⟩
  obtain⟨zs,z5,zz⟩:=id h5;have zl:K5 zs l:=fun t ht=>zz t (ja4 _ ht)
  have zo:K5 zs o:=fun t ht=>zz t (jaA _ ht)
  refine⟨_,rfl,_,rfl,a,b,l,o,rfl,hT.tl,hTo.tl,by omega,⟨zs,z5,zl.prod zo⟩,hmul,fun c p H1 hc hT1 hF1 hl1 s1=>?_⟩;have comb:∀ (n:Int) (f g h:zag),w'≠0->n=(if w'=1 then -1 else -2)->zax g (l++o)->zax h (p.map fun t=>(t.1,t.2 * n))->zax f (g++h)->zax f (zcN w' l o):=fun n f g h hw0 hn hg hh hf=>by
   have ec:∀ k,za8 (g++h) k=za8 (zcN w' l o) k:=fun k=>by
    unfold zcN;rw[if_neg hw0,zaq,zaq,hg.val,hh.val,<- hn];have e:∀ (x:zag),za8 (x.map fun t=>(t.1,t.2 * n)) k=za8 x k * n:=fun x=>by
     rw[zdR,zdR,zfO]
    rw[e,e,hF1.val]
   refine⟨hf.toIsForm,fun k=>by rw[hf.val,ec],fun t ht=>?_⟩;have h1:=hf.src t ht;unfold zcN;rw[if_neg hw0,jac,jah];rw[jac,jah] at h1;rcases h1 with z | z
   ·obtain⟨u,hu,e⟩:=jau.mp z;exact .inl (by rw[<- e];exact hg.src u hu)
   ·obtain⟨u,hu,e⟩:=jau.mp z;have h2:=hh.src u hu;rw[ja3] at h2 ⊢;obtain⟨v,hv,e2⟩:=jau.mp h2;have h3:=hF1.src v hv;obtain⟨x,hx,e3⟩:=jau.mp h3;exact .inr (jau.mpr ⟨x,hx,by rw[<- e,<- e2];exact e3⟩)
  obtain rfl | rfl | rfl:w'=0\/w'=1\/w'=2:=by omega
  ·refine⟨_,rfl,rfl,_,rfl,za4 (by decide) ?_⟩;exact⟨_,rfl,q c p H1 hc hT1 (by unfold zcN;rw[if_pos rfl];exact hF1) s1⟩
  ·refine⟨_,rfl,rfl,_,rfl,zaB (by decide) ?_⟩;refine⟨_,rfl,rfl,_,rfl,za4 (by decide) ⟨_,rfl,?_⟩⟩;refine⟨_,rfl,_,rfl,a,b,l,o,rfl,hT.keep s1,hTo.keep s1,by omega,h5,fun x g H2 hx hT2 hF2 hl2 s2=>?_⟩;refine⟨_,rfl,_,rfl,c,p,(-1),rfl,(hT1.keep s2).tl,by omega,⟨zs,z5,(zl.prod zo).of hF1⟩,(fun t _=>zlM (by decide) (by decide)),fun y h H3 hy hT3 hF3 hl3 s3=>?_⟩;refine⟨x,y,g,h,rfl,hT2.keep s3,hT3,by omega,⟨zs,z5,(K5.of (zl.app zo) hF2).app (K5.of (((zl.prod zo).of hF1).map _) hF3)⟩,fun z f H4 hz hT4 hF4 hl4 s4=>?_⟩;exact q z f H4 (s1.free (s2.free (s3.free hz))) hT4 (comb (-1) f g h (by decide) rfl hF2 hF3 hF4) (s1.trans (s2.trans (s3.trans s4)))
  ·refine⟨_,rfl,rfl,_,rfl,zaB (by decide) ?_⟩;refine⟨_,rfl,rfl,_,rfl,zaB (by decide) ⟨_,rfl,?_⟩⟩;refine⟨_,rfl,_,rfl,a,b,l,o,rfl,hT.keep s1,hTo.keep s1,by omega,h5,fun x g H2 hx hT2 hF2 hl2 s2=>?_⟩;refine⟨_,rfl,_,rfl,c,p,(-2),rfl,(hT1.keep s2).tl,by omega,⟨zs,z5,(zl.prod zo).of hF1⟩,(fun t _=>zlM (by decide) (by decide)),fun y h H3 hy hT3 hF3 hl3 s3=>?_⟩;refine⟨x,y,g,h,rfl,hT2.keep s3,hT3,by omega,⟨zs,z5,(K5.of (zl.app zo) hF2).app (K5.of (((zl.prod zo).of hF1).map _) hF3)⟩,fun z f H4 hz hT4 hF4 hl4 s4=>?_⟩;exact q z f H4 (s1.free (s2.free (s3.free hz))) hT4 (comb (-2) f g h (by decide) rfl hF2 hF3 hF4) (s1.trans (s2.trans (s3.trans s4)))
noncomputable def ztY (K:PySem.W.Frag):Sp:=fun vs H Q _=>∃ (b:Addr) (p:Sm) (w:Str) (fs:List zag) (ls:List Nat),vs=[.str w,.ref b]/\zpX p w fs/\p.ok (fun k=>k∈ls)/\p.ln<=5/\ls.length<=5/\(∀ x∈ls,x<16)/\FLo H b fs /\
 ∀ (c:Addr) (f:zag) (H':Hp),H c=none->TLo H' c f->zax f p.tl->zai H H'->Q (.ref c) H'
theorem zpg (T:Txt w K mg):zcE.Ok P w K mg base 5 (ztY K):=by
  refine Rw.ok T.d_Z13.F T.d_Z13.S fun vs H Q E h=>?_
  obtain⟨b,p0,wo,fs,ls,rfl,hP,hok,hln,hl5,h16,hFL,q⟩:=h;refine⟨rfl,fun _ _ _ _ hr hu nd=>⟨_,(zab (zay (zah zaD (pv 0) zaj (zal _)) (zae (zak (zaN T.d_Z55 (zpp T) hr (zaa (zaG (zaa (zaE (zaa zaf (zaa zaf zad))) zad)) (zaa (zav zas (pv 1) zaf (fun _ _=>rfl)) zad))))) zam)
   (zab (zaS 2 nd (zaN T.d_Z59 (zrl T) (hr.mono (by decide)) (zaa (zav zas (pv 1) zaf (fun _ _=>rfl)) (zaa (zav zas (pv 1) zaf (fun _ _=>rfl)) zad))))
   (zab (zay (zah zgX (pv 2) zcI (zal _)) (zae (zak (zaN T.d_Z25 (zsw T) hr (zaa (pv 0) (zaa (zav zas (pv 1) zaf (fun _ _=>rfl)) (zaa (zav zas (pv 1) zaf (fun _ _=>rfl)) zad)))))) zam)
   (zae zaW)))),?_⟩⟩
  have k5:∀ {s:Sm}{f:zag},s.ok (fun k=>k∈ls)->zax f s.tl->K5 ls f/\f.length<2^s.ln/\(s.ln<=5->f.length<32):=fun {s f} h hF=>by
   have h1:=zax.cnt hF;have h2:=zik s;exact⟨(zjc h).of hF,by omega,fun z=>by have:=jaH (show 2 > 0 by decide) z;omega⟩
  cases p0 with
  | bit _=>exact hP.elim
  | fix _=>exact hP.elim
  | no s0 =>
   obtain⟨rfl,l,rfl,hF⟩:=hP;have hln':s0.ln+1<=5:=hln;obtain⟨ps,hb,hQ⟩:=hFL;cases hQ with
   | cons hp2 r =>
   cases r;rename_i p;obtain⟨kl,_,ll⟩:=k5 (s:=s0) hok hF;have ll:=ll (by omega);refine⟨_,rfl,rfl,_,rfl,za4 (by decide) ?_⟩;refine⟨sl2,fun t1 ht1=>⟨sl1,fun e1 he1=>?_⟩⟩;have b1:zai H (upd H t1 (.tup [.int 0,.int 1])):=zai.upd ht1;have b2:zai (upd H t1 (.tup [.int 0,.int 1])) (upd (upd H t1 (.tup [.int 0,.int 1])) e1 (.lst [.ref t1])):=zai.upd he1;have B:=b1.trans b2;refine⟨_,rfl,b,_,_,_,rfl,rfl,SqL.of (B _ _ hb),rfl,e1,p,[(0,1)],l,rfl,⟨[t1],zac,.cons (b2 _ _ zac) .nil⟩,hp2.keep B,(by show 1+l.length<=100000;omega),⟨ls,hl5,(zky 1).app kl⟩,fun c f H2 hc hT2 hI2 hv2 hl2 s2=>?_⟩;exact q c f H2 (B.free hc) hT2 (zjP hF hI2 hv2) (B.trans s2)
  | two w s0 t0 =>
   obtain⟨rfl,hw,l,o,rfl,hFl,hFo⟩:=hP;obtain⟨_,ok1,ok2⟩:=hok;have hln':s0.ln+t0.ln<=5:=hln;obtain⟨ps,hb,hQ⟩:=hFL;cases hQ with
   | cons hp2 r =>
   cases r with
   | cons hr2 r =>
   cases r;rename_i p r;obtain⟨kl,lz,ll⟩:=k5 ok1 hFl;obtain⟨ko,oz,lo⟩:=k5 ok2 hFo;have ll:=ll (by omega);have lo:=lo (by omega);have hll:l.length * o.length<=32 * 32:=jaS (by omega) (by omega);obtain⟨_,_,n3⟩:=zkD (w:=w);refine⟨_,rfl,rfl,_,rfl,zaB (by simpa using n3) ?_⟩;refine⟨_,rfl,b,_,_,_,rfl,rfl,SqL.of hb,rfl,_,rfl,b,_,_,_,rfl,rfl,SqL.of hb,rfl,p,r,l,o,16,rfl,hp2,hr2,kl.low h16,ko.low h16,by omega,by omega,by decide,(fun m k1 k2=>zvS lz oz hln' (zkl hFl.toIsForm k1) (zkl hFo.toIsForm k2)),?_⟩;refine⟨_,rfl,rfl,_,rfl,za4 (by decide) ?_⟩;refine⟨_,rfl,_,rfl,b,_,_,_,rfl,rfl,SqL.of hb,rfl,_,rfl,b,_,_,_,rfl,rfl,SqL.of hb,rfl,p,r,l,o,w,rfl,hp2,hr2,hw,(by omega),⟨ls,hl5,kl.app ko⟩,(fun t ht u hu=>zfl (zcL ok1 (by omega) hFl t ht) (zcL ok2 (by omega) hFo u hu)),fun d f H2 hd hT2 hF2 s2=>?_⟩;exact q d f H2 hd hT2 (zij hFl hFo hF2) s2
noncomputable def zmj (K:PySem.W.Frag) (d:Nat):Sp:=fun vs H Q _=>∃ (v:V) (s:Sm) (ls:List Nat),vs=[v]/\Is H v s.d/\s.ok (fun k=>k∈ls)/\s.dp<d/\s.dp<=20/\ls.length<=5/\(∀ x∈ls,x<16)/\s.ln<=5 /\
 ∀ (b:Addr) (f:zag) (H':Hp),H b=none->TLo H' b f->zax f s.tl->zai H H'->Q (.ref b) H'
theorem zrs (T:Txt w K mg):zbB.Ok P w K mg base 6 (zmj K 22):=by
  refine Rw.ok T.d_Z11.F T.d_Z11.S fun vs H Q E h=>?_
  obtain⟨v,s',ls,rfl,hI,hok,hd,hsz,hl5,hl16,hln,q⟩:=h;refine⟨rfl,fun _ _ _ _ hr hu nd=>⟨_,(zab (zaS 1 nd (zaG zad))
   (zab (zbs jaG rfl (zjC rfl T.n_reversed (zaa (zaN T.d_Z63 (zoZ T) (hr.mono (by decide)) (zaa (pv 0) zad)) zad)) (pgn 2 nd)
    (zab (zaS 3 nd (zav zaK (pv 2) zaf (fun _ _=>rfl)))
   (zae (zay (zah zaD (pv 3) zaj (zal _)) (zae (zaU (za9 jaf jap jaq zaM (pv 1) (zaa (zaG (zaa (zaE (zaa (zaN T.d_Z4 (zlC T) (hr.mono (by decide)) (zaa (zav zaK (pv 2) zaf (fun _ _=>rfl)) zad)) (zaa zaf zad))) zad)) zad)))) (zae (zay (zah zaD (pv 3) zaj (zal _)) (zae (zaU (za9 jaf jap jaq zaM (pv 1) (zaa (zaN T.d_Z58 (zli T) (hr.mono (by decide)) (zaa (zaG (zaa (zaE (zaa zaf (zaa (zav zaK (pv 2) zaf (fun _ _=>rfl)) zad))) zad)) zad)) zad)))) (zae (zay (zah zaD (pv 3) zaj (zal _)) (zae (zaU (za9 jaf jap jaq zaM (pv 1) (zaa (zaN T.d_Z13 (zpg T) hr (zaa (pv 3) (zaa (zaG (zaa (zb8 jaf jaQ jaR zdg (pv 1)) zad)) zad))) zad)))) (zab (zaS 4 nd (zb8 jaf jaQ jaR zdg (pv 1)))
   (zae (zaU (za9 jaf jap jaq zaM (pv 1) (zaa (zaN T.d_Z13 (zpg T) hr (zaa (pv 3) (zaa (zaG (zaa (zb8 jaf jaQ jaR zdg (pv 1)) (zaa (pv 4) zad))) zad))) zad)))))))))))))
   (zae (zak (zav zas (pv 1) zaf (fun _ _=>rfl)))))),?_⟩⟩
  refine⟨jaE _,fun C hC=>?_⟩;have s0:zai H (upd H C (.lst [])):=zai.upd hC;refine⟨_,rfl,v,s',rfl,hI.keep s0,hsz,fun D xs H1 hD hX hS s1=>⟨D,xs,rfl,SqL.of hX,?_⟩⟩;have hSH:Smr H xs s'.pre:=Paired.mapP hS fun x p e=>za7 (fun a ys z=>by
   by_cases y:a=C
   ·rw[y,zac] at z;cases z
   ·rw[zan y] at z;exact z) e
  have hDC:D≠C:=fun z=>by rw[z,zac] at hD;cases hD
  have hxl:xs.length=s'.sz:=by rw[<- Sm.pre_len];exact jaL hSH
  have hsm:=zih hsz;refine zqe (K:=K) (a:=D) (xs:=xs) (fun i σ G=>∃ (qs:List Addr) (fl:List zag) (st:List Sm) (v2 v3 v4:Option V),σ = [some v,some (.ref C),v2,v3,v4]/\G C=some (.lst (qs.map V.ref))/\Fms G qs fl/\Paired FoC st fl/\zp6 [s'] st (s'.pre.reverse.drop i)/\st.length<=i/\(∀ p∈qs,H p=none/\p≠C)/\G D=some (.lst xs)/\zai H G)
   ⟨[],[],[],none,none,none,rfl,s1 _ _ zac,.nil,.nil,(by have:=zep (fin:=[s']) s' [] [] rfl;rwa [jaZ] at this),jag _,(fun p hp=>by cases hp),hX,s0.trans s1⟩
   (fun i σ G _ ⟨_,_,_,_,_,_,_,_,_,_,_,_,_,e,_⟩=>SqL.of e) ?_ ?_
  ·rintro i y σ G hi ⟨qs,fl,st,v2,v3,v4,rfl,g1,g2,g3,g4,g5,g6,g7,sG⟩;obtain⟨p,hp1,hp2⟩:=hSH.rev.at hi;have hpo:=Sm.pre_ok hok p (List.mem_reverse.mp (jao hp1));have hlp:=jak (Sm.ln_pre (List.mem_reverse.mp (jao hp1))) hln;have hil:i<s'.sz:=by
    have:=(jam.mp hi).1
    rw[jcK] at this;omega
   have hdr:s'.pre.reverse.drop i=p :: s'.pre.reverse.drop (i+1):=by
    obtain⟨h1,h2⟩:=jam.mp hp1;rw[jbC h1,h2]
   rw[hdr] at g4;obtain⟨st',hN,hR⟩:=g4;have hql:=g2.length;have hfl:st.length=fl.length:=jaL g3;have put:∀ {G2:Hp}{e:Addr}{f:zag}{qa:List Addr}{fa:List zag}{sa:List Sm},G2 C=some (.lst (qa.map V.ref))->Fms G2 qa fa->Paired FoC sa fa->(∀ p∈qa,H p=none/\p≠C)->G2 D=some (.lst xs)->zai H G2->sa.length<=i->H e=none->e≠C->TLo G2 e f->FoC p f->st'=sa ++ [p]->∀ v2 v3 v4:Option V,
     (∃ (qs:List Addr) (fl:List zag) (st:List Sm) (v2' v3' v4':Option V),[some v,some (.ref C),v2,v3,v4]=[some v,some (V.ref C),v2',v3',v4']/\upd G2 C (.lst (qa.map V.ref ++ [.ref e])) C=some (.lst (qs.map V.ref))/\Fms (upd G2 C (.lst (qa.map V.ref ++ [.ref e]))) qs fl/\Paired FoC st fl/\zp6 [s'] st (s'.pre.reverse.drop (i+1))/\st.length<=i+1/\(∀ p∈qs,H p=none/\p≠C)/\upd G2 C (.lst (qa.map V.ref ++ [.ref e])) D=some (.lst xs)/\zai H (upd G2 C (.lst (qa.map V.ref ++ [.ref e])))):=by
    intro G2 e f qa fa sa h1 h2 h3 h4 h5 h6 h6b h7 h8 h9 h10 h11 v2 v3 v4;refine⟨qa ++ [e],fa ++ [f],sa ++ [p],v2,v3,v4,rfl,(by rw[zac,jac];rfl),?_,zbA h3 h10,(by rw[<- h11];exact hR),(by rw[jab];show sa.length+1<=i+1;omega),fun p' hp'=>?_,(by rw[zan hDC];exact h5),h6.write hC⟩
    ·refine Fms.keepU h1 (Fms.snoc h2 h9) fun z=>?_
     rcases jah.mp z with y | y
     ·exact (h4 C y).2 rfl
     ·exact h8 (jad.mp y).symm
    ·rcases jah.mp hp' with y | y
     ·exact h4 p' y
     ·rw[jad.mp y];exact⟨h7,h8⟩
   cases p with
   | bit k =>
    obtain⟨p,rfl,hp⟩:=zfn (hp2.keep sG);have hk16:=hl16 k hpo;refine⟨_,rfl,p,_,_,_,rfl,rfl,SqT.of hp,rfl,?_⟩;refine⟨_,rfl,rfl,_,rfl,za4 (by decide) ?_⟩;refine⟨_,rfl,.inl ⟨rfl,_,SqL.of g1⟩,_,rfl,p,_,_,_,rfl,rfl,SqT.of hp,rfl,k,rfl,by omega,sl2,fun t1 ht1=>⟨sl1,fun e1 he1=>?_⟩⟩;have b1:zai G (upd G t1 (.tup [.int (2^k),.int 1])):=zai.upd ht1;have b2:zai (upd G t1 (.tup [.int (2^k),.int 1])) (upd (upd G t1 (.tup [.int (2^k),.int 1])) e1 (.lst [.ref t1])):=zai.upd he1;have B:=b1.trans b2;exact⟨C,_,_,rfl,rfl,B _ _ g1,zem (by rw[jaa];omega),put (B _ _ g1) (g2.keep B) g3 g6 (B _ _ g7) (sG.trans B) g5 (sG.free (b1.free he1)) (zcY g1 (b1.free he1)) ⟨[t1],zac,.cons (b2 _ _ zac) .nil⟩ (zhY (by decide)) hN _ _ _⟩
   | fix c =>
    obtain⟨p,rfl,hp⟩:=zfo (hp2.keep sG);refine⟨_,rfl,p,_,_,_,rfl,rfl,SqT.of hp,rfl,?_⟩;refine⟨_,rfl,rfl,_,rfl,zaB (by decide) ?_⟩;refine⟨_,rfl,rfl,_,rfl,za4 (by decide) ?_⟩;refine⟨_,rfl,.inl ⟨rfl,_,SqL.of g1⟩,_,rfl,p,_,_,_,rfl,rfl,SqT.of hp,rfl,sl2,fun t1 ht1=>⟨sl1,fun e1 he1=>?_⟩⟩;have b1:zai G (upd G t1 (.tup [.int 0,.int c])):=zai.upd ht1;have b2:zai (upd G t1 (.tup [.int 0,.int c])) (upd (upd G t1 (.tup [.int 0,.int c])) e1 (.lst [.ref t1])):=zai.upd he1;have eT:TLo (upd (upd G t1 (.tup [.int 0,.int c])) e1 (.lst [.ref t1])) e1 [(0,c)]:=⟨[t1],zac,.cons (b2 _ _ zac) .nil⟩;refine⟨e1,[(0,c)],rfl,eT.tl,(by show 1<=100000;decide),⟨ls,hl5,fun t ht=>by rw[jad.mp ht];exact⟨Int.le_refl _,fun j hj=>by simp at hj⟩⟩,fun b f H2 hb hT2 hF2 hl2 s2=>?_⟩;have B:=(b1.trans b2).trans s2;exact⟨C,_,_,rfl,rfl,B _ _ g1,zem (by rw[jaa];omega),put (B _ _ g1) (g2.keep B) g3 g6 (B _ _ g7) (sG.trans B) g5 (sG.free ((b1.trans b2).free hb)) (zcY g1 ((b1.trans b2).free hb)) hT2 hF2 hN _ _ _⟩
   | no s1 =>
    obtain⟨sa,rfl,rfl⟩:=hN;obtain⟨fa,fb,rfl,a1,a2⟩:=zfb g3;cases a2 with
    | cons hf1 a3 =>
    cases a3;rename_i f1;obtain⟨qa,qb,rfl,c1,c2⟩:=zch (m:=fa) g2;cases c2 with
    | cons hq1 c3 =>
    cases c3;rename_i b1;obtain⟨p,x,rfl,hp,hx⟩:=zhy (hp2.keep sG);refine⟨_,rfl,p,_,_,_,rfl,rfl,SqT.of hp,rfl,?_⟩;refine⟨_,rfl,rfl,_,rfl,zaB (by decide) ?_⟩;refine⟨_,rfl,rfl,_,rfl,zaB (by decide) ?_⟩;refine⟨_,rfl,rfl,_,rfl,za4 (by decide) ?_⟩;have hlast:((qa ++ [b1]).map V.ref)[((qa ++ [b1]).map V.ref).length-1]? = some (V.ref b1):=by simp
    refine⟨_,rfl,.inl ⟨rfl,_,SqL.of g1⟩,_,rfl,_,rfl,.inl ⟨rfl,_,SqL.of g1⟩,C,_,.ref b1,rfl,rfl,g1,hlast,?_⟩;have w1:upd G C (.lst ((qa ++ [b1]).map V.ref).dropLast) C=some (.lst (qa.map V.ref)):=by rw[zac,jac];exact congrArg (fun z=>some (HO.lst z)) jbk
    have w2:Fms (upd G C (.lst ((qa ++ [b1]).map V.ref).dropLast)) (qa ++ [b1]) (fa ++ [f1]):=Fms.keepU g1 g2 fun z=>(g6 C z).2 rfl
    have w3:upd G C (.lst ((qa ++ [b1]).map V.ref).dropLast) D=some (.lst xs):=by rw[zan hDC];exact g7
    have sG1:=sG.write (o := .lst ((qa ++ [b1]).map V.ref).dropLast) hC;generalize upd G C (.lst ((qa ++ [b1]).map V.ref).dropLast)=G1 at w1 w2 w3 sG1 ⊢;obtain⟨x1,x2,ex,w4,w5⟩:=zch (m:=fa) w2;obtain⟨rfl,ex2⟩:=List.append_inj ex (by rw[jaL c1,jaL w4]);subst ex2;cases w5 with
    | cons hb1 w6 =>
    refine⟨sl1,fun e he=>?_⟩;have k1:zai G1 (upd G1 e (.lst [.ref b1])):=zai.upd he;refine⟨e,.no s1,_,[f1],ls,rfl,⟨rfl,f1,rfl,hf1⟩,hpo,hlp,hl5,hl16,⟨[b1],zac,.cons (hb1.keep k1) .nil⟩,fun c f H6 hc hT hF s6=>?_⟩;have B:=k1.trans s6;exact⟨C,_,_,rfl,rfl,B _ _ w1,zem (by rw[jaa,jaL w4,<- jaL a1];rw[jab] at g5;omega),put (B _ _ w1) (Fms.keep w4 B) a1 (fun p hp=>g6 p (ja4 _ hp)) (B _ _ w3) (sG1.trans B) (by rw[jab] at g5;omega) (sG1.free (k1.free hc)) (zcY w1 (k1.free hc)) hT hF rfl _ _ _⟩
   | two j s1 s2 =>
    obtain⟨sa,rfl,rfl⟩:=hN;obtain⟨hw3,ok1,ok2⟩:=hpo;obtain⟨fa,fb,rfl,a1,a2⟩:=zfb g3;cases a2 with
    | cons hf1 a3 =>
    cases a3 with
    | cons hf2 a4 =>
    cases a4;rename_i f1 f2;obtain⟨qa,qb,rfl,c1,c2⟩:=zch (m:=fa) g2;cases c2 with
    | cons hq1 c3 =>
    cases c3 with
    | cons hq2 c4 =>
    cases c4;rename_i b1 b2;obtain⟨p,x,z,rfl,hp,hx,hz⟩:=zeN (hp2.keep sG);obtain⟨n1,n2,n3⟩:=zkD (w:=j);refine⟨_,rfl,p,_,_,_,rfl,rfl,SqT.of hp,rfl,?_⟩;refine⟨_,rfl,rfl,_,rfl,zaB (by simpa using n1) ?_⟩;refine⟨_,rfl,rfl,_,rfl,zaB (by simpa using n2) ?_⟩;refine⟨_,rfl,rfl,_,rfl,zaB (by simpa using n3) ?_⟩;have hlast:((qa ++ [b1,b2]).map V.ref)[((qa ++ [b1,b2]).map V.ref).length-1]? = some (V.ref b2):=by simp
    refine⟨_,rfl,.inl ⟨rfl,_,SqL.of g1⟩,C,_,.ref b2,rfl,rfl,g1,hlast,?_⟩;have ed:((qa ++ [b1,b2]).map V.ref).dropLast=(qa ++ [b1]).map V.ref:=by rw[jac,jac];exact List.dropLast_append_cons
    have w1:upd G C (.lst ((qa ++ [b1,b2]).map V.ref).dropLast) C=some (.lst ((qa ++ [b1]).map V.ref)):=by rw[zac,ed]
    have w2:Fms (upd G C (.lst ((qa ++ [b1,b2]).map V.ref).dropLast)) (qa ++ [b1,b2]) (fa ++ [f1,f2]):=Fms.keepU g1 g2 fun z=>(g6 C z).2 rfl
    have w3:upd G C (.lst ((qa ++ [b1,b2]).map V.ref).dropLast) D=some (.lst xs):=by rw[zan hDC];exact g7
    have sG1:=sG.write (o := .lst ((qa ++ [b1,b2]).map V.ref).dropLast) hC;generalize upd G C (.lst ((qa ++ [b1,b2]).map V.ref).dropLast)=G1 at w1 w2 w3 sG1 ⊢;have hlast2:((qa ++ [b1]).map V.ref)[((qa ++ [b1]).map V.ref).length-1]? = some (V.ref b1):=by simp
    refine⟨_,rfl,.inl ⟨rfl,_,SqL.of w1⟩,_,rfl,_,rfl,.inl ⟨rfl,_,SqL.of w1⟩,C,_,.ref b1,rfl,rfl,w1,hlast2,?_⟩;have y1:upd G1 C (.lst ((qa ++ [b1]).map V.ref).dropLast) C=some (.lst (qa.map V.ref)):=by rw[zac,jac];exact congrArg (fun z=>some (HO.lst z)) jbk
    have y2:Fms (upd G1 C (.lst ((qa ++ [b1]).map V.ref).dropLast)) (qa ++ [b1,b2]) (fa ++ [f1,f2]):=Fms.keepU w1 w2 fun z=>(g6 C z).2 rfl
    have y3:upd G1 C (.lst ((qa ++ [b1]).map V.ref).dropLast) D=some (.lst xs):=by rw[zan hDC];exact w3
    have sG2:=sG1.write (o := .lst ((qa ++ [b1]).map V.ref).dropLast) hC;generalize upd G1 C (.lst ((qa ++ [b1]).map V.ref).dropLast)=G2 at y1 y2 y3 sG2 ⊢;obtain⟨x1,x2,ex,w4,w5⟩:=zch (m:=fa) y2;obtain⟨rfl,ex2⟩:=List.append_inj ex (by rw[jaL c1,jaL w4]);subst ex2;cases w5 with
    | cons hb1 w6 =>
    cases w6 with
    | cons hb2 w7 =>
    refine⟨_,rfl,sl2,fun e he=>?_⟩;have k1:zai G2 (upd G2 e (.lst [.ref b1,.ref b2])):=zai.upd he;refine⟨e,.two j s1 s2,_,[f1,f2],ls,rfl,⟨rfl,hw3,f1,f2,rfl,hf1,hf2⟩,⟨hw3,ok1,ok2⟩,hlp,hl5,hl16,⟨[b1,b2],zac,.cons (hb1.keep k1) (.cons (hb2.keep k1) .nil)⟩,fun c f H6 hc hT hF s6=>?_⟩;have B:=k1.trans s6;exact⟨C,_,_,rfl,rfl,B _ _ y1,zem (by rw[jaa,jaL w4,<- jaL a1];rw[jab] at g5;omega),put (B _ _ y1) (Fms.keep w4 B) a1 (fun p hp=>g6 p (ja4 _ hp)) (B _ _ y3) (sG2.trans B) (by rw[jab] at g5;omega) (sG2.free (k1.free hc)) (zcY y1 (k1.free hc)) hT hF rfl _ _ _⟩
  ·rintro σ G ⟨qs,fl,st,v2,v3,v4,rfl,g1,g2,g3,g4,g5,g6,g7,sG⟩;have e:s'.pre.reverse.drop xs.length=[]:=by rw[hxl,<- Sm.pre_len];exact List.drop_eq_nil_of_le (by rw[jcK];exact jag _)
   rw[e] at g4;have e2:st=[s']:=g4;subst e2;cases g3 with
   | cons hf1 a3 =>
   cases a3;cases g2 with
   | cons hq1 c3 =>
   cases c3;rename_i f1 b1;exact⟨_,rfl,C,_,_,_,rfl,rfl,SqL.of g1,rfl,q b1 f1 G (g6 b1 (by simp)).1 hq1 hf1 sG⟩
noncomputable def zoE:Sp:=fun vs H Q _=>∃ (v:V) (s:Sm) (ls:List Nat),vs=[v]/\Is H v s.d/\s.ok (fun k=>k∈ls)/\s.dp<=20/\ls.length<=20/\∀ (e:Addr) (ks:List Int) (H':Hp),H' e=some (.lst (ks.map V.int))->ks.length<=ls.length->zai H H'->Q (.ref e) H'
theorem zfE {kvs:List (Key × V)}{ks:List Int} (h:kvs.map (·.1)=ks.map Sum.inl) (k:Int) (v:V):∃ ks':List Int,(zg7 kvs (Sum.inl k) v).map (·.1)=ks'.map Sum.inl/\(ks.Nodup->ks'.Nodup)/\∀ x∈ks',x∈ks\/x=k:=by
 unfold zg7;split
 ·refine⟨ks,?_,id,fun x hx=>.inl hx⟩;rw[ja3,<- h];refine jb8 fun p _=>?_
  show (if p.1=Sum.inl k then (p.1,v) else p).1=p.1;split <;> rfl
 ·rename_i hn;refine⟨ks ++ [k],by rw[jac,jac,h];rfl,fun nd=>?_,fun x hx=>?_⟩
  ·refine zmG nd fun hk=>hn ?_
   have:(Sum.inl k:Key)∈kvs.map (·.1):=by rw[h];exact jau.mpr ⟨k,hk,rfl⟩
   obtain⟨p,hp,e⟩:=jau.mp this;exact jb6.mpr ⟨p,hp,decide_eq_true e⟩
  ·rcases jah.mp hx with y | y
   ·exact .inl y
   ·exact .inr (jad.mp y)
theorem ztf (T:Txt w K mg):zfS.Ok P w K mg base 2 zoE:=by
  refine Rw.ok T.d_Z1.F T.d_Z1.S fun vs H Q E h=>?_
  obtain⟨v,s',ls,rfl,hI,hok,hsz,hls,q⟩:=h;refine⟨rfl,fun _ _ _ _ hr hu nd=>⟨_,(zab (zaS 1 nd zdI)
   (zab (zbs jaG rfl (zaR (zaN T.d_Z63 (zoZ T) hr (zaa (pv 0) zad))) (pgn 2 nd)
    (zae (zay (zah zaD (zav zaK (pv 2) zaf (fun _ _=>rfl)) zaj (zal _)) (zae (zeY hu (pv 1) (zav zaK (pv 2) zaf (fun _ _=>rfl)) zjj rfl)) zam)))
   (zae (zak (zar (zc8 rfl) (by rfl) T.n_sorted jca (zaa (pv 1) zad)))))),?_⟩⟩
  intro d hd;have s0:zai H (upd H d (.dK [])):=zai.upd hd;refine⟨_,rfl,v,s',rfl,hI.keep s0,hsz,fun D xs H1 hD hX hS s1=>⟨D,rfl,⟨_,SqL.of hX⟩,?_⟩⟩;have hd1:H1 d=some (.dK []):=s1 _ _ zac;have hDd:D≠d:=fun z=>by rw[z,zac] at hD;cases hD
  refine zbM (K:=K) (a:=D) (xs:=xs) (fun i σ G=>∃ (kvs:List (Key × V)) (ks:List Int) (v2:Option V),σ = [some v,some (.ref d),v2]/\G d=some (.dK kvs)/\kvs.map (·.1)=ks.map Sum.inl/\ks.Nodup/\(∀ k∈ks,k∈ls.map fun j:Nat=>(j:Int))/\zaJ d H1 G)
   ⟨[],[],none,rfl,hd1,rfl,jds,(fun k hk=>by cases hk),zaJ.refl _ _⟩ (fun i σ G _ ⟨_,_,_,_,_,_,_,_,e⟩=>SqL.of (e _ _ hDd hX)) ?_ ?_
  ·rintro i y σ G hi ⟨kvs,ks,v2,rfl,g1,g2,g3,g4,g5⟩;obtain⟨p,hp1,hp2⟩:=hS.at hi;have hpo:=Sm.pre_ok hok p (jao hp1);have hkl:ks.length<=ls.length:=by
    have:=zbr g3 g4
    rw[jaa] at this;exact this
   have hkv:kvs.length=ks.length:=by have:=congrArg List.length g2;simpa using this
   have hpG:Is G y p.d:=za7 (fun a ys z=>g5 _ _ (fun w=>by rw[w,hd1] at z;cases z) z) (hp2.keep s1);unfold zaH;cases p with
   | bit k =>
    obtain⟨pp,rfl,hp⟩:=zfn hpG;refine⟨_,rfl,pp,_,_,_,rfl,rfl,SqT.of hp,rfl,rfl,_,rfl,za4 (by decide) ?_⟩;obtain⟨ks',k1,k2,k3⟩:=zfE g2 (k:Int) (.bl true);refine⟨_,rfl,_,rfl,pp,_,_,_,rfl,rfl,SqT.of hp,rfl,d,_,rfl,zna.k (k:=Sum.inl (k:Int)) g1 (zaF (by omega)),?_⟩;refine⟨_,ks',_,rfl,zac,k1,k2 g3,fun x hx=>?_,g5.trans zaJ.upd⟩;rcases k3 x hx with y | y
    ·exact g4 x y
    ·rw[y];exact jau.mpr ⟨k,hpo,rfl⟩
   | fix c =>
    obtain⟨pp,rfl,hp⟩:=zfo hpG;refine⟨_,rfl,pp,_,_,_,rfl,rfl,SqT.of hp,rfl,rfl,_,rfl,zaB (by decide) ?_⟩;exact⟨_,_,_,rfl,g1,g2,g3,g4,g5⟩
   | no s1 =>
    obtain⟨pp,x,rfl,hp,_⟩:=zhy hpG;refine⟨_,rfl,pp,_,_,_,rfl,rfl,SqT.of hp,rfl,rfl,_,rfl,zaB (by decide) ?_⟩;exact⟨_,_,_,rfl,g1,g2,g3,g4,g5⟩
   | two j s1 s2 =>
    obtain⟨pp,x,z,rfl,hp,_,_⟩:=zeN hpG;obtain⟨n1,_,_⟩:=zkD (w:=j);refine⟨_,rfl,pp,_,_,_,rfl,rfl,SqT.of hp,rfl,rfl,_,rfl,zaB (by simpa using n1) ?_⟩;exact⟨_,_,_,rfl,g1,g2,g3,g4,g5⟩
  ·rintro σ G ⟨kvs,ks,v2,rfl,g1,g2,g3,g4,g5⟩;have hkl:ks.length<=ls.length:=by
    have:=zbr g3 g4
    rw[jaa] at this;exact this
   refine⟨_,rfl,d,_,ks,rfl,g1,g2,by omega,fun e ks' he hperm hsort=>?_⟩;have sG:zai H G:=zaJ.same (s0.trans s1) g5 hd;exact q e ks' _ zac (by rw[hperm.length_eq];exact hkl) (sG.trans (zai.upd he))
noncomputable def zqq (K:PySem.W.Frag):Sp:=fun vs H Q _=>∃ (s:Sm) (ls:List Nat),vs=[.str (S (zcq s))]/\s.ok (fun k=>k∈ls)/\s.ln<=5/\ls.length<=5/\(∀ x∈ls,x<16) /\
 ∀ (b:Addr) (f:zag) (H':Hp),H b=none->TLo H' b f->zax f s.tl->zai H H'->Q (.ref b) H'
theorem zse (T:Txt w K mg):zcB.Ok P w K mg base 7 (zqq K):=by
  refine Rw.ok T.d_Z12.F T.d_Z12.S fun vs H Q E h=>?_
  obtain⟨s0,ls,rfl,hok,hln,hl5,hl16,q⟩:=h;refine⟨rfl,fun _ _ _ _ hr hu nd=>⟨_,(zab (zaS 1 nd (zaN T.d_Z66 (zrb T) (hr.mono (by decide)) (zaa (pv 0) zad)))
   (zab (zay (zah zhn (zar zaz (by rfl) T.n_len jaF (zaa (zaN T.d_Z1 (ztf T) (hr.mono (by decide)) (zaa (pv 1) zad)) zad)) zaf (zal _)) (zae zaW) zam)
   (zae (zak (zaN T.d_Z11 (zrs T) hr (zaa (pv 1) zad)))))),?_⟩⟩
  have hdp:=zdQ s0;have hnl:=zcZ s0;have htx:=zcH hok;refine⟨_,rfl,s0,rfl,Sm.ok.imp (fun k hk=>hl16 k hk) hok,by omega,fun v H1 hI s1'=>?_⟩;refine⟨_,rfl,v,s0,ls,rfl,hI,hok,by omega,by omega,fun e ks H2 he hkl s2=>⟨e,_,rfl,.inl (SqL.of he),_,_,rfl,rfl,_,rfl,?_⟩⟩;refine zaB (fun y=>by have:=of_decide_eq_true y;rw[jaa] at this;omega) ?_;exact⟨_,rfl,v,s0,ls,rfl,hI.keep s2,hok,by omega,by omega,hl5,hl16,hln,fun b f H3 hb hT hF s3=>q b f H3 (s1'.free (s2.free hb)) hT hF (s1'.trans (s2.trans s3))⟩
noncomputable def ztL (K:PySem.W.Frag):Sp:=fun vs H Q _=>∃ (a:Addr) (l:zag) (k:Nat),vs=[.ref a,.int (2^k)]/\TL K H a l/\(∀ t∈l,0<=t.1)/\l.length<=100000 /\
 ∀ (c:Addr) (H':Hp),H c=none->TLo H' c (zjh k l)->zai H H'->Q (.ref c) H'
theorem zjQ:(["members", "number", "bit"]:List Str).Nodup:=by decide +kernel
theorem zlR (T:Txt w K mg):zeP.Ok P w K mg base 1 (ztL K):=by
  refine Rw.ok T.d_Z90.F T.d_Z90.S fun vs H Q E h=>?_
  obtain⟨a,l,k,rfl,hT,h0,hlen,q⟩:=h;refine⟨rfl,fun _ _ _ _ hr hu nd=>⟨_,(zae (zak (zbb (g:=(zi1 K 2 (zbD (zaH 0) (zbD (zaH 1) ziZ)))) ["members", "number", "bit"] 2 [1] rfl (zfL zeP) (zaR (pv 0))
    (fun cl C s₀ H₀ fp=>(zbe (n:=2) rfl (zap (pgn 0 zjQ) (zap (pgn 1 zjQ) zaT)))) (fun cl C s₀ H₀ fp=>(zck (zah zaD (zao zkB (pv 0) (pv 2)) zaf (zal _)))) (fun cl C s₀ H₀ fp=>(zaE (zaa (pv 0) (zaa (pv 1) zad))))))),?_⟩⟩
  refine⟨_,rfl,a,rfl,hT.seq,?_⟩;refine zfF (fun t => !zgU k t) (fun t=>t) hT (by omega) [some (.int (2^k))] rfl (fun t ht H2 R s2 r=>?_) (fun t ht hp H2 R s2 r=>?_) fun D ys H2 hD hT1 s1=>?_
  ·refine⟨_,rfl,_,rfl,_,_,rfl,rfl,rfl,_,rfl,?_⟩;rw[zfX (h0 t ht)];exact r
  ·exact⟨_,rfl,_,rfl,sl2,r⟩
  ·exact q D _ hD (by rw[List.map_id'] at hT1;exact hT1) s1
noncomputable def ztu (K:PySem.W.Frag):Sp:=fun vs H Q _=>∃ (a:Addr) (l:zag) (k:Nat),vs=[.ref a,.int (2^k)]/\TL K H a l/\(∀ t∈l,0<=t.1)/\l.length<=100000 /\
 ∀ (c:Addr) (H':Hp),H c=none->TLo H' c (zgS k l)->zai H H'->Q (.ref c) H'
theorem zjF:(["members", "number", "bit"]:List Str).Nodup:=by decide +kernel
theorem zoS (T:Txt w K mg):zhx.Ok P w K mg base 1 (ztu K):=by
  refine Rw.ok T.d_Z16.F T.d_Z16.S fun vs H Q E h=>?_
  obtain⟨a,l,k,rfl,hT,h0,hlen,q⟩:=h;refine⟨rfl,fun _ _ _ _ hr hu nd=>⟨_,(zae (zak (zbb (g:=(zi1 K 2 (zbD (zaH 0) (zbD (zaH 1) ziZ)))) ["members", "number", "bit"] 2 [1] rfl (zfL zhx) (zaR (pv 0))
    (fun cl C s₀ H₀ fp=>(zbe (n:=2) rfl (zap (pgn 0 zjF) (zap (pgn 1 zjF) zaT)))) (fun cl C s₀ H₀ fp=>(zck (zah zfe (zao zkB (pv 0) (pv 2)) zaf (zal _)))) (fun cl C s₀ H₀ fp=>(zaE (zaa (zao zd3 (pv 0) (pv 2)) (zaa (pv 1) zad))))))),?_⟩⟩
  refine⟨_,rfl,a,rfl,hT.seq,?_⟩;refine zfF (fun t=>zgU k t) (fun t=>(t.1-2^k,t.2)) hT (by omega) [some (.int (2^k))] rfl (fun t ht H2 R s2 r=>?_) (fun t ht hp H2 R s2 r=>?_) fun D ys H2 hD hT1 s1=>?_
  ·refine⟨_,rfl,_,rfl,_,_,rfl,rfl,rfl,_,rfl,?_⟩;rw[zfX (h0 t ht),Bool.not_not];exact r
  ·exact⟨_,rfl,_,rfl,_,_,rfl,rfl,_,rfl,sl2,r⟩
  ·exact q D _ hD hT1 s1
noncomputable def zox (K:PySem.W.Frag):Sp:=fun vs H Q _=>∃ (a:Addr) (l:zag) (k:Nat) (b:Int),vs=[.ref a,.int (k:Int),.int b]/\TLo H a l/\IsForm l/\(∀ t∈l,0<=t.1)/\l.length<=100000/\zgF l/\k<=100/\(b=0\/b=1) /\
 ∀ (c:Addr) (f:zag) (H':Hp),H c=none->TLo H' c f->zax f (zlc k b l)->f.length<=l.length->zai H H'->Q (.ref c) H'
theorem ztj (T:Txt w K mg):zji.Ok P w K mg base 4 (zox K):=by
  refine Rw.ok T.d_Z7.F T.d_Z7.S fun vs H Q E h=>?_
  obtain⟨a,l,k,b,rfl,hT,hF,h0,hlen,h5,hk,hb,q⟩:=h;refine⟨rfl,fun _ _ _ _ hr hu nd=>⟨_,(zab (zaS 3 nd (zaN T.d_Z4 (zlC T) (hr.mono (by decide)) (zaa (pv 1) zad)))
   (zab (zay (zah zaD (pv 2) zaf (zal _)) (zae (zak (zaN T.d_Z90 (zlR T) (hr.mono (by decide)) (zaa (pv 0) (zaa (pv 3) zad))))) zam)
   (zae (zak (zaN T.d_Z64 (zhe T) hr (zaa (zaN T.d_Z90 (zlR T) (hr.mono (by decide)) (zaa (pv 0) (zaa (pv 3) zad))) (zaa (zaN T.d_Z16 (zoS T) (hr.mono (by decide)) (zaa (pv 0) (zaa (pv 3) zad))) zad))))))),?_⟩⟩
  refine⟨_,rfl,k,rfl,hk,?_⟩;refine⟨_,rfl,rfl,_,rfl,?_⟩;rcases hb with rfl | rfl
  ·refine za4 (by decide) ?_;refine⟨_,rfl,_,rfl,a,l,k,rfl,hT.tl,h0,hlen,fun c H' hc hT' s'=>?_⟩;refine q c _ H' hc hT' ?_ (zex k l) s'
   have:=zax.self (hF.filter fun t => !zgU k t)
   unfold zlc;rw[if_pos rfl,jaZ];exact this
  ·refine zaB (by decide) ?_;refine⟨_,rfl,_,rfl,a,l,k,rfl,hT.tl,h0,hlen,fun c H1 hc hT1 s1=>?_⟩;refine⟨_,rfl,_,rfl,a,l,k,rfl,(hT.keep s1).tl,h0,hlen,fun d H2 hd hT2 s2=>?_⟩;have e:=zgy k l;refine⟨c,d,zjh k l,zgS k l,rfl,hT1.keep s2,hT2,by omega,(let ⟨ls,z5,z⟩:=h5; ⟨ls,z5,(z.out k).app (z.off k)⟩),fun x f H3 hx hT3 hF3 hl3 s3=>?_⟩;refine q x f H3 (s1.free (s2.free hx)) hT3 ?_ (by omega) (s1.trans (s2.trans s3));unfold zlc;rw[if_neg (by decide)];exact hF3
noncomputable def znK (K:PySem.W.Frag):Sp:=fun vs H Q _=>∃ (a b:Addr) (l o:zag) (k:Nat),vs=[.ref a,.int (k:Int),.ref b]/\TLo H a l/\TLo H b o/\(∀ t∈l,0<=t.1)/\l.length+l.length * o.length<=100000/\l.length<=100000/\zgF (l++o)/\k<=100/\(∀ t∈l,∀ u∈o,IntMulOk t.2 u.2) /\
 ∀ (c:Addr) (f:zag) (H':Hp),H c=none->TLo H' c f->zax f (znx k o l)->f.length<=l.length+l.length * o.length->zai H H'->Q (.ref c) H'
theorem zr5 (T:Txt w K mg):zhN.Ok P w K mg base 4 (znK K):=by
  refine Rw.ok T.d_Z65.F T.d_Z65.S fun vs H Q E h=>?_
  obtain⟨a,b,l,o,k,rfl,hT,hTo,h0,hlen,hlo,h5,hk,hmul,q⟩:=h;refine⟨rfl,fun _ _ _ _ hr hu nd=>⟨_,(zab (zaS 3 nd (zaN T.d_Z4 (zlC T) (hr.mono (by decide)) (zaa (pv 1) zad)))
   (zae (zak (zaN T.d_Z64 (zhe T) hr (zaa (zaN T.d_Z90 (zlR T) (hr.mono (by decide)) (zaa (pv 0) (zaa (pv 3) zad))) (zaa (zaN T.d_Z78 (zj2 T) (hr.mono (by decide)) (zaa (zaN T.d_Z16 (zoS T) (hr.mono (by decide)) (zaa (pv 0) (zaa (pv 3) zad))) (zaa (pv 2) zad))) zad)))))),?_⟩⟩
  obtain⟨zs,z5,zz⟩:=h5;have zl:K5 zs l:=fun t ht=>zz t (ja4 _ ht)
  have zo:K5 zs o:=fun t ht=>zz t (jaA _ ht)
  have n1:=zex k l;have n2:=zfM k l;have n3:(zgS k l).length * o.length<=l.length * o.length:=jbE _ n2;refine⟨_,rfl,k,rfl,hk,?_⟩;refine⟨_,rfl,_,rfl,a,l,k,rfl,hT.tl,h0,hlo,fun c H1 hc hT1 s1=>?_⟩;refine⟨_,rfl,_,rfl,a,l,k,rfl,(hT.keep s1).tl,h0,hlo,fun d H2 hd hT2 s2=>?_⟩;refine⟨_,rfl,d,b,zgS k l,o,rfl,hT2.tl,((hTo.keep s1).keep s2).tl,by omega,⟨zs,z5,(zl.off k).prod zo⟩,(fun t ht u hu=>?_),fun e g H3 he hT3 hF3 hl3 s3=>?_⟩
  ·obtain⟨_,v,hv,e,_⟩:=zdD h0 ht;rw[e];exact hmul v hv u hu
  refine⟨c,e,zjh k l,g,rfl,(hT1.keep s2).keep s3,hT3,by omega,⟨zs,z5,(zl.out k).app (((zl.off k).prod zo).of hF3)⟩,fun x f H4 hx hT4 hF4 hl4 s4=>?_⟩;refine q x f H4 (s1.free (s2.free (s3.free hx))) hT4 ⟨hF4.toIsForm,fun j=>?_,fun t ht=>?_⟩ (by omega) (s1.trans (s2.trans (s3.trans s4)))
  ·rw[hF4.val,zaq,hF3.val];unfold znx;rw[zaq]
  ·have:=hF4.src t ht
   unfold znx;rw[jac,jah] at this ⊢;rcases this with z | z
   ·exact .inl z
   ·obtain⟨u,hu,e⟩:=jau.mp z;rw[<- e];exact .inr (hF3.src u hu)
noncomputable def zod (K:PySem.W.Frag):Sp:=fun vs H Q _=>∃ (a:Addr) (l:zag),vs=[.ref a]/\TLo H a l/\l.length * l.length<=100000/\zgF l/\(∀ t∈l,∀ u∈l,IntMulOk t.2 u.2) /\
 ∀ (f:zag) (H':Hp),zax f (zaV l l)->zai H H'->Q (.bl (decide (f=l))) H'
theorem zrJ (T:Txt w K mg):zeb.Ok P w K mg base 3 (zod K):=by
  refine Rw.ok T.d_Z24.F T.d_Z24.S fun vs H Q E h=>?_
  obtain⟨a,l,rfl,hT,hlen,h5,hmul,q⟩:=h;refine⟨rfl,fun _ _ _ _ hr hu nd=>⟨_,(zae (zak (zbp (zin (zqx hr)) (zaN T.d_Z78 (zj2 T) hr (zaa (pv 0) (zaa (pv 0) zad))) (pv 0) (zal _)))),?_⟩⟩;refine⟨_,rfl,_,rfl,a,a,l,l,rfl,hT.tl,hT.tl,hlen,(let ⟨ls,z5,z⟩:=h5; ⟨ls,z5,z.prod z⟩),hmul,fun c f H1 hc hT1 hF1 hl1 s1=>?_⟩;refine⟨_,rfl,dF f,dF l,hT1.is,(hT.keep s1).is,jak (zjM f) (by decide),?_⟩;rw[zpn];exact q f H1 hF1 s1
noncomputable def zvU (NY:Addr):Sp:=fun vs H Q E=>∃ (a:Addr) (l:zag),vs=[.ref a]/\TLo H a l/\l.length * l.length<=100000/\zgF l/\(∀ t∈l,∀ u∈l,IntMulOk t.2 u.2)/\(∀ H',zai H H'->zkF l->Q (.ref a) H')/\(∀ H',zai H H'->¬ zkF l->E (.ref NY) none H')
theorem zsX (T:Txt w K mg):zhl.OkE P w K mg base 4 (zvU zaL):=by
  refine Rw.okE T.d_Z92.F T.d_Z92.S fun vs H Q E h=>?_
  obtain⟨a,l,rfl,hT,hlen,h5,hmul,q,e⟩:=h;refine⟨rfl,fun _ _ _ _ hr hu nd=>⟨_,(zab (zay (zd0 (zcs (zaN T.d_Z24 (zrJ T) hr (zaa (pv 0) zad)) (fun _=>rfl))) (zae (zki zcc rfl (by rfl) T.g_NoYesNo T.x_NoYesNo)) zam)
   (zae (PS.nox (zak (pv 0))))),?_⟩⟩
  refine⟨_,rfl,a,l,rfl,hT,hlen,h5,hmul,fun f H1 hF s1=>⟨_,rfl,?_⟩⟩;by_cases z:f=l
  ·refine zaB (by rw[decide_eq_true z];decide) ?_;exact⟨_,rfl,q H1 s1 ⟨f,hF,z⟩⟩
  ·refine za4 (by rw[decide_eq_false z];rfl) ?_;refine e H1 s1 fun ⟨g,hg,eg⟩=>z ?_
   rw[<- eg];exact zax.unique hF (eg ▸ hg) fun k=>rfl
noncomputable def zl5 (K:PySem.W.Frag) (C NN NY:Addr):Sp:=fun vs H Q E=>∃ (p d t:Addr) (st:Sts) (c:Cmd) (ls:List Nat),vs=[.ref p,.str c.wd,.ref t]/\H t=some (.lst c.th)/\zcw C H p d st/\ls.length<=5/\(∀ x∈ls,x<16)/\(∀ nf∈st,FOk ls nf.2)/\zn5 ls c /\
 (∀ H',zdT ls st c .name->zai H H'->E (.ref NN) none H')/\(∀ H',zdT ls st c .yesno->zai H H'->E (.ref NY) none H')/\(∀ f b H',zdT ls st c (.form f)->TLo H' b f->zai H H'->Q (.ref b) H')
theorem zfs (T:Txt w K mg):zcg.OkE P w K mg base 8 (zl5 K zbt zaP zaL):=by
  refine Rw.okE T.d_Desk_form_for.F T.d_Desk_form_for.S fun vs H Q E h=>?_
  obtain⟨p,d,t,st,c,ls,rfl,ht,hD,hl5,hl16,hst,hok,qn,qy,q⟩:=h;refine⟨rfl,fun _ _ _ _ hr hu nd=>⟨_,(zab (PS.nox (zay (zah zaD (pv 1) zaj (zal _)) (zae (zak (zaN T.d_Z14 (zrD T) (hr.mono (by decide)) (zaa (zav zas (pv 2) zaf (fun _ _=>rfl)) zad)))) zam))
   (zab (PS.nox (zay (zah zaD (pv 1) zaj (zal _)) (zae (zak (zaN T.d_Z12 (zse T) hr (zaa (zav zas (pv 2) zaf (fun _ _=>rfl)) zad)))) zam))
   (zab (zaS 3 nd (zfi (pv 0) T.cl_Desk T.d_Desk_kept.m (zct T) (hr.mono (by decide)) T.d_Desk_kept.b .nil (zjm zcc) (zaa (zav zas (pv 2) zaf (fun _ _=>rfl)) zad)))
   (zab (PS.nox (zay (zah zaD (pv 1) zaj (zal _)) (zae (zak (zaN T.d_Z7 (ztj T) (hr.mono (by decide)) (zaa (pv 3) (zaa (zav zas (pv 2) zaf (fun _ _=>rfl)) (zaa (zav zas (pv 2) zaf (fun _ _=>rfl)) zad)))))) zam))
   (zab (zay (zah zaD (pv 1) zaj (zal _)) (zae (zak (zaN T.d_Z65 (zr5 T) (hr.mono (by decide)) (zaa (pv 3) (zaa (zav zas (pv 2) zaf (fun _ _=>rfl)) (zaa (zmw (zsX T) (hr.mono (by decide)) (by rfl) T.d_Z92.m T.d_Z92.F.kp T.d_Z92.b .nil (zjm zcc) (zaa (zfi (pv 0) T.cl_Desk T.d_Desk_kept.m (zct T) (hr.mono (by decide)) T.d_Desk_kept.b .nil (zjm zcc) (zaa (zav zas (pv 2) zaf (fun _ _=>rfl)) zad)) zad)) zad)))))) zam)
   (zae (zak (zaN T.d_Z3 (ztv T) (hr.mono (by decide)) (zaa (pv 1) (zaa (pv 3) (zaa (zfi (pv 0) T.cl_Desk T.d_Desk_kept.m (zct T) (hr.mono (by decide)) T.d_Desk_kept.b .nil (zjm zcc) (zaa (zav zas (pv 2) zaf (fun _ _=>rfl)) zad)) zad))))))))))),?_⟩⟩
  obtain⟨⟨dx,ho⟩,_⟩:=id hD;cases c with
  | form n tx =>
   have ew:(Cmd.form n tx).wd=Str.ofString "=" := rfl;refine⟨_,rfl,rfl,_,rfl,za4 (by rw[ew];decide) ?_⟩;obtain⟨k1,k2,k3⟩:=hok;refine⟨_,rfl,t,_,_,_,rfl,rfl,SqL.of ht,zaA (j:=0) rfl,tx,rfl,k1,k2,fun f hf b H1 hb hT s1=>?_,fun hf=>?_⟩
   ·exact q f b H1 ⟨f,rfl,hf⟩ hT s1
   ·rw[hf] at k3;cases k3
  | stat n s0 =>
   have ew:(Cmd.stat n s0).wd=Str.ofString ":=" := rfl;obtain⟨k1,k2⟩:=hok;refine⟨_,rfl,rfl,_,rfl,zaB (by rw[ew];decide) ?_⟩;refine⟨_,rfl,rfl,_,rfl,za4 (by rw[ew];decide) ?_⟩;refine⟨_,rfl,t,_,_,_,rfl,rfl,SqL.of ht,zaA (j:=0) rfl,s0,ls,rfl,k1,k2,hl5,hl16,fun b f H1 hb hT hF s1=>?_⟩;exact q f b H1 ⟨f,rfl,hF⟩ hT s1
  | fixd n a k b =>
   have ew:(Cmd.fixd n a k b).wd=Str.ofString "fixed" := rfl;obtain⟨k1,k2⟩:=hok;refine⟨_,rfl,rfl,_,rfl,zaB (by rw[ew];decide) ?_⟩;refine⟨_,rfl,rfl,_,rfl,zaB (by rw[ew];decide) ?_⟩;refine⟨_,rfl,p,dx,_,rfl,ho,zbH d (by decide +kernel),_,rfl,t,_,_,_,rfl,rfl,SqL.of ht,zaA (j:=0) rfl,p,d,st,a,rfl,hD,fun x l hg hT=>?_,fun hg=>qn H (.inl ⟨hg,rfl⟩) (zai.refl _)⟩;have hF:=za0 hst hg;have h32:=K5.len hF.1 hF.2.1 hl5;refine⟨_,rfl,rfl,_,rfl,za4 (by rw[ew];decide) ?_⟩;refine⟨_,rfl,_,rfl,t,_,_,_,rfl,rfl,SqL.of ht,zaA (j:=1) rfl,_,rfl,t,_,_,_,rfl,rfl,SqL.of ht,zaA (j:=2) rfl,x,l,k,b,rfl,hT,hF.1,(fun t ht=>(hF.2.1 t ht).1),by omega,⟨ls,hl5,hF.2.1⟩,k1,k2,fun c f H1 hc hTf hFf _ s1=>?_⟩;exact q f c H1 (.inr ⟨l,f,hg,rfl,hFf⟩) hTf s1
  | put n a k b =>
   have ew:(Cmd.put n a k b).wd=Str.ofString "put" := rfl;refine⟨_,rfl,rfl,_,rfl,zaB (by rw[ew];decide) ?_⟩;refine⟨_,rfl,rfl,_,rfl,zaB (by rw[ew];decide) ?_⟩;refine⟨_,rfl,p,dx,_,rfl,ho,zbH d (by decide +kernel),_,rfl,t,_,_,_,rfl,rfl,SqL.of ht,zaA (j:=0) rfl,p,d,st,a,rfl,hD,fun x l hg hT=>?_,fun hg=>qn H (.inl ⟨hg,rfl⟩) (zai.refl _)⟩;have hF:=za0 hst hg;have h32:=K5.len hF.1 hF.2.1 hl5;refine⟨_,rfl,rfl,_,rfl,zaB (by rw[ew];decide) ?_⟩;refine⟨_,rfl,rfl,_,rfl,za4 (by rw[ew];decide) ?_⟩;refine⟨_,rfl,_,rfl,t,_,_,_,rfl,rfl,SqL.of ht,zaA (j:=1) rfl,_,rfl,p,dx,_,rfl,ho,zbH d (by decide +kernel),_,rfl,t,_,_,_,rfl,rfl,SqL.of ht,zaA (j:=2) rfl,p,d,st,b,rfl,hD,fun y o hg2 hTo=>?_,fun hg2=>qn H (.inr (.inl ⟨l,hg,hg2,rfl⟩)) (zai.refl _)⟩;have hFo:=za0 hst hg2;have h32o:=K5.len hFo.1 hFo.2.1 hl5;have hoo:o.length * o.length<=32 * 32:=jaS h32o h32o;have hlo:l.length * o.length<=32 * 32:=jaS h32 h32o;refine⟨y,o,rfl,hTo,by omega,⟨ls,hl5,hFo.2.1⟩,(fun t ht u hu=>zfl (hFo.2.2 t ht) (hFo.2.2 u hu)),fun H1 s1 hy=>?_,fun H1 s1 hy=>qy H1 (.inr (.inr ⟨l,o,hg,hg2,.inl ⟨hy,rfl⟩⟩)) s1⟩;refine⟨x,y,l,o,k,rfl,hT.keep s1,hTo.keep s1,(fun t ht=>(hF.2.1 t ht).1),by omega,by omega,⟨ls,hl5,hF.2.1.app hFo.2.1⟩,hok,(fun t ht u hu=>zfl (hF.2.2 t ht) (hFo.2.2 u hu)),fun c f H2 hc hTf hFf _ s2=>?_⟩;exact q f c H2 (.inr (.inr ⟨l,o,hg,hg2,.inr ⟨hy,f,rfl,hFf⟩⟩)) hTf (s1.trans s2)
  | two wo n a b =>
   have ew:(Cmd.two wo n a b).wd=opS wo:=rfl;have hw3:wo<3:=hok;obtain⟨n1,n2,n3,n4⟩:=zrg hw3;refine⟨_,rfl,rfl,_,rfl,zaB (by rw[ew,n1];decide) ?_⟩;refine⟨_,rfl,rfl,_,rfl,zaB (by rw[ew,n2];decide) ?_⟩;refine⟨_,rfl,p,dx,_,rfl,ho,zbH d (by decide +kernel),_,rfl,t,_,_,_,rfl,rfl,SqL.of ht,zaA (j:=0) rfl,p,d,st,a,rfl,hD,fun x l hg hT=>?_,fun hg=>qn H (.inl ⟨hg,rfl⟩) (zai.refl _)⟩;have hF:=za0 hst hg;have h32:=K5.len hF.1 hF.2.1 hl5;refine⟨_,rfl,rfl,_,rfl,zaB (by rw[ew,n3];decide) ?_⟩;refine⟨_,rfl,rfl,_,rfl,zaB (by rw[ew,n4];decide) ?_⟩;refine⟨_,rfl,_,rfl,_,rfl,p,dx,_,rfl,ho,zbH d (by decide +kernel),_,rfl,t,_,_,_,rfl,rfl,SqL.of ht,zaA (j:=1) rfl,p,d,st,b,rfl,hD,fun y o hg2 hTo=>?_,fun hg2=>qn H (.inr (.inl ⟨l,hg,hg2,rfl⟩)) (zai.refl _)⟩;have hFo:=za0 hst hg2;have h32o:=K5.len hFo.1 hFo.2.1 hl5;refine⟨wo,x,y,l,o,rfl,hw3,hT,hTo,⟨by omega,by omega⟩,⟨ls,hl5,hF.2.1,hFo.2.1⟩,(fun _ t ht u hu=>zfl (hF.2.2 t ht) (hFo.2.2 u hu)),fun c f H2 hc hTf hFf s2=>?_⟩;exact q f c H2 (.inr (.inr ⟨l,o,f,hg,hg2,rfl,hFf⟩)) hTf s2
noncomputable def zqg (K:PySem.W.Frag):Sp:=fun vs H Q _=>∃ (a:Addr) (l:zag),vs=[.ref a]/\TLo H a l/\l.length<=300/\(∀ t∈l,t.2.natAbs<10^100)/\∀ H',zai H H'->Q .non H'
theorem zjH:(["members", "number", "bound"]:List Str).Nodup:=by decide +kernel
theorem zsF (T:Txt w K mg):zbX.Ok P w K mg base 1 (zqg K):=by
  refine Rw.ok T.d_Z70.F T.d_Z70.S fun vs H Q E h=>?_
  obtain⟨a,l,rfl,hT,hlen,hs,q⟩:=h;refine⟨rfl,fun _ _ _ _ hr hu nd=>⟨_,(zab (zay (zah zhn (zar zaz (by rfl) T.n_len jaF (zaa (pv 0) zad)) zaf (zal _)) (zae zaW) zam)
   (zab (zaS 1 nd (zao zp9 (zao zj3 zaf zaf) zaf))
   (zae (zay (zcs (zar (zlV rfl) (by rfl) T.n_any PyProof.Rows.boot_any (zaa (zbb (g:=(zi1 K 2 (zbD (zaH 0) (zbD (zaH 1) ziZ)))) ["members", "number", "bound"] 2 [1] rfl (zfL zbX) (zaR (pv 0))
    (fun cl C s₀ H₀ fp=>(zbe (n:=2) rfl (zap (pgn 0 zjH) (zap (pgn 1 zjH) zaT)))) (fun cl C s₀ H₀ fp=>zbW) (fun cl C s₀ H₀ fp=>(zbp zrj (zar zeF (by rfl) T.n_abs jbx (zaa (pv 1) zad)) (pv 2) (zal _)))) zad)) (fun _=>rfl)) (zae zaW) zam)))),?_⟩⟩
  obtain⟨ps,h1,h2⟩:=id hT;have hpl:=h2.length;refine⟨_,rfl,a,_,rfl,.inl (SqL.of h1),_,_,rfl,rfl,_,rfl,?_⟩;refine zaB (by rw[jaa];exact fun y=>by have:=of_decide_eq_true y;omega) ?_;refine⟨_,_,rfl,rfl,⟨by decide,by decide,by decide⟩,_,_,rfl,rfl,⟨by decide,by decide +kernel⟩,?_⟩;have hb0:∀ t∈l,decide (((10:Int)^Int.toNat 50)^Int.toNat 20<=if t.2<0 then -t.2 else t.2)=false:=fun t ht=>decide_eq_false fun y=>by
   have h:=hs t ht;have e1:((10:Int)^Int.toNat 50)^Int.toNat 20=10^1000:=by decide +kernel
   have e2:(10:Int)^100<10^1000:=by decide +kernel
   have e3:((10^100:Nat):Int)=(10:Int)^100:=by decide +kernel
   rw[e1] at y;generalize (10:Int)^1000=B at y e2;have h4:(if t.2<0 then -t.2 else t.2)=(t.2.natAbs:Int):=by split <;> omega
   rw[h4] at y;have h5:(t.2.natAbs:Int)<((10^100:Nat):Int):=Int.ofNat_lt.mpr h;rw[e3] at h5;generalize (10:Int)^100=A at *;omega
  dsimp only;generalize ((10:Int)^Int.toNat 50)^Int.toNat 20=B at hb0 ⊢;refine⟨_,rfl,a,rfl,⟨_,SqL.of h1⟩,?_⟩;refine zbn (K:=K) (a:=a) (xs:=ps.map V.ref) (fun i ys σ G=>∃ v0 v1:Option V,σ = [v0,v1,some (.int B)]/\ys=(List.replicate i false).map V.bl/\G=H)
   ⟨none,none,rfl,rfl,rfl⟩ (fun i ys σ G hi ⟨_,_,_,e1,e2⟩=>⟨by rw[e2];exact SqL.of h1,by rw[e1];simp⟩) (by rw[jaa];exact jaB (zaF (by omega))) ?_ ?_
  ·rintro i y ys σ G hi ⟨v0,v1,rfl,rfl,rfl⟩;obtain⟨p,hpi,rfl⟩:=zcG hi;obtain⟨t,ht1,ht2⟩:=h2.at' hpi;refine⟨p,_,rfl,SqT.of ht2,rfl,_,_,rfl,_,_,rfl,rfl,?_⟩;refine tt ?_;refine⟨_,rfl,_,rfl,_,rfl,_,_,rfl,rfl,?_⟩;dsimp only;rw[hb0 t (jao ht1)];refine⟨_,_,rfl,?_,rfl⟩;rw[List.replicate_succ',jac];rfl
  ·rintro ys σ G ⟨v0,v1,rfl,rfl,rfl⟩ D hD;refine⟨D,_,rfl,SqL.of zac,_,rfl,?_⟩;refine zaB ?_ (q _ (zai.upd hD));rw[jaa];intro y;obtain⟨b,hb,z⟩:=jb6.mp y;rw[(List.mem_replicate.mp hb).2] at z;cases z
noncomputable def zrW:Sp:=fun vs H Q _=>∃ n:Int,vs=[.int n]/\Q (.str (S [32,sgn n,32])) H
theorem zpe (T:Txt w K mg):zdv.Ok P w K mg base 1 zrW:=by
  refine Rw.ok T.d_Z73.F T.d_Z73.S fun vs H Q E h=>?_
  obtain⟨n,rfl,q⟩:=h;refine⟨rfl,fun _ _ _ _ hr hu nd=>⟨_,(zae (zak (zfK (zah zh4 (pv 0) zaf (zal _)) zaj zaj))),?_⟩⟩;refine⟨_,rfl,_,_,rfl,rfl,_,rfl,?_⟩;refine zgJ (fun h=>?_) (fun h=>?_)
  ·have h':n<0:=of_decide_eq_true h;have e:sgn n=45:=if_pos h';rw[e] at q;rw[<- zkG] at q;exact q
  ·have h':¬ n<0:=fun z=>h (decide_eq_true z)
   have e:sgn n=43:=if_neg h';rw[e] at q;rw[<- zlj] at q;exact q
noncomputable def zr1:Sp:=fun vs H Q _=>∃ (g m:Nat),vs=[.int (g:Int),.int (m:Int)]/\m<=100000 /\
 ∀ (D:Addr) (H':Hp),H D=none->H' D=some (.lst (((List.range m).map fun i:Nat=>((g / 2^i % 2:Nat):Int)).map V.int))->zai H H'->Q (.ref D) H'
theorem ztA (T:Txt w K mg):zgm.Ok P w K mg base 1 zr1:=by
  refine Rw.ok T.d_Z2.F T.d_Z2.S fun vs H Q E h=>?_
  obtain⟨g,m,rfl,hm,q⟩:=h;refine⟨rfl,fun _ _ _ _ hr hu nd=>⟨_,(zab (zaS 2 nd (zaG zad))
   (zab (zbs jaG rfl (zbw rfl T.n_range (zaa (pv 1) zad)) (pgn 3 nd)
    (zab (zaU (za9 jaf jap jaq zaM (pv 2) (zaa (zao zaY (pv 0) zaf) zad)))
   (zae (zaS 0 nd (zao zbj (pv 0) zaf)))))
   (zae (zak (pv 2))))),?_⟩⟩
  refine⟨jaE _,fun D hD=>?_⟩;refine⟨_,rfl,(m:Int),rfl,by omega,by omega,zco (n:=m) (fun i σ H2=>∃ v3:Option V,σ = [some (.int ((g / 2^i:Nat):Int)),some (.int (m:Int)),some (.ref D),v3]/\H2=upd H D (.lst (((List.range i).map fun i:Nat=>((g / 2^i % 2:Nat):Int)).map V.int))) ⟨none,?_,rfl⟩ ?_ ?_⟩
  ·rw[Nat.pow_zero,Nat.div_one];rfl
  ·rintro i σ H2 hi ⟨v3,rfl,rfl⟩;refine⟨_,rfl,.inl ⟨rfl,_,SqL.of zac⟩,_,rfl,_,_,rfl,rfl,(by show (0:Int)<2;decide),D,_,_,rfl,rfl,zac,(by rw[jaa,jaa,jbn];exact zaF (by omega)),?_⟩;refine⟨_,rfl,_,_,rfl,rfl,⟨by decide,by decide⟩,some (.int (0+(i:Int))),?_,?_⟩
   ·show [some (V.int (((g / 2^i:Nat):Int) / 2)),_,_,_]=_;rw[show ((g / 2^i:Nat):Int) / 2=((g / 2^(i+1):Nat):Int) by rw[jbY,<- Nat.div_div_eq_div_mul];norm_cast]
   ·rw[zhJ,jbW,jac,jac];rfl
  ·rintro σ H2 ⟨v3,rfl,rfl⟩;exact⟨_,rfl,q D _ hD zac (zai.upd hD)⟩
noncomputable def zoz (K:PySem.W.Frag):Sp:=fun vs H Q _=>∃ (a:Nat),vs=[.int (a:Int)]/\a<2^1000 /\
 ∀ (D:Addr) (H':Hp),H D=none->H' D=some (.lst (((lst a).map fun k:Nat=>(k:Int)).map V.int))->zai H H'->Q (.ref D) H'
theorem zj7:(["k", "bit"]:List Str).Nodup:=by decide +kernel
theorem zs0 (T:Txt w K mg):zfA.Ok P w K mg base 2 (zoz K):=by
  refine Rw.ok T.d_Z57.F T.d_Z57.S fun vs H Q E h=>?_
  obtain⟨a,rfl,ha,q⟩:=h;refine⟨rfl,fun _ _ _ _ hr hu nd=>⟨_,(zae (zak (zbb (g:=(zi1 K 2 (zbD (zaH 0) (zbD (zaH 1) ziZ)))) ["k", "bit"] 2 [] rfl (zfL zfA) (zp3 rfl T.n_enumerate (zaa (zaN T.d_Z2 (ztA T) hr (zaa (pv 0) (zaa (zb8 PySem.F.plainAttrs_int jci jcj zeI (pv 0)) zad))) zad))
    (fun cl C s₀ H₀ fp=>(zbe (n:=2) rfl (zap (pgn 0 zj7) (zap (pgn 1 zj7) zaT)))) (fun cl C s₀ H₀ fp=>(zck (zah zaD (pv 1) zaf (zal _)))) (fun cl C s₀ H₀ fp=>(pv 0))))),?_⟩⟩
  have hb:=zff ha;refine⟨_,rfl,_,rfl,rfl,_,rfl,rfl,a,Builtin.Int.intBits (a:Int),rfl,by omega,fun b H1 hbn hb1 s1=>?_⟩;refine⟨b,rfl,⟨_,SqL.of hb1⟩,?_⟩;refine zls (K:=K) (a:=b) (xs:=((List.range (Builtin.Int.intBits (a:Int))).map fun i:Nat=>((a / 2^i % 2:Nat):Int)).map V.int) (fun i ys σ H2=>∃ v0 v1:Option V,σ = [v0,v1]/\ys=(((List.range i).filter fun k=>a.testBit k).map fun k:Nat=>(k:Int)).map V.int/\zai H1 H2)
   ⟨none,none,rfl,rfl,zai.refl _⟩ (fun i ys σ H2 hi ⟨_,_,_,e1,e2⟩=>⟨SqL.of (e2 _ _ hb1),by
    rw[e1,jaa,jaa];exact jak (ja0 _ _) (by rw[jbn];exact jag _)⟩) (by rw[jaa,jaa,jbn];exact jaB (zaF (by omega))) ?_ ?_
  ·rintro i x ys σ H2 W hi ⟨v0,v1,rfl,rfl,s2⟩ hW;obtain⟨n,hn,rfl⟩:=zio hi;rw[jaC] at hn;have hil:i<Builtin.Int.intBits (a:Int):=by
    rcases jcu i (Builtin.Int.intBits (a:Int)) with z | z
    ·exact z
    ·rw[jcw (by rw[jbn];exact z)] at hn;cases hn
   rw[List.getElem?_range hil] at hn;have hn':((a / 2^i % 2:Nat):Int)=n:=jaD hn;have s3:zai H2 (upd H2 W (.tup [.int (i:Nat),.int n])):=zai.upd hW;refine⟨W,_,rfl,SqT.of zac,rfl,_,_,rfl,_,_,rfl,rfl,?_⟩;refine⟨_,rfl,rfl,_,rfl,?_⟩;have hbit:=ja1 (x:=a) (i:=i);by_cases h1:a / 2^i % 2=1
   ·have hb1:a.testBit i=true:=by rw[hbit];exact decide_eq_true h1
    refine za4 (by rw[<- hn',h1];decide) ?_;refine⟨_,rfl,_,_,rfl,?_,s2.trans s3⟩;rw[jbW,jaO,jac,jac];simp[hb1]
   ·have hb1:a.testBit i=false:=by rw[hbit];exact decide_eq_false h1
    have h0:a / 2^i % 2=0:=by have:=jdr (a / 2^i) (by decide:2 > 0);omega
    refine zaB (by rw[<- hn',h0];decide) ⟨_,_,rfl,?_,s2.trans s3⟩;rw[jbW,jaO,jac,jac];simp[hb1]
  ·rintro ys σ H2 ⟨v0,v1,rfl,rfl,s2⟩ D hD;refine q D _ (s1.free (s2.free hD)) ?_ (s1.trans (s2.trans (zai.upd hD)));rw[zac,jaa,jaa,jbn];rfl
noncomputable def zqw (K:PySem.W.Frag):Sp:=fun vs H Q _=>∃ m:Nat,vs=[.int (m:Int)]/\m<2^16/\∀ H',zai H H'->Q (.str (S (zdC m))) H'
theorem znR:(["k"]:List Str).Nodup:=by decide +kernel
theorem zo3 (T:Txt w K mg):zcU.Ok P w K mg base 3 (zqw K):=by
  refine Rw.ok T.d_Z72.F T.d_Z72.S fun vs H Q E h=>?_
  obtain⟨m,rfl,hm,q⟩:=h;refine⟨rfl,fun _ _ _ _ hr hu nd=>⟨_,(zae (zak (za9 jaz ja9 jbb zdn zaj (zaa (zbb (g:=(zaH 0)) ["k"] 1 [] rfl (zfL zcU) (zaR (zaN T.d_Z57 (zs0 T) hr (zaa (pv 0) zad)))
    (fun cl C s₀ H₀ fp=>(pgn 0 znR)) (fun cl C s₀ H₀ fp=>zbW) (fun cl C s₀ H₀ fp=>(zav zfp (za5 (v := .str "abcdefghijklmnop") (by rfl) T.g_LETTERS ⟨_,rfl⟩) (pv 0) (fun _ _=>rfl)))) zad)))),?_⟩⟩
  refine⟨rfl,?_⟩;refine⟨_,rfl,m,rfl,jas hm (jaH (by decide) (by decide)),fun D H1 hD hD1 s1=>?_⟩;refine⟨D,rfl,⟨_,SqL.of hD1⟩,?_⟩;have hll:(lst m).length<=16:=by have:=zdc hm;unfold zdC at this;rw[jaa] at this;exact this
  refine zbn (K:=K) (a:=D) (xs:=((lst m).map fun k:Nat=>(k:Int)).map V.int) (fun i ys σ G=>∃ v0:Option V,σ = [v0]/\ys=(((zdC m).take i).map fun c=>S [c]).map V.str/\zai H1 G)
   ⟨none,rfl,rfl,zai.refl _⟩ (fun i ys σ G hi ⟨_,_,e1,e2⟩=>⟨SqL.of (e2 _ _ hD1),by rw[e1,jaa,jaa,jaJ];exact Nat.min_le_left _ _⟩) (by rw[jaa,jaa];exact jak hll (by decide)) ?_ ?_
  ·rintro i y ys σ G hi ⟨v0,rfl,rfl,sG⟩;obtain⟨x,hx,rfl⟩:=zio hi;rw[jaC] at hx;obtain⟨k,hk,rfl⟩:∃ k,(lst m)[i]? = some k/\(k:Int)=x:=by
    cases e:(lst m)[i]? with
    | none=>rw[e] at hx;cases hx
    | some k=>rw[e] at hx;exact⟨k,rfl,jaD hx⟩
   have hk16:k<16:=by
    have:=zcR hm (c:=97+k) (jau.mpr ⟨k,jao hk,rfl⟩)
    omega
   unfold zaH;refine tt ?_;refine⟨_,rfl,_,_,_,rfl,rfl,(by rw[zb6,zaw];show 16<=sizeLine;decide),(by rw[zb6,zbE];exact zaA (zjJ k hk16)),?_⟩;refine⟨_,rfl,?_,sG⟩
   have:(zdC m)[i]? = some (97+k):=by unfold zdC;rw[jaC,hk];rfl
   rw[jaI,this,jac,jac];rfl
  ·rintro ys σ G ⟨v0,rfl,rfl,sG⟩ E hE;have hl:(zdC m).take ((((lst m).map fun k:Nat=>(k:Int)).map V.int).length)=zdC m:=ja2 (by unfold zdC;simp);rw[hl];refine⟨_,E,(zdC m).map fun c=>S [c],rfl,rfl,SqL.of zac,?_,?_⟩
   ·rw[zfz,zdt]
    have:=zdc hm
    simp[zaw];omega
   ·rw[zdt,zgA];exact q _ (s1.trans (sG.trans (zai.upd hE)))
noncomputable def zpK (K:PySem.W.Frag):Sp:=fun vs H Q _=>∃ m n:Nat,vs=[.int (m:Int),.int (n:Int)]/\m<2^16/\n<10^63/\∀ H',zai H H'->Q (.str (S (zf9 m n))) H'
theorem zq2 (T:Txt w K mg):zc7.Ok P w K mg base 4 (zpK K):=by
  refine Rw.ok T.d_Z74.F T.d_Z74.S fun vs H Q E h=>?_
  obtain⟨m,n,rfl,hm,hn,q⟩:=h;refine⟨rfl,fun _ _ _ _ hr hu nd=>⟨_,(zab (zay (PW.pt (zcO (zah zaD (pv 1) zaf (zal _)) (zb5 (zah zfe (pv 0) zaf (zal _))))) (zae (zak (zaN T.d_Z72 (zo3 T) hr (zaa (pv 0) zad)))) zam)
   (zae (zak (zao zaI (zbL zcu rfl T.n_str jbS (zaa (pv 1) zad)) (zaN T.d_Z72 (zo3 T) hr (zaa (pv 0) zad)))))),?_⟩⟩
  have fin:¬ (n=1/\m≠0)->∀ H1,zai H H1->Q (.str (S (zgO n)++S (zdC m))) H1:=fun z H1 s1=>by
   rw[zbR];have e:zf9 m n=zgO n++zdC m:=by unfold zf9;rw[if_neg z]
   rw[<- e];exact q H1 s1
  have hlen:(S (zgO n)).length+(S (zdC m)).length<=sizeLine:=by
   rw[zaw,zaw];have h1:(zgO n).length<=63:=zeo (k:=62) hn;have h2:=zdc hm;exact jak (jdu h1 h2) (by decide)
  refine⟨_,rfl,rfl,_,rfl,?_⟩;refine zgJ (fun h1=>?_) (fun h1=>?_)
  ·have n1:n=1:=by
    have:=of_decide_eq_true h1
    injection this with this;omega
   refine⟨_,rfl,rfl,_,rfl,?_⟩;refine zgJ (fun h2=>?_) (fun h2=>?_)
   ·have m0:m≠0:=fun z=>by rw[z] at h2;simp at h2
    refine⟨_,rfl,m,rfl,hm,fun H1 s1=>?_⟩;have e:zf9 m n=zdC m:=by unfold zf9;rw[if_pos ⟨n1,m0⟩];rfl
    rw[<- e];exact q H1 s1
   ·have z:¬ (n=1/\m≠0):=fun z=>h2 (by
     have m0:=z.2;simp[m0])
    refine⟨_,rfl,_,rfl,zfH hn,?_⟩;rw[zga];exact⟨_,rfl,m,rfl,hm,fun H1 s1=>⟨_,_,rfl,rfl,hlen,fin z H1 s1⟩⟩
  ·have z:¬ (n=1/\m≠0):=fun z=>h1 (by rw[z.1];simp)
   refine⟨_,rfl,_,rfl,zfH hn,?_⟩;rw[zga];exact⟨_,rfl,m,rfl,hm,fun H1 s1=>⟨_,_,rfl,rfl,hlen,fin z H1 s1⟩⟩
theorem zkx:(["members", "number"]:List Str).Nodup:=by decide +kernel
theorem zqI (T:Txt w K mg):zcx.Ok P w K mg base 5 (zlB K):=by
  refine Rw.ok T.d_Z15.F T.d_Z15.S fun vs H Q E h=>?_
  obtain⟨a,f,rfl,hT,hs,hl,q⟩:=h;refine⟨rfl,fun _ _ _ _ hr hu nd=>⟨_,(zab (zay (zd0 (zc0 (pv 0) (fun _=>rfl))) (zae (zak zaj)) zam)
   (zab (zht (i:=1) (g:=(zi1 K 2 (zbD (zaH 0) (zbD (zaH 1) ziZ)))) ["members", "number"] 2 [] nd rfl (Or.inl rfl) rfl (zfL zcx) (zaR (pv 0))
    (fun cl C s₀ H₀ fp=>(zbe (n:=2) rfl (zap (pgn 0 zkx) (zap (pgn 1 zkx) zaT)))) (fun cl C s₀ H₀ fp=>zbW) (fun cl C s₀ H₀ fp=>(zao zaI (zaN T.d_Z73 (zpe T) (hr.mono (by decide)) (zaa (pv 1) zad)) (zaN T.d_Z74 (zq2 T) hr (zaa (pv 0) (zaa (zar zeF (by rfl) T.n_abs jbx (zaa (pv 1) zad)) zad))))))
   (zab (zaS 2 nd (zfK (zah zh4 (zav zaK (zav zas (pv 0) zaf (fun _ _=>rfl)) zaf (fun _ _=>rfl)) zaf (zal _)) zaj zaj))
   (zae (zak (zao zaI (pv 2) (zbP zjO (za9 jaz ja9 jbb zdn zaj (zaa (pv 1) zad)) (zbo (zar za3 (by rfl) T.n_len jaF (zaa (zaN T.d_Z73 (zpe T) (hr.mono (by decide)) (zaa (zav zaK (zav zas (pv 0) zaf (fun _ _=>rfl)) zaf (fun _ _=>rfl)) zad)) zad))) zc1))))))),?_⟩⟩
  obtain⟨ps,hS,hP⟩:=id hT;have hpl:=hP.length;cases f with
  | nil =>
   have hn:ps=[]:=ja6 hpl;refine⟨_,rfl,false,.inl ⟨_,SqL.of hS,by rw[hn];rfl⟩,?_⟩;refine zhL ?_
   have:=q H (zai.refl _)
   rw[show txt []=[48] from rfl,<- zes] at this;exact this
  | cons t0 r =>
   have hn:ps≠[]:=fun z=>by rw[z] at hpl;simp at hpl
   refine⟨_,rfl,true,.inl ⟨_,SqL.of hS,by cases ps with | nil=>exact absurd rfl hn | cons _ _=>rfl⟩,?_⟩;refine zf6 ?_;refine⟨_,rfl,a,rfl,⟨_,SqL.of hS⟩,?_⟩;have hlf:(t0 :: r).length<=100000:=by omega
   refine zbn (K:=K) (a:=a) (xs:=ps.map V.ref) (fun i ys σ G=>∃ v0 v1:Option V,σ = [v0,v1]/\ys=(((t0 :: r).take i).map fun t=>S (zbh t)).map V.str/\zai H G)
    ⟨none,none,rfl,rfl,zai.refl _⟩ (fun i ys σ G hi ⟨_,_,_,e1,e2⟩=>⟨SqL.of (e2 _ _ hS),by rw[e1,jaa,jaa,jaJ];exact Nat.min_le_left _ _⟩) (by rw[jaa];exact jaB (zaF (by omega))) ?_ ?_
   ·rintro i y ys σ G hi ⟨v0,v1,rfl,rfl,sG⟩;obtain⟨p,hpi,rfl⟩:=zcG hi;obtain⟨t,ht1,ht2⟩:=hP.at' hpi;have hok:=hs t (jao ht1);obtain⟨h0,h1,h2,h3⟩:=id hok;refine⟨p,_,rfl,SqT.of (sG _ _ ht2),rfl,_,_,rfl,_,_,rfl,rfl,?_⟩;refine tt ?_;have ea:(if t.2<0 then -t.2 else t.2)=((t.2.natAbs:Nat):Int):=by split <;> omega
    have em:t.1=((t.1.toNat:Nat):Int):=(ja5 h0).symm;refine⟨_,rfl,t.2,rfl,?_⟩;refine⟨_,rfl,_,rfl,_,rfl,?_⟩;refine⟨t.1.toNat,t.2.natAbs,by rw[ea,<- em];rfl,by omega,h3,fun G1 s1=>?_⟩;have hle:(S [32,sgn t.2,32]).length+(S (zf9 t.1.toNat t.2.natAbs)).length<=sizeLine:=by
     rw[zaw,zaw];exact jak (jbL (zfD (by omega) h3) _) (by show 3+79<=sizeLine;decide)
    refine⟨_,_,rfl,rfl,hle,?_⟩;refine⟨_,_,rfl,?_,sG.trans s1⟩;rw[zbR,jaI,ht1,jac,jac];rfl
   ·rintro ys σ G ⟨v0,v1,rfl,rfl,sG⟩ D hD;have hl0:(t0 :: r).take (ps.map V.ref).length=t0 :: r:=by rw[jaa,hpl,jaK]
    rw[hl0];have s1:zai H (upd G D (.lst (((t0 :: r).map fun t=>S (zbh t)).map V.str))):=sG.trans (zai.upd hD);have w1:upd G D (.lst (((t0 :: r).map fun t=>S (zbh t)).map V.str)) D=some (.lst (((t0 :: r).map fun t=>S (zbh t)).map V.str)):=zac;generalize upd G D (.lst (((t0 :: r).map fun t=>S (zbh t)).map V.str))=H1 at s1 w1;cases ps with
    | nil=>exact absurd rfl hn
    | cons p0 ps =>
     cases hP with
     | cons hp0 hP =>
      have hS1:=s1 _ _ hS;have hp1:=s1 _ _ hp0;have hsum:(((t0 :: r).map fun t=>S (zbh t)).map (·.length)).sum<=82 * (t0 :: r).length:=by
       have go:∀ l:zag,(∀ t∈l,zcn t)->((l.map fun t=>S (zbh t)).map (·.length)).sum<=82 * l.length:=fun l=>by
        induction l with
        | nil=>intro _;exact jag _
        | cons t l ih =>
         intro hl';rw[jat,jat,jb1,zaw,jae];have h1:=zhD (hl' t (by simp));have h2:=ih fun u hu=>hl' u (by simp[hu])
         omega
       exact go _ hs
      have ej:Txt.join (S []) ((t0 :: r).map fun t=>S (zbh t))=S ([32,sgn t0.2,32]++(zaO t0++r.flatMap zbh)):=by
       have:=zlv ((t0 :: r).map zbh)
       rw[ja3] at this;refine (show Txt.join (S []) ((t0 :: r).map (S ∘ zbh))=_ from this).trans ?_;rw[jat,jbg,<- List.flatMap_def];unfold zbh;simp
      have hbig:([32,sgn t0.2,32]++(zaO t0++r.flatMap zbh)).length<=6000:=by
       have h1:=zhD (hs t0 (by simp));have h2:=zcz (r:=r) fun u hu=>hs u (by simp[hu])
       have h3:([32,sgn t0.2,32]++(zaO t0++r.flatMap zbh)).length=(zbh t0).length+(r.flatMap zbh).length:=by unfold zbh;simp;omega
       simp only[jae] at hl;omega
      have fin:∀ (x:Str),x=S (za1 t0.2)->(∀ G2,zai H G2->Q (.str (x++S (zaO t0++r.flatMap zbh))) G2):=fun x hx G2 s2=>by
       rw[hx,zbR,<- jaP];exact q G2 s2
      have e3:Txt.slice (S ([32,sgn t0.2,32]++(zaO t0++r.flatMap zbh))) (some ((S [32,sgn t0.2,32]).length:Int)) none=S (zaO t0++r.flatMap zbh):=ziM;have hjl:(((t0 :: r).map fun t=>S (zbh t)).map (·.length)).sum+((t0 :: r).map fun t=>S (zbh t)).length * (Str.ofString "").length<=16777216:=by
       rw[zdt,zaw,jbF,Nat.mul_zero];omega
      have at0:atI (List.map V.ref (p0 :: ps)) 0=some (V.ref p0):=zaA (xs:=List.map V.ref (p0 :: ps)) (j:=0) rfl;have hx1:∀ (x:Str),x=S (za1 t0.2)->x.length+(S (zaO t0++r.flatMap zbh)).length<=sizeLine:=fun x hx=>by
       rw[hx,zaw,zaw];have h3:(za1 t0.2).length<=1:=by unfold za1;split <;> simp
       have h4:(zaO t0++r.flatMap zbh).length<=6000:=by rw[jab] at hbig;omega
       exact jak (jdu h3 h4) (by decide)
      refine⟨_,rfl,a,_,_,_,rfl,rfl,SqL.of hS1,at0,p0,_,_,_,rfl,rfl,SqT.of hp1,rfl,_,_,rfl,rfl,_,rfl,?_⟩;refine zgJ (fun h=>?_) (fun h=>?_)
      ·have hx:("-" : Str)=S (za1 t0.2):=by rw[zbc];unfold za1;rw[if_pos (of_decide_eq_true h)]
       refine⟨_,rfl,rfl,_,rfl,_,D,_,rfl,rfl,SqL.of w1,hjl,?_⟩;refine⟨_,rfl,a,_,_,_,rfl,rfl,SqL.of hS1,at0,p0,_,_,_,rfl,rfl,SqT.of hp1,rfl,t0.2,rfl,_,rfl,sl3,?_⟩;refine⟨_,rfl,_,rfl,(by rw[zdt,ej,zaw];exact jak hbig (by decide)),_,_,rfl,rfl,?_,?_⟩
       ·rw[zdt,ej,e3];exact hx1 _ hx
       ·rw[zdt,ej,e3];exact fin _ hx _ s1
      ·have hx:("" : Str)=S (za1 t0.2):=by rw[zdt];unfold za1;rw[if_neg (fun z=>h (decide_eq_true z))]
       refine⟨_,rfl,rfl,_,rfl,_,D,_,rfl,rfl,SqL.of w1,hjl,?_⟩;refine⟨_,rfl,a,_,_,_,rfl,rfl,SqL.of hS1,at0,p0,_,_,_,rfl,rfl,SqT.of hp1,rfl,t0.2,rfl,_,rfl,sl3,?_⟩;refine⟨_,rfl,_,rfl,(by rw[zdt,ej,zaw];exact jak hbig (by decide)),_,_,rfl,rfl,?_,?_⟩
       ·rw[show Txt.join (Str.ofString "")=Txt.join (S []) by rw[zdt],ej,e3];exact hx1 _ hx
       ·rw[show Txt.join (Str.ofString "")=Txt.join (S []) by rw[zdt],ej,e3];exact fin _ hx _ s1
noncomputable def zr3 (K:PySem.W.Frag):Sp:=fun vs H Q _=>∃ (a:Addr) (f:zag),vs=[.str "show",.ref a]/\TLo H a f/\(∀ t∈f,zcn t)/\f.length<=64/\∀ H',zai H H'->Q (.str (S (txt f))) H'
theorem zrH (T:Txt w K mg):zgp.Ok P w K mg base 6 (zr3 K):=by
  refine Rw.ok T.d_Z81.F T.d_Z81.S fun vs H Q E h=>?_
  obtain⟨a,f,rfl,hT,hs,hl,q⟩:=h;refine⟨rfl,fun _ _ _ _ hr hu nd=>⟨_,(zab (zay (zah zaD (pv 0) zaj (zal _)) (zae (zak (zaN T.d_Z15 (zqI T) hr (zaa (pv 1) zad)))) zam)
   (zab (zay (zah zaD (pv 0) zaj (zal _)) (zae zaW) zam)
   (zab (zay (zah zaD (pv 0) zaj (zal _)) (zae zaW) zam)
   (zab zaW
   (zae zaW))))),?_⟩⟩
  refine⟨_,rfl,rfl,_,rfl,za4 (by decide) ?_⟩;exact⟨_,rfl,a,f,rfl,hT,hs,hl,fun H1 s1=>q H1 s1⟩
noncomputable def zqO (C NN:Addr):Sp:=fun vs H Q E=>∃ (p d t:Addr) (st:Sts) (n:List Nat),vs=[.ref p,.str "show",.ref t]/\H t=some (.lst [.str (S n)])/\zcw C H p d st/\(∀ f,zef st n=some f->(∀ t∈f,zcn t)/\f.length<=64/\∀ H',zai H H'->Q (.str (S (txt f))) H')/\(zef st n=none->E (.ref NN) none H)
theorem zgI (T:Txt w K mg):zdb.OkE P w K mg base 7 (zqO zbt zaP):=by
  refine Rw.okE T.d_Desk_answer.F T.d_Desk_answer.S fun vs H Q E h=>?_
  obtain⟨p,d,t,st,n,rfl,ht,hD,q,e⟩:=h;refine⟨rfl,fun _ _ _ _ hr hu nd=>⟨_,(zab (zaS 3 nd (zfi (pv 0) T.cl_Desk T.d_Desk_kept.m (zct T) (hr.mono (by decide)) T.d_Desk_kept.b .nil (zjm zcc) (zaa (zav zas (pv 2) zaf (fun _ _=>rfl)) zad)))
   (zab (PS.nox (zay (zah zaD (pv 1) zaj (zal _)) (zae zaW) zam))
   (zab (zay (zah zaD (pv 1) zaj (zal _)) (zae zaW) zam)
   (zab (zay (zah zaD (pv 1) zaj (zal _)) (zae zaW) zam)
   (zae (PS.nox (zak (zaN T.d_Z81 (zrH T) hr (zaa (pv 1) (zaa (pv 3) zad)))))))))),?_⟩⟩
  obtain⟨⟨dx,ho⟩,_⟩:=id hD;refine⟨_,rfl,p,dx,_,rfl,ho,zbH d (by decide +kernel),_,rfl,t,_,_,_,rfl,rfl,SqL.of ht,zaA (j:=0) rfl,p,d,st,n,rfl,hD,fun a f hf hT=>?_,e⟩;obtain⟨f1,f2,f3⟩:=q f hf;refine⟨_,rfl,rfl,_,rfl,zaB (by decide) ?_⟩;refine⟨_,rfl,rfl,_,rfl,zaB (by decide) ?_⟩;refine⟨_,rfl,rfl,_,rfl,zaB (by decide) ?_⟩;exact⟨_,rfl,_,rfl,a,f,rfl,hT,f1,f2,fun H1 s1=>f3 H1 s1⟩
noncomputable def ztB (K:PySem.W.Frag) (C NN NY:Addr):Sp:=fun vs H Q E=>∃ (p d:Addr) (st:Sts) (l ls:List Nat),vs=[.ref p,.str (S l)]/\zcw C H p d st/\(∀ c∈l,c<128)/\l.length<=9000/\ls.length<=5/\(∀ x∈ls,x<16)/\(∀ nf∈st,FOk ls nf.2)/\st.length<=1000 /\
 ((∃ c:Cmd,zcp l=some (some c.nm,c.wl,c.th)/\zn5 ls c/\(∀ H',zdT ls st c .name->zai H H'->E (.ref NN) none H')/\(∀ H',zdT ls st c .yesno->zai H H'->E (.ref NY) none H') /\
  ∀ f,zdT ls st c (.form f)->(f.length<=300/\∀ t∈f,t.2.natAbs<10^100)/\∀ H',zcw C H' p d (zmn st c.nm f)->zaJ d H H'->Q (.str "ok") H') \/
 (∃ n,zcp l=some (none,SHW,[.str (S n)])/\(∀ H',zef st n=none->zai H H'->E (.ref NN) none H')/\∀ f,zef st n=some f->((∀ t∈f,zcn t)/\f.length<=64)/\∀ H',zai H H'->Q (.str (S (txt f))) H'))
theorem zjx (T:Txt w K mg):ze5.OkE P w K mg base 9 (ztB K zbt zaP zaL):=by
  refine Rw.okE T.d_Desk_say.F T.d_Desk_say.S fun vs H Q E h=>?_
  obtain⟨p,d,st,l,ls,rfl,hD,ha,hl,hl5,hl16,hst,hsl,hor⟩:=h;refine⟨rfl,fun _ _ _ _ hr hu nd=>⟨_,(zab (PS.nox (zgi (zaN T.d_Z56 (zsR T) (hr.mono (by decide)) (zaa (pv 1) zad)) (zbe (n:=3) rfl (zap (pgn 2 nd) (zap (pgn 3 nd) (zap (pgn 4 nd) zaT))))))
   (zab (zay (zah zgX (pv 2) zcI (zal _)) (zae (zak (zfi (pv 0) T.cl_Desk T.d_Desk_answer.m (zgI T) (hr.mono (by decide)) T.d_Desk_answer.b .nil (zjm zcc) (zaa (pv 3) (zaa (pv 4) zad))))) zam)
   (zab (zaS 5 nd (zfi (pv 0) T.cl_Desk T.d_Desk_form_for.m (zfs T) hr T.d_Desk_form_for.b .nil (zjm zcc) (zaa (pv 3) (zaa (pv 4) zad))))
   (zab (PS.nox (zaU (zaN T.d_Z70 (zsF T) (hr.mono (by decide)) (zaa (pv 5) zad))))
   (zab (PS.nox (zeY hu (zlr (pv 0) rfl) (pv 2) (pv 5) rfl))
   (zae (PS.nox (zak zaj)))))))),?_⟩⟩
  obtain⟨⟨dx,ho⟩,_⟩:=id hD;rcases hor with ⟨c,hc,hok,qn,qy,q⟩ | ⟨n,hc,qn,q⟩
  ·refine⟨_,rfl,l,rfl,ha,hl,fun o wo vs pp cc H1 hr hp hcc s1=>?_,fun H1 hr s1=>by rw[hc] at hr;cases hr⟩;rw[hc] at hr;cases hr;refine⟨pp,_,rfl,SqT.of hp,rfl,_,_,rfl,_,_,rfl,_,_,rfl,rfl,?_⟩;refine⟨_,rfl,rfl,_,rfl,zaB (by simp[onV]) ?_⟩;refine⟨_,rfl,p,dx,_,rfl,s1 _ _ ho,zbH d (by decide +kernel),_,rfl,_,rfl,p,d,cc,st,c,ls,(by rw[zuk];rfl),hcc,hD.keep s1,hl5,hl16,hst,hok,(fun H2 hm s2=>qn H2 hm (s1.trans s2)),(fun H2 hm s2=>qy H2 hm (s1.trans s2)),fun f b H2 hm hT s2=>?_⟩;obtain⟨⟨f1,f2⟩,f3⟩:=q f hm;refine⟨_,rfl,b,f,rfl,hT,f1,f2,fun H3 s3=>?_⟩;have S3:=s1.trans (s2.trans s3);obtain⟨⟨dx',ho'⟩,kvs,hd,hk⟩:=hD.keep S3;have hkl:kvs.length=st.length:=jaL hk;refine⟨_,rfl,_,rfl,p,_,dx',_,_,rfl,ho',T.cl_Desk,T.nf_Desk_forms,ze4 d,_,rfl,d,_,rfl,zna.k (k:=Sum.inr (S c.nm)) hd (zaF (by omega)),?_⟩;have npd:p≠d:=zpO ho' hd (by intro z;cases z);exact f3 _ ⟨⟨dx',by rw[zan npd];exact ho'⟩,zdU.put hd hk (hT.keep s3)⟩ ((zaJ.of S3).trans zaJ.upd)
  ·refine⟨_,rfl,l,rfl,ha,hl,fun o wo vs pp cc H1 hr hp hcc s1=>?_,fun H1 hr s1=>by rw[hc] at hr;cases hr⟩;rw[hc] at hr;cases hr;refine⟨pp,_,rfl,SqT.of hp,rfl,_,_,rfl,_,_,rfl,_,_,rfl,rfl,?_⟩;refine⟨_,rfl,rfl,_,rfl,za4 (by decide) ?_⟩;refine⟨_,rfl,p,dx,_,rfl,s1 _ _ ho,zbH d (by decide +kernel),_,rfl,_,rfl,p,d,cc,st,n,(by rw[<- zjN];rfl),hcc,hD.keep s1,fun f hf=>?_,fun hg=>qn H1 hg s1⟩;obtain⟨⟨f1,f2⟩,f3⟩:=q f hf;exact⟨f1,f2,fun H2 s2=>f3 H2 (s1.trans s2)⟩
noncomputable def zpQ (K:PySem.W.Frag) (C:Addr):Sp:=fun vs H Q _=>∃ (p d:Addr) (st:Sts) (l ls:List Nat),vs=[.ref p,.str (S l)]/\zcw C H p d st/\(∀ c∈l,c<128)/\l.length<=9000/\ls.length<=5/\(∀ x∈ls,x<16)/\(∀ nf∈st,FOk ls nf.2)/\st.length<=1000 /\
 ((∃ c:Cmd,zcp l=some (some c.nm,c.wl,c.th)/\zn5 ls c/\(∀ e H',zdT ls st c .name->H' e=some (.lst [.str "name"])->zai H H'->Q (.ref e) H')/\(∀ e H',zdT ls st c .yesno->H' e=some (.lst [.str "yes no"])->zai H H'->Q (.ref e) H') /\
  ∀ f,zdT ls st c (.form f)->(f.length<=300/\∀ t∈f,t.2.natAbs<10^100)/\∀ H',zcw C H' p d (zmn st c.nm f)->zaJ d H H'->Q (.str "ok") H') \/
 (∃ n,zcp l=some (none,SHW,[.str (S n)])/\(∀ e H',zef st n=none->H' e=some (.lst [.str "name"])->zai H H'->Q (.ref e) H')/\∀ f,zef st n=some f->((∀ t∈f,zcn t)/\f.length<=64)/\∀ H',zai H H'->Q (.str (S (txt f))) H'))
theorem zn4:(["_law_one"]:List Str).Nodup:=by decide +kernel
theorem zpf (T:Txt w K mg):zdB.Ok P w K mg base 10 (zpQ K zbt):=by
  refine Rw.ok T.d_Z42.F T.d_Z42.S fun vs H Q E h=>?_
  obtain⟨p,d,st,l,ls,rfl,hD,ha,hl,hl5,hl16,hst,hsl,hor⟩:=h;refine⟨rfl,fun _ _ _ _ hr hu nd=>⟨_,(zab (zaS 2 nd zcI)
   (zab (zaS 3 nd zcI)
   (zab (zdZ (zpN (i:=4) (j:=2) (l:=3) (zp1 zlm) (pv 0) T.cl_Desk T.d_Desk_say.m (zjx T) hr T.d_Desk_say.b (zaa (pv 1) zad) nd rfl rfl rfl (by decide) T.g_FormError T.x_FormError))
   (zab (zay (zah zgX (pv 2) zcI (zal _)) (zae (zak (pv 3))) zam)
   (zab (zaS 5 nd (zaG (zaa (zar zaQ (by rfl) T.n_isinstance jaW (zaa (pv 2) (zaa (za5 (v := .ref zdM) (by rfl) T.g_NoLine rfl) zad))) (zaa (zar zaQ (by rfl) T.n_isinstance jaW (zaa (pv 2) (zaa (za5 (v := .ref zdP) (by rfl) T.g_NoForm rfl) zad))) (zaa (zar zaQ (by rfl) T.n_isinstance jaW (zaa (pv 2) (zaa (za5 (v := .ref zbq) (by rfl) T.g_NoStatement rfl) zad))) zad)))))
   (zab (zaS 5 nd (zao ziy (pv 5) (zaG (zaa (zar zaQ (by rfl) T.n_isinstance jaW (zaa (pv 2) (zaa (za5 (v := .ref zaP) (by rfl) T.g_NoName rfl) zad))) (zaa (zar zaQ (by rfl) T.n_isinstance jaW (zaa (pv 2) (zaa (za5 (v := .ref zaL) (by rfl) T.g_NoYesNo rfl) zad))) (zaa (zar zaQ (by rfl) T.n_isinstance jaW (zaa (pv 2) (zaa (za5 (v := .ref zcK) (by rfl) T.g_TooMany rfl) zad))) zad))))))
   (zab (zaU (za9 jaf jap jaq zaM (pv 5) (zaa (zar zaQ (by rfl) T.n_isinstance jaW (zaa (pv 2) (zaa (za5 (v := .ref zdJ) (by rfl) T.g_NoPull rfl) zad))) zad)))
   (zab (zay (PW.pt (zgN (zah zfe (zar zaz (by rfl) T.n_len jaF (zaa (zbb (g:=(zaH 0)) ["_law_one"] 1 [] rfl (zfL zdB) (zaR (pv 5))
    (fun cl C s₀ H₀ fp=>(pgn 0 zn4)) (fun cl C s₀ H₀ fp=>(zck (zcs (pv 0) (fun _=>rfl)))) (fun cl C s₀ H₀ fp=>(pv 0))) zad)) zaf (zal _)) (zeq (zd0 (zcs (zar zaQ (by rfl) T.n_isinstance jaW (zaa (pv 2) (zaa (zp2 (v := .ty "ValueError") (by rfl) T.n_ValueError zpC rfl) zad))) (fun _=>rfl)))))) (zae (zak (zaG (zaa zaj zad)))) zam)
   (zae (zak (zaG (zaa (zav zas (zaG (zaa zaj (zaa zaj (zaa zaj (zaa zaj (zaa zaj (zaa zaj (zaa zaj zad)))))))) (za9 jaf PySem.F.slot_list_index PySem.F.type_list_index zlp (pv 5) (zaa zjj zad)) (fun _ _=>rfl)) zad)))))))))))),?_⟩⟩
  obtain⟨⟨dx,ho⟩,_⟩:=id hD;refine⟨fun σ G=>(∃ (v:V) (v4:Option V),σ = [some (.ref p),some (.str (S l)),some .non,some v,v4,none]/\Q v G)\/(∃ (e0:Addr) (nm:Bool) (v3 v4:Option V),σ = [some (.ref p),some (.str (S l)),some (.ref e0),v3,v4,none]/\G e0=some (znk e0 (if nm then zaP else zaL))/\∀ e H',H' e=some (.lst [.str (if nm then "name" else "yes no")])->zai G H'->Q (.ref e) H'),?_,?_⟩
  ·have cn:∀ H1,zai H H1->(∀ e H',H' e=some (.lst [.str "name"])->zai H H'->Q (.ref e) H')->∀ e0,H1 e0=none->(∀ e H',H' e=some (.lst [.str (if true then "name" else "yes no")])->zai (upd H1 e0 (znk e0 zaP)) H'->Q (.ref e) H'):=fun H1 s1 hq e0 he e H' h1 h2=>hq e H' h1 (s1.trans ((zai.upd he).trans h2))
   refine⟨_,rfl,p,dx,_,rfl,ho,zbH d (by decide +kernel),_,rfl,p,d,st,l,ls,rfl,hD,ha,hl,hl5,hl16,hst,hsl,?_⟩;rcases hor with ⟨c,hc,hok,qn,qy,q⟩ | ⟨n,hc,qn,q⟩
   ·refine .inl ⟨c,hc,hok,fun H1 hm s1=>⟨zaP,_,rfl,T.x_NoName,by simp,fun e0 he=>.inr ⟨e0,true,_,_,rfl,zac,fun e H' h1 h2=>qn e H' hm h1 (s1.trans ((zai.upd he).trans h2))⟩⟩,fun H1 hm s1=>⟨zaL,_,rfl,T.x_NoYesNo,by simp,fun e0 he=>.inr ⟨e0,false,_,_,rfl,zac,fun e H' h1 h2=>qy e H' hm h1 (s1.trans ((zai.upd he).trans h2))⟩⟩,fun f hm=>?_⟩;obtain⟨f1,f2⟩:=q f hm;exact⟨f1,fun H1 h1 h2=>.inl ⟨_,_,rfl,f2 H1 h1 h2⟩⟩
   ·refine .inr ⟨n,hc,fun H1 hm s1=>⟨zaP,_,rfl,T.x_NoName,by simp,fun e0 he=>.inr ⟨e0,true,_,_,rfl,zac,fun e H' h1 h2=>qn e H' hm h1 (s1.trans ((zai.upd he).trans h2))⟩⟩,fun f hm=>?_⟩;obtain⟨f1,f2⟩:=q f hm;exact⟨f1,fun H1 h1=>.inl ⟨_,_,rfl,f2 H1 h1⟩⟩
  ·rintro σ G (⟨v,v4,rfl,hq⟩ | ⟨e0,nm,v3,v4,rfl,hx,hq⟩)
   ·refine⟨_,rfl,rfl,_,rfl,za4 (by decide) ?_⟩;exact⟨_,rfl,hq⟩
   refine⟨_,rfl,rfl,_,rfl,zaB (by simp) ?_⟩;obtain⟨NC,bm,hNC,x0,i1,i2,i3,i4,i5,i6,i7,vV⟩:∃ (NC:Addr) (bm:List Value),(if nm=true then zaP else zaL)=NC/\zk6 K NC bm=true/\PySem.W.kitOne K (.ref NC) (.ref zdM)=some false/\PySem.W.kitOne K (.ref NC) (.ref zdP)=some false/\PySem.W.kitOne K (.ref NC) (.ref zbq)=some false/\PySem.W.kitOne K (.ref NC) (.ref zaP)=some nm/\PySem.W.kitOne K (.ref NC) (.ref zaL)=some (!nm)/\PySem.W.kitOne K (.ref NC) (.ref zcK)=some false/\PySem.W.kitOne K (.ref NC) (.ref zdJ)=some false/\PySem.W.kitOne K (.ref NC) (.type "ValueError")=some true:=by
    cases nm with
    | true=>exact⟨_,_,rfl,T.x_NoName,T.i_NoName_NoLine,T.i_NoName_NoForm,T.i_NoName_NoStatement,T.i_NoName_NoName,T.i_NoName_NoYesNo,T.i_NoName_TooMany,T.i_NoName_NoPull,T.v_NoName⟩
    | false=>exact⟨_,_,rfl,T.x_NoYesNo,T.i_NoYesNo_NoLine,T.i_NoYesNo_NoForm,T.i_NoYesNo_NoStatement,T.i_NoYesNo_NoName,T.i_NoYesNo_NoYesNo,T.i_NoYesNo_TooMany,T.i_NoYesNo_NoPull,T.v_NoYesNo⟩
   rw[hNC] at hx;refine⟨_,rfl,e0,NC,_,false,hx,x0,.inl ⟨zdM,rfl,i1⟩,?_⟩;refine⟨_,rfl,e0,NC,_,false,hx,x0,.inl ⟨zdP,rfl,i2⟩,?_⟩;refine⟨_,rfl,e0,NC,_,false,hx,x0,.inl ⟨zbq,rfl,i3⟩,?_⟩;refine⟨by show 3<=sizeLine;decide,fun l1 hl1=>?_⟩;have t2:zai G (upd G l1 (.lst [.bl false,.bl false,.bl false])):=zai.upd hl1;have y1:upd G l1 (.lst [.bl false,.bl false,.bl false]) l1=some (.lst [.bl false,.bl false,.bl false]):=zac;have x1:=t2 _ _ hx;generalize upd G l1 (.lst [.bl false,.bl false,.bl false])=H3 at t2 y1 x1;refine⟨_,rfl,_,rfl,e0,NC,_,nm,x1,x0,.inl ⟨zaP,rfl,i4⟩,?_⟩;refine⟨_,rfl,e0,NC,_,!nm,x1,x0,.inl ⟨zaL,rfl,i5⟩,?_⟩;refine⟨_,rfl,e0,NC,_,false,x1,x0,.inl ⟨zcK,rfl,i6⟩,?_⟩;refine⟨by show 3<=sizeLine;decide,fun l2 hl2=>?_⟩;have t3:zai H3 (upd H3 l2 (.lst [.bl nm,.bl !nm,.bl false])):=zai.upd hl2;have y2:upd H3 l2 (.lst [.bl nm,.bl !nm,.bl false]) l2=some (.lst [.bl nm,.bl !nm,.bl false]):=zac;have x2:=t3 _ _ x1;have y1':=t3 _ _ y1;generalize upd H3 l2 (.lst [.bl nm,.bl !nm,.bl false])=H4 at t3 y2 x2 y1';refine⟨l1,l2,_,_,rfl,rfl,y1',y2,sl6,fun l3 hl3=>?_⟩;have t4:zai H4 (upd H4 l3 (.lst ([.bl false,.bl false,.bl false] ++ [.bl nm,.bl !nm,.bl false]))):=zai.upd hl3;have y3:upd H4 l3 (.lst ([.bl false,.bl false,.bl false] ++ [.bl nm,.bl !nm,.bl false])) l3=some (.lst [.bl false,.bl false,.bl false,.bl nm,.bl !nm,.bl false]):=zac;have x3:=t4 _ _ x2;have n3:G l3=none:=t2.free (t3.free hl3);generalize upd H4 l3 (.lst ([.bl false,.bl false,.bl false] ++ [.bl nm,.bl !nm,.bl false]))=H5 at t4 y3 x3;have T5:=t2.trans (t3.trans t4);refine⟨_,rfl,.inl ⟨rfl,_,SqL.of y3⟩,_,rfl,e0,NC,_,false,x3,x0,.inl ⟨zdJ,rfl,i7⟩,l3,_,_,rfl,rfl,y3,(by show 6<sizeLine;decide),?_⟩;have y4:upd H5 l3 (.lst ([.bl false,.bl false,.bl false,.bl nm,.bl !nm,.bl false] ++ [.bl false])) l3=some (.lst ([false,false,false,nm,!nm,false,false].map V.bl)):=zac;have ne3:e0≠l3:=fun z=>by rw[z] at hx;rw[hx] at n3;cases n3
   have x4:upd H5 l3 (.lst ([.bl false,.bl false,.bl false,.bl nm,.bl !nm,.bl false] ++ [.bl false])) e0=some (znk e0 NC):=by rw[zan ne3];exact x3
   have T6:zai G (upd H5 l3 (.lst ([.bl false,.bl false,.bl false,.bl nm,.bl !nm,.bl false] ++ [.bl false]))):=T5.write n3;generalize upd H5 l3 (.lst ([.bl false,.bl false,.bl false,.bl nm,.bl !nm,.bl false] ++ [.bl false]))=H6 at y4 x4 T6;refine⟨_,rfl,l3,rfl,⟨_,SqL.of y4⟩,?_⟩;refine zbn (K:=K) (a:=l3) (xs:=[false,false,false,nm,!nm,false,false].map V.bl) (fun i ys σ G'=>∃ v0:Option V,σ = [v0]/\ys=((([false,false,false,nm,!nm,false,false].take i).filter id).map V.bl)/\G'=H6)
    ⟨none,rfl,rfl,rfl⟩ (fun i ys σ G' hi ⟨_,_,e1,e2⟩=>⟨by rw[e2];exact SqL.of y4,by rw[e1,jaa];exact jak (ja0 _ _) (by rw[jaJ];omega)⟩) (by show 7<=sizeLine;decide) ?_ ?_
   ·rintro i y ys σ G' hi ⟨v0,rfl,rfl,rfl⟩;rw[jaC] at hi;obtain⟨b,hb,rfl⟩:∃ b,[false,false,false,nm,!nm,false,false][i]? = some b/\V.bl b=y:=by
     cases e:[false,false,false,nm,!nm,false,false][i]? with
     | none=>rw[e] at hi;cases hi
     | some t=>rw[e] at hi;exact⟨t,rfl,jaD hi⟩
    have htk:[false,false,false,nm,!nm,false,false].take (i+1)=[false,false,false,nm,!nm,false,false].take i ++ [b]:=by rw[jaI,hb];rfl
    unfold zaH;refine⟨_,rfl,b,rfl,?_⟩;cases b with
    | false =>
     refine zf6 ?_;refine⟨_,rfl,?_,rfl⟩;rw[htk,jaO];simp
    | true =>
     refine zhL ?_;refine⟨_,rfl,_,rfl,?_,rfl⟩;rw[htk,jaO,jac];rfl
   ·rintro ys σ G' ⟨v0,rfl,rfl,rfl⟩ D hD;have e1:((([false,false,false,nm,!nm,false,false].take ([false,false,false,nm,!nm,false,false].map V.bl).length).filter id).map V.bl).length=1:=by cases nm <;> rfl
    have t7:zai G' (upd G' D (.lst ((([false,false,false,nm,!nm,false,false].take ([false,false,false,nm,!nm,false,false].map V.bl).length).filter id).map V.bl))):=zai.upd hD;refine⟨D,_,rfl,.inl (SqL.of zac),rfl,_,rfl,?_⟩;rw[e1];refine zaB (by decide) ?_;have x5:=t7 _ _ x4;have y5:=t7 _ _ y4;have T7:=T6.trans t7;generalize upd G' D (.lst ((([false,false,false,nm,!nm,false,false].take ([false,false,false,nm,!nm,false,false].map V.bl).length).filter id).map V.bl))=H7 at x5 y5 T7 ⊢;refine⟨_,rfl,e0,NC,_,true,x5,x0,.inr ⟨"ValueError",rfl,vV⟩,true,rfl,zaB (by decide) ?_⟩;refine⟨by show 7<=sizeLine;decide,fun l5 hl5'=>?_⟩;have t8:zai H7 (upd H7 l5 (.lst [.str "line",.str "form",.str "statement",.str "name",.str "yes no",.str "many",.str "pull"])):=zai.upd hl5';have y6:=t8 _ _ y5;have z6:upd H7 l5 (.lst [.str "line",.str "form",.str "statement",.str "name",.str "yes no",.str "many",.str "pull"]) l5=some (.lst [.str "line",.str "form",.str "statement",.str "name",.str "yes no",.str "many",.str "pull"]):=zac;have T8:=T7.trans t8;generalize upd H7 l5 (.lst [.str "line",.str "form",.str "statement",.str "name",.str "yes no",.str "many",.str "pull"])=H8 at y6 z6 T8 ⊢;cases nm with
    | true =>
     refine⟨_,rfl,.inl ⟨rfl,_,SqL.of y6⟩,l3,_,.bl true,3,rfl,rfl,y6,rfl,rfl,⟨_,rfl,rfl⟩,(fun m z hm hz=>?_),l5,_,_,.str "name",rfl,rfl,SqL.of z6,rfl,sl1,fun l6 hl6=>hq l6 _ zac (T8.trans (zai.upd hl6))⟩;obtain rfl | rfl | rfl:m=0\/m=1\/m=2:=by omega
     all_goals cases hz;rfl
    | false =>
     refine⟨_,rfl,.inl ⟨rfl,_,SqL.of y6⟩,l3,_,.bl true,4,rfl,rfl,y6,rfl,rfl,⟨_,rfl,rfl⟩,(fun m z hm hz=>?_),l5,_,_,.str "yes no",rfl,rfl,SqL.of z6,rfl,sl1,fun l6 hl6=>hq l6 _ zac (T8.trans (zai.upd hl6))⟩;obtain rfl | rfl | rfl | rfl:m=0\/m=1\/m=2\/m=3:=by omega
     all_goals cases hz;rfl
noncomputable def zmX (K:PySem.W.Frag):Sp:=fun vs H Q _=>∃ cell k:Int,vs=[.int cell,.int k]/\(0<=k/\k<2^20)/\∀ (D:Addr) (xs:List Int) (H':Hp),H D=none->H' D=some (.lst (xs.map V.int))->(xs.length=12/\∀ x∈xs,0<=x)->zai H H'->Q (.ref D) H'
theorem zsG (T:Txt w K mg):zdk.Ok P w K mg base 2 (zmX K):=by
  refine Rw.ok T.d_Z49.F T.d_Z49.S fun vs H Q E h=>?_
  obtain⟨cell,k,rfl,hm,q⟩:=h;refine⟨rfl,fun _ _ _ _ hr hu nd=>⟨_,(zab (zaS 2 nd (zaG zad))
   (zab (zay (zah zrj (pv 0) (zao zj3 zaf zaf) (zal _)) (zab (zaS 3 nd (zao zd3 (pv 0) (zao zj3 zaf zaf)))
   (zab (zbs jaG rfl (zbw rfl T.n_range (zaa zaf zad)) (pgn 4 nd)
    (zab (zaU (za9 jaf jap jaq zaM (pv 2) (zaa (zao zaY (pv 3) zaf) zad)))
   (zae (zaS 3 nd (zao zbj (pv 3) zaf)))))
   (zae (zak (pv 2))))) zam)
   (zab (zaS 5 nd (zaN T.d_Z36 (zo4 T) hr (zaa (pv 0) (zaa (pv 1) zad))))
   (zab (zbs jaG rfl (zbw rfl T.n_range (zaa zaf zad)) (pgn 4 nd)
    (zab (zaS 5 nd (zao zaY (zao zbx (zao zbx (zao zbi (pv 5) (pv 5)) (zao zbi zaf (pv 4))) zaf) zaf))
   (zae (zaU (za9 jaf jap jaq zaM (pv 2) (zaa (zao zbj (zao zaY (zao zbi (pv 5) zaf) zaf) zaf) zad))))))
   (zae (zak (pv 2))))))),?_⟩⟩
  refine⟨jaE _,fun D hD=>?_⟩;have s0:zai H (upd H D (.lst [])):=zai.upd hD;have w0:upd H D (.lst []) D=some (.lst ([].map V.int)):=zac;generalize upd H D (.lst [])=H0 at s0 w0 ⊢;refine⟨_,rfl,_,_,rfl,rfl,⟨by decide,by decide,by decide⟩,_,_,rfl,rfl,_,rfl,zgJ (fun z=>?_) (fun z=>?_)⟩
  ·refine⟨_,rfl,_,_,rfl,rfl,⟨by decide,by decide,by decide⟩,_,_,rfl,rfl,?_⟩;refine⟨12,rfl,by decide,by decide,?_⟩;refine zco (n:=(12:Int).toNat) (fun i σ G=>∃ (v4 v5:Option V) (le:Int) (xs:List Int),σ = [some (.int cell),some (.int k),some (.ref D),some (.int le),v4,v5]/\G D=some (.lst (xs.map V.int))/\xs.length=i/\(∀ x∈xs,0<=x)/\zai H G)
    ⟨_,_,_,[],rfl,w0,rfl,(fun x h=>by cases h),s0⟩ ?_ ?_
   ·rintro i σ G hi ⟨v4,v5,le,xs,rfl,g1,g2,g3,g4⟩;have hi':i<12:=hi;refine⟨_,rfl,.inl ⟨rfl,_,SqL.of g1⟩,_,rfl,_,_,rfl,rfl,(by show (0:Int)<134217728;decide),D,_,_,rfl,rfl,g1,(by rw[jaa,g2];exact zaF (by omega)),?_⟩;refine⟨_,rfl,_,_,rfl,rfl,zbT (by decide) (by decide),_,_,_,xs ++ [le % 134217728],rfl,(by rw[zac,jac];rfl),by rw[jab,g2];rfl,fun x hx=>?_,g4.write hD⟩;rcases jah.mp hx with y | y
    ·exact g3 x y
    ·rw[jad.mp y];exact jaV _ (by decide)
   ·rintro σ G ⟨v4,v5,le,xs,rfl,g1,g2,g3,g4⟩;exact⟨_,rfl,q D xs G hD g1 ⟨g2,g3⟩ g4⟩
  refine⟨_,rfl,_,rfl,cell,k,rfl,by omega,by omega,fun r0 r1 r2=>?_⟩;refine⟨12,rfl,by decide,by decide,?_⟩;refine zco (n:=(12:Int).toNat) (fun i σ G=>∃ (v3 v4:Option V) (nu:Int) (xs:List Int),σ = [some (.int cell),some (.int k),some (.ref D),v3,v4,some (.int nu)]/\0<=nu/\nu<2147483629/\G D=some (.lst (xs.map V.int))/\xs.length=i/\(∀ x∈xs,0<=x)/\zai H G)
   ⟨_,_,_,[],rfl,r1,by omega,w0,rfl,(fun x h=>by cases h),s0⟩ ?_ ?_
  ·rintro i σ G hi ⟨v3,v4,nu,xs,rfl,n1,n2,g1,g2,g3,g4⟩;have hi':i<12:=hi;refine⟨_,rfl,_,rfl,_,_,rfl,rfl,zlM (by omega) (by omega),_,rfl,_,_,rfl,rfl,zlM (by omega) (by omega),_,_,rfl,rfl,_,_,rfl,rfl,_,_,rfl,rfl,(by show (0:Int)<2147483629;decide),?_⟩;dsimp only;obtain⟨nv,hnv⟩:∃ nv:Int,(nu * nu+7 * (0+(i:Int))+1) % 2147483629=nv:=⟨_,rfl⟩;have hn1:0<=nv:=by rw[<- hnv];exact jaV _ (by decide)
   have hn2:nv<2147483629:=by rw[<- hnv];exact jaN _ (by decide)
   rw[hnv];refine⟨_,rfl,.inl ⟨rfl,_,SqL.of g1⟩,_,rfl,_,_,rfl,rfl,zlM (by decide) (by decide),_,_,rfl,rfl,(by show (0:Int)<2147483587;decide),_,_,rfl,rfl,zbT (by decide) (by decide),D,_,_,rfl,rfl,g1,(by rw[jaa,g2];exact zaF (by omega)),?_⟩;refine⟨_,_,nv,xs ++ [nv * 69621 % 2147483587 / 16],rfl,hn1,hn2,(by rw[zac,jac];rfl),by rw[jab,g2];rfl,fun x hx=>?_,g4.write hD⟩;rcases jah.mp hx with y | y
   ·exact g3 x y
   ·rw[jad.mp y];exact Int.ediv_nonneg (jaV _ (by decide)) (by decide)
  ·rintro σ G ⟨v3,v4,nu,xs,rfl,n1,n2,g1,g2,g3,g4⟩;exact⟨_,rfl,q D xs G hD g1 ⟨g2,g3⟩ g4⟩
end
end My
namespace My
open PySem L2 OF
seal L2.PS L2.PSs L2.PE L2.PT L2.PA L2.PI L2.PG L2.PW L2.PO L2.PTs
section
variable {P:Program}{w:World}{K:PySem.W.Frag}{mg:Str->Option Value}{base:Heap}
noncomputable def znD (K:PySem.W.Frag):Sp:=fun vs H Q _=>∃ n:Int,vs=[.int n]/\0<=n/\∀ (D:Addr) (ns:List (List Nat)) (H':Hp),H' D=some (.lst (ns.map fun x=>V.str (S x)))->ns.length=4->(∀ x∈ns,zb3 x=true)->zai H H'->Q (.ref D) H'
theorem zfJ:("show" : Str)=S [115,104,111,119]/\("plus" : Str)=S [112,108,117,115]/\("worth" : Str)=S [119,111,114,116,104]/\("fixed" : Str)=S [102,105,120,101,100]:=by decide +kernel
theorem zr6:∀ k:Nat,k<26->SMA[k]? = some (97+k):=by decide +kernel
theorem zo5 {z:Int}:∃ c,97<=c/\c<123/\atI SMA (z % 26)=some c:=by
 have h0:=jaV z (show (26:Int)≠0 by decide);have h1:=jaN z (show (0:Int)<26 by decide);obtain⟨k,hk⟩:∃ k:Nat,z % 26=(k:Int):=⟨(z % 26).toNat,by omega⟩;rw[hk] at h1 ⊢;exact⟨97+k,by omega,by omega,zaA (zr6 k (by omega))⟩
theorem znh:(["_law_k", "_law_letters_here", "_law_number"]:List Str).Nodup:=by decide +kernel
theorem znj:(["_law_j", "_law_tail", "_law_letters_here", "_law_number"]:List Str).Nodup:=by decide +kernel
theorem zq4 (T:Txt w K mg):zcd.Ok P w K mg base 1 (znD K):=by
  refine Rw.ok T.d_Z37.F T.d_Z37.S fun vs H Q E h=>?_
  obtain⟨n,rfl,hn,q⟩:=h;refine⟨rfl,fun _ _ _ _ hr hu nd=>⟨_,(zab (zaS 1 nd zaj)
   (zab (zaS 2 nd (za9 jaz ja9 jbb zdn zaj (zaa (zbb (g:=(zaH 0)) ["_law_k", "_law_letters_here", "_law_number"] 1 [1,0] rfl (zfL zcd) (zbw rfl T.n_range (zaa (zao zaY (pv 0) zaf) zad))
    (fun cl C s₀ H₀ fp=>(pgn 0 znh)) (fun cl C s₀ H₀ fp=>zbW) (fun cl C s₀ H₀ fp=>(zav zfp (pv 1) (zao zaY (zao zbj (pv 2) (zao zbx (pv 0) zaf)) zaf) (fun _ _=>rfl)))) zad)))
   (zab (zht (i:=3) (g:=(zaH 0)) ["_law_j", "_law_tail", "_law_letters_here", "_law_number"] 1 [2,1,0] nd rfl (Or.inl rfl) rfl (zfL zcd) (zbw rfl T.n_range (zaa zaf zad))
    (fun cl C s₀ H₀ fp=>(pgn 0 znj)) (fun cl C s₀ H₀ fp=>zbW) (fun cl C s₀ H₀ fp=>(zao zaI (zav zfp (pv 2) (zao zaY (zao zbx (zao zbj (pv 3) zaf) (zao zbi zaf (pv 0))) zaf) (fun _ _=>rfl)) (pv 1))))
   (zab (zdZ (zay (zah zaD (zao zaY (zao zbj (pv 0) zaf) zaf) zaf (zal _)) (zae (zaS 3 nd (zaG (zaa zaj (zaa zaj (zaa zaj (zaa zaj zad))))))) zam))
   (zae (zak (pv 3))))))),?_⟩⟩
  have hlL:(S SMA).length<=sizeLine:=by rw[zaw];decide
  have h80:=jaV n (show (8:Int)≠0 by decide);have h81:=jaN n (show (0:Int)<8 by decide);rw[zlP];refine⟨rfl,?_⟩;refine⟨_,rfl,_,_,rfl,rfl,(by show (0:Int)<8;decide),n % 8,rfl,by omega,by omega,?_⟩;refine ze0 (lo:=0) (n:=(n % 8).toNat) (fun i ys σ G=>∃ (v0:Option V) (cs:List Nat),σ = [v0,some (.str (S SMA)),some (.int n)]/\ys=(cs.map fun c=>S [c]).map V.str/\cs.length=i/\(∀ c∈cs,97<=c/\c<123)/\H=G)
   ⟨none,[],rfl,rfl,rfl,(fun c hc=>by cases hc),rfl⟩ (fun i ys σ G ⟨_,cs,_,e,e2,_,_⟩=>by rw[e,jaa,jaa];omega) (jaB (zaF (by omega))) ?_ ?_
  ·rintro i ys σ G hi ⟨v0,cs,rfl,rfl,hcl,hcs,rfl⟩;unfold zaH;refine tt ?_;obtain⟨c,c1,c2,hc⟩:=zo5 (z:=n / ((0+(i:Int))+1));refine⟨_,rfl,_,rfl,_,rfl,_,_,rfl,rfl,_,_,rfl,rfl,zbT (by omega) (by omega),_,_,rfl,rfl,(by show (0:Int)<26;decide),_,_,_,rfl,rfl,hlL,(by rw[zbE];exact hc),?_⟩;refine⟨_,cs ++ [c],rfl,(by rw[jac,jac];rfl),(by rw[jab,hcl];rfl),(fun x hx=>?_),rfl⟩;rcases jah.mp hx with z | z
   ·exact hcs x z
   ·rw[jad.mp z];exact⟨c1,c2⟩
  ·rintro ys σ G ⟨v0,cs,rfl,rfl,hcl,hcs,rfl⟩ E hE;refine⟨_,E,cs.map fun c=>S [c],rfl,rfl,SqL.of zac,?_,?_⟩
   ·rw[zfz,zdt];simp[zaw];omega
   rw[zdt,zgA];have s1:zai H (upd H E (.lst ((cs.map fun c=>S [c]).map V.str))):=zai.upd hE;generalize upd H E (.lst ((cs.map fun c=>S [c]).map V.str))=H1 at s1;refine⟨_,rfl,by decide,by decide,?_⟩;refine ze0 (lo:=0) (n:=(4:Int).toNat) (fun i ys σ G=>∃ (v0:Option V) (ns:List (List Nat)),σ = [v0,some (.str (S cs)),some (.str (S SMA)),some (.int n)]/\ys=ns.map (fun x=>V.str (S x))/\ns.length=i/\(∀ x∈ns,zb3 x=true)/\H1=G)
    ⟨none,[],rfl,rfl,rfl,(fun c hc=>by cases hc),rfl⟩ (fun i ys σ G ⟨_,cs,_,e,e2,_,_⟩=>by rw[e,jaa];omega) (by decide) ?_ ?_
   ·rintro i ys σ G hi ⟨v0,ns,rfl,rfl,hnl,hns,rfl⟩;unfold zaH;refine tt ?_;obtain⟨c,c1,c2,hc⟩:=zo5 (z:=n / 8+5 * (0+(i:Int)));refine⟨_,rfl,_,rfl,_,_,rfl,rfl,zbT (by decide) (by decide),_,rfl,_,_,rfl,rfl,ziX (by decide) (by decide),_,_,rfl,rfl,_,_,rfl,rfl,(by show (0:Int)<26;decide),_,_,_,rfl,rfl,hlL,(by rw[zbE];exact hc),_,rfl,_,_,rfl,rfl,?_,?_⟩
    ·rw[zaw];show 1+cs.length<=sizeLine;exact jaB (zaF (by omega))
    ·refine⟨_,ns ++ [[c]++cs],rfl,(by rw[jac];show _ ++ [V.str (S [c]++S cs)]=_;rw[zbR];rfl),(by rw[jab,hnl];rfl),(fun x hx=>?_),rfl⟩;rcases jah.mp hx with z | z
     ·exact hns x z
     ·rw[jad.mp z];unfold zb3;rw[jaT,jaT,jaX];refine⟨decide_eq_true (by simp),decide_eq_true (by rw[jab];show 1+cs.length<=8;omega),fun y hy=>decide_eq_true ?_⟩;rcases jah.mp hy with w | w
      ·rw[jad.mp w];exact⟨c1,c2⟩
      ·exact hcs y w
   ·rintro ys σ G ⟨v0,ns,rfl,rfl,hnl,hns,rfl⟩ D hD;refine⟨fun σ' G'=>∃ (D:Addr) (ns:List (List Nat)),σ'=[some (.int n),some (.str (S SMA)),some (.str (S cs)),some (.ref D)]/\G' D=some (.lst (ns.map fun x=>V.str (S x)))/\ns.length=4/\(∀ x∈ns,zb3 x=true)/\zai H G',?_,?_⟩
    ·refine⟨_,rfl,_,_,rfl,rfl,zbT (by decide) (by decide),_,_,rfl,rfl,(by show (0:Int)<4;decide),rfl,_,rfl,?_⟩;refine zgJ (fun _=>?_) (fun _=>?_)
     ·refine⟨sl4,fun D2 hD2=>?_⟩;refine⟨D2,[[115,104,111,119],[112,108,117,115],[119,111,114,116,104],[102,105,120,101,100]],rfl,(by rw[zac,zfJ.1,zfJ.2.1,zfJ.2.2.1,zfJ.2.2.2];rfl),rfl,(by decide),s1.trans ((zai.upd hD).trans (zai.upd hD2))⟩
     ·exact⟨D,ns,rfl,zac,hnl,hns,s1.trans (zai.upd hD)⟩
    ·rintro σ' G' ⟨D2,ns2,rfl,h1,h2,h3,h4⟩;exact⟨_,rfl,q D2 ns2 G' h1 h2 h3 h4⟩
theorem zpd (T:Txt w K mg):zei.Ok P w K mg base 2 (zlB K):=by
  refine Rw.ok T.d_Z44.F T.d_Z44.S fun vs H Q E h=>?_
  obtain⟨a,f,rfl,hT,hs,hl,q⟩:=h;refine⟨rfl,fun _ _ _ _ hr hu nd=>⟨_,(zab (zaS 1 nd (zaG zad))
   (zab (zbs jaG rfl (zaR (pv 0)) (zbe (n:=2) rfl (zap (pgn 2 nd) (zap (pgn 3 nd) zaT)))
    (zab (zaS 4 nd (zbL zcu rfl T.n_str jbS (zaa (zar zeF (by rfl) T.n_abs jbx (zaa (pv 3) zad)) zad)))
   (zab (zdZ (zay (PW.pt (zcO (zah zhn (pv 2) zaf (zal _)) (zb5 (zah zaD (zar zeF (by rfl) T.n_abs jbx (zaa (pv 3) zad)) zaf (zal _))))) (zae (zaS 4 nd zaj)) zam))
   (zab (zaU (za9 jaf jap jaq zaM (pv 1) (zaa (zav zas (zaG (zaa zaj (zaa zaj zad))) (zbL zir rfl T.n_int jbv (zaa (zbp zh4 (pv 3) zaf (zal _)) zad)) (fun _ _=>rfl)) zad)))
   (zae (zaU (za9 jaf jap jaq zaM (pv 1) (zaa (zao zaI (pv 4) (zaN T.d_Z33 (zsI T) hr (zaa (pv 2) zad))) zad))))))))
   (zab (zay (zah zaD (zar zaz (by rfl) T.n_len jaF (zaa (pv 1) zad)) zaf (zal _)) (zae (zak zaj)) zam)
   (zab (zdZ (zay (zah zaD (zav zas (pv 1) zaf (fun _ _=>rfl)) zaj (zal _)) (zae (zgi (zao zaI zaj (zav zas (pv 1) zaf (fun _ _=>rfl))) (zoV (pv 1) zaf zku))) zam))
   (zae (zak (za9 jaz ja9 jbb zdn zaj (zaa (zbP zfa (pv 1) (zbo zaf) zc1) zad)))))))),?_⟩⟩
  obtain⟨ps,hS,hP⟩:=id hT;have hpl:=hP.length;refine⟨jaE _,fun c hc=>?_⟩;have s0:zai H (upd H c (.lst [])):=zai.upd hc;refine⟨_,rfl,a,rfl,⟨_,SqL.of (s0 _ _ hS)⟩,?_⟩;refine zbM (K:=K) (a:=a) (xs:=ps.map V.ref) (fun i σ G=>∃ v2 v3 v4:Option V,σ = [some (.ref a),some (.ref c),v2,v3,v4]/\G c=some (.lst ((f.take i).flatMap fun t=>[V.str (S [sgn t.2]),V.str (S (zaO t))]))/\zai H G)
   ⟨none,none,none,rfl,zac,s0⟩ (fun i σ G _ ⟨_,_,_,_,_,e⟩=>SqL.of (e _ _ hS)) ?_ ?_
  ·rintro i y σ G hi ⟨v2,v3,v4,rfl,g1,sG⟩;obtain⟨p,hpi,rfl⟩:=zcG hi;obtain⟨t,ht1,ht2⟩:=hP.at' hpi;have hok:=hs t (jao ht1);obtain⟨h0,h1,h2,h3⟩:=id hok;have hil:i<f.length:=(jam.mp ht1).1;have ea:(if t.2<0 then -t.2 else t.2)=((t.2.natAbs:Nat):Int):=by split <;> omega
   have em:t.1=((t.1.toNat:Nat):Int):=(ja5 h0).symm;have hm:t.1.toNat<2^16:=by omega
   refine⟨p,_,rfl,SqT.of (sG _ _ ht2),rfl,_,_,rfl,_,_,rfl,rfl,?_⟩;refine⟨_,rfl,t.2,rfl,?_⟩;refine⟨_,rfl,by rw[ea];exact zfH h3,?_⟩;rw[ea,zga];refine⟨fun σ' G' => σ'=[some (.ref a),some (.ref c),some (.int t.1),some (.int t.2),some (.str (S (zcP t.1.toNat t.2.natAbs)))]/\G'=G,?_,?_⟩
   ·refine⟨_,rfl,_,_,rfl,rfl,_,rfl,?_⟩;refine zgJ (fun k1=>?_) (fun k1=>?_)
    ·have k1':0<t.1:=of_decide_eq_true k1;refine⟨_,rfl,t.2,rfl,?_⟩;rw[ea];refine⟨rfl,_,rfl,?_⟩;refine zgJ (fun k2=>?_) (fun k2=>?_)
     ·have k2':t.2.natAbs=1:=by
       have:=of_decide_eq_true k2
       injection this with this;omega
      refine⟨?_,rfl⟩
      have:zcP t.1.toNat t.2.natAbs=[]:=if_pos ⟨k2',by omega⟩
      rw[this,<- zdt];rfl
     ·have k2':¬ t.2.natAbs=1:=fun z=>k2 (by rw[z];simp)
      refine⟨?_,rfl⟩
      have:zcP t.1.toNat t.2.natAbs=zgO t.2.natAbs:=if_neg (fun z=>k2' z.1)
      rw[this];rfl
    ·have k1':¬ 0<t.1:=fun z=>k1 (decide_eq_true z)
     refine⟨?_,rfl⟩
     have:zcP t.1.toNat t.2.natAbs=zgO t.2.natAbs:=if_neg (fun z=>z.2 (by omega))
     rw[this];rfl
   ·rintro σ' G' ⟨rfl,rfl⟩;have hgl:((f.take i).flatMap fun t=>[V.str (S [sgn t.2]),V.str (S (zaO t))]).length=2 * i:=by rw[zcM,jaJ];omega
    refine⟨_,rfl,.inl ⟨rfl,_,SqL.of g1⟩,?_⟩;refine⟨sl2,fun l hl'=>?_⟩;have b1:zai G' (upd G' l (.lst [.str "+",.str "-"])):=zai.upd hl';have esg:atI [V.str "+",V.str "-"] (if decide (t.2<0)=true then 1 else 0)=some (V.str (S [sgn t.2])):=by
     by_cases z:t.2<0
     ·rw[if_pos (decide_eq_true z),show sgn t.2=45 from if_pos z,<- zbc];rfl
     ·rw[if_neg (by simpa using z),show sgn t.2=43 from if_neg z,<- zev];rfl
    refine⟨_,rfl,_,_,rfl,rfl,.inr ⟨_,rfl,?_⟩⟩;refine⟨l,_,_,_,rfl,rfl,SqL.of zac,esg,?_⟩;refine⟨c,_,_,rfl,rfl,b1 _ _ g1,?_,?_⟩
    ·rw[hgl];exact zaF (by omega)
    have g2:upd (upd G' l (.lst [.str "+",.str "-"])) c (.lst (((f.take i).flatMap fun t=>[V.str (S [sgn t.2]),V.str (S (zaO t))]) ++ [V.str (S [sgn t.2])])) c=some (.lst (((f.take i).flatMap fun t=>[V.str (S [sgn t.2]),V.str (S (zaO t))]) ++ [V.str (S [sgn t.2])])):=zac;have S1:zai H (upd (upd G' l (.lst [.str "+",.str "-"])) c (.lst (((f.take i).flatMap fun t=>[V.str (S [sgn t.2]),V.str (S (zaO t))]) ++ [V.str (S [sgn t.2])]))):=(sG.trans b1).write hc;generalize upd (upd G' l (.lst [.str "+",.str "-"])) c (.lst (((f.take i).flatMap fun t=>[V.str (S [sgn t.2]),V.str (S (zaO t))]) ++ [V.str (S [sgn t.2])]))=H1 at g2 S1;have hle:(S (zcP t.1.toNat t.2.natAbs)).length+(S (zdC t.1.toNat)).length<=sizeLine:=by
     rw[zaw,zaw];exact jak (jdu (zn0 h3) (zdc hm)) (by decide)
    refine⟨_,rfl,.inl ⟨rfl,_,SqL.of g2⟩,?_⟩;refine⟨_,rfl,_,rfl,t.1.toNat,by rw[<- em];rfl,hm,fun H2 s2=>?_⟩;refine⟨_,_,rfl,rfl,hle,?_⟩;refine⟨c,_,_,rfl,rfl,s2 _ _ g2,?_,?_⟩
    ·rw[jab,hgl];exact zaF (by simp;omega)
    refine⟨_,_,_,rfl,?_,(S1.trans s2).write hc⟩;rw[zac,zbR,jaI,ht1,List.flatMap_append];have ew:zaO t=zcP t.1.toNat t.2.natAbs++zdC t.1.toNat:=rfl;simp[ew]
  ·rintro σ G ⟨v2,v3,v4,rfl,g1,sG⟩;rw[jaa,hpl,jaK] at g1;refine⟨_,rfl,c,_,rfl,.inl (SqL.of g1),rfl,_,rfl,?_⟩;cases f with
   | nil =>
    refine za4 (by rfl) ?_
    have:=q G sG
    rw[show txt []=[48] from rfl,<- zes] at this;exact this
   | cons t0 r =>
    have hln:((t0 :: r).flatMap fun t=>[V.str (S [sgn t.2]),V.str (S (zaO t))]).length=2 * (r.length+1):=zcM _ _ _;refine zaB (by rw[hln];simp;omega) ?_;have hxs:((t0 :: r).flatMap fun t=>[V.str (S [sgn t.2]),V.str (S (zaO t))])=V.str (S [sgn t0.2]) :: V.str (S (zaO t0)) :: (r.flatMap fun t=>[V.str (S [sgn t.2]),V.str (S (zaO t))]):=rfl;rw[hxs] at g1;have hok:=hs t0 (by simp);have hwl:(zcv (t0 :: r)).map (fun w=>V.str (S w))=V.str (S (za1 t0.2++zaO t0)) :: (r.flatMap fun t=>[V.str (S [sgn t.2]),V.str (S (zaO t))]):=by
     show V.str (S (za1 t0.2++zaO t0)) :: (r.flatMap fun u=>[[sgn u.2],zaO u]).map (fun w=>V.str (S w))=_;rw[List.map_flatMap];rfl
    refine⟨fun σ' G' => σ'=[some (.ref a),some (.ref c),v2,v3,v4]/\G' c=some (.lst (V.str (S [sgn t0.2]) :: (zcv (t0 :: r)).map fun w=>V.str (S w)))/\zai H G',?_,?_⟩
    ·have at0:atI (V.str (S [sgn t0.2]) :: V.str (S (zaO t0)) :: (r.flatMap fun t=>[V.str (S [sgn t.2]),V.str (S (zaO t))])) 0=some (V.str (S [sgn t0.2])):=zaA (j:=0) rfl;have at1:atI (V.str (S [sgn t0.2]) :: V.str (S (zaO t0)) :: (r.flatMap fun t=>[V.str (S [sgn t.2]),V.str (S (zaO t))])) 1=some (V.str (S (zaO t0))):=zaA (j:=1) rfl;refine⟨_,rfl,c,_,_,_,rfl,rfl,SqL.of g1,at0,rfl,_,rfl,?_⟩;by_cases z:t0.2<0
     ·have es:sgn t0.2=45:=if_pos z;refine za4 (by rw[es,<- zbc];simp) ?_;refine⟨_,rfl,c,_,_,_,rfl,rfl,SqL.of g1,at1,_,_,rfl,rfl,?_,?_⟩
      ·rw[zbc,zaw,zaw];exact jak (jbL (zfD (by have:=hok.1;have:=hok.2.1;omega) hok.2.2.2) _) (by show 1+79<=sizeLine;decide)
      refine⟨_,rfl,c,_,_,1,rfl,rfl,g1,(by show ixN (_+1+1) 1=some 1;unfold ixN;simp;omega),?_⟩;refine⟨rfl,?_,sG.write hc⟩;rw[zac,hwl,zbc,zbR]
      have:za1 t0.2=[45]:=if_pos z
      rw[this];rfl
     ·have es:sgn t0.2=43:=if_neg z;refine zaB (by rw[es,zbc];intro y;have:=of_decide_eq_true y;injection this with this;exact absurd (zbY this) (by decide)) ?_;refine⟨rfl,?_,sG⟩;rw[g1,hwl]
      have:za1 t0.2=[]:=if_neg z
      rw[this];rfl
    ·rintro σ' G' ⟨rfl,g2,s2⟩;have ecut:ziJ (V.str (S [sgn t0.2]) :: (zcv (t0 :: r)).map fun w=>V.str (S w)) (some 1) none=((zcv (t0 :: r)).map S).map V.str:=by
      unfold ziJ;rw[show HT.sIx (V.str (S [sgn t0.2]) :: (zcv (t0 :: r)).map fun w=>V.str (S w)).length 0 (some 1)=1 from (HT.sIx_nat _ _ 1).trans (jbo (by simp))];rw[ja3];refine ja2 ?_;simp[HT.sIx]
     have hws:(((zcv (t0 :: r)).map S).map (·.length)).sum+((zcv (t0 :: r)).map S).length * (Str.ofString " ").length<=16777216:=by
      have h1:(((zcv (t0 :: r)).map S).map (·.length)).sum<=(txt (t0 :: r)).length:=by
       rw[<- zfd,ja3];have go:∀ ws:List (List Nat),(ws.map ((·.length) ∘ S)).sum<=(zbd 32 ws).length:=fun ws=>by
        induction ws with
        | nil=>exact jag _
        | cons w ws ih =>
         cases ws with
         | nil=>show w.length+0<=w.length;omega
         | cons w2 ws =>
          have:(zbd 32 (w :: w2 :: ws)).length=w.length+1+(zbd 32 (w2 :: ws)).length:=by rw[zbd,jab,jae];omega
          rw[this,jat,jb1];show w.length+_<=_;omega
       exact go _
      have h2:=zql hs;have h3:(zcv (t0 :: r)).length=2 * r.length+1:=by
       show (_ :: r.flatMap fun u=>[[sgn u.2],zaO u]).length=_;rw[jae,zcM]
      rw[zd2,zaw,jaa,h3];simp only[jae,jbF] at h2 hl ⊢;omega
     refine⟨rfl,?_⟩;refine⟨_,rfl,_,rfl,c,_,rfl,SqL.of g2,fun d hd=>?_⟩;rw[ecut];refine⟨_,d,_,rfl,rfl,SqL.of zac,hws,?_⟩;rw[zd2,zhU,zfd];exact q _ (s2.trans (zai.upd hd))
theorem zhc:(" = " : Str)=S [32,61,32]:=by decide +kernel
theorem zl9:(" := " : Str)=S [32,58,61,32]:=by decide +kernel
theorem zg5:(" " : Str)=S [32]:=by decide +kernel
theorem zm8:("=" : Str)=S [61]:=by decide +kernel
theorem zsl:("fixed" : Str)=S zju:=by decide +kernel
theorem zs3:("put" : Str)=S zi3:=by decide +kernel
theorem zdF:∀ ws:List (List Nat),(∀ w∈ws,w.length<=8)->((ws.map S).map (·.length)).sum<=8 * ws.length
 | [],_=>jag _
 | w :: r,h=>by
  have ih:=zdF r fun x hx=>h x (by simp[hx])
  have:=h w (by simp)
  rw[jat,jat,jb1,zaw,jae];omega
noncomputable def znF (K:PySem.W.Frag):Sp:=fun vs H Q _=>∃ (d a b x:Addr) (st:Sts) (ns:List (List Nat)) (ls:List Nat) (xs:List Int),vs=[.ref d,.ref a,.ref b,.ref x]/\zdU H d st/\H a=some (.lst (ns.map fun x=>V.str (S x)))/\H b=some (.lst (zeh ls))/\H x=some (.lst (xs.map V.int))/\(∀ nf∈st,FOk ls nf.2)/\(ns.length=4/\∀ x∈ns,zb3 x=true)/\(ls.Nodup/\0<ls.length/\ls.length<=5/\∀ x∈ls,x<16)/\(xs.length=12/\∀ x∈xs,0<=x) /\
 ∀ (p e:Addr) (c:Cmd) (H':Hp),H' p=some (.tup [.str (S c.nm),.ref e])->zdy H' e c->zo2 ls st c->c.nm∈ns->zai H H'->Q (.ref p) H'
theorem zsv (T:Txt w K mg):zec.Ok P w K mg base 102 (znF K):=by
  refine Rw.ok T.d_Z35.F T.d_Z35.S fun vs H Q E h=>?_
  obtain⟨d,a,b,x,st,ns,ls,xs,rfl,hD,hN,hL,hX,hst,hns,hls,hxs,q⟩:=h;refine⟨rfl,fun _ _ _ _ hr hu nd=>⟨_,(zab (zaS 4 nd (zav zas (pv 1) (zao zaY (zav zas (pv 3) zaf (fun _ _=>rfl)) zaf) (fun _ _=>rfl)))
   (zab (zaS 5 nd (zav zas (pv 1) (zao zaY (zav zas (pv 3) zaf (fun _ _=>rfl)) zaf) (fun _ _=>rfl)))
   (zab (zaS 6 nd (zav zas (pv 2) (zao zaY (zav zas (pv 3) zaf (fun _ _=>rfl)) (zar zaz (by rfl) T.n_len jaF (zaa (pv 2) zad))) (fun _ _=>rfl)))
   (zab (zaS 7 nd (zav zfp zaj (pv 6) (fun _ _=>rfl)))
   (zab (zaS 8 nd (zav zas (pv 1) (zao zaY (zav zas (pv 3) zaf (fun _ _=>rfl)) zaf) (fun _ _=>rfl)))
   (zab (zaS 9 nd (zao zaY (zav zas (pv 3) zaf (fun _ _=>rfl)) zaf))
   (zab (zdZ (zaS 10 nd (zg4 (zaN T.d_Z45 (zoK T) (hr.mono (by decide)) (zaa (zer hu (pv 0) (pv 4) (zaG zad) ⟨rfl,rfl,rfl,rfl⟩) zad)) (zgd (zaN T.d_Z45 (zoK T) (hr.mono (by decide)) (zaa (zer hu (pv 0) (pv 5) (zaG zad) ⟨rfl,rfl,rfl,rfl⟩) zad))))))
   (zab (zay (PW.pt (zgN (zah zh4 (pv 9) zaf (zal _)) (zeq (zd0 (zcs (pv 10) (fun _=>rfl)))))) (zab (zaS 11 nd (zaN T.d_Z52 (zqJ T) (hr.mono (by decide)) (zaa (pv 3) (zaa (pv 2) zad))))
   (zae (zak (zaE (zaa (pv 8) (zaa (zaE (zaa zaj (zaa (pv 11) (zaa (zao zaI (zao zaI (pv 8) zaj) (zaN T.d_Z44 (zpd T) (hr.mono (by decide)) (zaa (pv 11) zad))) zad)))) zad)))))) zam)
   (zab (zay (zah zaD (pv 9) zaf (zal _)) (zab (zaS 12 nd (zaN T.d_Z48 (zqL T) (hr.mono (by decide)) (zaa (zbP zfa (pv 3) (zbo zaf) (zbo zaf)) (zaa (pv 2) zad))))
   (zae (zak (zaE (zaa (pv 8) (zaa (zaE (zaa zaj (zaa (pv 12) (zaa (zao zaI (zao zaI (pv 8) zaj) (zaN T.d_Z50 (zq1 T) hr (zaa (pv 12) zad))) zad)))) zad)))))) zam)
   (zab (zay (zah zaD (pv 9) zaf (zal _)) (zab (zaS 13 nd (za9 jaz ja9 jbb zdn zaj (zaa (zaG (zaa (pv 8) (zaa zaj (zaa zaj (zaa (pv 4) (zaa (pv 7) (zaa (zbL zcu rfl T.n_str jbS (zaa (zao zaY (zav zas (pv 3) zaf (fun _ _=>rfl)) zaf) zad)) zad))))))) zad)))
   (zae (zak (zaE (zaa (pv 8) (zaa (zaE (zaa zaj (zaa (zaE (zaa (pv 4) (zaa (pv 6) (zaa (zao zaY (zav zas (pv 3) zaf (fun _ _=>rfl)) zaf) zad)))) (zaa (pv 13) zad)))) zad)))))) zam)
   (zab (zay (zah zaD (pv 9) zaf (zal _)) (zae (zak (zaE (zaa (pv 8) (zaa (zaE (zaa zaj (zaa (zaE (zaa (pv 4) (zaa (pv 5) (zaa (pv 6) zad)))) (zaa (za9 jaz ja9 jbb zdn zaj (zaa (zaG (zaa (pv 8) (zaa zaj (zaa zaj (zaa (pv 4) (zaa (pv 7) (zaa (pv 5) zad))))))) zad)) zad)))) zad))))) zam)
   (zab (zaS 14 nd (zav zas (zaG (zaa zaj (zaa zaj (zaa zaj zad)))) (zao zd3 (pv 9) zaf) (fun _ _=>rfl)))
   (zae (zak (zaE (zaa (pv 8) (zaa (zaE (zaa (pv 14) (zaa (zaE (zaa (pv 4) (zaa (pv 5) zad))) (zaa (za9 jaz ja9 jbb zdn zaj (zaa (zaG (zaa (pv 8) (zaa zaj (zaa (pv 14) (zaa (pv 4) (zaa (pv 5) zad)))))) zad)) zad)))) zad))))))))))))))))),?_⟩⟩
  obtain⟨hnl,hnm⟩:=hns;obtain⟨hnd,hl0,hl5,hl16⟩:=hls;obtain⟨hxl,hx0⟩:=hxs;have eX:∀ i:Nat,i<12->∃ z:Int,0<=z/\atI (xs.map V.int) (i:Int)=some (V.int z):=fun i hi=>⟨xs[i]'(by omega),hx0 _ (jbl _),zaA (by rw[jaC,jar (by omega)];rfl)⟩
  have eN:∀ z:Int,∃ n∈ns,zb3 n=true/\atI (ns.map fun x=>V.str (S x)) (z % 4)=some (V.str (S n)):=fun z=>by
   have h0:=jaV z (show (4:Int)≠0 by decide);have h1:=jaN z (show (0:Int)<4 by decide);obtain⟨k,hk⟩:∃ k:Nat,z % 4=(k:Int):=⟨(z % 4).toNat,by omega⟩;rw[hk] at h1 ⊢;refine⟨ns[k]'(by omega),jbl _,hnm _ (jbl _),zaA (by rw[jaC,jar (by omega)];rfl)⟩
  obtain⟨x8,_,e8⟩:=eX 8 (by decide);obtain⟨x9,_,e9⟩:=eX 9 (by decide);obtain⟨x10,_,e10⟩:=eX 10 (by decide);obtain⟨x1,_,e1⟩:=eX 1 (by decide);obtain⟨x0,_,e0⟩:=eX 0 (by decide);obtain⟨x11,_,e11⟩:=eX 11 (by decide);obtain⟨fi,hfi,hfn,ef⟩:=eN x8;obtain⟨se,hse,hsn,es⟩:=eN x9;obtain⟨nm,hnmm,hnn,en⟩:=eN x1;refine⟨_,rfl,_,rfl,x,_,_,_,rfl,rfl,SqL.of hX,e8,_,_,rfl,rfl,(by show (0:Int)<4;decide),a,_,_,_,rfl,rfl,SqL.of hN,ef,?_⟩;refine⟨_,rfl,_,rfl,x,_,_,_,rfl,rfl,SqL.of hX,e9,_,_,rfl,rfl,(by show (0:Int)<4;decide),a,_,_,_,rfl,rfl,SqL.of hN,es,?_⟩;have hnl2:(zeh ls).length=ls.length:=by unfold zeh;rw[jaa]
  obtain⟨k,hkl,hk16,ek⟩:∃ k:Nat,k∈ls/\k<16/\atI (zeh ls) (x10 % (((zeh ls).length:Nat):Int))=some (V.int (k:Int)):=by
   have h0:=jaV x10 (show (((zeh ls).length:Nat):Int)≠0 by omega);have h1:=jaN x10 (show (0:Int)<(((zeh ls).length:Nat):Int) by omega);obtain⟨j,hj⟩:∃ j:Nat,x10 % (((zeh ls).length:Nat):Int)=(j:Int):=⟨(x10 % (((zeh ls).length:Nat):Int)).toNat,by omega⟩;rw[hj] at h1 ⊢;have hjl:j<ls.length:=by omega
   exact⟨ls[j],jbl _,hl16 _ (jbl _),zaA (by unfold zeh;rw[jaC,jar hjl];rfl)⟩
  refine⟨_,rfl,_,rfl,x,_,_,_,rfl,rfl,SqL.of hX,e10,_,rfl,b,_,rfl,.inl (SqL.of hL),_,_,rfl,rfl,(by show (0:Int)<(((zeh ls).length:Nat):Int);omega),b,_,_,_,rfl,rfl,SqL.of hL,ek,?_⟩;refine⟨_,rfl,_,_,_,rfl,rfl,(by rw[zb6,zaw];show 16<=sizeLine;decide),(by rw[zb6,zbE];exact zaA (zjJ k hk16)),?_⟩;refine⟨_,rfl,_,rfl,x,_,_,_,rfl,rfl,SqL.of hX,e1,_,_,rfl,rfl,(by show (0:Int)<4;decide),a,_,_,_,rfl,rfl,SqL.of hN,en,?_⟩;refine⟨_,rfl,x,_,_,_,rfl,rfl,SqL.of hX,e0,_,_,rfl,rfl,(by show (0:Int)<8;decide),?_⟩;obtain⟨kvs,hd,hk⟩:=id hD;have gets:∀ (n:List Nat) (G:Hp),zai H G->∀ e,G e=some (.lst [])->∃ (a0:Addr) (f:zag),(zia kvs (Sum.inr (S n))).getD (.ref e) = .ref a0/\TLo G a0 f/\f.length<=64/\((∀ t∈f,t.2.natAbs<10^20)->SmF st n):=fun n G sG e he=>by
   rcases zfj hk n with ⟨h1,h2⟩ | ⟨a0,f,h1,h2,h3⟩
   ·exact⟨e,[],(by rw[h1];rfl),⟨[],he,.nil⟩,jaE _,fun _ l hl=>by rw[h2] at hl;cases hl⟩
   ·have hF:=za0 hst h2;exact⟨a0,f,(by rw[h1];rfl),h3.keep sG,jak (hF.len hl5) (by decide),fun hs l hl=>by rw[h2] at hl;cases hl;exact hs⟩
  refine⟨fun σ G=>∃ v:Bool,σ = [some (.ref d),some (.ref a),some (.ref b),some (.ref x),some (.str (S fi)),some (.str (S se)),some (.int (k:Int)),some (.str (S [97+k])),some (.str (S nm)),some (.int (x0 % 8)),some (.bl v),none,none,none,none]/\(v=true->SmF st fi/\SmF st se)/\zai H G,?_,?_⟩
  ·refine⟨_,rfl,d,rfl,.inl ⟨_,.inl hd⟩,_,rfl,jaE _,fun e he=>?_⟩;have s0:zai H (upd H e (.lst [])):=zai.upd he;have y0:upd H e (.lst []) e=some (.lst []):=zac;obtain⟨a0,f0,ea,hT0,hl0',hs0⟩:=gets fi _ s0 e y0;refine⟨_,zft.k (k:=Sum.inr (S fi)) (s0 _ _ hd),a0,f0,(by rw[ea];rfl),hT0,hl0',fun b1 H1 hb1 s1=>?_⟩;have S1:=s0.trans s1;refine⟨b1,rfl,?_⟩;cases b1 with
   | false=>exact zf6 ⟨_,rfl,(fun z=>by cases z),S1⟩
   | true =>
    refine zhL ?_;refine⟨_,rfl,d,rfl,.inl ⟨_,.inl (S1 _ _ hd)⟩,_,rfl,jaE _,fun e2 he2=>?_⟩;have s2:zai H1 (upd H1 e2 (.lst [])):=zai.upd he2;obtain⟨a1,f1,ea1,hT1,hl1',hs1⟩:=gets se _ (S1.trans s2) e2 zac;refine⟨_,zft.k (k:=Sum.inr (S se)) (s2 _ _ (S1 _ _ hd)),a1,f1,(by rw[ea1];rfl),hT1,hl1',fun b2 H2 hb2 s3=>?_⟩;exact⟨_,rfl,(fun z=>⟨hs0 (hb1 rfl),hs1 (hb2 z)⟩),S1.trans (s2.trans s3)⟩
  ·rintro σ G ⟨v,rfl,hv,sG⟩;have hXG:=sG _ _ hX;have hLG:=sG _ _ hL;have w0:=jaV x0 (show (8:Int)≠0 by decide);have w8:=jaN x0 (show (0:Int)<8 by decide);generalize x0 % 8=W at w0 w8;have hcat:∀ m:List Nat,nm.length+m.length<=2000->(S nm).length+(S m).length<=sizeLine:=fun m hm=>by rw[zaw,zaw];exact jaB (zaF (by omega))
   obtain⟨m1,m2⟩:=zb0 hnn;refine⟨_,rfl,_,_,rfl,rfl,_,rfl,?_⟩;refine zgJ (fun z=>?_) (fun z=>?_)
   ·refine⟨_,rfl,_,rfl,x,b,xs,ls,rfl,hXG,⟨hxl,hx0⟩,hLG,hnd,hl5,hl16,fun c f H1 hT hF hfl h4 s1=>?_⟩;have hsay:=hF.say hl16;obtain⟨t1,t2⟩:=zjw (f:=f) (by omega) fun t ht=>⟨hsay t ht,h4 t ht⟩
    refine⟨_,rfl,_,rfl,_,rfl,_,_,rfl,rfl,(by rw[zhc];exact hcat _ (by show nm.length+3<=2000;omega)),_,rfl,c,f,rfl,hT,hsay,(by omega),fun H2 s2=>⟨_,_,rfl,rfl,?_,?_⟩⟩
    ·rw[zhc,zbR,zaw,zaw,jab];exact jaB (zaF (by show nm.length+3+(txt f).length<=_;omega))
    rw[zhc,zbR,zbR];refine⟨sl3,fun p3 hp3=>⟨sl2,fun p2 hp2=>?_⟩⟩;have eL:(nm ++ [32,61,32])++txt f=(Cmd.form nm (txt f)).line:=by show _=nm++([32,61,32]++txt f);rw[jaP]
    refine q p2 p3 (.form nm (txt f)) _ zac (zdy.keep ⟨.ref c,(by rw[zac,eL];rfl),c,f,rfl,(hT.keep s2).keep (zai.upd hp3),zeM hF.1 hsay⟩ (zai.upd hp2)) ⟨hnn,f,rfl,hF,hfl,h4⟩ hnmm (sG.trans (s1.trans (s2.trans ((zai.upd hp3).trans (zai.upd hp2)))))
   have hW2:2<=W:=by have:=of_decide_eq_false (jco.mpr z);omega
   refine⟨_,rfl,v,rfl,?_⟩;cases v with
   | false =>
    refine za4 rfl ?_;refine⟨_,rfl,_,rfl,x,b,xs,ls,rfl,hXG,⟨hxl,hx0⟩,hLG,hnd,hl5,hl16,fun c f H1 hT hF hfl h4 s1=>?_⟩;have hsay:=hF.say hl16;obtain⟨t1,t2⟩:=zjw (f:=f) (by omega) fun t ht=>⟨hsay t ht,h4 t ht⟩
    refine⟨_,rfl,_,rfl,_,rfl,_,_,rfl,rfl,(by rw[zhc];exact hcat _ (by show nm.length+3<=2000;omega)),_,rfl,c,f,rfl,hT,hsay,(by omega),fun H2 s2=>⟨_,_,rfl,rfl,?_,?_⟩⟩
    ·rw[zhc,zbR,zaw,zaw,jab];exact jaB (zaF (by show nm.length+3+(txt f).length<=_;omega))
    rw[zhc,zbR,zbR];refine⟨sl3,fun p3 hp3=>⟨sl2,fun p2 hp2=>?_⟩⟩;have eL:(nm ++ [32,61,32])++txt f=(Cmd.form nm (txt f)).line:=by show _=nm++([32,61,32]++txt f);rw[jaP]
    refine q p2 p3 (.form nm (txt f)) _ zac (zdy.keep ⟨.ref c,(by rw[zac,eL];rfl),c,f,rfl,(hT.keep s2).keep (zai.upd hp3),zeM hF.1 hsay⟩ (zai.upd hp2)) ⟨hnn,f,rfl,hF,hfl,h4⟩ hnmm (sG.trans (s1.trans (s2.trans ((zai.upd hp3).trans (zai.upd hp2)))))
   | true =>
   refine zaB (by decide) ?_;obtain⟨hs1,hs2⟩:=hv rfl;refine⟨_,rfl,rfl,_,rfl,?_⟩;refine zgJ (fun z2=>?_) (fun z2=>?_)
   ·obtain⟨ms,em,hms⟩:∃ ms:List Int,ziJ (xs.map V.int) (some 2) (some 7)=ms.map V.int/\ms.length<=5:=by
     refine⟨(xs.drop 2).take 5,?_,by rw[jaJ];omega⟩;unfold ziJ;rw[show HT.sIx (xs.map V.int).length 0 (some 2)=2 from (HT.sIx_nat _ _ 2).trans (jbo (by rw[jaa];omega)),show HT.sIx (xs.map V.int).length (xs.map V.int).length (some 7)=7 from (HT.sIx_nat _ _ 7).trans (jbo (by rw[jaa];omega)),<- List.map_drop,<- List.map_take]
    refine⟨_,rfl,2,rfl,7,rfl,x,_,rfl,SqL.of hXG,fun c2 hc2=>?_⟩;rw[em];have t1:zai G (upd G c2 (.lst (ms.map V.int))):=zai.upd hc2;refine⟨_,rfl,c2,b,ms,ls,rfl,zac,t1 _ _ hLG,hms,hl0,by omega,fun vs sm H1 hI hok hno s1=>?_⟩;have hdp:=zdQ sm;have hnl:=zcZ sm;have htx:=zcH hok;refine⟨_,rfl,_,rfl,_,rfl,_,_,rfl,rfl,(by rw[zl9];exact hcat _ (by show nm.length+4<=2000;omega)),_,rfl,vs,sm,rfl,hI,Sm.ok.imp (fun k hk=>hl16 k hk) hok,(by omega),(by omega),fun H2 s2=>⟨_,_,rfl,rfl,?_,?_⟩⟩
    ·rw[zl9,zbR,zaw,zaw,jab];exact jaB (zaF (by show nm.length+4+(zcq sm).length<=_;omega))
    rw[zl9,zbR,zbR];refine⟨sl3,fun p3 hp3=>⟨sl2,fun p2 hp2=>?_⟩⟩;have eL:(nm ++ [32,58,61,32])++zcq sm=(Cmd.stat nm sm).line:=by show _=nm++([32,58,61,32]++zcq sm);rw[jaP]
    exact q p2 p3 (.stat nm sm) _ zac (zdy.keep ⟨vs,(by rw[zac,eL];rfl),(hI.keep s2).keep (zai.upd hp3)⟩ (zai.upd hp2)) ⟨hnn,hok,hno⟩ hnmm (sG.trans (t1.trans (s1.trans (s2.trans ((zai.upd hp3).trans (zai.upd hp2))))))
   have w3:W≠2:=fun y=>z2 (by rw[y];simp)
   refine⟨_,rfl,rfl,_,rfl,?_⟩;refine zgJ (fun z3=>?_) (fun z3=>?_)
   ·have b0:=jaV x11 (show (2:Int)≠0 by decide);have b1:=jaN x11 (show (0:Int)<2 by decide);obtain⟨B,eB,hB⟩:∃ B:Nat,x11 % 2=(B:Int)/\B<2:=⟨(x11 % 2).toNat,by omega,by omega⟩;refine⟨rfl,_,rfl,_,rfl,_,rfl,_,rfl,x,_,_,_,rfl,rfl,SqL.of hXG,e11,_,_,rfl,rfl,(by show (0:Int)<2;decide),?_⟩;dsimp only;rw[eB];refine⟨_,rfl,zfH (jas hB (by decide)),?_⟩;rw[zga,zdN (by omega),zm8,zsl];refine⟨sl6,fun e he=>?_⟩;have s1:zai G (upd G e (.lst [.str (S nm),.str (S [61]),.str (S zju),.str (S fi),.str (S [97+k]),.str (S [48+B])])):=zai.upd he;have y1:upd G e (.lst [.str (S nm),.str (S [61]),.str (S zju),.str (S fi),.str (S [97+k]),.str (S [48+B])]) e=some (.lst (([nm,[61],zju,fi,[97+k],[48+B]].map S).map V.str)):=zac;generalize upd G e (.lst [.str (S nm),.str (S [61]),.str (S zju),.str (S fi),.str (S [97+k]),.str (S [48+B])])=H1 at s1 y1;refine⟨_,e,[nm,[61],zju,fi,[97+k],[48+B]].map S,rfl,rfl,SqL.of y1,?_,?_⟩
    ·have:=zdF [nm,[61],zju,fi,[97+k],[48+B]] (fun w hw=>by
      have:w=nm\/w=[61]\/w=zju\/w=fi\/w=[97+k]\/w=[48+B]:=by simpa using hw
      rcases this with rfl | rfl | rfl | rfl | rfl | rfl
      ·exact m1
      ·decide
      ·decide
      ·exact (zb0 hfn).1
      ·simp
      ·simp)
     rw[zg5,zaw];simp only[jaa,jae,jbF] at this ⊢;omega
    rw[zg5,zhU];refine⟨_,rfl,_,rfl,_,rfl,_,rfl,x,_,_,_,rfl,rfl,SqL.of (s1 _ _ hXG),e11,_,_,rfl,rfl,(by show (0:Int)<2;decide),?_⟩;dsimp only;rw[eB];refine⟨sl3,fun p4 hp4=>⟨_,rfl,sl3,fun p3 hp3=>⟨sl2,fun p2 hp2=>?_⟩⟩⟩;exact q p2 p3 (.fixd nm fi k (B:Int)) _ zac (zdy.keep ⟨.ref p4,(by rw[zac];rfl),p4,rfl,(zai.upd hp3) _ _ zac⟩ (zai.upd hp2)) ⟨hnn,hfn,hk16,by omega,hs1⟩ hnmm (sG.trans (s1.trans ((zai.upd hp4).trans ((zai.upd hp3).trans (zai.upd hp2)))))
   have w4:W≠3:=fun y=>z3 (by rw[y];simp)
   refine⟨_,rfl,rfl,_,rfl,?_⟩;refine zgJ (fun z4=>?_) (fun z4=>?_)
   ·refine⟨_,rfl,_,rfl,_,rfl,_,rfl,sl3,fun p4 hp4=>?_⟩;have s0:zai G (upd G p4 (.tup [.str (S fi),.str (S se),.int (k:Int)])):=zai.upd hp4;have y0:upd G p4 (.tup [.str (S fi),.str (S se),.int (k:Int)]) p4=some (.tup [.str (S fi),.str (S se),.int (k:Int)]):=zac;generalize upd G p4 (.tup [.str (S fi),.str (S se),.int (k:Int)])=G1 at s0 y0;refine⟨rfl,_,rfl,_,rfl,_,rfl,_,rfl,?_⟩;rw[zm8,zs3];refine⟨sl6,fun e he=>?_⟩;have s1:zai G1 (upd G1 e (.lst [.str (S nm),.str (S [61]),.str (S zi3),.str (S fi),.str (S [97+k]),.str (S se)])):=zai.upd he;have y1:upd G1 e (.lst [.str (S nm),.str (S [61]),.str (S zi3),.str (S fi),.str (S [97+k]),.str (S se)]) e=some (.lst (([nm,[61],zi3,fi,[97+k],se].map S).map V.str)):=zac;generalize upd G1 e (.lst [.str (S nm),.str (S [61]),.str (S zi3),.str (S fi),.str (S [97+k]),.str (S se)])=H1 at s1 y1;refine⟨_,e,[nm,[61],zi3,fi,[97+k],se].map S,rfl,rfl,SqL.of y1,?_,?_⟩
    ·have:=zdF [nm,[61],zi3,fi,[97+k],se] (fun w hw=>by
      have:w=nm\/w=[61]\/w=zi3\/w=fi\/w=[97+k]\/w=se:=by simpa using hw
      rcases this with rfl | rfl | rfl | rfl | rfl | rfl
      ·exact m1
      ·decide
      ·decide
      ·exact (zb0 hfn).1
      ·simp
      ·exact (zb0 hsn).1)
     rw[zg5,zaw];simp only[jaa,jae,jbF] at this ⊢;omega
    rw[zg5,zhU];refine⟨sl3,fun p3 hp3=>⟨sl2,fun p2 hp2=>?_⟩⟩;exact q p2 p3 (.put nm fi k se) _ zac (zdy.keep ⟨.ref p4,(by rw[zac];rfl),p4,rfl,(zai.upd hp3) _ _ (s1 _ _ y0)⟩ (zai.upd hp2)) ⟨hnn,hfn,hsn,hk16,hs1,hs2⟩ hnmm (sG.trans (s0.trans (s1.trans ((zai.upd hp3).trans (zai.upd hp2)))))
   have w5:W≠4:=fun y=>z4 (by rw[y];simp)
   refine⟨sl3,fun e0 he0=>?_⟩;have t0:zai G (upd G e0 (.lst [.str "plus",.str "less",.str "times"])):=zai.upd he0;have r0:upd G e0 (.lst [.str "plus",.str "less",.str "times"]) e0=some (.lst [.str "plus",.str "less",.str "times"]):=zac;generalize upd G e0 (.lst [.str "plus",.str "less",.str "times"])=G0 at t0 r0;obtain⟨wo,hwo,eW⟩:∃ wo:Nat,wo<3/\W-5=(wo:Int):=⟨(W-5).toNat,by omega,by omega⟩;have eo:atI [V.str "plus",V.str "less",V.str "times"] (W-5)=some (V.str (opS wo)):=by
    rw[eW];obtain rfl | rfl | rfl:wo=0\/wo=1\/wo=2:=by omega
    all_goals rfl
   refine⟨_,rfl,_,_,rfl,rfl,e0,_,_,_,rfl,rfl,SqL.of r0,eo,?_⟩;have eS:opS wo=S (opW wo):=(zuk (.two wo nm fi se)).symm;have ol:(opW wo).length<=8:=by
    obtain rfl | rfl | rfl:wo=0\/wo=1\/wo=2:=by omega
    all_goals decide
   refine⟨_,rfl,_,rfl,_,rfl,_,rfl,sl2,fun p4 hp4=>?_⟩;have s0:zai G0 (upd G0 p4 (.tup [.str (S fi),.str (S se)])):=zai.upd hp4;have y0:upd G0 p4 (.tup [.str (S fi),.str (S se)]) p4=some (.tup [.str (S fi),.str (S se)]):=zac;generalize upd G0 p4 (.tup [.str (S fi),.str (S se)])=G1 at s0 y0;refine⟨rfl,_,rfl,_,rfl,_,rfl,_,rfl,?_⟩;rw[zm8];refine⟨(by show 5<=sizeLine;decide),fun e he=>?_⟩;have s1:zai G1 (upd G1 e (.lst [.str (S nm),.str (S [61]),.str (opS wo),.str (S fi),.str (S se)])):=zai.upd he;have y1:upd G1 e (.lst [.str (S nm),.str (S [61]),.str (opS wo),.str (S fi),.str (S se)]) e=some (.lst (([nm,[61],opW wo,fi,se].map S).map V.str)):=by rw[zac,eS];rfl
   generalize upd G1 e (.lst [.str (S nm),.str (S [61]),.str (opS wo),.str (S fi),.str (S se)])=H1 at s1 y1;refine⟨_,e,[nm,[61],opW wo,fi,se].map S,rfl,rfl,SqL.of y1,?_,?_⟩
   ·have:=zdF [nm,[61],opW wo,fi,se] (fun w hw=>by
     have:w=nm\/w=[61]\/w=opW wo\/w=fi\/w=se:=by simpa using hw
     rcases this with rfl | rfl | rfl | rfl | rfl
     ·exact m1
     ·decide
     ·exact ol
     ·exact (zb0 hfn).1
     ·exact (zb0 hsn).1)
    rw[zg5,zaw];simp only[jaa,jae,jbF] at this ⊢;omega
   rw[zg5,zhU];refine⟨sl3,fun p3 hp3=>⟨sl2,fun p2 hp2=>?_⟩⟩;exact q p2 p3 (.two wo nm fi se) _ zac (zdy.keep ⟨.ref p4,(by rw[zac];rfl),p4,rfl,(zai.upd hp3) _ _ (s1 _ _ y0)⟩ (zai.upd hp2)) ⟨hnn,hfn,hsn,hwo,hs1,hs2⟩ hnmm (sG.trans (t0.trans (s0.trans (s1.trans ((zai.upd hp3).trans (zai.upd hp2))))))
noncomputable def zsW (K:PySem.W.Frag):Sp:=fun vs H Q _=>∃ (d p:Addr) (st:Sts) (c:Cmd) (ls:List Nat),vs=[.ref d,.ref p]/\zdU H d st/\zdy H p c/\(∀ nf∈st,FOk ls nf.2)/\zo2 ls st c/\ls.length<=5/\(∀ x∈ls,x<16) /\
 (∀ e H',zdT ls st c .name->H' e=some (.lst [.str "name"])->zai H H'->Q (.ref e) H')/\(∀ e H',zdT ls st c .yesno->H' e=some (.lst [.str "yes no"])->zai H H'->Q (.ref e) H')/\(∀ e f H',zdT ls st c (.form f)->TLo H' e f->zai H H'->Q (.ref e) H')
theorem zrO (T:Txt w K mg):zcC.Ok P w K mg base 26 (zsW K):=by
  refine Rw.ok T.d_Z29.F T.d_Z29.S fun vs H Q E h=>?_
  obtain⟨d,p,st,c,ls,rfl,hD,hp,hst,hc,hl5,hl16,q⟩:=h;refine⟨rfl,fun _ _ _ _ hr hu nd=>⟨_,(zab (zgi (pv 1) (zbe (n:=3) rfl (zap (pgn 2 nd) (zap (pgn 3 nd) (zap (pgn 4 nd) zaT)))))
   (zab (zay (zah zaD (pv 2) zaj (zal _)) (zae (zak (pv 3))) zam)
   (zab (zay (zah zaD (pv 2) zaj (zal _)) (zae (zak (zaN T.d_Z47 (zr7 T) hr (zaa (pv 3) zad)))) zam)
   (zab (zay (zie (zfU hu (zav zaK (pv 3) zaf (fun _ _=>rfl)) (pv 0))) (zae (zak (zaG (zaa zaj zad)))) zam)
   (zab (zay (zah zaD (pv 2) zaj (zal _)) (zae (zak (zaN T.d_Z30 (zsi T) (hr.mono (by decide)) (zaa (zb4 hu (pv 0) (zav zaK (pv 3) zaf (fun _ _=>rfl)) (fun _ _=>rfl)) (zaa (zav zaK (pv 3) zaf (fun _ _=>rfl)) (zaa (zav zaK (pv 3) zaf (fun _ _=>rfl)) zad)))))) zam)
   (zab (zay (zie (zfU hu (zav zaK (pv 3) zaf (fun _ _=>rfl)) (pv 0))) (zae (zak (zaG (zaa zaj zad)))) zam)
   (zab (zay (zah zfe (pv 2) zaj (zal _)) (zae (zak (zaN T.d_Z38 (zrM T) (hr.mono (by decide)) (zaa (pv 2) (zaa (zb4 hu (pv 0) (zav zaK (pv 3) zaf (fun _ _=>rfl)) (fun _ _=>rfl)) (zaa (zb4 hu (pv 0) (zav zaK (pv 3) zaf (fun _ _=>rfl)) (fun _ _=>rfl)) zad)))))) zam)
   (zab (zay (zd0 (zcs (zaN T.d_Z53 (zrv T) (hr.mono (by decide)) (zaa (zb4 hu (pv 0) (zav zaK (pv 3) zaf (fun _ _=>rfl)) (fun _ _=>rfl)) zad)) (fun _=>rfl))) (zae (zak (zaG (zaa zaj zad)))) zam)
   (zae (zak (zaN T.d_Z41 (zsk T) (hr.mono (by decide)) (zaa (zb4 hu (pv 0) (zav zaK (pv 3) zaf (fun _ _=>rfl)) (fun _ _=>rfl)) (zaa (zav zaK (pv 3) zaf (fun _ _=>rfl)) (zaa (zb4 hu (pv 0) (zav zaK (pv 3) zaf (fun _ _=>rfl)) (fun _ _=>rfl)) zad)))))))))))))),?_⟩⟩
  obtain⟨x,hp1,hx⟩:=id hp;refine⟨_,rfl,p,_,rfl,SqT.of hp1,rfl,_,_,rfl,_,_,rfl,_,_,rfl,rfl,?_⟩;have qn:zdT ls st c .name->∀ e,H e=none->Q (.ref e) (upd H e (.lst [.str "name"])):=fun hm e he=>q.1 e _ hm zac (zai.upd he)
  obtain⟨kvs,hd,hk⟩:=id hD;have hg:=fun n=>zft.k (k:=Sum.inr (S n)) hd
  cases c with
  | form n t =>
   refine⟨_,rfl,rfl,_,rfl,za4 (show decide (V.str (Str.ofString "form")=V.str (Str.ofString "form"))=true from by decide) ?_⟩;obtain⟨a,f,rfl,hT,ht⟩:=hx;exact⟨_,rfl,q.2.2 a f H ⟨f,rfl,ht⟩ hT (zai.refl _)⟩
  | stat n s =>
   refine⟨_,rfl,rfl,_,rfl,zaB (show ¬ decide (V.str (Str.ofString "statement")=V.str (Str.ofString "form"))=true from by decide) ?_⟩;refine⟨_,rfl,rfl,_,rfl,za4 (show decide (V.str (Str.ofString "statement")=V.str (Str.ofString "statement"))=true from by decide) ?_⟩;obtain⟨hn,ho,hl⟩:=hc;have hdp:=zdQ s;have hnl:=zcZ s;exact⟨_,rfl,x,s,ls,rfl,hx,ho,by omega,hl5,hl16,hl,fun b f H1 hT hF s1=>q.2.2 b f H1 ⟨f,rfl,hF⟩ hT s1⟩
  | fixd n a k b =>
   refine⟨_,rfl,rfl,_,rfl,zaB (show ¬ decide (V.str (Str.ofString "fixed")=V.str (Str.ofString "form"))=true from by decide) ?_⟩;refine⟨_,rfl,rfl,_,rfl,zaB (show ¬ decide (V.str (Str.ofString "fixed")=V.str (Str.ofString "statement"))=true from by decide) ?_⟩;obtain⟨r,rfl,hr1⟩:=hx;obtain⟨_,_,hk16,hb,_⟩:=hc;refine⟨_,rfl,r,_,_,_,rfl,rfl,SqT.of hr1,rfl,_,rfl,d,_,rfl,hg a,_,rfl,?_⟩;have hga:=hg a;rcases zfj hk a with ⟨h1,h2⟩ | ⟨b1,l,h1,h2,h3⟩
   ·refine za4 (by rw[h1];rfl) ?_;exact⟨sl1,qn (.inl ⟨h2,rfl⟩)⟩
   refine zaB (by rw[h1];simp) ?_;rw[h1] at hga;have hF:=za0 hst h2;have hfl:=hF.len hl5;refine⟨_,rfl,rfl,_,rfl,za4 (show decide (V.str (Str.ofString "fixed")=V.str (Str.ofString "fixed"))=true from by decide) ?_⟩;refine⟨_,rfl,_,rfl,r,_,_,_,rfl,rfl,SqT.of hr1,rfl,d,_,rfl,hga,_,rfl,r,_,_,_,rfl,rfl,SqT.of hr1,rfl,_,rfl,r,_,_,_,rfl,rfl,SqT.of hr1,rfl,b1,l,k,b,rfl,h3,(fun t ht=>(hF.2.1 t ht).1),by omega,⟨ls,hl5,hF.2.1⟩,by omega,hb,(fun t _=>ziX (by omega) (by omega)),fun e f H1 he hT1 hF1 s1=>?_⟩;exact q.2.2 e f H1 (.inr ⟨l,f,h2,rfl,hF1⟩) hT1 s1
  | put n a k b =>
   refine⟨_,rfl,rfl,_,rfl,zaB (show ¬ decide (V.str (Str.ofString "put")=V.str (Str.ofString "form"))=true from by decide) ?_⟩;refine⟨_,rfl,rfl,_,rfl,zaB (show ¬ decide (V.str (Str.ofString "put")=V.str (Str.ofString "statement"))=true from by decide) ?_⟩;obtain⟨r,rfl,hr1⟩:=hx;obtain⟨_,_,_,hk16,_⟩:=hc;refine⟨_,rfl,r,_,_,_,rfl,rfl,SqT.of hr1,rfl,_,rfl,d,_,rfl,hg a,_,rfl,?_⟩;have hga:=hg a;have hgb:=hg b;rcases zfj hk a with ⟨h1,h2⟩ | ⟨b1,l,h1,h2,h3⟩
   ·refine za4 (by rw[h1];rfl) ?_;exact⟨sl1,qn (.inl ⟨h2,rfl⟩)⟩
   refine zaB (by rw[h1];simp) ?_;rw[h1] at hga;refine⟨_,rfl,rfl,_,rfl,zaB (show ¬ decide (V.str (Str.ofString "put")=V.str (Str.ofString "fixed"))=true from by decide) ?_⟩;refine⟨_,rfl,r,_,_,_,rfl,rfl,SqT.of hr1,rfl,_,rfl,d,_,rfl,hg b,_,rfl,?_⟩;rcases zfj hk b with ⟨k1,k2⟩ | ⟨b2,o,k1,k2,k3⟩
   ·refine za4 (by rw[k1];rfl) ?_;exact⟨sl1,qn (.inr (.inl ⟨l,h2,k2,rfl⟩))⟩
   refine zaB (by rw[k1];simp) ?_;rw[k1] at hgb;have hF:=za0 hst h2;have hfl:=hF.len hl5;have hO:=za0 hst k2;have hol:=hO.len hl5;refine⟨_,rfl,rfl,_,rfl,zaB (show ¬ (!decide (V.str (Str.ofString "put")=V.str (Str.ofString "put")))=true from by decide) ?_⟩;refine⟨_,rfl,_,rfl,r,_,_,_,rfl,rfl,SqT.of hr1,rfl,d,_,rfl,hgb,b2,o,rfl,k3,by omega,⟨ls,hl5,hO.2.1⟩,(fun t ht u hu=>zfl (hO.2.2 t ht) (hO.2.2 u hu)),fun H1 s1 hy=>?_,fun H1 s1 hy=>?_⟩
   ·refine⟨true,rfl,zf6 ?_⟩;have hr2:=s1 _ _ hr1;have ga:=zft.k (k:=Sum.inr (S a)) (s1 _ _ hd);have gb:=zft.k (k:=Sum.inr (S b)) (s1 _ _ hd);rw[h1] at ga;rw[k1] at gb;refine⟨_,rfl,_,rfl,r,_,_,_,rfl,rfl,SqT.of hr2,rfl,d,_,rfl,ga,_,rfl,r,_,_,_,rfl,rfl,SqT.of hr2,rfl,_,rfl,_,rfl,r,_,_,_,rfl,rfl,SqT.of hr2,rfl,d,_,rfl,gb,b1,b2,l,o,k,rfl,h3.keep s1,k3.keep s1,(fun t ht=>(hF.2.1 t ht).1),⟨by omega,by omega⟩,⟨ls,hl5,hF.2.1.app hO.2.1⟩,by omega,(fun t ht u hu=>zfl (hF.2.2 t ht) (hO.2.2 u hu)),(fun f _ t _=>ziX (by decide) (by decide)),fun e f H2 he hT2 hF2 s2=>?_⟩;exact q.2.2 e f H2 (.inr (.inr ⟨l,o,h2,k2,.inr ⟨hy,f,rfl,hF2⟩⟩)) hT2 (s1.trans s2)
   ·refine⟨false,rfl,zhL ?_⟩;exact⟨sl1,fun e he=>q.2.1 e _ (.inr (.inr ⟨l,o,h2,k2,.inl ⟨hy,rfl⟩⟩)) zac (s1.trans (zai.upd he))⟩
  | two wo n a b =>
   obtain⟨r,rfl,hr1⟩:=hx;obtain⟨_,_,_,hw,_⟩:=hc;have dw:(Cmd.two wo n a b).dw=opS wo:=rfl;have n1:¬ (decide (V.str (opS wo)=V.str "form")=true)/\¬ (decide (V.str (opS wo)=V.str "statement")=true)/\¬ (decide (V.str (opS wo)=V.str "fixed")=true):=by
    obtain rfl | rfl | rfl:wo=0\/wo=1\/wo=2:=by omega
    all_goals exact⟨by decide,by decide,by decide⟩
   have n2:(!decide (V.str (opS wo)=V.str "put"))=true:=by
    obtain rfl | rfl | rfl:wo=0\/wo=1\/wo=2:=by omega
    all_goals decide
   refine⟨_,rfl,rfl,_,rfl,zaB n1.1 ?_⟩;refine⟨_,rfl,rfl,_,rfl,zaB n1.2.1 ?_⟩;refine⟨_,rfl,r,_,_,_,rfl,rfl,SqT.of hr1,rfl,_,rfl,d,_,rfl,hg a,_,rfl,?_⟩;have hga:=hg a;have hgb:=hg b;rcases zfj hk a with ⟨h1,h2⟩ | ⟨b1,l,h1,h2,h3⟩
   ·refine za4 (by rw[h1];rfl) ?_;exact⟨sl1,qn (.inl ⟨h2,rfl⟩)⟩
   refine zaB (by rw[h1];simp) ?_;rw[h1] at hga;refine⟨_,rfl,rfl,_,rfl,zaB n1.2.2 ?_⟩;refine⟨_,rfl,r,_,_,_,rfl,rfl,SqT.of hr1,rfl,_,rfl,d,_,rfl,hg b,_,rfl,?_⟩;rcases zfj hk b with ⟨k1,k2⟩ | ⟨b2,o,k1,k2,k3⟩
   ·refine za4 (by rw[k1];rfl) ?_;exact⟨sl1,qn (.inr (.inl ⟨l,h2,k2,rfl⟩))⟩
   refine zaB (by rw[k1];simp) ?_;rw[k1] at hgb;have hF:=za0 hst h2;have hfl:=hF.len hl5;have hO:=za0 hst k2;have hol:=hO.len hl5;refine⟨_,rfl,rfl,_,rfl,za4 n2 ?_⟩;refine⟨_,rfl,_,rfl,_,rfl,r,_,_,_,rfl,rfl,SqT.of hr1,rfl,d,_,rfl,hga,_,rfl,_,rfl,r,_,_,_,rfl,rfl,SqT.of hr1,rfl,d,_,rfl,hgb,wo,b1,b2,l,o,rfl,hw,h3,k3,⟨by omega,by omega⟩,⟨ls,hl5,hF.2.1,hO.2.1⟩,(fun _ t ht u hu=>zfl (hF.2.2 t ht) (hO.2.2 u hu)),fun e f H1 he hT1 hF1 s1=>?_⟩;exact q.2.2 e f H1 (.inr (.inr ⟨l,o,f,h2,k2,rfl,hF1⟩)) hT1 s1
theorem ziV:("show " : Str)=S [115,104,111,119,32]:=by decide +kernel
noncomputable def zqA (K:PySem.W.Frag) (C:Addr):Sp:=fun vs H Q _=>∃ (p d t:Addr) (st:Sts) (n ls:List Nat),vs=[.ref p,.ref t,.str (S n)]/\zcw C H p d st/\zdU H t st/\zb3 n=true/\(∀ nf∈st,FOk ls nf.2)/\st.length<=1000/\ls.length<=5/\(∀ x∈ls,x<16)/\∀ H',zai H H'->Q (.bl true) H'
theorem zpl (T:Txt w K mg):ze1.Ok P w K mg base 11 (zqA K zbt):=by
  refine Rw.ok T.d_Z43.F T.d_Z43.S fun vs H Q E h=>?_
  obtain⟨p,d,t,st,n,ls,rfl,hD,hT,hn,hst,hsl,hl5,hl16,q⟩:=h;refine⟨rfl,fun _ _ _ _ hr hu nd=>⟨_,(zab (zaS 3 nd (zaG (zaa zaj zad)))
   (zab (zdZ (zay (zie (zsb hu (pv 2) (pv 1))) (zae (zaS 3 nd (zaN T.d_Z44 (zpd T) (hr.mono (by decide)) (zaa (zb4 hu (pv 1) (pv 2) (fun _ _=>rfl)) zad)))) zam))
   (zae (zak (zbp (zin (zqx hr)) (zaN T.d_Z42 (zpf T) hr (zaa (pv 0) (zaa (zao zaI zaj (pv 2)) zad))) (pv 3) (zal _)))))),?_⟩⟩
  obtain⟨kvs,hd,hk⟩:=id hT;refine⟨sl1,fun e he=>?_⟩;have s0:zai H (upd H e (.lst [.str "name"])):=zai.upd he;have y0:upd H e (.lst [.str "name"]) e=some (.lst [.str "name"]):=zac;generalize upd H e (.lst [.str "name"])=H1 at s0 y0;refine⟨fun σ G=>∃ v,σ = [some (.ref p),some (.ref t),some (.str (S n)),some v]/\((zef st n=none/\∃ e,v = .ref e/\G e=some (.lst [.str "name"]))\/∃ f,zef st n=some f/\v = .str (S (txt f)))/\zai H G,?_,?_⟩
  ·have hg:=zft.k (k:=Sum.inr (S n)) (s0 _ _ hd);refine⟨_,rfl,_,rfl,t,_,rfl,hg,_,rfl,?_⟩;rcases zfj hk n with ⟨h1,h2⟩ | ⟨a,f,h1,h2,h3⟩
   ·refine zaB (by rw[h1];simp) ?_;exact⟨_,rfl,.inl ⟨h2,e,rfl,y0⟩,s0⟩
   ·refine za4 (by rw[h1];rfl) ?_;rw[h1] at hg;have hF:=za0 hst h2;refine⟨_,rfl,_,rfl,t,_,rfl,hg,a,f,rfl,h3.keep s0,hF.say hl16,jak (hF.len hl5) (by decide),fun H2 s2=>?_⟩;exact⟨_,rfl,.inr ⟨f,h2,rfl⟩,s0.trans s2⟩
  ·rintro σ G ⟨v,rfl,hv,sG⟩;obtain⟨n1,n2⟩:=zb0 hn;refine⟨_,rfl,_,rfl,_,_,rfl,rfl,?_,p,d,st,SHW++32 :: n,ls,?_,hD.keep sG,(fun c hc=>?_),?_,hl5,hl16,hst,hsl,.inr ⟨n,zlY hn,fun e2 H2 hno y2 s2=>?_,fun f hf=>⟨⟨(za0 hst hf).say hl16,jak ((za0 hst hf).len hl5) (by decide)⟩,fun H2 s2=>?_⟩⟩⟩
   ·rw[ziV,zaw,zaw];exact jak (jbL n1 _) (by show 5+8<=sizeLine;decide)
   ·rw[ziV,zbR];rfl
   ·rcases jah.mp hc with z | z
    ·have:∀ c∈SHW,c<128:=by decide
     exact this c z
    ·rcases jaj.mp z with rfl | z
     ·decide
     ·exact n2 c z
   ·rw[jab];show 4+(n.length+1)<=9000;omega
   ·rcases hv with ⟨h1,e1,rfl,y1⟩ | ⟨f,h1,rfl⟩
    ·refine⟨_,rfl,.lst [.str "name"],.lst [.str "name"],zbK y2,zbK (s2 _ _ y1),(by decide),?_⟩;exact q _ (sG.trans s2)
    ·rw[hno] at h1;cases h1
   ·rcases hv with ⟨h1,e1,rfl,y1⟩ | ⟨f',h1,rfl⟩
    ·rw[hf] at h1;cases h1
    ·rw[hf] at h1;cases h1;refine⟨_,rfl,.str (S (txt f)),.str (S (txt f)),zaX.mpr rfl,zaX.mpr rfl,jaE _,?_⟩;have e:deq (.str (S (txt f))) (.str (S (txt f)))=true:=by show (S (txt f) == S (txt f))=true;simp
     rw[e];exact q _ (sG.trans s2)
theorem zjE (f:zag) (x:Str):deq (dF f) (.lst [.str x])=false:=by
 cases f with
 | nil=>rfl
 | cons t r=>rfl
structure zmN (C:Addr) (G:Hp) (nA lA cA p d t:Addr) (nms:List (List Nat)) (ls:List Nat) (cs:List Int) (st:Sts):Prop where
 nh:G nA=some (.lst (nms.map fun x=>V.str (S x)))
 lh:G lA=some (.lst (zeh ls))
 ch:G cA=some (.lst (cs.map V.int))
 dk:zcw C G p d st
 th:zdU G t st
 ne:d≠t
theorem zmN.keep {C:Addr}{G G':Hp}{nA lA cA p d t:Addr}{nms:List (List Nat)}{ls:List Nat}{cs:List Int}{st:Sts} (h:zmN C G nA lA cA p d t nms ls cs st) (s:zai G G'):zmN C G' nA lA cA p d t nms ls cs st :=
 ⟨s _ _ h.nh,s _ _ h.lh,s _ _ h.ch,h.dk.keep s,h.th.keep s,h.ne⟩
theorem zmN.put {C:Addr}{G G':Hp}{nA lA cA p d t e:Addr}{nms:List (List Nat)}{ls:List Nat}{cs:List Int}{st st':Sts}{n:List Nat}{f:zag} (h:zmN C G nA lA cA p d t nms ls cs st) (hD:zcw C G' p d st') (k:zaJ d G G') (hT:TLo G e f) (e':st'=zmn st n f):∃ kvs,G' t=some (.dK kvs)/\kvs.length=st.length/\zmN C (upd G' t (.dK (zg7 kvs (Sum.inr (S n)) (.ref e)))) nA lA cA p d t nms ls cs st':=by
 obtain⟨kvd,hd,_⟩:=id h.dk.dc;obtain⟨kvs,ht,hk⟩:=h.th.keepD k hd h.ne.symm;have hl:∀ {b:Addr}{xs:List V},G b=some (.lst xs)->upd G' t (.dK (zg7 kvs (Sum.inr (S n)) (.ref e))) b=some (.lst xs):=fun {b xs} hb=>by
  have h1:b≠d:=fun z=>by rw[z,hd] at hb;cases hb
  have h2:=k _ _ h1 hb;have h3:b≠t:=fun z=>by rw[z,ht] at h2;cases h2
  rw[zan h3];exact h2
 obtain⟨dx,ho⟩:=hD.ob;have hpt:p≠t:=fun z=>by rw[z,ht] at ho;cases ho
 refine⟨kvs,ht,jaL hk,hl h.nh,hl h.lh,hl h.ch,⟨⟨dx,by rw[zan hpt];exact ho⟩,hD.dc.keepD zaJ.upd ht h.ne⟩,?_,h.ne⟩;rw[e'];exact zdU.put ht hk (TLo.keepD hT k hd)
theorem zou:(["_law_name", "_law_desk", "_law_there"]:List Str).Nodup:=by decide +kernel
theorem zsV (T:Txt w K mg):zhM.Ok P w K mg base 103 (zsC K):=by
  refine Rw.ok T.d_law.F T.d_law.S fun vs H Q E h=>?_
  obtain⟨a,ns,rfl,hS,hlen,hbits,kq⟩:=h;refine⟨rfl,fun _ _ _ _ hr hu nd=>⟨_,(zab (zaS 1 nd (zaN T.d_Z36 (zo4 T) (hr.mono (by decide)) (zaa (zaN T.d_Z27 (zsm T) (hr.mono (by decide)) (zaa (pv 0) (zaa zaf zad))) (zaa zaf zad))))
   (zab (zaS 2 nd (zaN T.d_Z37 (zq4 T) (hr.mono (by decide)) (zaa (pv 1) zad)))
   (zab (zaS 3 nd (zaN T.d_Z32 (zrI T) (hr.mono (by decide)) (zaa (zao zbj (pv 1) zaf) (zaa (zao zbx zaf (zao zaY (zao zbj (pv 1) zaf) zaf)) zad))))
   (zab (zaS 4 nd (znA T.mk_Desk (ziA T) (hr.mono (by decide)) rfl T.g_Desk T.d_Desk_init.b .nil zsc))
   (zab (zaS 5 nd zdI)
   (zab (zaS 6 nd (zbP zfa (pv 0) (zbo zaf) (zbo zaf)))
   (zab (zbs jaG rfl (zbw rfl T.n_range (zaa (zar zaz (by rfl) T.n_len jaF (zaa (pv 6) zad)) zad)) (pgn 7 nd)
    (zab (zgi (zaN T.d_Z35 (zsv T) hr (zaa (pv 5) (zaa (pv 2) (zaa (pv 3) (zaa (zaN T.d_Z49 (zsG T) (hr.mono (by decide)) (zaa (zav zas (pv 6) (pv 7) (fun _ _=>rfl)) (zaa (zao zbx (pv 7) zaf) zad))) zad))))) (zbe (n:=2) rfl (zap (pgn 8 nd) (zap (pgn 9 nd) zaT))))
   (zab (zaS 10 nd (zaN T.d_Z29 (zrO T) (hr.mono (by decide)) (zaa (pv 5) (zaa (pv 9) zad))))
   (zab (zaS 11 nd (zaN T.d_Z42 (zpf T) (hr.mono (by decide)) (zaa (pv 4) (zaa (zav zaK (pv 9) zaf (fun _ _=>rfl)) zad))))
   (zab (zdZ (zay (PW.pt (zgN (zah (zin (zqx hr)) (pv 10) (zaG (zaa zaj zad)) (zal _)) (zeq (zah (zin (zqx hr)) (pv 10) (zaG (zaa zaj zad)) (zal _))))) (zae (zay (zah (zo0 (zqx hr)) (pv 11) (pv 10) (zal _)) (zae (zak zjj)) zam)) (zae (zay (zah (zo0 (zqx hr)) (pv 11) zaj (zal _)) (zae (zak zjj)) (zae (zeY hu (pv 5) (pv 8) (pv 10) rfl))))))
   (zae (zay (zd0 (zcs (zaN T.d_Z43 (zpl T) (hr.mono (by decide)) (zaa (pv 4) (zaa (pv 5) (zaa (pv 8) zad)))) (fun _=>rfl))) (zae (zak zjj)) zam)))))))
   (zae (zak (zbp zaD (zar zaz (by rfl) T.n_len jaF (zaa (zbb (g:=(zaH 0)) ["_law_name", "_law_desk", "_law_there"] 1 [4,5] rfl (zfL zhM) (zaR (pv 2))
    (fun cl C s₀ H₀ fp=>(pgn 0 zou)) (fun cl C s₀ H₀ fp=>(zck (zd0 (zcs (zaN T.d_Z43 (zpl T) (hr.mono (by decide)) (zaa (pv 1) (zaa (pv 2) (zaa (pv 0) zad)))) (fun _=>rfl))))) (fun cl C s₀ H₀ fp=>(pv 0))) zad)) zaf (zal _))))))))))),?_⟩⟩
  refine⟨_,rfl,a,ns,0,rfl,hS,_,1,rfl,by decide,by decide,fun r r0 r1=>?_⟩;refine⟨_,rfl,r,rfl,r0,fun nA nms H1 hN hnl hnm s1=>?_⟩;have m0:=jaV (r / 16) (show (5:Int)≠0 by decide);have m1:=jaN (r / 16) (show (0:Int)<5 by decide);obtain⟨mo,em,hmo⟩:∃ mo:Nat,1+r / 16 % 5=(mo:Int)/\1<=mo/\mo<=5:=⟨(1+r / 16 % 5).toNat,by omega,by omega,by omega⟩;refine⟨_,rfl,_,_,rfl,rfl,zbT (by decide) (by decide),_,rfl,_,_,rfl,rfl,zbT (by decide) (by decide),_,_,rfl,rfl,(by show (0:Int)<5;decide),_,_,rfl,rfl,r / 64,mo,(by show [V.int (r / 64),V.int (1+r / 16 % 5)]=_;rw[em]),by omega,fun lA ls H2 hlA hL hnd hl16 hll s2=>?_⟩;have hl5:ls.length<=5:=by omega
  refine fun p dx hp hdx hne=>⟨p,dx,rfl,zac,fun d H3 hd hD hk=>⟨rfl,?_⟩⟩
  have s3:zai H2 H3:=fun b o hb=>hk b o (by rw[zan (zat hb hp),zan (zat hb hdx)];exact hb) (zat hb hp)
  have S3:=s1.trans (s2.trans s3);refine fun t ht=>?_
  have s4:zai H3 (upd H3 t (.dK [])):=zai.upd ht;have hth:zdU (upd H3 t (.dK [])) t []:=⟨[],zac,.nil⟩;have hdt:d≠t:=by
   obtain⟨kvd,hd',_⟩:=hD.dc;exact zat hd' ht
  generalize upd H3 t (.dK [])=H4 at s4 hth;have S4:=S3.trans s4;refine⟨_,rfl,1,rfl,63,rfl,a,_,rfl,S4.seq hS,fun cA hcA=>?_⟩;obtain⟨cs,ecs,hcs⟩:∃ cs:List Int,ziJ (ns.map V.int) (some 1) (some 63)=cs.map V.int/\cs.length<=ns.length:=by
   unfold ziJ;rw[<- List.map_drop,<- List.map_take];exact⟨_,rfl,by rw[jaJ,jbc];omega⟩
  rw[ecs];have s5:zai H4 (upd H4 cA (.lst (cs.map V.int))):=zai.upd hcA;have y5:upd H4 cA (.lst (cs.map V.int)) cA=some (.lst (cs.map V.int)):=zac;generalize upd H4 cA (.lst (cs.map V.int))=H5 at s5 y5;have hI0:zmN zbt H5 nA lA cA p d t nms ls cs []:=⟨(s2.trans (s3.trans (s4.trans s5))) _ _ hN,(s3.trans (s4.trans s5)) _ _ hL,y5,hD.keep (s4.trans s5),hth.keep s5,hdt⟩;refine⟨_,rfl,cA,_,rfl,.inl (SqL.of y5),((cs.map V.int).length:Int),rfl,by omega,by rw[jaa];omega,?_⟩;refine zco (n:=(cs.map V.int).length) (fun i σ G=>∃ (st:Sts) (v7 v8 v9 v10 v11:Option V),σ = [some (.ref a),some (.int r),some (.ref nA),some (.ref lA),some (.ref p),some (.ref t),some (.ref cA),v7,v8,v9,v10,v11]/\zmN zbt G nA lA cA p d t nms ls cs st/\(∀ nf∈st,FOk ls nf.2)/\st.length<=i)
   ⟨[],none,none,none,none,none,rfl,hI0,(fun nf h=>by cases h),jag _⟩ ?_ ?_
  ·rintro i σ G hi ⟨st,v7,v8,v9,v10,v11,rfl,hI,hst,hsl⟩;rw[jaa] at hi;obtain⟨x,hx⟩:∃ x,cs[i]? = some x:=⟨_,jar hi⟩;have hat:atI (cs.map V.int) (0+(i:Int))=some (V.int x):=by rw[jcV];exact zaA (by rw[jaC,hx];rfl)
   refine⟨_,rfl,_,rfl,_,rfl,_,rfl,_,rfl,cA,_,_,V.int x,rfl,rfl,SqL.of hI.ch,hat,_,rfl,_,_,rfl,rfl,x,(0+(i:Int))+1,rfl,by omega,fun X xs G1 hX hXw hXo t1=>?_⟩;have hI1:=hI.keep t1;refine⟨t,nA,lA,X,st,nms,ls,xs,rfl,hI1.th,hI1.nh,hI1.lh,hXw,hst,⟨hnl,hnm⟩,⟨hnd,by omega,hl5,hl16⟩,hXo,fun p2 e c G2 hp2 hde hcg hcn t2=>?_⟩;have hI2:=hI1.keep t2;refine⟨p2,_,rfl,SqT.of hp2,rfl,_,_,rfl,_,_,rfl,rfl,?_⟩;obtain⟨hcl,hcok,hclen,hcasc⟩:=hcg.line hl16;refine⟨_,rfl,_,rfl,t,e,st,c,ls,rfl,hI2.th,hde,hst,hcg,hl5,hl16,fun e3 G3 hm y3 s3=>?_,fun e3 G3 hm y3 s3=>?_,fun e3 f3 G3 hm y3 s3=>?_⟩
   ·obtain⟨xx,hde1,_⟩:=hde.keep s3;have hI3:=hI2.keep s3;refine⟨_,rfl,_,rfl,e,_,_,_,rfl,rfl,SqT.of hde1,rfl,p,d,st,c.line,ls,rfl,hI3.dk,hcasc,hclen,hl5,hl16,hst,by omega,.inl ⟨c,hcl,hcok,fun e4 G4 hm4 y4 s4=>?_,fun e4 G4 hm4 y4 s4=>?_,fun f4 hm4=>?_⟩⟩
    rotate_left
    ·cases zcm hm hm4
    ·cases zcm hm hm4
    refine⟨(fun σ G=>∃ (st:Sts) (v10 v11:Option V),σ = [some (.ref a),some (.int r),some (.ref nA),some (.ref lA),some (.ref p),some (.ref t),some (.ref cA),some (.int (0+(i:Int))),some (.str (S c.nm)),some (.ref e),v10,v11]/\zmN zbt G nA lA cA p d t nms ls cs st/\(∀ nf∈st,FOk ls nf.2)/\st.length<=i+1),?_,?_⟩
    ·refine⟨_,rfl,sl1,fun l5 hl5'=>?_⟩;have s5:zai G4 (upd G4 l5 (.lst [.str "name"])):=zai.upd hl5';refine⟨.lst [.str "name"],.lst [.str "name"],zbK ((s4.trans s5) _ _ y3),zbK zac,(by decide),_,rfl,?_⟩;refine za4 (by decide) ?_;refine⟨_,rfl,_,rfl,.lst [.str "name"],.lst [.str "name"],zbK (s5 _ _ y4),zbK ((s4.trans s5) _ _ y3),(by decide),_,rfl,?_⟩;exact zaB (by decide) ⟨st,_,_,rfl,hI3.keep (s4.trans s5),hst,by omega⟩
    ·rintro σ G ⟨st',v10,v11,rfl,hI',hst',hsl'⟩;refine⟨_,rfl,_,rfl,_,rfl,p,d,t,st',c.nm,ls,rfl,hI'.dk,hI'.th,hcg.nm,hst',by omega,hl5,hl16,fun G' s'=>?_⟩;refine⟨true,rfl,zf6 ?_⟩;exact⟨st',_,_,_,_,_,rfl,hI'.keep s',hst',hsl'⟩
   ·obtain⟨xx,hde1,_⟩:=hde.keep s3;have hI3:=hI2.keep s3;refine⟨_,rfl,_,rfl,e,_,_,_,rfl,rfl,SqT.of hde1,rfl,p,d,st,c.line,ls,rfl,hI3.dk,hcasc,hclen,hl5,hl16,hst,by omega,.inl ⟨c,hcl,hcok,fun e4 G4 hm4 y4 s4=>?_,fun e4 G4 hm4 y4 s4=>?_,fun f4 hm4=>?_⟩⟩
    ·cases zcm hm hm4
    rotate_left
    ·cases zcm hm hm4
    refine⟨(fun σ G=>∃ (st:Sts) (v10 v11:Option V),σ = [some (.ref a),some (.int r),some (.ref nA),some (.ref lA),some (.ref p),some (.ref t),some (.ref cA),some (.int (0+(i:Int))),some (.str (S c.nm)),some (.ref e),v10,v11]/\zmN zbt G nA lA cA p d t nms ls cs st/\(∀ nf∈st,FOk ls nf.2)/\st.length<=i+1),?_,?_⟩
    ·refine⟨_,rfl,sl1,fun l5 hl5'=>?_⟩;have s5:zai G4 (upd G4 l5 (.lst [.str "name"])):=zai.upd hl5';refine⟨.lst [.str "yes no"],.lst [.str "name"],zbK ((s4.trans s5) _ _ y3),zbK zac,(by decide),_,rfl,?_⟩;refine zaB (by decide) ?_;generalize upd G4 l5 (.lst [.str "name"])=G5 at s5;refine⟨_,rfl,sl1,fun l6 hl6'=>?_⟩;have s6:zai G5 (upd G5 l6 (.lst [.str "yes no"])):=zai.upd hl6';have T6:=s4.trans (s5.trans s6);refine⟨.lst [.str "yes no"],.lst [.str "yes no"],zbK (T6 _ _ y3),zbK zac,(by decide),_,rfl,?_⟩;refine za4 (by decide) ?_;refine⟨_,rfl,_,rfl,.lst [.str "yes no"],.lst [.str "yes no"],zbK ((s5.trans s6) _ _ y4),zbK (T6 _ _ y3),(by decide),_,rfl,?_⟩;exact zaB (by decide) ⟨st,_,_,rfl,hI3.keep T6,hst,by omega⟩
    ·rintro σ G ⟨st',v10,v11,rfl,hI',hst',hsl'⟩;refine⟨_,rfl,_,rfl,_,rfl,p,d,t,st',c.nm,ls,rfl,hI'.dk,hI'.th,hcg.nm,hst',by omega,hl5,hl16,fun G' s'=>?_⟩;refine⟨true,rfl,zf6 ?_⟩;exact⟨st',_,_,_,_,_,rfl,hI'.keep s',hst',hsl'⟩
   ·obtain⟨xx,hde1,_⟩:=hde.keep s3;have hI3:=hI2.keep s3;refine⟨_,rfl,_,rfl,e,_,_,_,rfl,rfl,SqT.of hde1,rfl,p,d,st,c.line,ls,rfl,hI3.dk,hcasc,hclen,hl5,hl16,hst,by omega,.inl ⟨c,hcl,hcok,fun e4 G4 hm4 y4 s4=>?_,fun e4 G4 hm4 y4 s4=>?_,fun f4 hm4=>?_⟩⟩
    ·cases zcm hm hm4
    ·cases zcm hm hm4
    cases zcm hm hm4;have hF3:=hcg.makes hl16 hl5 hst hm;refine⟨⟨jak (hF3.len hl5) (by decide),fun u hu=>jcX (hF3.2.2 u hu) (by decide +kernel)⟩,fun G4 hD4 k4=>?_⟩;refine⟨(fun σ G=>∃ (st:Sts) (v10 v11:Option V),σ = [some (.ref a),some (.int r),some (.ref nA),some (.ref lA),some (.ref p),some (.ref t),some (.ref cA),some (.int (0+(i:Int))),some (.str (S c.nm)),some (.ref e),v10,v11]/\zmN zbt G nA lA cA p d t nms ls cs st/\(∀ nf∈st,FOk ls nf.2)/\st.length<=i+1),?_,?_⟩
    ·obtain⟨kvd,hdd,_⟩:=id hI3.dk.dc;have y4:TLo G4 e3 f3:=TLo.keepD y3 k4 hdd;refine⟨_,rfl,sl1,fun l5 hl5'=>?_⟩;have s5:zai G4 (upd G4 l5 (.lst [.str "name"])):=zai.upd hl5';refine⟨dF f3,.lst [.str "name"],(y4.keep s5).is,zbK zac,jak (zjM f3) (by decide),_,rfl,?_⟩;refine zaB (by rw[zjE];decide) ?_;generalize upd G4 l5 (.lst [.str "name"])=G5 at s5;refine⟨_,rfl,sl1,fun l6 hl6'=>?_⟩;have s6:zai G5 (upd G5 l6 (.lst [.str "yes no"])):=zai.upd hl6';have T6:=s5.trans s6;refine⟨dF f3,.lst [.str "yes no"],(y4.keep T6).is,zbK zac,jak (zjM f3) (by decide),_,rfl,?_⟩;refine zaB (by rw[zjE];decide) ?_;generalize upd G5 l6 (.lst [.str "yes no"])=G6 at s6 T6;refine⟨_,rfl,.str "ok",.str "ok",zaX.mpr rfl,zaX.mpr rfl,(by decide),_,rfl,?_⟩;refine zaB (by decide) ?_;obtain⟨kvs,ht6,hkl,hI6⟩:=hI3.put (n:=c.nm) (hD4.keep T6) (k4.trans (zaJ.of T6)) y3 rfl;refine⟨_,rfl,_,rfl,_,rfl,t,_,rfl,zna.k (k:=Sum.inr (S c.nm)) ht6 (zaF (by omega)),zmn st c.nm f3,_,_,rfl,hI6,zny hst hF3,?_⟩
     have:=zoD st c.nm f3
     omega
    ·rintro σ G ⟨st',v10,v11,rfl,hI',hst',hsl'⟩;refine⟨_,rfl,_,rfl,_,rfl,p,d,t,st',c.nm,ls,rfl,hI'.dk,hI'.th,hcg.nm,hst',by omega,hl5,hl16,fun G' s'=>?_⟩;refine⟨true,rfl,zf6 ?_⟩;exact⟨st',_,_,_,_,_,rfl,hI'.keep s',hst',hsl'⟩
  ·rintro σ G ⟨st,v7,v8,v9,v10,v11,rfl,hI,hst,hsl⟩;rw[jaa] at hsl;refine⟨_,rfl,nA,rfl,⟨_,SqL.of hI.nh⟩,?_⟩;refine zbn (K:=K) (a:=nA) (xs:=nms.map fun x=>V.str (S x)) (fun j ys σ G'=>∃ v0:Option V,σ = [v0,some (.ref p),some (.ref t)]/\ys=[]/\zai G G') ⟨none,rfl,rfl,zai.refl _⟩ (fun j ys σ G' _ ⟨_,_,e1,e2⟩=>⟨SqL.of (e2 _ _ hI.nh),by rw[e1];exact jaE _⟩) (by rw[jaa,hnl];decide) ?_ ?_
   ·rintro j y ys σ G' hj ⟨v0,rfl,rfl,sG⟩;rw[jaC] at hj;obtain⟨n,hn,rfl⟩:∃ n,nms[j]? = some n/\V.str (S n)=y:=by
     cases z:nms[j]? with
     | none=>rw[z] at hj;cases hj
     | some n=>rw[z] at hj;exact⟨n,rfl,jaD hj⟩
    have hI':=hI.keep sG;unfold zaH;refine⟨_,rfl,_,rfl,_,rfl,p,d,t,st,n,ls,rfl,hI'.dk,hI'.th,hnm n (jao hn),hst,by omega,hl5,hl16,fun G2 s2=>?_⟩;refine⟨true,rfl,zf6 ?_⟩;exact⟨_,rfl,rfl,sG.trans s2⟩
   ·rintro ys σ G' ⟨v0,rfl,rfl,sG⟩ D hD;refine⟨D,_,rfl,.inl (SqL.of zac),rfl,?_⟩;exact kq _
end
set_option maxHeartbeats 0 in
theorem zvH {w:World}{h:Heap}{mg:Str->Option Value} (X:(K w.params).In h) (G:h.Ns mainGlobals mg):Txt w (K w.params) mg:=by
 constructor
 case nf_Desk_forms=>show _=_;kernel_rfl
 case q_MADE_0=>exact sqK ["name", "name"] [793,794] rfl (by decide) (by kernel_rfl)
 case q_MADE_1=>exact sqK ["name", "name"] [796,797] rfl (by decide) (by kernel_rfl)
 case q_MADE_2=>exact sqK ["name", "name"] [799,800] rfl (by decide) (by kernel_rfl)
 case q_MADE_3=>exact sqK ["name", "letter", "bit"] [802,803,804] rfl (by decide) (by kernel_rfl)
 case q_MADE_4=>exact sqK ["name", "letter", "name"] [806,807,808] rfl (by decide) (by kernel_rfl)
 case q_MADE=>exact znE.of (ts:=[792,795,798,801,805]) (n:=5) rfl rfl (by decide +kernel) (by kernel_rfl)
 case q_ASKED_0=>exact sqK ["name"] [767] rfl (by decide) (by kernel_rfl)
 case q_ASKED_1=>exact sqK ["name", "number"] [769,770] rfl (by decide) (by kernel_rfl)
 case q_ASKED_2=>exact sqK ["name", "name"] [772,773] rfl (by decide) (by kernel_rfl)
 case q_ASKED_3=>exact sqK ["name", "name", "divisor"] [775,776,777] rfl (by decide) (by kernel_rfl)
 case q_ASKED_4=>exact sqK ["name"] [779] rfl (by decide) (by kernel_rfl)
 case q_ASKED_5=>exact sqK ["name"] [781] rfl (by decide) (by kernel_rfl)
 case q_ASKED_6=>exact sqK ["name"] [783] rfl (by decide) (by kernel_rfl)
 case q_ASKED=>exact znE.of (ts:=[766,768,771,774,778,780,782]) (n:=7) rfl rfl (by decide +kernel) (by kernel_rfl)
 case q_SPACED=>exact sqK ["not ", " and ", " or ", " xor "] [595,596,597,598] rfl (by decide) (by kernel_rfl)
 case q_JOINING=>exact sqK ["and", "or", "xor"] [591,592,593] rfl (by decide) (by kernel_rfl)
 all_goals first
  | exact Def.of X G (by first | exact us1 fun _=>rfl | exact us2 fun _ _=>rfl | exact us3 fun _ _ _=>rfl | exact us4 fun _ _ _ _=>rfl | exact us0 rfl) (by kernel_rfl) (by kernel_rfl) (by kernel_rfl) (by kernel_rfl) (by kernel_rfl)
  | exact zoM.of (by first | exact us1 fun _=>rfl | exact us2 fun _ _=>rfl | exact us3 fun _ _ _=>rfl | exact us4 fun _ _ _ _=>rfl) (by kernel_rfl) (by kernel_rfl) (by kernel_rfl) (by kernel_rfl) (by kernel_rfl) (by kernel_rfl)
  | exact PySem.W.mg_none_of X G (by kernel_rfl)
  | exact PySem.W.mg_of X G (by kernel_rfl)
  | exact⟨by kernel_rfl,by kernel_rfl,by kernel_rfl,by kernel_rfl⟩
  | kernel_rfl
theorem zvm {q:Program}{loose:List Str}{XP:(Str->Option Value)->Heap->Prop}{d:DefRec} (hdf:d.params.defaults=[]) (hnm:d.name = "law") :
  PySem.W.WalkO q loose XP (PySem.W.InK K) PySem.Challenge.rw_onceform_k83_desk_makes.row.toRowW d [] (fun f vs => PySem.call f vs) :=
 L2.zos (l := PySem.Challenge.rw_onceform_k83_desk_makes) (n := 63) (k := 103) (x := "_law_script") (CX := fun _ => CX0) (sp := fun w => zsC (K w.params)) rfl (by decide) hdf ⟨rfl, by decide, by decide⟩ (fun w h Y => Y) (fun w mg fa h KX G hmg => by
  have T:=zvH KX G;rw[hnm] at hmg;cases hmg.symm.trans T.d_law.m;exact⟨zhM.fd,fun s v=>.of_eq rfl,fun base _ _=>zsV T⟩) (fun _ _ a ns hl hb _ hS=>⟨a,ns,rfl,hS,hl,hb,fun _=>rfl⟩) fun _ _ _ _ _ z=>z
end My
open PySem PySem.W PyProof.Rows
set_option maxRecDepth 100000 in
set_option maxHeartbeats 0 in
theorem PySem.Challenge.cw_onceform_k83_desk_makes_holds : PySem.Challenge.rw_onceform_k83_desk_makes.Holds := by
 w_on
 refine PySem.W.holds_law My.ztp fun ztp=>?_
 refine PySem.W.holds_open (q:=My.Q) (loose:=My.lo) (Xt:=My.Xq) (XP:=PySem.W.XL My.Q []) (Yf:=My.Hk.obs) (Ya:=My.Hk.val) (YP:=PySem.W.InK My.K) (N:=10554) (d:=⟨"law",L2.zf3 My.zhM.s,L2.zda My.zhM.s,L2.zaC My.zhM.s,My.zrw My.zhM.s⟩) (kwd:=[]) My.left My.Hk.of My.Hk.keeps
  (fun s e=>PySem.W.xl_of s (jbD.mp e).1) PySem.W.XL.keeps (by kernel_rfl) (by kernel_rfl) (by kernel_rfl) (fun s e=>PySem.W.recFacts_of (jbD.mp e).2) (by kernel_rfl) ztp (by decide +kernel) ⟨rfl,rfl,rfl,rfl,rfl,by decide +kernel⟩ ?hw ?hc
 case hw=>w_witness2
 exact My.zvm rfl rfl
#print axioms PySem.Challenge.cw_onceform_k83_desk_makes_holds
