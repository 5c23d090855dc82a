import PyProof.Rows.All
import Wide.All
import OpenK.AllK
import Wide.FinOn
import Lean
import PyProof.EqAt
import PyProof.EqKinds
import PyProof.TupleCall
import PyProof.NeKinds
import PyProof.WalksEnum
import PyProof.EnumMake
import PyProof.AttrMissHeap
import KE.KDictOf
import PyProof.ListNew
import PyProof.ZipIter
import PyProof.Rows.ZipGen
import KE.KIntText
import PyProof.StrLawsTight
import KE.KRevIter
import KE.KDictList
import KE.KEqDict
import PyProof.DictCopy
import KE.KSortTup
import KE.KMinKey
import PySem.Challenge.RW_onceform_k91_whole_words_added_and_multi
set_option genSizeOf false
set_option Elab.async false
set_option linter.all false
set_option maxRecDepth 100000
set_option maxHeartbeats 4000000
namespace L2
open PySem PySem.Spec PyProof.Rows
noncomputable abbrev Key:=Sum Int Str
noncomputable def keyIs:Key→Value→Bool
 | .inl k,v=>Value.isInt k v
 | .inr x,v=>Value.isStrOf x v
noncomputable def keyH (w:World):Key→Int
 | .inl k=>hashInt k
 | .inr x=>hashStr w x
theorem keyIs_shape:∀ {k:Key}{v:Value},keyIs k v=true→(∃ i t,k=Sum.inl i∧v=Value.int i t)∨(∃ x t,k=Sum.inr x∧v=Value.str x t)
 | .inl i,v,h=>by
  obtain⟨t,e⟩:=Value.isInt_shape (k:=i) (v:=v) h;exact .inl ⟨i,t,rfl,e⟩
 | .inr x,v,h=>by
  obtain⟨t,e⟩:=Value.isStrOf_shape (x:=x) (v:=v) h;exact .inr ⟨x,t,rfl,e⟩
theorem keyIs_int (i:Int) (t:Tok):keyIs (.inl i) (.int i t)=true:=by simp[keyIs,Value.isInt]
theorem keyIs_str (x:Str) (t:Tok):keyIs (.inr x) (.str x t)=true:=by simp[keyIs,Value.isStrOf]
theorem key_ll (a b:Int):decide ((Sum.inl a:Key)=Sum.inl b)=(a == b):=by
 by_cases e:a=b
 ·subst e;simp
 ·have h:¬ (Sum.inl a:Key)=Sum.inl b:=fun q=>e (Sum.inl.inj q)
  rw[decide_eq_false h];exact (beq_eq_false_iff_ne.mpr e).symm
theorem key_rr (a b:Str):decide ((Sum.inr a:Key)=Sum.inr b)=decide (a=b):=by
 by_cases e:a=b
 ·subst e;simp
 ·have h:¬ (Sum.inr a:Key)=Sum.inr b:=fun q=>e (Sum.inr.inj q)
  rw[decide_eq_false h,decide_eq_false e]
theorem key_lr (a:Int) (b:Str):decide ((Sum.inl a:Key)=Sum.inr b)=false:=decide_eq_false (fun q=>nomatch q)
theorem key_rl (a:Str) (b:Int):decide ((Sum.inr a:Key)=Sum.inl b)=false:=decide_eq_false (fun q=>nomatch q)
noncomputable def mixKind (prog:Program) (w:World):PySem.KeyKind prog w Key where
 is:=keyIs
 hash:=keyH w
 inj:=fun v a b ha hb=>by
  rcases keyIs_shape ha with ⟨i,t,rfl,rfl⟩ | ⟨x,t,rfl,rfl⟩
  ·rcases keyIs_shape hb with ⟨j,u,rfl,e⟩ | ⟨y,u,rfl,e⟩
   ·injection e with e1 _;rw[e1]
   ·exact nomatch e
  ·rcases keyIs_shape hb with ⟨j,u,rfl,e⟩ | ⟨y,u,rfl,e⟩
   ·exact nomatch e
   ·injection e with e1 _;rw[e1]
 byValue:=fun k v h=>by
  rcases keyIs_shape h with ⟨i,t,rfl,rfl⟩ | ⟨x,t,rfl,rfl⟩ <;> rfl
 pyHash:=fun hv h=>by
  rcases keyIs_shape hv with ⟨i,t,rfl,rfl⟩ | ⟨x,t,rfl,rfl⟩
  ·exact wpAny_pyHash_int h
  ·exact wpAny_pyHash_str h
 eqBool:=fun hu hv h=>by
  rcases keyIs_shape hu with ⟨i,t,rfl,rfl⟩ | ⟨x,t,rfl,rfl⟩
  ·rcases keyIs_shape hv with ⟨j,u,rfl,rfl⟩ | ⟨y,u,rfl,rfl⟩
   ·rw[key_ll] at h;exact wpAny_eqBool_int h
   ·rw[key_lr] at h;exact SeqAt.EqAt.int_str i t y u _ _ _ _ h
  ·rcases keyIs_shape hv with ⟨j,u,rfl,rfl⟩ | ⟨y,u,rfl,rfl⟩
   ·rw[key_rl] at h;exact SeqAt.EqAt.str_int x t j u _ _ _ _ h
   ·rw[key_rr] at h;exact wpAny_eqBool_str h
 «strs» := fun k x t v h=>by
  rcases keyIs_shape h with ⟨i,u,rfl,e⟩ | ⟨y,u,rfl,e⟩
  ·exact nomatch e
  ·injection e with e1 _
   subst e1;cases v <;> rfl
theorem mixKind_int (prog:Program) (w:World) (i:Int) (t:Tok):(mixKind prog w).is (.inl i) (.int i t)=true:=keyIs_int i t
theorem mixKind_str (prog:Program) (w:World) (x:Str) (t:Tok):(mixKind prog w).is (.inr x) (.str x t)=true:=keyIs_str x t
end L2
namespace L2
open PySem PySem.Spec PyProof.Rows
inductive V where
 | non | bl (b:Bool) | int (i:Int) | str (x:Str) | byt (b:Array UInt8) | flt (b:UInt64) | ref (a:Addr) | ty (n:String)
 deriving DecidableEq
noncomputable def RelV:V→Value→Prop
 | .non,u=>u=Value.none
 | .bl b,u=>u=Value.bool b
 | .int i,u=>∃ t,u=Value.int i t
 | .str x,u=>∃ t,u=Value.str x t
 | .byt b,u=>∃ t,u=Value.bytes b t
 | .flt b,u=>∃ t,u=Value.float b t
 | .ref a,u=>u=Value.ref a
 | .ty n,u=>u=Value.type n
noncomputable abbrev Vals:List V→List Value→Prop:=Paired RelV
theorem Vals.length {xs:List V}{us:List Value} (r:Vals xs us):xs.length=us.length:=Paired.length r
theorem Vals.get:∀ {xs:List V}{us:List Value}{i:Nat}{x:V},Vals xs us→xs[i]? = some x→∃ u,us[i]? = some u∧RelV x u
 | _,_,_,_,.nil,e=>by simp at e
 | _,_,0,_,.cons r _,e=>by simp at e;subst e;exact⟨_,rfl,r⟩
 | _,_,i+1,x,.cons _ t,e=>by
  obtain⟨u,h1,h2⟩:=Vals.get (i:=i) (x:=x) t (by simpa using e);exact⟨u,by simpa using h1,h2⟩
theorem Vals.set {x:V}{u:Value} (r:RelV x u):∀ {xs:List V}{us:List Value} (i:Nat),Vals xs us→Vals (xs.set i x) (us.set i u)
 | _,_,_,.nil=>.nil
 | _,_,0,.cons _ t=>.cons r t
 | _,_,i+1,.cons q t=>.cons q (Vals.set r i t)
theorem Vals.append:∀ {xs ys:List V}{us ws:List Value},Vals xs us→Vals ys ws→Vals (xs++ys) (us++ws)
 | _,_,_,_,.nil,s=>s
 | _,_,_,_,.cons r t,s=>.cons r (Vals.append t s)
theorem Vals.take:∀ {xs:List V}{us:List Value} (n:Nat),Vals xs us→Vals (xs.take n) (us.take n)
 | _,_,0,_=>.nil
 | _,_,_+1,.nil=>.nil
 | _,_,n+1,.cons r t=>.cons r (Vals.take n t)
theorem Vals.drop:∀ {xs:List V}{us:List Value} (n:Nat),Vals xs us→Vals (xs.drop n) (us.drop n)
 | _,_,0,r=>r
 | _,_,_+1,.nil=>.nil
 | _,_,n+1,.cons _ t=>Vals.drop n t
noncomputable def RelO:Option V→Option Value→Prop
 | some v,some u=>RelV v u
 | none,none=>True
 | _,_=>False
noncomputable def KV {κ : Type}:List (κ × V)→List (κ × Value)→Prop:=Paired fun (p : κ × V) (q : κ × Value)=>p.1=q.1∧RelV p.2 q.2
noncomputable def kV:Key→V
 | .inl i=>.int i
 | .inr x=>.str x
inductive HO where
  | lst (xs:List V)
  | tup (xs:List V)
  | dK (kvs:List (Key × V)) | dT (kvs:List (List Key × V))
  | set (S:Int→Bool) (n:Nat)
  | ins (C dx:Addr) (fs:List (Str × V))
  | own (x:Addr)
  | xd (fs:List (Str × V))
  | met (f x:Addr)
  | rng (lo hi:Int)
  | frz (o:Obj) (u:HO)
  | tbl (ps:Array Value)
  | ext (φ : Heap→Prop)
noncomputable abbrev Hp:=Addr→Option HO
noncomputable def upd (H:Hp) (a:Addr) (o:HO):Hp:=fun b=>if b=a then some o else H b
theorem upd_same {H:Hp}{a:Addr}{o:HO}:upd H a o a=some o:=by unfold upd;rw[if_pos rfl]
theorem upd_ne {H:Hp}{a b:Addr}{o:HO} (h:b≠a):upd H a o b=H b:=by unfold upd;rw[if_neg h]
theorem upd_upd {H:Hp}{a:Addr}{o u:HO}:upd (upd H a o) a u=upd H a u:=by
 funext b;unfold upd;split <;> rfl
theorem ne_of {H:Hp}{a b:Addr}{o u:HO} (h:H a=some o) (h':H b=some u) (d:o≠u):a≠b:=by
 intro e;subst e;rw[h] at h';exact d (Option.some.inj h')
theorem ne_of_none {H:Hp}{a b:Addr}{o:HO} (h:H a=some o) (h':H b=none):a≠b:=by
 intro e;subst e;rw[h] at h';cases h'
section
variable (P:Program) (w:World)
noncomputable def ObjOk (H:Hp) (h:Heap) (a:Addr):HO→Prop
 | .lst xs=>xs.length≤sizeLine∧∃ (its:List Value) (n:Nat),Vals xs its∧h.get? a=some { cls := .type "list",data := .seq its.toArray n }
 | .tup xs=>xs.length≤sizeLine∧∃ its:List Value,Vals xs its∧IsTup h a its.toArray
 | .dK kvs=>kvs.length≤sizeLine∧(a == sysModules)=false∧∃ vs,KV kvs vs∧h.DictOf (mixKind P w) a vs
 | .dT kvs=>kvs.length≤sizeLine∧(a == sysModules)=false∧∃ xs:List (List Key × Addr × Value),
   Paired (fun (p:List Key × V) (q:List Key × Addr × Value)=>p.1=q.1∧H q.2.1=some (.tup (p.1.map kV))∧RelV p.2 q.2.2) kvs xs ∧
   ∃ o es ep,h.get? a=some o∧o.ExactDict∧o.data = .dict es ep∧es.toList=xs.map (entryOfKey (tupleKind (mixKind P w)))∧(xs.map (·.1)).Nodup
 | .set S n=>h.SetOf (intKind P w) a S n
 | .ins C dx fs=>H dx=some (.own a)∧fs.length≤1000∧dx≠a∧h.get? a=some (PySem.W.instObj C dx) ∧
   ∃ mA,h.Ns1 dx mA∧(∀ f,RelO (fs.lookup f) (mA f))∧PySem.Within mA (fs.map (·.1))
 | .own _=>∃ o,h.get? a=some o
 | .xd fs=>∃ mA,h.Ns1 a mA∧∀ f,RelO (fs.lookup f) (mA f)
 | .rng lo hi=>∃ t u v,h.get? a=some { cls := .type "range",data := .fields #[.int lo t,.int hi u,.int 1 v] }
 | .frz o u=>h.get? a=some o∧ObjOk H h a u
 | .tbl ps=>h.get? a=some { cls := .none,data := .fields ps }
 | .met f x=>h.get? a=some (PySem.W.methodObj (.ref f) (.ref x))
 | .ext φ => φ h∧(∃ o,h.get? a=some o)∧∀ h1 h2:Heap,φ h1→(∀ o,h1.get? a=some o→h2.get? a=some o) → φ h2
noncomputable def HOk (H:Hp) (h:Heap):Prop:=∀ a o,H a=some o→ObjOk P w H h a o
end
section
variable {P:Program}{w:World}{H H':Hp}{h h':Heap}{a:Addr}{o:HO}
theorem ObjOk.lt (x:ObjOk P w H h a o):a<h.objs.size:=by
 cases o with
 | lst xs=>obtain⟨_,_,_,_,e⟩:=x;exact Heap.lt_size e
 | tup xs=>obtain⟨_,_,_,p⟩:=x;exact p.lt
 | dK kvs=>obtain⟨_,_,_,_,o,_,_,e,_⟩:=x;exact Heap.lt_size e
 | dT kvs=>obtain⟨_,_,_,_,o,_,_,e,_⟩:=x;exact Heap.lt_size e
 | set S n=>obtain⟨o,_,_,_,e,_⟩:=x;exact Heap.lt_size e
 | ins C dx fs=>obtain⟨_,_,_,e,_⟩:=x;exact Heap.lt_size e
 | own y=>obtain⟨_,e⟩:=x;exact Heap.lt_size e
 | xd fs=>obtain⟨_,⟨_,_,_,e,_⟩,_⟩:=x;exact Heap.lt_size e
 | rng lo hi=>obtain⟨_,_,_,e⟩:=x;exact Heap.lt_size e
 | frz ob u=>obtain⟨e,_⟩:=x;exact Heap.lt_size e
 | tbl ps=>exact Heap.lt_size (show h.get? a=some _ from x)
 | met f y=>exact Heap.lt_size (show h.get? a=some _ from x)
 | ext φ => obtain⟨_,⟨_,e⟩,_⟩:=x;exact Heap.lt_size e
theorem Paired.mapP {α β : Type}{F G : α → β → Prop}:∀ {l₁:List α}{l₂:List β},Paired F l₁ l₂→(∀ a b,F a b→G a b)→Paired G l₁ l₂
 | _,_,.nil,_=>.nil
 | _,_,.cons r t,f=>.cons (f _ _ r) (Paired.mapP t f)
theorem ObjOk.stay (x:ObjOk P w H h a o) (k:∀ b u,(b=a∨H b=some (.own a))→h.get? b=some u→h'.get? b=some u)
  (ho:∀ b,H b=some (.own a)→H' b=some (.own a)) (ht:∀ b xs,H b=some (.tup xs)→H' b=some (.tup xs)):ObjOk P w H' h' a o:=by
 induction o with
 | lst xs=>obtain⟨z,its,n,r,e⟩:=x;exact⟨z,its,n,r,k _ _ (.inl rfl) e⟩
 | tup xs=>obtain⟨z,its,r,ob,e,c⟩:=x;exact⟨z,its,r,ob,k _ _ (.inl rfl) e,c⟩
 | dK kvs=>obtain⟨z,y,vs,r,ob,es,ep,e,c⟩:=x;exact⟨z,y,vs,r,ob,es,ep,k _ _ (.inl rfl) e,c⟩
 | dT kvs =>
  obtain⟨z,y,xs,r,ob,es,ep,e,c⟩:=x;exact⟨z,y,xs,Paired.mapP r fun p q z=>⟨z.1,ht _ _ z.2.1,z.2.2⟩,ob,es,ep,k _ _ (.inl rfl) e,c⟩
 | set S n=>obtain⟨ob,es,ep,t,e,c⟩:=x;exact⟨ob,es,ep,t,k _ _ (.inl rfl) e,c⟩
 | ins C dx fs =>
  obtain⟨d,z,ne,e,mA,⟨od,es,ep,e2,c⟩,r⟩:=x;exact⟨ho _ d,z,ne,k _ _ (.inl rfl) e,mA,⟨od,es,ep,k _ _ (.inr d) e2,c⟩,r⟩
 | own y=>obtain⟨ob,e⟩:=x;exact⟨ob,k _ _ (.inl rfl) e⟩
 | xd fs=>obtain⟨mA,⟨od,es,ep,e,c⟩,r⟩:=x;exact⟨mA,⟨od,es,ep,k _ _ (.inl rfl) e,c⟩,r⟩
 | rng lo hi=>obtain⟨t,u,v,e⟩:=x;exact⟨t,u,v,k _ _ (.inl rfl) e⟩
 | frz ob u ih=>obtain⟨e,q⟩:=x;exact⟨k _ _ (.inl rfl) e,ih q⟩
 | tbl ps =>
  have e:h.get? a=some { cls := .none,data := .fields ps }:=x;show h'.get? a=some { cls := .none,data := .fields ps };exact k a _ (.inl rfl) e
 | met f y =>
  have e:h.get? a=some (PySem.W.methodObj (.ref f) (.ref y)):=x;show h'.get? a=some (PySem.W.methodObj (.ref f) (.ref y));exact k a _ (.inl rfl) e
 | ext φ => obtain⟨p,⟨o,e⟩,st⟩:=x;exact⟨st _ _ p fun o q=>k _ _ (.inl rfl) q,⟨o,k _ _ (.inl rfl) e⟩,st⟩
theorem HOk.lt (x:HOk P w H h) (e:H a=some o):a<h.objs.size:=(x a o e).lt
theorem HOk.fresh (x:HOk P w H h) (e:h.objs.size≤a):H a=none:=by
 cases q:H a with
 | none=>rfl
 | some u=>exact absurd (Nat.lt_of_lt_of_le (x.lt q) e) (Nat.lt_irrefl _)
theorem HOk.kept (x:HOk P w H h) (k:∀ b u,h.get? b=some u→h'.get? b=some u):HOk P w H h':=fun a o e =>
 (x a o e).stay (fun b u _ q=>k b u q) (fun _ q=>q) fun _ _ q=>q
theorem HOk.laid (x:HOk P w H h) (k:∀ b u,h.get? b=some u→h'.get? b=some u) (hp:h.objs.size≤a) (new:ObjOk P w (upd H a o) h' a o):HOk P w (upd H a o) h':=fun b u e=>by
 have hn:=x.fresh hp;by_cases hb:b=a
 ·subst hb;rw[upd_same] at e;cases e;exact new
 ·rw[upd_ne hb] at e;exact (x b u e).stay (fun c v _ q=>k c v q) (fun c q=>by rw[upd_ne (ne_of_none q hn)];exact q) fun c xs q=>by rw[upd_ne (ne_of_none q hn)];exact q
end
noncomputable def Rd (H:Hp) (a:Addr) (u:HO):Prop:=H a=some u∨∃ o,H a=some (.frz o u)
theorem Rd.ok {P:Program}{w:World}{H:Hp}{h:Heap}{a:Addr}{u:HO} (r:Rd H a u) (x:HOk P w H h):ObjOk P w H h a u:=by
 rcases r with r | ⟨o,r⟩
 ·exact x a u r
 ·obtain⟨_,q⟩:=x a _ r;exact q
noncomputable def Mut:Option HO→Prop
 | some (.lst _)=>True
 | some (.dK _)=>True
 | some (.dT _)=>True
 | some (.set _ _)=>True
 | some (.ins _ _ _)=>True
 | some (.ext _)=>True
 | _=>False
section
variable {P:Program}{w:World}{H:Hp}{h h':Heap}{x e:Addr}{o':HO}
theorem HOk.write (ok:HOk P w H h) (mu:Mut (H x)) (he:e=x∨H e=some (.own x)) (k:∀ b u,b≠e→h.get? b=some u→h'.get? b=some u) (heo:∃ u,h'.get? e=some u)
  (new:ObjOk P w (upd H x o') h' x o'):HOk P w (upd H x o') h':=fun b u q=>by
 have nown:∀ c y,H c=some (.own y)→c≠x:=fun c y r z=>by subst z;rw[r] at mu;exact mu
 have ntup:∀ c xs,H c=some (.tup xs)→c≠x:=fun c xs r z=>by subst z;rw[r] at mu;exact mu
 by_cases hb:b=x
 ·subst hb;rw[upd_same] at q;cases q;exact new
 ·rw[upd_ne hb] at q;by_cases hbe:b=e
  ·have q':H b=some (.own x):=by
    rcases he with z | z
    ·exact absurd (hbe.trans z) hb
    ·rw[hbe];exact z
   rw[q] at q';cases q';obtain⟨v,hv⟩:=heo;exact⟨v,by rw[hbe];exact hv⟩
  ·refine (ok b u q).stay (fun c v hc r=>k c v ?_ r) (fun c r=>by rw[upd_ne (nown c b r)];exact r) fun c xs r=>by rw[upd_ne (ntup c xs r)];exact r
   rcases hc with rfl | hc
   ·exact hbe
   ·rintro rfl;rcases he with z | z
    ·exact nown c b hc z
    ·rw[hc] at z;cases z;exact hb rfl
end
structure Un (fs ex:List Addr) (H H':Hp) (h h':Heap):Prop where
 keep:∀ b o,h.get? b=some o→H b=none→b ∉ fs→b ∉ ex→h'.get? b=some o
 slot:∀ b o,h.get? b=some o→H b=none→b∈fs→b ∉ ex→∃ sl,h'.get? b=some { o with slots:=sl }
 free:∀ b o,h.get? b=some o→H b=none→b ∉ ex→H' b=none
 there:∀ b o,h.get? b=some o→b ∉ ex→∃ o',h'.get? b=some o'
 tups:∀ b xs,H b=some (.tup xs)→H' b=some (.tup xs)
 frzs:∀ b o u,H b=some (.frz o u)→H' b=some (.frz o u)
 tbls:∀ b ps,H b=some (.tbl ps)→∃ more,H' b=some (.tbl (ps++more))
section
variable {fs fs' ex ex':List Addr}{H H1 H2:Hp}{h h1 h2 h':Heap}{a x e:Addr}{o:HO}
theorem Un.any (u:Un fs ex H H1 h h1) {b:Addr}{ob:Obj} (q:h.get? b=some ob) (n:H b=none) (hx:b ∉ ex):∃ sl,h1.get? b=some { ob with slots:=sl }:=by
 by_cases hb:b∈fs
 ·exact u.slot b ob q n hb hx
 ·exact⟨ob.slots,u.keep b ob q n hb hx⟩
theorem Un.kept (k:∀ b u,h.get? b=some u→h'.get? b=some u):Un fs ex H H h h' :=
 ⟨fun b ob q _ _ _=>k b ob q,fun b ob q _ _ _=>⟨ob.slots,k b ob q⟩,fun _ _ _ n _=>n,fun b ob q _=>⟨ob,k b ob q⟩,fun _ _ q=>q,fun _ _ _ q=>q,fun _ ps q=>⟨#[],by rw[q];simp⟩⟩
theorem Un.refl:Un fs ex H H h h:=Un.kept fun _ _ q=>q
theorem Un.laid (k:∀ b u,h.get? b=some u→h'.get? b=some u) (hp:h.objs.size≤a) (hn:H a=none):Un fs ex H (upd H a o) h h' where
 keep:=fun b u q _ _ _=>k b u q
 slot:=fun b u q _ _ _=>⟨u.slots,k b u q⟩
 free:=fun b u q n _=>by rw[upd_ne (Nat.ne_of_lt (Nat.lt_of_lt_of_le (Heap.lt_size q) hp))];exact n
 there:=fun b u q _=>⟨u,k b u q⟩
 tups:=fun b xs q=>by rw[upd_ne (ne_of_none q hn)];exact q
 frzs:=fun b u xs q=>by rw[upd_ne (ne_of_none q hn)];exact q
 tbls:=fun b ps q=>⟨#[],by rw[upd_ne (ne_of_none q hn),q];simp⟩
theorem Un.write (mu:Mut (H x)) (he:e=x∨H e=some (.own x)) (k:∀ b u,b≠e→h.get? b=some u→h'.get? b=some u) (heo:∃ u,h'.get? e=some u):Un fs ex H (upd H x o) h h':=by
 have hx:∀ b,H b=none→b≠x:=fun b n z=>by subst z;rw[n] at mu;exact mu
 have hb:∀ b,H b=none→b≠e:=fun b n z=>by
  subst z;rcases he with r | r
  ·exact hx b n r
  ·rw[n] at r;cases r
 have hm:∀ b u,H b=some u→¬ Mut (some u)→b≠x:=fun b u q nm z=>by subst z;rw[q] at mu;exact nm mu
 refine⟨fun b u q n _ _=>k b u (hb b n) q,fun b u q n _ _=>⟨u.slots,k b u (hb b n) q⟩,fun b u q n _=>by rw[upd_ne (hx b n)];exact n,fun b u q _=>?_,
  fun b xs q=>by rw[upd_ne (hm b _ q fun z=>z)];exact q,fun b u xs q=>by rw[upd_ne (hm b _ q fun z=>z)];exact q,fun b ps q=>⟨#[],by rw[upd_ne (hm b _ q fun z=>z),q];simp⟩⟩
 by_cases hbe:b=e
 ·subst hbe;exact heo
 ·exact⟨u,k b u hbe q⟩
end
noncomputable def trk (h:Heap) (H:Hp):List Addr:=(List.range h.objs.size).filter fun a=>(H a).isSome
noncomputable def hidT (h:Heap) (H:Hp):Heap:=PySem.W.hideAll h (trk h H)
theorem hidT_size (h:Heap) (H:Hp):(hidT h H).objs.size=h.objs.size:=PySem.W.hideAll_size _ _
theorem hidT_get {h:Heap}{H:Hp}{b:Addr}{o:Obj} (e:h.get? b=some o) (n:H b=none):(hidT h H).get? b=some o :=
 PySem.W.hideAll_get _ e fun hm=>by
  have q:(H b).isSome=true:=(List.mem_filter.mp hm).2;rw[n] at q;simp at q
theorem of_hidT {h:Heap}{H:Hp}{b:Addr}{o:Obj} (e:(hidT h H).get? b=some o):h.get? b=some o∧H b=none:=by
 have e':h.get? b=some o:=PySem.W.of_hideAll (trk h H) e;refine⟨e',?_⟩;cases q:H b with
 | none=>rfl
 | some x =>
  have hm:b∈trk h H:=List.mem_filter.mpr ⟨List.mem_range.mpr (Heap.lt_size e'),by simp[q]⟩;have z:(hidT h H).get? b=none:=PySem.W.hideAll_none (trk h H) hm;rw[z] at e;cases e
end L2
namespace L2
open PySem PySem.Spec PyProof.Rows
structure Mod (K:PySem.W.Frag) (mg:Str→Option Value) (base:Heap):Prop where
 kin:K.In base
 glob:base.Ns mainGlobals mg
 blt:∃ mb,base.Ns builtinsNs mb∧∀ x:Str,x ≠ "__name__" → mb x=bootBuiltins x
 nolimit:base.NoLimit
structure Cx where
 prog:Program
 w:World
 K:PySem.W.Frag
 mg:Str→Option Value
 base:Heap
 A:Around
 N:List Str
 s₀:Shared
 H₀:Hp
 env:Env
 outer:List Env
 stack:List Env
 ex:List Addr
 fn:Str→Bool
 calm:Bool
 pn:List (Addr × Obj)
 xe:Value→Shared→Prop
noncomputable def frs (l:List Env):List Addr:=l.filterMap (·.frame)
noncomputable abbrev Cx.fs (X:Cx):List Addr:=frs X.outer
noncomputable def Vis (sc:Scope) (x:Str):Prop:=sc.names.lookup x=some .local∨sc.names.lookup x=some .cell∨sc.names.lookup x=some .free
noncomputable def Loc (sc:Scope) (x:Str):Prop:=sc.names.lookup x=some .local∨sc.names.lookup x=some .cell
noncomputable def Look (env:Env) (h:Heap) (m:Str→Option Value) (x:Str) (u:Value):Prop :=
 (env.kindOf x=some .local∧m x=some u)∨((env.kindOf x=some .cell∨env.kindOf x=some .free)∧∃ c,env.cells.lookup x=some c∧h.IsCell c (some u))
structure Cx.Ok (X:Cx):Prop where
 mod:Mod X.K X.mg X.base
 kind:X.env.scope.kind = .function
 glob:X.env.globals=mainGlobals
 blt:X.env.builtins=builtinsNs
 above:X.s₀.heap.objs.size≤X.env.locals
 inj:∀ x y c,X.env.cells.lookup x=some c→X.env.cells.lookup y=some c→x=y
 has:∀ x,(X.env.kindOf x=some .cell∨X.env.kindOf x=some .free)→∃ c,X.env.cells.lookup x=some c
 cab:∀ x c,X.fn x=true→X.env.cells.lookup x=some c→X.s₀.heap.objs.size≤c
 hd:X.calm=true→X.A.handled=none
 frames:X.A.frames=some X.stack
 stk:X.stack=X.outer∨(X.stack=X.env :: X.outer∧X.env.frame=some X.env.locals)
 exf:∀ b∈X.ex,b≠X.env.locals∧∀ x c,X.env.cells.lookup x=some c→c≠b
 bs:∀ b o,X.base.get? b=some o→X.s₀.heap.get? b=some o∧X.H₀ b=none
 bsz:X.base.objs.size≤X.s₀.heap.objs.size
 noex:∀ b o,X.base.get? b=some o→b ∉ X.ex
 exfs:∀ b∈X.ex,b ∉ X.fs
 funs:X.s₀.heap.FunFrames X.base X.outer
 frf:∀ b∈X.fs,X.H₀ b=none
structure Inv (X:Cx) (pins:List (Addr × Obj)) (σ:List (Option V)) (H:Hp) (s:Shared):Prop where
 ok:X.Ok
 os:s.os=X.s₀.os
 bare:AllBare s.gens
 base:Un X.fs X.ex X.H₀ H X.s₀.heap s.heap
 loc:∃ m,s.heap.Ns X.env.locals m∧∀ (i:Nat) (x:Str) (v:V),X.N[i]? = some x → σ[i]? = some (some v)→Vis X.env.scope x→∃ u,RelV v u∧Look X.env s.heap m x u
 cell:∀ x c,X.env.cells.lookup x=some c→∃ v,s.heap.IsCell c v
 free:H X.env.locals=none
 freeC:∀ x c,X.env.cells.lookup x=some c→H c=none
 pin:∀ p∈X.pn++pins,s.heap.get? p.1=some p.2∧H p.1=none∧p.1≠X.env.locals∧p.1 ∉ X.fs∧∀ v,p.2.data ≠ .cell v
 hok:HOk X.prog X.w H s.heap
 len : σ.length=X.N.length
section
variable {X:Cx}{pins:List (Addr × Obj)} {σ:List (Option V)}{H H':Hp}{s:Shared}{h':Heap}
theorem Cx.Ok.nofr (ok:X.Ok) {b:Addr}{o:Obj} (e:X.base.get? b=some o):b ∉ X.fs:=fun hb=>by
 have:=(ok.funs.mem hb).1
 rw[e] at this;cases this
theorem Inv.bs (I:Inv X pins σ H s):∀ b o,X.base.get? b=some o→s.heap.get? b=some o∧H b=none:=fun b o e =>
 ⟨I.base.keep b o (I.ok.bs b o e).1 (I.ok.bs b o e).2 (I.ok.nofr e) (I.ok.noex b o e),I.base.free b o (I.ok.bs b o e).1 (I.ok.bs b o e).2 (I.ok.noex b o e)⟩
theorem Inv.bk (I:Inv X pins σ H s):∀ b o,X.base.get? b=some o→s.heap.get? b=some o:=fun b o e=>(I.bs b o e).1
theorem Inv.mod (I:Inv X pins σ H s):Mod X.K X.mg X.base:=I.ok.mod
theorem Inv.kIn (I:Inv X pins σ H s):X.K.In s.heap:=I.ok.mod.kin.keeps I.bk
theorem Inv.lt (I:Inv X pins σ H s):X.env.locals<s.heap.objs.size:=let ⟨_,hn,_⟩:=I.loc;hn.lt
theorem Inv.sz (I:Inv X pins σ H s):X.s₀.heap.objs.size≤s.heap.objs.size:=Nat.le_trans I.ok.above (Nat.le_of_lt I.lt)
theorem Inv.nofs (I:Inv X pins σ H s) {a:Addr} (h:s.heap.objs.size≤a):a ∉ X.fs:=fun hb=>by
 obtain⟨_,o,ho,_⟩:=I.ok.funs.mem hb;exact absurd (Nat.lt_of_lt_of_le (Heap.lt_size ho) (Nat.le_trans I.sz h)) (Nat.lt_irrefl _)
theorem Inv.cne (I:Inv X pins σ H s):∀ x c,X.env.cells.lookup x=some c→c≠X.env.locals:=fun x c e z=>by
 obtain⟨v,o,ho,hd⟩:=I.cell x c e;obtain⟨m,⟨o',es,ep,ho',hd',_⟩,_⟩:=I.loc;rw[z,ho'] at ho;cases ho;rw[hd'] at hd;cases hd
theorem Inv.funs (I:Inv X pins σ H s):s.heap.FunFrames X.base X.outer:=by
 have all:∀ (l:List Env),(∀ b∈frs l,b∈X.fs)→X.s₀.heap.FunFrames X.base l→s.heap.FunFrames X.base l:=by
  intro l;induction l with
  | nil=>intro _ _;trivial
  | cons env r ih =>
   intro hs hl;obtain⟨hk,⟨L,o,hf,hn,ho,hd⟩,hr⟩:=hl;have hL:L∈X.fs:=hs L (by unfold frs;rw[List.filterMap_cons,hf];exact List.mem_cons_self);obtain⟨sl,e⟩:=I.base.slot L o ho (I.ok.frf L hL) hL fun z=>I.ok.exfs L z hL
   exact⟨hk,⟨L,_,hf,hn,e,hd⟩,ih (fun b hb=>hs b (by unfold frs;rw[List.filterMap_cons,hf];exact List.mem_cons_of_mem _ hb)) hr⟩
 exact all X.outer (fun _ hb=>hb) I.ok.funs
theorem Inv.stack (I:Inv X pins σ H s):s.heap.FunFrames X.base X.stack:=by
 rcases I.ok.stk with e | ⟨e,hf⟩
 ·rw[e];exact I.funs
 ·rw[e];obtain⟨m,hn,_⟩:=I.loc;refine .cons (by rw[I.ok.kind];decide) hf hn ?_ I.funs;exact Heap.get?_none_of_le (Nat.le_trans I.ok.bsz I.ok.above)
theorem Inv.stkSub (I:Inv X pins σ H s):∀ b∈frs X.stack,b∈X.env.locals :: X.fs:=fun b hb=>by
 rcases I.ok.stk with e | ⟨e,hf⟩
 ·rw[e] at hb;exact List.mem_cons_of_mem _ hb
 ·rw[e] at hb;unfold frs at hb;rw[List.filterMap_cons,hf] at hb;exact hb
theorem Inv.stkFree (I:Inv X pins σ H s):∀ b∈frs X.stack,H b=none:=fun b hb=>by
 rcases List.mem_cons.mp (I.stkSub b hb) with e | hb
 ·rw[e];exact I.free
 ·obtain⟨_,o,ho,_⟩:=I.ok.funs.mem hb;exact I.base.free b o ho (I.ok.frf b hb) fun z=>I.ok.exfs b z hb
theorem Inv.step {g':Array GenState}{t':Nat}{d':Drawn}{ch:List Addr} (I:Inv X pins σ H s)
  (hch:∀ b∈ch,(b∈X.ex∨X.s₀.heap.objs.size≤b)∧b≠X.env.locals∧(∀ x c,X.env.cells.lookup x=some c→c≠b)∧∀ p∈X.pn++pins,p.1≠b)
  (keep:∀ b o,b≠X.env.locals→b ∉ X.fs→b ∉ ch→s.heap.get? b=some o→H b=none→h'.get? b=some o)
  (slot:∀ b o,b≠X.env.locals→b∈X.fs→b ∉ ch→s.heap.get? b=some o→H b=none→∃ sl,h'.get? b=some { o with slots:=sl }) (free:∀ b o,b ∉ ch→s.heap.get? b=some o→H b=none→H' b=none)
  (there:∀ b o,b ∉ ch→s.heap.get? b=some o→∃ o',h'.get? b=some o')
  (tups:∀ b xs,H b=some (.tup xs)→H' b=some (.tup xs)) (frzs:∀ b o u,H b=some (.frz o u)→H' b=some (.frz o u)) (tbls:∀ b ps,H b=some (.tbl ps)→∃ more,H' b=some (.tbl (ps++more)))
  (ns:∀ m,s.heap.Ns X.env.locals m→h'.Ns X.env.locals m) (hok:HOk X.prog X.w H' h') (hg:AllBare g') :
  Inv X pins σ H' { s with heap:=h',gens:=g',drawn:=d',toks:=t' }:=by
 have neL:∀ b o,X.s₀.heap.get? b=some o→b≠X.env.locals:=fun b o e=>Nat.ne_of_lt (Nat.lt_of_lt_of_le (Heap.lt_size e) I.ok.above)
 have neC:∀ b o,X.s₀.heap.get? b=some o→b ∉ X.ex→b ∉ ch:=fun b o e hx hb=>by
  rcases (hch b hb).1 with z | z
  ·exact hx z
  ·exact absurd (Nat.lt_of_lt_of_le (Heap.lt_size e) z) (Nat.lt_irrefl _)
 have cellK:∀ x c,X.env.cells.lookup x=some c→∀ v,s.heap.IsCell c v→h'.IsCell c v:=fun x c e v ⟨o,ho,hd⟩=>by
  have nch:c ∉ ch:=fun z=>(hch c z).2.2.1 x c e rfl
  by_cases hc:c∈X.fs
  ·obtain⟨sl,q⟩:=slot c o (I.cne x c e) hc nch ho (I.freeC x c e);exact⟨_,q,hd⟩
  ·exact⟨o,keep c o (I.cne x c e) hc nch ho (I.freeC x c e),hd⟩
 refine⟨I.ok,I.os,hg,⟨fun b o e n hb hx=>?_,fun b o e n hb hx=>?_,fun b o e n hx=>?_,fun b o e hx=>?_,fun b xs e=>tups b xs (I.base.tups b xs e),fun b o xs e=>frzs b o xs (I.base.frzs b o xs e),fun b ps e=>?_⟩,?_,fun x c e=>?_,?_,fun x c e=>?_,fun p hp=>?_,hok,I.len⟩
 ·exact keep b o (neL b o e) hb (neC b o e hx) (I.base.keep b o e n hb hx) (I.base.free b o e n hx)
 ·obtain⟨sl,e1⟩:=I.base.slot b o e n hb hx;obtain⟨sl',e2⟩:=slot b _ (neL b o e) hb (neC b o e hx) e1 (I.base.free b o e n hx);exact⟨sl',e2⟩
 ·obtain⟨o',e1⟩:=I.base.there b o e hx;exact free b o' (neC b o e hx) e1 (I.base.free b o e n hx)
 ·obtain⟨o',e1⟩:=I.base.there b o e hx;exact there b o' (neC b o e hx) e1
 ·obtain⟨m1,e1⟩:=I.base.tbls b ps e;obtain⟨m2,e2⟩:=tbls b _ e1;exact⟨m1++m2,by rw[e2,Array.append_assoc]⟩
 ·obtain⟨m,hn,hl⟩:=I.loc;refine⟨m,ns m hn,fun i x v e1 e2 e3=>?_⟩;obtain⟨u,r,l⟩:=hl i x v e1 e2 e3;refine⟨u,r,?_⟩;rcases l with l | ⟨k,c,e,z⟩
  ·exact .inl l
  ·exact .inr ⟨k,c,e,cellK x c e _ z⟩
 ·obtain⟨v,z⟩:=I.cell x c e;exact⟨v,cellK x c e v z⟩
 ·obtain⟨m,⟨o,_,_,ho,_⟩,_⟩:=I.loc;exact free _ o (fun z=>(hch _ z).2.1 rfl) ho I.free
 ·obtain⟨v,o,ho,hd⟩:=I.cell x c e;exact free c o (fun z=>(hch c z).2.2.1 x c e rfl) ho (I.freeC x c e)
 ·obtain⟨e,n,ne,nf,d⟩:=I.pin p hp;have nch:p.1 ∉ ch:=fun z=>(hch p.1 z).2.2.2 p hp rfl
  exact⟨keep p.1 p.2 ne nf nch e n,free p.1 p.2 nch e n,ne,nf,d⟩
theorem Inv.un {t':Nat} (I:Inv X pins σ H s) (u:Un X.fs [] H H' s.heap h') (hok:HOk X.prog X.w H' h'):Inv X pins σ H' { s with heap:=h',toks:=t' }:=by
 obtain⟨m,⟨o,es,ep,ho,r⟩,_⟩:=id I.loc;obtain⟨sl,hL⟩:=u.any ho I.free (by simp);exact I.step (g':=s.gens) (d':=s.drawn) (ch:=[]) (fun _ z=>nomatch z) (fun b o _ hb _ e n=>u.keep b o e n hb (by simp)) (fun b o _ hb _ e n=>u.slot b o e n hb (by simp)) (fun b o _ e n=>u.free b o e n (by simp)) (fun b o _ e=>u.there b o e (by simp)) u.tups u.frzs u.tbls (fun m' hm=>by
  obtain⟨o',es',ep',ho',r'⟩:=hm;rw[ho] at ho';cases ho';exact⟨_,es',ep',hL,r'⟩) hok I.bare
theorem Inv.call {g':Array GenState}{t':Nat}{d':Drawn}{ch:List Addr} (I:Inv X pins σ H s) (u:Un (frs X.stack) ch H H' s.heap h') (hok:HOk X.prog X.w H' h') (hg:AllBare g')
  (hch:∀ b∈ch,(b∈X.ex∨X.s₀.heap.objs.size≤b)∧b≠X.env.locals∧(∀ x c,X.env.cells.lookup x=some c→c≠b)∧∀ p∈X.pn++pins,p.1≠b) :
  Inv X pins σ H' { s with heap:=h',gens:=g',drawn:=d',toks:=t' }:=by
 obtain⟨m,⟨o,es,ep,ho,r⟩,_⟩:=id I.loc;obtain⟨sl,hL⟩:=u.any ho I.free fun z=>(hch _ z).2.1 rfl
 exact I.step (ch:=ch) hch (fun b o hL hb hc e n=>u.keep b o e n (fun z=>(List.mem_cons.mp (I.stkSub b z)).elim hL hb) hc) (fun b o _ _ hc e n=>u.any e n hc) (fun b o hc e n=>u.free b o e n hc) (fun b o hc e=>u.there b o e hc) u.tups u.frzs u.tbls (fun m' hm=>by
  obtain⟨o',es',ep',ho',r'⟩:=hm;rw[ho] at ho';cases ho';exact⟨_,es',ep',hL,r'⟩) hok hg
theorem Inv.turned {t':Nat}{it:Addr} (I:Inv X pins σ H s) (k:∀ b o,b≠it→s.heap.get? b=some o→h'.get? b=some o) (hn:H it=none) (hL:it≠X.env.locals)
  (h1:it∈X.ex∨X.s₀.heap.objs.size≤it) (h2:∀ x c,X.env.cells.lookup x=some c→c≠it) (h3:∀ p∈X.pn++pins,p.1≠it):Inv X pins σ H { s with heap:=h',toks:=t' }:=by
 have nit:∀ b u,H b=some u→b≠it:=fun b u e z=>by rw[z,hn] at e;cases e
 refine I.step (g':=s.gens) (d':=s.drawn) (ch:=[it]) (fun b hb=>?_) (fun b o _ _ hc e _=>k b o (fun z=>hc (by simp[z])) e) (fun b o _ _ hc e _=>⟨o.slots,k b o (fun z=>hc (by simp[z])) e⟩) (fun _ _ _ _ n=>n)
  (fun b o hc e=>⟨o,k b o (fun z=>hc (by simp[z])) e⟩) (fun _ _ e=>e) (fun _ _ _ e=>e) (fun b ps e=>⟨#[],by rw[e];simp⟩) (fun m hm=>?_) (fun b u e=>?_) I.bare
 ·have e:b=it:=by simpa using hb
  subst e;exact⟨h1,hL,h2,h3⟩
 ·obtain⟨o,es,ep,ho,r⟩:=hm;exact⟨o,es,ep,k _ o (Ne.symm hL) ho,r⟩
 ·refine (I.hok b u e).stay (fun c v hc q=>k c v ?_ q) (fun _ q=>q) fun _ _ q=>q
  rcases hc with z | z
  ·rw[z];exact nit b u e
  ·exact nit c _ z
theorem Inv.tok (I:Inv X pins σ H s) (t:Nat):Inv X pins σ H { s with toks:=t }:=I.un (h':=s.heap) (t':=t) Un.refl I.hok
theorem Inv.kept {t':Nat} (I:Inv X pins σ H s) (k:∀ b u,s.heap.get? b=some u→h'.get? b=some u):Inv X pins σ H { s with heap:=h',toks:=t' }:=I.un (Un.kept k) (I.hok.kept k)
theorem Inv.laid {a:Addr}{o:HO}{t':Nat} (I:Inv X pins σ H s) (k:∀ b u,s.heap.get? b=some u→h'.get? b=some u) (hp:s.heap.objs.size≤a) (new:ObjOk X.prog X.w (upd H a o) h' a o) :
  Inv X pins σ (upd H a o) { s with heap:=h',toks:=t' }:=I.un (Un.laid k hp (I.hok.fresh hp)) (I.hok.laid k hp new)
theorem Inv.write {x e:Addr}{o:HO}{t':Nat} (I:Inv X pins σ H s) (mu:Mut (H x)) (he:e=x∨H e=some (.own x)) (k:∀ b u,b≠e→s.heap.get? b=some u→h'.get? b=some u) (heo:∃ u,h'.get? e=some u)
  (new:ObjOk X.prog X.w (upd H x o) h' x o):Inv X pins σ (upd H x o) { s with heap:=h',toks:=t' }:=I.un (Un.write mu he k heo) (I.hok.write mu he k heo new)
theorem Inv.pins_of {pins':List (Addr × Obj)} (I:Inv X pins σ H s) (h:∀ p∈pins',s.heap.get? p.1=some p.2∧H p.1=none∧p.1≠X.env.locals∧p.1 ∉ X.fs∧∀ v,p.2.data ≠ .cell v):Inv X pins' σ H s :=
 ⟨I.ok,I.os,I.bare,I.base,I.loc,I.cell,I.free,I.freeC,fun p hp=>(List.mem_append.mp hp).elim (fun z=>I.pin p (List.mem_append_left _ z)) (h p),I.hok,I.len⟩
theorem nodup_ix {N:List Str} (hN:N.Nodup) {i j:Nat}{x:Str} (a:N[i]? = some x) (b:N[j]? = some x):i=j:=by
 obtain⟨h1,e1⟩:=List.getElem?_eq_some_iff.mp a;obtain⟨h2,e2⟩:=List.getElem?_eq_some_iff.mp b;exact (List.getElem_inj hN).mp (e1.trans e2.symm)
theorem store_ok2 {M:Model}{A:Around}{E:Value→Shared→Prop}{i:Nat}{x:Str}{v:V}{u:Value}{Q:Unit→Shared→Prop} (I:Inv X pins σ H s) (hN:X.N.Nodup) (hi:X.N[i]? = some x) (hx:Loc X.env.scope x) (r:RelV v u)
  (h:∀ s',Inv X pins (σ.set i (some v)) H s'→(∃ a,Heap.SameBut a s.heap s'.heap∧(a=X.env.locals∨X.env.cells.lookup x=some a))→Q () s') (hf:X.fn x=true∨X.env.scope.names.lookup x=some .local:=by first | exact .inl rfl | exact .inr rfl | assumption):wpAny M A (storeName X.env x u) Q E s:=by
 obtain⟨m,hn,hl⟩:=id I.loc;have hcls:(X.env.scope.kind == .class || (X.env.scope.kind == .module && X.env.locals != X.env.globals))=false:=by rw[I.ok.kind];rfl
 have hiσ:i < σ.length:=by rw[I.len];exact (List.getElem?_eq_some_iff.mp hi).1
 have cne:=I.cne;have tracked:∀ {a:Addr}{h':Heap},(∃ o,s.heap.get? a=some o∧H a=none)→Heap.SameBut a s.heap h'→HOk X.prog X.w H h':=fun {a h'} ha hs b ob e=>by
  obtain⟨_,_,hfree⟩:=ha;refine (I.hok b ob e).stay (fun c w' hc q=>(hs.2 c ?_).trans q) (fun _ q=>q) fun _ _ q=>q
  rintro rfl;rcases hc with rfl | hc
  ·rw[hfree] at e;cases e
  ·rw[hfree] at hc;cases hc
 rcases hx with hk | hk
 ·refine wpAny_storeName_local hk hn (fun h' hn' hs=>?_) hcls;obtain⟨oL,_,_,hoL,_⟩:=id hn;refine h _ ⟨I.ok,I.os,I.bare,⟨fun b o e n hb hx=>?_,fun b o e n hb hx=>?_,I.base.free,fun b o e hx=>?_,I.base.tups,I.base.frzs,I.base.tbls⟩,⟨_,hn',fun j y v' e1 e2 e3=>?_⟩,fun y c e=>?_,I.free,I.freeC,fun p hp=>?_,tracked ⟨oL,hoL,I.free⟩ hs,by simpa using I.len⟩ ⟨_,hs,.inl rfl⟩
  ·exact (hs.2 b (Nat.ne_of_lt (Nat.lt_of_lt_of_le (Heap.lt_size e) I.ok.above))).trans (I.base.keep b o e n hb hx)
  ·obtain⟨sl,e1⟩:=I.base.slot b o e n hb hx;exact⟨sl,(hs.2 b (Nat.ne_of_lt (Nat.lt_of_lt_of_le (Heap.lt_size e) I.ok.above))).trans e1⟩
  ·obtain⟨o',e1⟩:=I.base.there b o e hx;exact⟨o',(hs.2 b (Nat.ne_of_lt (Nat.lt_of_lt_of_le (Heap.lt_size e) I.ok.above))).trans e1⟩
  ·by_cases hj:j=i
   ·subst hj;rw[hi] at e1;cases e1;rw[List.getElem?_set_self hiσ] at e2;cases e2;exact⟨u,r,.inl ⟨hk,by simp⟩⟩
   ·rw[List.getElem?_set_ne (Ne.symm hj)] at e2;obtain⟨u',r',q⟩:=hl j y v' e1 e2 e3;refine⟨u',r',?_⟩;rcases q with ⟨k,e⟩ | ⟨k,c,e,z⟩
    ·refine .inl ⟨k,?_⟩
     have:y≠x:=fun e=>hj (nodup_ix hN e1 (e ▸ hi))
     simp[this,e]
    ·exact .inr ⟨k,c,e,z.sameBut hs (cne y c e)⟩
  ·obtain⟨w',z⟩:=I.cell y c e;exact⟨w',z.sameBut hs (cne y c e)⟩
  ·obtain⟨e,n,ne,nf,d⟩:=I.pin p hp;exact⟨(hs.2 p.1 ne).trans e,n,ne,nf,d⟩
 ·have hfn:X.fn x=true:=by
   rcases hf with z | z
   ·exact z
   ·rw[z] at hk;cases hk
  obtain⟨c,hc⟩:=I.ok.has x (.inl hk);obtain⟨w',z⟩:=I.cell x c hc;refine wpAny_storeName_cell I.ok.kind hk hc z (fun h' hc' hs=>?_);obtain⟨oc,hoc,hocd⟩:=id z;refine h { s with heap:=h' } ⟨I.ok,I.os,I.bare,⟨fun b o e n hb hx=>?_,fun b o e n hb hx=>?_,I.base.free,fun b o e hx=>?_,I.base.tups,I.base.frzs,I.base.tbls⟩,⟨m,hn.sameBut hs (Ne.symm (cne x c hc)),fun j y v' e1 e2 e3=>?_⟩,fun y c' e=>?_,I.free,I.freeC,fun p hp=>?_,tracked ⟨oc,hoc,I.freeC x c hc⟩ hs,by simpa using I.len⟩ ⟨c,hs,.inr hc⟩
  ·exact (hs.2 b (Nat.ne_of_lt (Nat.lt_of_lt_of_le (Heap.lt_size e) (I.ok.cab x c hfn hc)))).trans (I.base.keep b o e n hb hx)
  ·obtain⟨sl,e1⟩:=I.base.slot b o e n hb hx;exact⟨sl,(hs.2 b (Nat.ne_of_lt (Nat.lt_of_lt_of_le (Heap.lt_size e) (I.ok.cab x c hfn hc)))).trans e1⟩
  ·obtain⟨o',e1⟩:=I.base.there b o e hx;exact⟨o',(hs.2 b (Nat.ne_of_lt (Nat.lt_of_lt_of_le (Heap.lt_size e) (I.ok.cab x c hfn hc)))).trans e1⟩
  ·by_cases hj:j=i
   ·subst hj;rw[hi] at e1;cases e1;rw[List.getElem?_set_self hiσ] at e2;cases e2;exact⟨u,r,.inr ⟨.inl hk,c,hc,hc'⟩⟩
   ·rw[List.getElem?_set_ne (Ne.symm hj)] at e2;obtain⟨u',r',q⟩:=hl j y v' e1 e2 e3;refine⟨u',r',?_⟩;rcases q with q | ⟨k,c',e,z'⟩
    ·exact .inl q
    ·refine .inr ⟨k,c',e,z'.sameBut hs ?_⟩;rintro rfl;exact hj (nodup_ix hN e1 (I.ok.inj _ _ _ e hc ▸ hi))
  ·by_cases hcc:c'=c
   ·subst hcc;exact⟨_,hc'⟩
   ·obtain⟨w2,z2⟩:=I.cell y c' e;exact⟨w2,z2.sameBut hs hcc⟩
  ·obtain⟨e,n,ne,nf,d⟩:=I.pin p hp;refine⟨(hs.2 p.1 ?_).trans e,n,ne,nf,d⟩;intro q;rw[q,hoc] at e;have q':oc=p.2:=Option.some.inj e;exact d w' (by rw[← q'];exact hocd)
theorem store_ok {M:Model}{A:Around}{E:Value→Shared→Prop}{i:Nat}{x:Str}{v:V}{u:Value}{Q:Unit→Shared→Prop} (I:Inv X pins σ H s) (hN:X.N.Nodup) (hi:X.N[i]? = some x) (hx:Loc X.env.scope x) (r:RelV v u)
  (h:∀ s',Inv X pins (σ.set i (some v)) H s'→Q () s') (hf:X.fn x=true∨X.env.scope.names.lookup x=some .local:=by first | exact .inl rfl | exact .inr rfl | assumption):wpAny M A (storeName X.env x u) Q E s :=
 store_ok2 I hN hi hx r (fun s' I' _=>h s' I') hf
theorem Inv.call' {s':Shared}{ch:List Addr} (I:Inv X pins σ H s) (ho:s'.os=s.os) (u:Un (frs X.stack) ch H H' s.heap s'.heap) (hok:HOk X.prog X.w H' s'.heap) (hg:AllBare s'.gens)
  (hch:∀ b∈ch,(b∈X.ex∨X.s₀.heap.objs.size≤b)∧b≠X.env.locals∧(∀ x c,X.env.cells.lookup x=some c→c≠b)∧∀ p∈X.pn++pins,p.1≠b):Inv X pins σ H' s':=by
 obtain⟨h',g',d',t',o'⟩:=s';have e:o'=s.os:=ho;subst e;exact I.call (g':=g') (t':=t') (d':=d') u hok hg hch
end
noncomputable abbrev XK:=Value→Option Addr→Hp→Prop
noncomputable abbrev St:=List (Option V)
noncomputable abbrev VK:=V→Hp→Prop
noncomputable abbrev TE:=St→Hp→VK→Prop
noncomputable abbrev TT:=St→Hp→(Bool→Hp→Prop)→Prop
noncomputable abbrev TA:=St→Hp→(List V→Hp→Prop)→Prop
structure Ends where
 nx:St→Hp→Prop
 rt:VK
 bk:St→Hp→Prop:=fun _ _=>False
 ct:St→Hp→Prop:=fun _ _=>False
noncomputable abbrev TS:=Ends→St→Hp→Prop
noncomputable def EP (X:Cx) (pins:List (Addr × Obj)) (σ:St) (Q:VK) (u:Value) (s':Shared):Prop:=∃ v H',Inv X pins σ H' s'∧RelV v u∧Q v H'
noncomputable def TP (X:Cx) (pins:List (Addr × Obj)) (σ:St) (Q:Bool→Hp→Prop) (b:Bool) (s':Shared):Prop:=∃ H',Inv X pins σ H' s'∧Q b H'
noncomputable def AP (X:Cx) (pins:List (Addr × Obj)) (σ:St) (Q:List V→Hp→Prop) (us:List Value) (s':Shared):Prop:=∃ vs H',Inv X pins σ H' s'∧Vals vs us∧Q vs H'
noncomputable def SP (X:Cx) (pins:List (Addr × Obj)) (D:Ends) (f:Flow) (s':Shared):Prop :=
 match f with
 | .next=>∃ σ' H',Inv X pins σ' H' s'∧D.nx σ' H'
 | .brk=>∃ σ' H',Inv X pins σ' H' s'∧D.bk σ' H'
 | .cont=>∃ σ' H',Inv X pins σ' H' s'∧D.ct σ' H'
 | .ret u=>∃ v σ' H',Inv X pins σ' H' s'∧RelV v u∧D.rt v H'
noncomputable def PE (X:Cx) (e:Expr) (t:TE):Prop :=
 ∀ (pins:List (Addr × Obj)) (s:Shared) (σ:St) (H:Hp) (Q:VK),Inv X pins σ H s→t σ H Q→wpAny (model X.prog X.w) X.A (eval e X.env) (EP X pins σ Q) X.xe s
noncomputable def PT (X:Cx) (e:Expr) (t:TT):Prop :=
 ∀ (pins:List (Addr × Obj)) (s:Shared) (σ:St) (H:Hp) (Q:Bool→Hp→Prop),Inv X pins σ H s→t σ H Q→wpAny (model X.prog X.w) X.A (isTrue e X.env (eval e X.env)) (TP X pins σ Q) X.xe s
noncomputable def PW (X:Cx) (e:Expr) (t:TT):Prop :=
 ∀ (whole:Sem Value) (pins:List (Addr × Obj)) (s:Shared) (σ:St) (H:Hp) (Q:Bool→Hp→Prop),Inv X pins σ H s→t σ H Q→wpAny (model X.prog X.w) X.A (isTrue e X.env whole) (TP X pins σ Q) X.xe s
theorem PW.pt {X:Cx}{e:Expr}{t:TT} (h:PW X e t):PT X e t:=h _
noncomputable def PA (X:Cx) (es:List Expr) (t:TA):Prop :=
 ∀ (pos:Pos) (pins:List (Addr × Obj)) (s:Shared) (σ:St) (H:Hp) (Q:List V→Hp→Prop),Inv X pins σ H s→t σ H Q→wpAny (model X.prog X.w) X.A (spliced (backTo pos (starEach es X.env))) (AP X pins σ Q) X.xe s
noncomputable def PS (X:Cx) (st:Stmt) (t:TS):Prop :=
 ∀ (pins:List (Addr × Obj)) (s:Shared) (σ:St) (H:Hp) (D:Ends),Inv X pins σ H s→t D σ H→wpAny (model X.prog X.w) X.A (exec st X.env) (SP X pins D) X.xe s
noncomputable def PSs (X:Cx) (st:List Stmt) (t:TS):Prop :=
 ∀ (pins:List (Addr × Obj)) (s:Shared) (σ:St) (H:Hp) (D:Ends),Inv X pins σ H s→t D σ H→wpAny (model X.prog X.w) X.A (execs st X.env) (SP X pins D) X.xe s
theorem thn {α : Type}{t:Sem α}{Q Q' : α → Shared→Prop}{M:Model}{A:Around}{E:Value→Shared→Prop}{s:Shared} (h:wpAny M A t Q E s) (hQ:∀ a s,Q a s→Q' a s):wpAny M A t Q' E s:=wpAny_mono h hQ fun _ _ x=>x
end L2
namespace L2
open PySem PySem.Spec PyProof.Rows
section
variable {X:Cx}
noncomputable def tVar (i:Nat):TE:=fun σ H Q=>∃ v,σ[i]? = some (some v)∧Q v H
noncomputable def tC (v:V):TE:=fun _ H Q=>Q v H
theorem pe_var {i:Nat}{x:Str}{pos:Pos} (hN:X.N[i]? = some x) (hv:Vis X.env.scope x) (hd:(x == ("__debug__" : Str))=false:=by decide) (hcd:(x == ("__classdict__" : Str))=false:=by decide):PE X (.Name x pos) (tVar i):=by
 intro pins s σ H Q I h;obtain⟨v,e,h⟩:=h;obtain⟨m,hn,hl⟩:=I.loc;obtain⟨u,r,l⟩:=hl i x v hN e hv;have fin:EP X pins σ Q u s:=⟨v,H,I,r,h⟩;rcases l with ⟨hk,hm⟩ | ⟨hk,c,hc,hcell⟩
 ·exact wpAny_Name (wpAny_loadName_local I.ok.kind hk hn hm fin) hd
 ·rcases hk with hk | hk
  ·exact wpAny_Name (wpAny_loadName_cell I.ok.kind hk hc hcell fin) hd
  ·exact wpAny_Name (wpAny_loadName_free I.ok.kind hk hc hcell fin hcd) hd
theorem pe_int {i j pos}:PE X (.Constant (.int i) j pos) (tC (.int i)):=fun _ _ _ H _ I h=>wpAny_Constant_int ⟨.int i,H,I.tok _,⟨_,rfl⟩,h⟩
theorem pe_bl {b j pos}:PE X (.Constant (.bool b) j pos) (tC (.bl b)):=fun _ _ _ H _ I h=>Constant_bool ⟨.bl b,H,I,rfl,h⟩
theorem pe_non {j pos}:PE X (.Constant .none j pos) (tC .non):=fun _ _ _ H _ I h=>Constant_none ⟨.non,H,I,rfl,h⟩
theorem pe_str {x j pos}:PE X (.Constant (.str x) j pos) (tC (.str x)):=fun _ _ _ H _ I h=>Calls.Constant_str ⟨.str x,H,I.tok _,⟨_,rfl⟩,h⟩
noncomputable def Gl (X:Cx) (x:Str):Prop:=X.env.kindOf x=some .globalImplicit
theorem ld_glob {E:Value→Shared→Prop}{pins:List (Addr × Obj)}{s:Shared} {σ:St}{H:Hp}{x:Str}{u:Value}{pos:Pos}{Q:Value→Shared→Prop} (I:Inv X pins σ H s) (hg:Gl X x) (hm:X.mg x=some u) (h:Q u s)
  (hd:(x == ("__debug__" : Str))=false:=by decide):wpAny (model X.prog X.w) X.A (eval (.Name x pos) X.env) Q E s :=
 Calls.Name_function_global I.ok.kind hg (Calls.loadGlobal_global (by rw[I.ok.glob];exact I.mod.glob.keeps I.bk) hm h) hd
theorem ld_blt {E:Value→Shared→Prop}{pins:List (Addr × Obj)}{s:Shared} {σ:St}{H:Hp}{x:Str}{u:Value}{pos:Pos}{Q:Value→Shared→Prop} (I:Inv X pins σ H s) (hg:Gl X x) (hm:X.mg x=none) (hv:bootBuiltins x=some u) (h:Q u s)
  (hn:x ≠ "__name__" := by decide) (hd:(x == ("__debug__" : Str))=false:=by decide):wpAny (model X.prog X.w) X.A (eval (.Name x pos) X.env) Q E s:=by
 obtain⟨mb,h1,h2⟩:=I.mod.blt;exact Calls.Name_function_global I.ok.kind hg (Calls.loadGlobal_builtin (by rw[I.ok.glob];exact I.mod.glob.keeps I.bk) hm (by rw[I.ok.blt];exact h1.keeps I.bk) ((h2 x hn).trans hv) h) hd
theorem pe_glob {x:Str}{v:V}{u:Value}{pos:Pos} (hg:Gl X x) (hm:X.mg x=some u) (r:RelV v u) (hd:(x == ("__debug__" : Str))=false:=by decide):PE X (.Name x pos) (tC v) :=
 fun _ _ _ H _ I h=>ld_glob I hg hm ⟨v,H,I,r,h⟩ hd
theorem pe_bltn {x:Str}{v:V}{u:Value}{pos:Pos} (hg:Gl X x) (hm:X.mg x=none) (hv:bootBuiltins x=some u) (r:RelV v u) (hn:x ≠ "__name__" := by decide) (hd:(x == ("__debug__" : Str))=false:=by decide):PE X (.Name x pos) (tC v) :=
 fun _ _ _ H _ I h=>ld_blt I hg hm hv ⟨v,H,I,r,h⟩ hn hd
variable {a b:Expr}{ta tb:TE}{pos:Pos}
noncomputable def tB (t:TE):TT:=fun σ H Q=>t σ H fun x H1=>∃ c,x = .bl c∧Q c H1
theorem pt_val {e:Expr}{t:TE} (h:PE X e t) (he:∀ whole,isTrue e X.env whole=(do let v ← whole;standAt e.pos;holding [v] (truthy v)):=by intro _;rfl):PT X e (tB t):=by
 intro pins s σ H Q I hw;refine isTrue_plain (thn (h pins s σ H _ I hw) fun v s1 ⟨x,H1,I1,r1,q1⟩=>?_) (he _);obtain⟨d,rfl,q⟩:=q1;cases r1;exact wpAny_truthy_bool ⟨H1,I1,q⟩
variable {tA tB':TT}{rest:List Expr}
noncomputable def tAnd (t u:TT):TT:=fun σ H Q=>t σ H fun c H1=>if c=true then u σ H1 Q else Q false H1
noncomputable def tOr (t u:TT):TT:=fun σ H Q=>t σ H fun c H1=>if c=true then Q true H1 else u σ H1 Q
noncomputable def tNot (t:TT):TT:=fun σ H Q=>t σ H fun c H1=>Q (!c) H1
theorem pw_and1 (ha:PT X a tA):PW X (.BoolOp .And [a] pos) tA:=by
 intro wh pins s σ H Q I h;refine isTrue_and (thn (ha pins s σ H Q I h) fun c s1 e=>?_);cases c with
 | true=>exact isTrue_and_nil e
 | false=>exact e
theorem pw_or1 (ha:PT X a tA):PW X (.BoolOp .Or [a] pos) tA:=by
 intro wh pins s σ H Q I h;refine isTrue_or (thn (ha pins s σ H Q I h) fun c s1 e=>?_);cases c with
 | false=>exact isTrue_or_nil e
 | true=>exact e
theorem pw_and (ha:PT X a tA) (hb:PW X (.BoolOp .And (b :: rest) pos) tB'):PW X (.BoolOp .And (a :: b :: rest) pos) (tAnd tA tB'):=by
 intro wh pins s σ H Q I h;refine isTrue_and (thn (ha pins s σ H _ I h) fun c s1 ⟨H1,I1,q1⟩=>?_);cases c with
 | true=>exact hb wh pins s1 σ H1 Q I1 q1
 | false=>exact⟨H1,I1,q1⟩
theorem pw_or (ha:PT X a tA) (hb:PW X (.BoolOp .Or (b :: rest) pos) tB'):PW X (.BoolOp .Or (a :: b :: rest) pos) (tOr tA tB'):=by
 intro wh pins s σ H Q I h;refine isTrue_or (thn (ha pins s σ H _ I h) fun c s1 ⟨H1,I1,q1⟩=>?_);cases c with
 | true=>exact⟨H1,I1,q1⟩
 | false=>exact hb wh pins s1 σ H1 Q I1 q1
theorem pt_not (ha:PT X a tA):PT X (.UnaryOp .Not a pos) (tNot tA):=by
 intro pins s σ H Q I h;exact isTrue_not (ha pins s σ H (fun c H1=>Q (!c) H1) I h)
noncomputable def tIf (t:TT) (ta tb:TE):TE:=fun σ H Q=>t σ H fun c H1=>if c=true then ta σ H1 Q else tb σ H1 Q
theorem pe_ifExp {c:Expr} (hc:PT X c tA) (ha:PE X a ta) (hb:PE X b tb):PE X (.IfExp c a b pos) (tIf tA ta tb):=by
 intro pins s σ H Q I h;refine wpAny_IfExp (thn (hc pins s σ H _ I h) fun d s1 ⟨H1,I1,q1⟩=>?_);cases d with
 | true=>exact ha pins s1 σ H1 Q I1 q1
 | false=>exact hb pins s1 σ H1 Q I1 q1
end
end L2
namespace L2
open PySem PySem.Spec PyProof.Rows
noncomputable def SqL (K:PySem.W.Frag) (H:Hp) (a:Addr) (xs:List V):Prop :=
 Rd H a (.lst xs) ∨
  ∃ (o:Obj) (its:Array Value) (n:Nat),K.lookup a=some o∧o.cls = .type "list" ∧ o.dict=none∧o.data = .seq its n∧its.size≤sizeLine∧Vals xs its.toList
noncomputable def SqT (K:PySem.W.Frag) (H:Hp) (a:Addr) (xs:List V):Prop :=
 Rd H a (.tup xs) ∨
  ∃ (o:Obj) (its:Array Value) (n:Nat),K.lookup a=some o∧o.cls = .type "tuple" ∧ o.data = .seq its n∧its.size≤sizeLine∧Vals xs its.toList
noncomputable def absV:Value→Option V
 | .none=>some .non
 | .bool b=>some (.bl b)
 | .int i _=>some (.int i)
 | .str x _=>some (.str x)
 | .bytes b _=>some (.byt b)
 | .float b _=>some (.flt b)
 | .ref a=>some (.ref a)
 | .type n=>some (.ty n)
 | _=>none
theorem RelV.abs {x:V}{u:Value} (r:RelV x u):absV u=some x:=by
 cases x with
 | non=>cases r;rfl
 | bl _=>cases r;rfl
 | int _=>obtain⟨t,rfl⟩:=r;rfl
 | str _=>obtain⟨t,rfl⟩:=r;rfl
 | byt _=>obtain⟨t,rfl⟩:=r;rfl
 | flt _=>obtain⟨t,rfl⟩:=r;rfl
 | ref _=>cases r;rfl
 | ty _=>cases r;rfl
theorem RelV.inj {x y:V}{u:Value} (r:RelV x u) (q:RelV y u):x=y:=Option.some.inj (r.abs.symm.trans q.abs)
theorem Vals.inj {xs ys:List V}{us:List Value} (h:Vals xs us) (h':Vals ys us):xs=ys:=by
 induction h generalizing ys with
 | nil=>cases h';rfl
 | cons r t ih=>cases h' with | cons r' t'=>rw[r.inj r',ih t']
section
variable {X:Cx}{pins:List (Addr × Obj)} {σ:St}{H:Hp}{s:Shared}{a:Addr}{xs ys:List V}
theorem SqL.of {K:PySem.W.Frag} (h:H a=some (.lst xs)):SqL K H a xs := .inl (.inl h)
theorem SqT.of {K:PySem.W.Frag} (h:H a=some (.tup xs)):SqT K H a xs := .inl (.inl h)
theorem Inv.list (I:Inv X pins σ H s) (h:SqL X.K H a xs):∃ its:List Value,Vals xs its∧PlainL s.heap a its.toArray∧xs.length≤sizeLine:=by
 rcases h with h | ⟨o,its,n,hk,hc,hd,hs,hz,r⟩
 ·obtain⟨z,its,n,r,e⟩:=h.ok I.hok;exact⟨its,r,⟨_,n,e,rfl,rfl,rfl⟩,z⟩
 ·refine⟨its.toList,r,⟨o,n,I.kIn a o hk,hc,hd,by simpa using hs⟩,?_⟩;have e:=r.length;simp only[Array.length_toList] at e;omega
theorem Inv.tuple (I:Inv X pins σ H s) (h:SqT X.K H a xs):∃ its:List Value,Vals xs its∧IsTup s.heap a its.toArray∧xs.length≤sizeLine:=by
 rcases h with h | ⟨o,its,n,hk,hc,hs,hz,r⟩
 ·obtain⟨z,its,r,p⟩:=h.ok I.hok;exact⟨its,r,p,z⟩
 ·refine⟨its.toList,r,⟨o,I.kIn a o hk,hc,n,by simpa using hs⟩,?_⟩;have e:=r.length;simp only[Array.length_toList] at e;omega
theorem Inv.list_inj (I:Inv X pins σ H s) (h:SqL X.K H a xs) (h':SqL X.K H a ys):xs=ys:=by
 obtain⟨its,r,⟨o,n,e,_,_,d⟩,_⟩:=I.list h;obtain⟨its',r',⟨o',n',e',_,_,d'⟩,_⟩:=I.list h';rw[e] at e';cases e';rw[d] at d';injection d' with d1 _
 have:its=its':=by simpa using congrArg Array.toList d1
 subst this;exact r.inj r'
theorem Inv.tuple_inj (I:Inv X pins σ H s) (h:SqT X.K H a xs) (h':SqT X.K H a ys):xs=ys:=by
 obtain⟨its,r,⟨o,e,_,n,d⟩,_⟩:=I.tuple h;obtain⟨its',r',⟨o',e',_,n',d'⟩,_⟩:=I.tuple h';rw[e] at e';cases e';rw[d] at d';injection d' with d1 _
 have:its=its':=by simpa using congrArg Array.toList d1
 subst this;exact r.inj r'
end
noncomputable abbrev Cx.wish (X:Cx) (E:Value→Shared→Prop):Cx:={ X with xe:=E }
noncomputable abbrev Cx.nox (X:Cx):Cx:=X.wish fun _ _=>False
theorem Cx.Ok.wish {X:Cx} (ok:X.Ok) (E:Value→Shared→Prop):(X.wish E).Ok :=
 ⟨ok.mod,ok.kind,ok.glob,ok.blt,ok.above,ok.inj,ok.has,ok.cab,ok.hd,ok.frames,ok.stk,ok.exf,ok.bs,ok.bsz,ok.noex,ok.exfs,ok.funs,ok.frf⟩
theorem Cx.Ok.unwish {X:Cx}{E:Value→Shared→Prop} (ok:(X.wish E).Ok):X.Ok :=
 ⟨ok.mod,ok.kind,ok.glob,ok.blt,ok.above,ok.inj,ok.has,ok.cab,ok.hd,ok.frames,ok.stk,ok.exf,ok.bs,ok.bsz,ok.noex,ok.exfs,ok.funs,ok.frf⟩
section
variable {X:Cx}{pins:List (Addr × Obj)} {σ:St}{H:Hp}{s:Shared}{E:Value→Shared→Prop}
theorem Inv.wish (I:Inv X pins σ H s) (E:Value→Shared→Prop):Inv (X.wish E) pins σ H s:=⟨I.ok.wish E,I.os,I.bare,I.base,I.loc,I.cell,I.free,I.freeC,I.pin,I.hok,I.len⟩
theorem Inv.unwish (I:Inv (X.wish E) pins σ H s):Inv X pins σ H s:=⟨I.ok.unwish,I.os,I.bare,I.base,I.loc,I.cell,I.free,I.freeC,I.pin,I.hok,I.len⟩
theorem SP.unwish {D:Ends}{f:Flow}{s':Shared} (h:SP (X.wish E) pins D f s'):SP X pins D f s':=by
 cases f with
 | next=>obtain⟨σ',H',I,q⟩:=h;exact⟨σ',H',I.unwish,q⟩
 | brk=>obtain⟨σ',H',I,q⟩:=h;exact⟨σ',H',I.unwish,q⟩
 | cont=>obtain⟨σ',H',I,q⟩:=h;exact⟨σ',H',I.unwish,q⟩
 | ret u=>obtain⟨v,σ',H',I,r,q⟩:=h;exact⟨v,σ',H',I.unwish,r,q⟩
theorem PSs.nox {st:List Stmt}{t:TS} (h:PSs X.nox st t):PSs X st t:=fun pins s σ H D I hw =>
 wpAny_mono (h pins s σ H D (I.wish _) hw) (fun _ _ q=>q.unwish) fun _ _ z=>False.elim z
end
section
variable {X:Cx}{st:Stmt}{rest:List Stmt}{t u:TS}{e:Expr}{te:TE}{pos:Pos}
noncomputable def tNext:TS:=fun D σ H=>D.nx σ H
noncomputable def tSeq (t u:TS):TS:=fun D σ H=>t { D with nx:=u D } σ H
theorem pss_nil:PSs X [] tNext:=fun _ _ σ H _ I h=>wpAny_execs_nil ⟨σ,H,I,h⟩
theorem pss_cons (h1:PS X st t) (h2:PSs X rest u):PSs X (st :: rest) (tSeq t u):=by
 intro pins s σ H D I h;refine wpAny_execs_cons (thn (h1 pins s σ H { D with nx:=u D } I h) fun f s1 q=>?_);cases f with
 | next =>
  obtain⟨σ',H',I',q⟩:=q;exact h2 pins s1 σ' H' D I' q
 | ret v=>exact q
 | brk=>exact q
 | cont=>exact q
theorem pss_one (h1:PS X st t):PSs X [st] t:=by
 intro pins s σ H D I h;refine wpAny_execs_cons (thn (h1 pins s σ H D I h) fun f s1 q=>?_);cases f with
 | next=>exact wpAny_execs_nil q
 | ret v=>exact q
 | brk=>exact q
 | cont=>exact q
noncomputable def tBreak:TS:=fun D σ H=>D.bk σ H
theorem ps_break:PS X (.Break pos) tBreak:=fun _ _ σ H _ I h=>wpAny_Break ⟨σ,H,I,h⟩
theorem Inv.quiet {pins:List (Addr × Obj)} {σ:St}{H:Hp}{s:Shared} (I:Inv X pins σ H s):interactive X.env=false:=by simp[interactive,I.ok.kind]
noncomputable def tDrop (te:TE):TS:=fun D σ H=>te σ H fun _ H1=>D.nx σ H1
theorem ps_expr (he:PE X e te) (hs:swapsWith e none pos.line X.env=pure false:=by rfl):PS X (.Expr e pos) (tDrop te):=by
 intro pins s σ H D I h;exact wpAny_Expr_any (thn (he pins s σ H _ I h) fun v s1 ⟨x,H1,I1,r1,q1⟩=>⟨σ,H1,I1,q1⟩) I.quiet hs
noncomputable def tRet (te:TE):TS:=fun D σ H=>te σ H D.rt
theorem ps_ret (he:PE X e te):PS X (.Return (some e) pos) (tRet te):=by
 intro pins s σ H D I h;exact wpAny_Return_some (thn (he pins s σ H _ I h) fun v s1 ⟨x,H1,I1,r1,q1⟩=>⟨x,σ,H1,I1,r1,q1⟩)
noncomputable def tIfS (c:TT) (t u:TS):TS:=fun D σ H=>c σ H fun b H1=>if b=true then t D σ H1 else u D σ H1
theorem ps_if {c:Expr}{a b:List Stmt}{tc:TT} (hc:PT X c tc) (ha:PSs X a t) (hb:PSs X b u):PS X (.If c a b pos) (tIfS tc t u):=by
 intro pins s σ H D I h;refine wpAny_If (thn (hc pins s σ H _ I h) fun d s1 ⟨H1,I1,q1⟩=>?_);cases d with
 | true=>exact ha pins s1 σ H1 D I1 q1
 | false=>exact hb pins s1 σ H1 D I1 q1
end
noncomputable abbrev TG:=V→St→Hp→(St→Hp→Prop)→Prop
noncomputable abbrev TGs:=List V→St→Hp→(St→Hp→Prop)→Prop
noncomputable def PG (X:Cx) (target:Expr) (t:TG):Prop :=
 ∀ (pins:List (Addr × Obj)) (s:Shared) (σ:St) (H:Hp) (v:V) (u:Value) (Q:St→Hp→Prop),Inv X pins σ H s→RelV v u→t v σ H Q →
  wpAny (model X.prog X.w) X.A (assign target X.env u) (fun _ s'=>∃ σ' H',Inv X pins σ' H' s'∧Q σ' H') X.xe s
noncomputable def PGs (X:Cx) (ts:List Expr) (t:TGs):Prop :=
 ∀ (pins:List (Addr × Obj)) (s:Shared) (σ:St) (H:Hp) (vs:List V) (us:List Value) (Q:St→Hp→Prop),Inv X pins σ H s→Vals vs us→t vs σ H Q →
  wpAny (model X.prog X.w) X.A (assignInOrder ((assignEach ts X.env).map (·.2)) us) (fun _ s'=>∃ σ' H',Inv X pins σ' H' s'∧Q σ' H') X.xe s
noncomputable abbrev TSet:=V→V→V→Hp→(Hp→Prop)→Prop
noncomputable def PSet (X:Cx) (t:TSet):Prop :=
 ∀ (pins:List (Addr × Obj)) (s:Shared) (σ:St) (H:Hp) (o i v:V) (ov iv u:Value) (Q:Hp→Prop),Inv X pins σ H s→RelV o ov→RelV i iv→RelV v u→t o i v H Q →
  wpAny (model X.prog X.w) X.A (setItem ov iv u) (fun _ s'=>∃ H',Inv X pins σ H' s'∧Q H') X.xe s
section
variable {X:Cx}{pos:Pos}
noncomputable def gName (i:Nat):TG:=fun v σ H Q=>Q (σ.set i (some v)) H
theorem pg_name {i:Nat}{x:Str} (hN:X.N.Nodup) (hi:X.N[i]? = some x) (hx:Loc X.env.scope x) (hf:X.fn x=true∨X.env.scope.names.lookup x=some .local:=by first | exact .inl rfl | exact .inr rfl | assumption):PG X (.Name x pos) (gName i):=by
 intro pins s σ H v u Q I r h;exact wpAny_assign_Name (store_ok I hN hi hx r (fun s' I'=>⟨_,H,I',h⟩) hf)
noncomputable def gNil:TGs:=fun vs σ H Q=>vs=[]∧Q σ H
noncomputable def gCons (t:TG) (u:TGs):TGs:=fun vs σ H Q=>∃ v r,vs=v :: r∧t v σ H fun σ' H'=>u r σ' H' Q
theorem pgs_nil:PGs X [] gNil:=by
 intro pins s σ H vs us Q I r h;obtain⟨e,h⟩:=h;subst e;cases r;exact assignInOrder_nil ⟨σ,H,I,h⟩
theorem pgs_cons {e:Expr}{es:List Expr}{t:TG}{u:TGs} (h1:PG X e t) (h2:PGs X es u)
  (hs:(assignEach (e :: es) X.env).map (·.2)=assign e X.env :: (assignEach es X.env).map (·.2):=by rfl):PGs X (e :: es) (gCons t u):=by
 intro pins s σ H vs us Q I r h;obtain⟨v,vr,e1,h⟩:=h;subst e1;cases r with
 | cons r rr =>
  rw[hs];refine assignInOrder_cons (thn (h1 pins s σ H _ _ _ I r h) fun _ s1 ⟨σ1,H1,I1,q1⟩=>?_);exact h2 pins s1 σ1 H1 _ _ Q I1 rr q1
noncomputable def gTup (K:PySem.W.Frag) (n:Nat) (t:TGs):TG:=fun v σ H Q=>∃ a xs,v = .ref a∧SqT K H a xs∧xs.length=n∧t xs σ H Q
theorem pg_tup {es:List Expr}{k:Nat}{t:TGs}{n:Nat} (hc:X.calm=true) (h:PGs X es t)
  (hn:(assignEach es X.env).length=n:=by rfl) (hst:(assignEach es X.env).findIdx? (·.1)=none:=by rfl):PG X (.Tuple es k pos) (gTup X.K n t):=by
 intro pins s σ H v u Q I r hw;obtain⟨a,xs,e1,hq,hl,hw⟩:=hw;subst e1;cases r;obtain⟨its,rv,ht,hz⟩:=I.tuple hq;refine assign_Tuple_tuple (I.ok.hd hc) ht (by simp[hn,← hl,rv.length]) hst fun h' hx=>?_
 have I1:Inv X pins σ H { s with heap:=h' }:=I.kept (t':=s.toks) fun b o e=>hx b o (Nat.ne_of_lt (Heap.lt_size e)) e
 exact h pins _ σ H xs _ Q I1 (by simpa using rv) hw
noncomputable def gSub (to ti:TE) (t:TSet):TG:=fun v σ H Q=>to σ H fun o H1=>ti σ H1 fun i H2=>t o i v H2 fun H3=>Q σ H3
theorem pg_sub {o i:Expr}{to ti:TE}{t:TSet} (ho:PE X o to) (hi:PE X i ti) (hs:PSet X t)
  (ha:∀ v,assign (.Subscript o i pos) X.env v=(do
   let ov ← holding [v] (eval o X.env)
   let iv ← holding [v,ov] (eval i X.env)
   standAt pos
   holding [v,ov,iv] (setItem ov iv v)
   release [v,ov,iv] []):=by intro _;rfl):PG X (.Subscript o i pos) (gSub to ti t):=by
 intro pins s σ H v u Q I r h;rw[ha];refine wpAny_bind (wpAny_holding (thn (ho pins s σ H _ I h) fun ov s1 ⟨x,H1,I1,r1,q1⟩=>?_));refine wpAny_bind (wpAny_holding (thn (hi pins s1 σ H1 _ I1 q1) fun iv s2 ⟨y,H2,I2,r2,q2⟩=>?_));refine wpAny_bind (wpAny_standAt (wpAny_bind (wpAny_holding (thn (hs pins s2 σ H2 x y v ov iv u _ I2 r1 r2 r q2) fun _ s3 ⟨H3,I3,q3⟩=>?_))));exact wpAny_release ⟨σ,H3,I3,q3⟩
noncomputable def tAsg (te:TE) (g:TG):TS:=fun D σ H=>te σ H fun x H1=>g x σ H1 D.nx
theorem ps_asg {tg e:Expr}{te:TE}{g:TG} (he:PE X e te) (hg:PG X tg g) (hs:swapsWithSole [tg] e pos.line X.env=pure false:=by rfl) (hw:swappedStores [tg] e X.env=pure none:=by rfl)
  (h1:(assignEach [tg] X.env).map (·.2)=[assign tg X.env]:=by rfl):PS X (.Assign [tg] e pos) (tAsg te g):=by
 intro pins s σ H D I h;refine wpAny_Assign_stores (thn (he pins s σ H _ I h) fun v s1 ⟨x,H1,I1,r1,q1⟩=>?_) hs hw;rw[h1];exact thn (hg pins s1 σ H1 x v _ I1 r1 q1) fun _ s2 q=>q
theorem ps_set {i:Nat}{x:Str}{e:Expr}{te:TE}{pos':Pos} (hN:X.N.Nodup) (hi:X.N[i]? = some x) (hx:Loc X.env.scope x) (he:PE X e te) (hs:swapsWith e (some (.Name x pos')) pos.line X.env=pure false:=by rfl) (hf:X.fn x=true∨X.env.scope.names.lookup x=some .local:=by first | exact .inl rfl | exact .inr rfl | assumption) :
  PS X (.Assign [.Name x pos'] e pos) (tAsg te (gName i)):=by
 intro pins s σ H D I h;refine wpAny_Assign_Name (thn (he pins s σ H _ I h) fun v s1 ⟨y,H1,I1,r1,q1⟩=>?_) hs;exact store_ok I1 hN hi hx r1 (fun s2 I2=>⟨_,H1,I2,q1⟩) hf
end
section
variable {X:Cx}{pos:Pos}
noncomputable def tWhile (c:TT) (tb:TS):TS:=fun D σ H=>∃ W:Nat→St→Hp→Prop,(∃ m,W m σ H)∧∀ m σ H,W m σ H →
 c σ H fun b H1=>if b=true then ∃ N:St→Hp→Prop,(∀ σ' H',N σ' H'→∃ m',m'<m∧W m' σ' H')∧tb { D with nx:=N,ct:=N,bk:=D.nx } σ H1 else D.nx σ H1
theorem ps_while {c:Expr}{body:List Stmt}{tc:TT}{tb:TS} (hp:PassesOwn (model X.prog X.w) X.A X.env X.xe) (hc:PT X c tc) (hb:PSs X body tb):PS X (.While c body [] pos) (tWhile tc tb):=by
 intro pins s σ H D I h;obtain⟨W,⟨m0,w0⟩,turn⟩:=h;refine wpAny_While (codeAny_whileLoop (fun n s'=>∃ σ' H',Inv X pins σ' H' s'∧W n σ' H') ?_ m0 ⟨σ,H,I,w0⟩);rintro n s1 ⟨σ1,H1,I1,w1⟩;refine wpAny_passesOwn hp (thn (hc pins s1 σ1 H1 _ I1 (turn n σ1 H1 w1)) fun b s2 ⟨H2,I2,q2⟩=>?_);cases b with
 | true =>
  obtain⟨N,hN,q2⟩:=q2;rw[if_pos rfl];refine wpAny_passesOwn hp (thn (hb pins s2 σ1 H2 _ I2 q2) fun f s3 q3=>?_);cases f with
  | next =>
   obtain⟨σ3,H3,I3,n3⟩:=q3;obtain⟨m',hm,w3⟩:=hN σ3 H3 n3;exact⟨m',hm,σ3,H3,I3,w3⟩
  | cont =>
   obtain⟨σ3,H3,I3,n3⟩:=q3;obtain⟨m',hm,w3⟩:=hN σ3 H3 n3;exact⟨m',hm,σ3,H3,I3,w3⟩
  | brk=>exact q3
  | ret v=>exact q3
 | false =>
  rw[if_neg Bool.false_ne_true];exact wpAny_execs_nil ⟨σ1,H2,I2,q2⟩
end
structure It where
 go:Nat→Hp→Prop
 yld:Nat→Hp→V→Hp→Prop
 stop:Nat→Hp→Prop
noncomputable def FpOk (X:Cx) (pins:List (Addr × Obj)) (H:Hp) (b:Addr):Prop :=
 H b=none∧b≠X.env.locals∧b ∉ X.fs∧(b∈X.ex∨X.s₀.heap.objs.size≤b)∧(∀ x c,X.env.cells.lookup x=some c→c≠b)∧∀ p∈X.pn++pins,p.1≠b
theorem Inv.fpOk {X:Cx}{pins:List (Addr × Obj)} {σ:St}{H H':Hp}{s:Shared}{b:Addr} (I:Inv X pins σ H s) (hb:s.heap.objs.size≤b) (hn:H' b=none):FpOk X pins H' b:=by
 refine⟨hn,Nat.ne_of_gt (Nat.lt_of_lt_of_le I.lt hb),I.nofs hb,.inr (Nat.le_trans I.sz hb),fun x c e z=>?_,fun p hp z=>?_⟩
 ·obtain⟨v,q⟩:=I.cell x c e;exact absurd (Nat.lt_of_lt_of_le q.lt (by rw[z];exact hb)) (Nat.lt_irrefl _)
 ·exact absurd (Nat.lt_of_lt_of_le (Heap.lt_size (I.pin p hp).1) (by rw[z];exact hb)) (Nat.lt_irrefl _)
structure Turn (P:Program) (w:World) (K:PySem.W.Frag) (tg:Expr) (J:It) (fp:List Addr) (it:Addr) (tn:Nat→Heap→Prop):Prop where
 mem:it∈fp
 obj:∀ i h,tn i h→∀ b∈fp,∃ o,h.get? b=some o∧∀ v,o.data ≠ .cell v
 keep:∀ i h h',tn i h→(∀ b∈fp,∀ o,h.get? b=some o→h'.get? b=some o)→tn i h'
 item:∀ (X:Cx),X.prog=P→X.w=w→X.K=K→X.calm=true→∀ (i:Nat) (pins:List (Addr × Obj)) (s:Shared) (σ:St) (H:Hp) (E:Value→Shared→Prop),Inv X pins σ H s→(∀ b∈fp,FpOk X pins H b)→tn i s.heap→J.go i H →
  wpAny (model P w) X.A (pyNext (.ref it)) (fun r s1=>∃ u,r=some u ∧
   wpAny (model P w) X.A (letOwnedTupleGo tg (.ref it) u) (fun _ s2=>∃ x H',Inv X pins σ H' s2∧RelV x u∧J.yld i H x H'∧tn (i+1) s2.heap∧∀ b∈fp,H' b=none) E s1) E s
 done:∀ (X:Cx),X.prog=P→X.w=w→X.K=K→X.calm=true→∀ (i:Nat) (pins:List (Addr × Obj)) (s:Shared) (σ:St) (H:Hp) (E:Value→Shared→Prop),Inv X pins σ H s→(∀ b∈fp,FpOk X pins H b)→tn i s.heap→J.stop i H →
  wpAny (model P w) X.A (pyNext (.ref it)) (fun r s1=>r=none∧Inv X pins σ H s1) E s
 self:∀ (A:Around) (i:Nat) (s:Shared) (Q:Value→Shared→Prop) (E:Value→Shared→Prop),tn i s.heap→Q (.ref it) s→wpAny (model P w) A (pyIter (.ref it)) Q E s
noncomputable abbrev TI:=St→Hp→(It→Hp→Prop)→Prop
noncomputable def PIE (X:Cx) (pins:List (Addr × Obj)) (σ:St) (tg:Expr) (R:It→Hp→Prop) (itv:Value) (s2:Shared):Prop :=
 ∃ (it:Addr) (fp:List Addr) (tn:Nat→Heap→Prop) (J:It) (H':Hp),itv = .ref it∧Inv X pins σ H' s2∧Turn X.prog X.w X.K tg J fp it tn∧tn 0 s2.heap∧(∀ b∈fp,FpOk X pins H' b)∧R J H'
noncomputable def PI (X:Cx) (tg iter:Expr) (wi:TI):Prop :=
 ∀ (pins:List (Addr × Obj)) (s:Shared) (σ:St) (H:Hp) (R:It→Hp→Prop),Inv X pins σ H s→wi σ H R →
  wpAny (model X.prog X.w) X.A (eval iter X.env) (fun v s1=>wpAny (model X.prog X.w) X.A (pyIter v) (PIE X pins σ tg R) X.xe s1) X.xe s
theorem go_of {M:Model}{A:Around}{E:Value→Shared→Prop}{s:Shared}{tg:Expr}{it:Addr}{u:Value}{o:Obj}{n:String}{vs:Array Value}{Q:Unit→Shared→Prop} (ho:s.heap.get? it=some o) (hc:o.cls = .type n) (hd:o.data = .fields vs)
    (hn : ["enumerate", "zip", "dict_itemiterator", "dict_reverseitemiterator", "odict_iterator", "itertools.zip_longest", "itertools.pairwise"].contains n=false) (hQ:Q () s) : wpAny M A (letOwnedTupleGo tg (.ref it) u) Q E s:=by
  unfold letOwnedTupleGo;cases tg <;> first
    | exact wpAny_pure hQ
    | (cases u <;> first
        | exact wpAny_pure hQ
        | (refine wpAny_bind (wpAny_load ho ?_)
           rw [hc,hd]
           show wpAny M A (if (["enumerate", "zip", "dict_itemiterator", "dict_reverseitemiterator", "odict_iterator", "itertools.zip_longest", "itertools.pairwise"].contains n && vs[0]? == some (rawInt _))=true then _ else _) Q E s
           rw [if_neg (by intro h;rw [hn,Bool.false_and] at h;cases h)]
           exact wpAny_pure hQ))
noncomputable def Itl (K:PySem.W.Frag) (a:Addr):It :=
 ⟨fun i H=>∃ xs x,SqL K H a xs∧xs[i]? = some x,fun i H x H'=>H'=H∧∀ xs,SqL K H a xs→xs[i]? = some x,fun i H=>∃ xs,SqL K H a xs∧xs.length≤i⟩
noncomputable def Itt (K:PySem.W.Frag) (a:Addr):It :=
 ⟨fun i H=>∃ xs x,SqT K H a xs∧xs[i]? = some x,fun i H x H'=>H'=H∧∀ xs,SqT K H a xs→xs[i]? = some x,fun i H=>∃ xs,SqT K H a xs∧xs.length≤i⟩
noncomputable def Itr (lo:Int) (n:Nat):It:=⟨fun i _=>i<n,fun i H x H'=>H'=H∧x = .int (lo+i),fun i _=>n≤i⟩
theorem turn_list {P:Program}{w:World}{K:PySem.W.Frag}{tg:Expr} (a it:Addr):Turn P w K tg (Itl K a) [it] it (fun i h=>h.IsListIter it a i) where
 mem:=by simp
 obj:=fun i h st b hb=>by
  have e:b=it:=by simpa using hb
  subst e;obtain⟨o,e,c,d⟩:=st;exact⟨o,e,fun v z=>by rw[d] at z;cases z⟩
 keep:=fun i h h' st k=>st.at fun o e=>k it (by simp) o e
 item:=by
  intro X hP hw hK hc i pins s σ H E I hf st hg;subst hP hw hK;obtain⟨xs,x,hq,hx⟩:=hg;obtain⟨its,rv,p,hz⟩:=I.list hq;obtain⟨u,hu,ru⟩:=rv.get hx;obtain⟨f0,f1,f2,f3,f4,f5⟩:=hf it (by simp);refine wpAny_pyNext_list_item st p.isList (x:=u) (by simpa using hu) fun h' st' sb=>?_
  have I1:Inv X pins σ H { s with heap:=h' }:=I.turned (t':=s.toks) (fun b o hb e=>(sb.2 b hb).trans e) f0 f1 f3 f4 f5;obtain⟨o,e,c,d⟩:=id st';exact⟨u,rfl,go_of (s:={ s with heap:=h' }) e c d (by decide) ⟨x,H,I1,ru,⟨rfl,fun ys hy=>by rw[I.list_inj hy hq];exact hx⟩,st',fun b hb=>(hf b hb).1⟩⟩
 done:=by
  intro X hP hw hK hc i pins s σ H E I hf st hg;subst hP hw hK;obtain⟨xs,hq,hx⟩:=hg;obtain⟨its,rv,p,hz⟩:=I.list hq;obtain⟨f0,f1,f2,f3,f4,f5⟩:=hf it (by simp);have hl:=rv.length;exact wpAny_pyNext_list_end (I.ok.hd hc) st p.isList (by simp;omega) fun h' eb=>⟨rfl,I.turned (t':=s.toks) (fun b o hb e=>eb b o hb e) f0 f1 f3 f4 f5⟩
 self:=fun _ _ _ _ _ st h=>wpAny_pyIter_listiter st h
theorem turn_tuple {P:Program}{w:World}{K:PySem.W.Frag}{tg:Expr} (a it:Addr):Turn P w K tg (Itt K a) [it] it (fun i h=>h.IsTupleIter it a i) where
 mem:=by simp
 obj:=fun i h st b hb=>by
  have e:b=it:=by simpa using hb
  subst e;obtain⟨o,e,c,d⟩:=st;exact⟨o,e,fun v z=>by rw[d] at z;cases z⟩
 keep:=fun i h h' st k=>st.at fun o e=>k it (by simp) o e
 item:=by
  intro X hP hw hK hc i pins s σ H E I hf st hg;subst hP hw hK;obtain⟨xs,x,hq,hx⟩:=hg;obtain⟨its,rv,p,hz⟩:=I.tuple hq;obtain⟨u,hu,ru⟩:=rv.get hx;obtain⟨f0,f1,f2,f3,f4,f5⟩:=hf it (by simp);refine wpAny_pyNext_tuple_item st (show s.heap.IsTuple a its.toArray from p) (x:=u) (by simpa using hu) fun h' st' sb=>?_
  have I1:Inv X pins σ H { s with heap:=h' }:=I.turned (t':=s.toks) (fun b o hb e=>(sb.2 b hb).trans e) f0 f1 f3 f4 f5;obtain⟨o,e,c,d⟩:=id st';exact⟨u,rfl,go_of (s:={ s with heap:=h' }) e c d (by decide) ⟨x,H,I1,ru,⟨rfl,fun ys hy=>by rw[I.tuple_inj hy hq];exact hx⟩,st',fun b hb=>(hf b hb).1⟩⟩
 done:=by
  intro X hP hw hK hc i pins s σ H E I hf st hg;subst hP hw hK;obtain⟨xs,hq,hx⟩:=hg;obtain⟨its,rv,p,hz⟩:=I.tuple hq;obtain⟨f0,f1,f2,f3,f4,f5⟩:=hf it (by simp);have hl:=rv.length;exact wpAny_pyNext_tuple_end (I.ok.hd hc) st (show s.heap.IsTuple a its.toArray from p) (by simp;omega) fun h' eb=>⟨rfl,I.turned (t':=s.toks) (fun b o hb e=>eb b o hb e) f0 f1 f3 f4 f5⟩
 self:=fun _ _ _ _ _ st h=>wpAny_pyIter_tupleiter st h
theorem turn_range {P:Program}{w:World}{K:PySem.W.Frag}{tg:Expr} (it:Addr) (lo:Int) (n:Nat):Turn P w K tg (Itr lo n) [it] it (fun i h=>IsRangeIter h it (lo+(i:Nat) * 1) ((n:Int)-(i:Nat)) 1) where
 mem:=by simp
 obj:=fun i h st b hb=>by
  have e:b=it:=by simpa using hb
  subst e;exact⟨_,st,fun v z=>by
   have z':Data.fields _=Data.cell v:=z;cases z'⟩
 keep:=fun i h h' st k=>k it (by simp) _ st
 item:=by
  intro X hP hw hK hc i pins s σ H E I hf st hg;subst hP hw hK;obtain⟨f0,f1,f2,f3,f4,f5⟩:=hf it (by simp);have W:=Walks.range (prog:=X.prog) (w:=X.w) (I.ok.hd hc) it lo 1 n;refine W.item i s _ _ hg st fun v h' tk hv st' kk=>?_
  obtain⟨t,rfl⟩:=hv;have I1:Inv X pins σ H { s with heap:=h',toks:=tk }:=I.turned (fun b o hb e=>kk b o (by simpa using hb) e) f0 f1 f3 f4 f5;refine⟨_,rfl,go_of (s:={ s with heap:=h',toks:=tk }) (n := "range_iterator") st' rfl rfl (by decide) ⟨.int (lo+i),H,I1,⟨t,?_⟩,⟨rfl,rfl⟩,st',fun b hb=>(hf b hb).1⟩⟩;rw[Int.mul_one]
 done:=by
  intro X hP hw hK hc i pins s σ H E I hf st hg;subst hP hw hK;obtain⟨f0,f1,f2,f3,f4,f5⟩:=hf it (by simp);exact wpAny_pyNext_range_end (I.ok.hd hc) st (by have:n≤i:=hg;omega) fun h' eb=>⟨rfl,I.turned (t':=s.toks) (fun b o hb e=>eb b o hb e) f0 f1 f3 f4 f5⟩
 self:=fun _ _ _ _ _ st h=>wpAny_pyIter_rangeiter st h
end L2
namespace L2
open PySem PySem.Spec PyProof.Rows
section
variable {X:Cx}{tg:Expr}
noncomputable def iList (K:PySem.W.Frag) (tl:TE):TI:=fun σ H R=>tl σ H fun x H1=>∃ a,x = .ref a∧(∃ xs,SqL K H1 a xs)∧R (Itl K a) H1
noncomputable def iTup (K:PySem.W.Frag) (tl:TE):TI:=fun σ H R=>tl σ H fun x H1=>∃ a,x = .ref a∧(∃ xs,SqT K H1 a xs)∧R (Itt K a) H1
theorem pi_list {l:Expr}{tl:TE} (hl:PE X l tl):PI X tg l (iList X.K tl):=by
 intro pins s σ H R I h;refine thn (hl pins s σ H _ I h) fun v s1 ⟨x,H1,I1,r1,q1⟩=>?_
 obtain⟨a,e,⟨xs,hq⟩,q⟩:=q1;subst e;cases r1;obtain⟨its,rv,p,hz⟩:=I1.list hq;refine wpAny_pyIter_list p.isList ?_;refine⟨s1.heap.objs.size,[s1.heap.objs.size],_,_,H1,rfl,I1.kept (t':=s1.toks) fun b o e=>Heap.get?_push_of_some _ e,turn_list a _,⟨_,Heap.get?_push_size _ rfl,rfl,rfl⟩,fun b hb=>?_,q⟩;have e:b=s1.heap.objs.size:=by simpa using hb
 subst e;exact I1.fpOk (Nat.le_refl _) (I1.hok.fresh (Nat.le_refl _))
theorem pi_tup {l:Expr}{tl:TE} (hl:PE X l tl):PI X tg l (iTup X.K tl):=by
 intro pins s σ H R I h;refine thn (hl pins s σ H _ I h) fun v s1 ⟨x,H1,I1,r1,q1⟩=>?_
 obtain⟨a,e,⟨xs,hq⟩,q⟩:=q1;subst e;cases r1;obtain⟨its,rv,p,hz⟩:=I1.tuple hq;refine wpAny_pyIter_tuple (show s1.heap.IsTuple a its.toArray from p) ?_;refine⟨s1.heap.objs.size,[s1.heap.objs.size],_,_,H1,rfl,I1.kept (t':=s1.toks) fun b o e=>Heap.get?_push_of_some _ e,turn_tuple a _,⟨_,Heap.get?_push_size _ rfl,rfl,rfl⟩,fun b hb=>?_,q⟩;have e:b=s1.heap.objs.size:=by simpa using hb
 subst e;exact I1.fpOk (Nat.le_refl _) (I1.hok.fresh (Nat.le_refl _))
theorem range_it {pins:List (Addr × Obj)} {σ:St}{H:Hp}{s:Shared}{R:It→Hp→Prop}{E:Value→Shared→Prop}{lo hi:Int}{t u v:Tok}{tk:Nat} (I:Inv X pins σ H s) (h1 : -(2^62)≤lo) (h2:lo<2^62) (h3 : -(2^62)≤hi) (h4:hi<2^62)
  (q:R (Itr lo (hi-lo).toNat) H):wpAny (model X.prog X.w) X.A (pyIter (.ref s.heap.objs.size)) (PIE X pins σ tg R) E { s with heap:=s.heap.push { cls := .type "range",data := .fields #[.int lo t,.int hi u,.int 1 v] },toks:=tk }:=by
 refine wpAny_pyIter_range (IsRange.new ..) (small_one h1 h2 h3 h4) ?_;have I1:Inv X pins σ H { s with heap:=s.heap.push { cls := .type "range",data := .fields #[.int lo t,.int hi u,.int 1 v] },toks:=tk }:=I.kept fun b o e=>Heap.get?_push_of_some _ e
 refine⟨(s.heap.push { cls := .type "range",data := .fields #[.int lo t,.int hi u,.int 1 v] }).objs.size,[(s.heap.push { cls := .type "range",data := .fields #[.int lo t,.int hi u,.int 1 v] }).objs.size],_,_,H,rfl,
  I1.kept (t':=tk) fun b o e=>Heap.get?_push_of_some _ e,turn_range _ lo (hi-lo).toNat,?_,fun b hb=>?_,q⟩
 ·have e1:lo+((0:Nat):Int) * 1=lo:=by simp
  have e2:(((hi-lo).toNat:Nat):Int)-((0:Nat):Int)=Builtin.Range.rangeSize lo hi 1:=by rw[rangeSize_one];split <;> omega
  show IsRangeIter _ _ (lo+((0:Nat):Int) * 1) ((((hi-lo).toNat:Nat):Int)-((0:Nat):Int)) 1;rw[e1,e2];exact Heap.get?_push_size _ rfl
 ·have e:b=(s.heap.push { cls := .type "range",data := .fields #[.int lo t,.int hi u,.int 1 v] }).objs.size:=by simpa using hb
  subst e;exact I1.fpOk (Nat.le_refl _) (I1.hok.fresh (Nat.le_refl _))
noncomputable def iRng1 (ta:TA):TI:=fun σ H R=>ta σ H fun vs H1=>∃ j:Int,vs=[.int j] ∧ -(2^62)≤j∧j<2^62∧R (Itr 0 j.toNat) H1
theorem pi_range1 {a:Expr}{ta:TA}{p pos:Pos} (hg:Gl X "range") (hm:X.mg "range" = none) (ha:PA X [a] ta) (hs:starEach [a] X.env=[(false,eval a X.env)]:=by rfl):PI X tg (.Call (.Name "range" p) [a] [] pos) (iRng1 ta):=by
 intro pins s σ H R I h;refine Call_ (ld_blt I hg hm boot_range (PyProof.Rows.callWith_type1 (thn (ha pos pins s σ H _ I h) fun us s1 ⟨vs,H1,I1,r1,q1⟩=>?_) hs rfl));obtain⟨j,e,q1,q2,q⟩:=q1;subst e;cases r1 with
 | cons r rr =>
  cases rr;obtain⟨t,rfl⟩:=r;exact call_range_1 (range_it I1 (by omega) (by omega) q1 q2 (by simpa using q))
noncomputable def tFor (wi:TI) (g:TG) (tb:TS):TS:=fun D σ H=>wi σ H fun J H1=>∃ W:Nat→Nat→St→Hp→Prop,(∃ m,W 0 m σ H1)∧∀ i m σ H,W i m σ H →
 (J.stop i H∧D.nx σ H)∨(J.go i H∧∃ N:St→Hp→Prop,(∀ σ' H',N σ' H'→∃ m',m'<m∧W (i+1) m' σ' H')∧∀ x H',J.yld i H x H'→g x σ H' fun σ2 H2=>tb { D with nx:=N,ct:=N,bk:=D.nx } σ2 H2)
noncomputable def pinsAt (fp:List Addr) (h:Heap):List (Addr × Obj):=fp.filterMap fun b=>(h.get? b).map fun o=>(b,o)
theorem mem_pinsAt {fp:List Addr}{h:Heap}{b:Addr}{o:Obj} (hb:b∈fp) (e:h.get? b=some o):(b,o)∈pinsAt fp h:=List.mem_filterMap.mpr ⟨b,hb,by rw[e];rfl⟩
theorem of_pinsAt {fp:List Addr}{h:Heap}{p:Addr × Obj} (hp:p∈pinsAt fp h):p.1∈fp∧h.get? p.1=some p.2:=by
 obtain⟨b,hb,e⟩:=List.mem_filterMap.mp hp;cases q:h.get? b with
 | none=>rw[q] at e;cases e
 | some o =>
  rw[q] at e;have e':(b,o)=p:=Option.some.inj e;subst e';exact⟨hb,q⟩
theorem Inv.pinned {pins:List (Addr × Obj)} {σ:St}{H:Hp}{s:Shared}{fp:List Addr} (I:Inv X pins σ H s) (hf:∀ b∈fp,FpOk X pins H b) (ho:∀ b∈fp,∃ o,s.heap.get? b=some o∧∀ v,o.data ≠ .cell v):Inv X (pins++pinsAt fp s.heap) σ H s :=
 I.pins_of fun p hp=>(List.mem_append.mp hp).elim (fun z=>I.pin p (List.mem_append_right _ z)) fun z=>by
  obtain⟨hb,e⟩:=of_pinsAt z;obtain⟨f0,f1,f2,_⟩:=hf p.1 hb;obtain⟨o,e',d⟩:=ho p.1 hb;rw[e] at e';cases e';exact⟨e,f0,f1,f2,d⟩
theorem Inv.unpinned {pins pl:List (Addr × Obj)} {σ:St}{H:Hp}{s:Shared} (I:Inv X (pins++pl) σ H s):Inv X pins σ H s:=I.pins_of fun p hp=>I.pin p (List.mem_append_right _ (List.mem_append_left _ hp))
theorem ps_for {iter:Expr}{body:List Stmt}{wi:TI}{g:TG}{tb:TS}{pos:Pos} (hp:PassesOwn (model X.prog X.w) X.A X.env X.xe) (hc:X.calm=true) (hi:PI X tg iter wi) (hg:PG X tg g) (hb:PSs X body tb)
  (hs:∀ x,foldedSetIterable iter X.env x=pure x:=by intro _;rfl):PS X (.For tg iter body [] pos) (tFor wi g tb):=by
 intro pins s σ H D I h;refine wpAny_For (thn (hi pins s σ H _ I h) fun v s1 h1=>thn h1 fun itv s2 h2=>?_) hs;obtain⟨it,fp,tn,J,H2,e,I2,T,st2,f2,W,⟨m0,w0⟩,turn⟩:=h2;subst e;have stat:∀ {H':Hp},(∀ b∈fp,H' b=none)→∀ b∈fp,FpOk X pins H' b:=fun hn b hb=>⟨hn b hb,(f2 b hb).2⟩
 refine codeAny_forLoop_any (fun n s'=>∃ i σ' H',Inv X pins σ' H' s'∧tn i s'.heap∧(∀ b∈fp,H' b=none)∧W i n σ' H') ?_ m0 ⟨0,σ,H2,I2,st2,fun b hb=>(f2 b hb).1,w0⟩;rintro n s3 ⟨i,σ3,H3,I3,st3,fr3,w3⟩;rcases turn i n σ3 H3 w3 with ⟨stop,qn⟩ | ⟨go,N,hN,step⟩
 ·refine wpAny_passesOwn hp (thn (T.done X rfl rfl rfl hc i pins s3 σ3 H3 X.xe I3 (stat fr3) st3 stop) fun r s4 ⟨hr,I4⟩=>?_);subst hr;exact wpAny_execs_nil ⟨σ3,H3,I4,qn⟩
 ·refine wpAny_passesOwn hp (thn (T.item X rfl rfl rfl hc i pins s3 σ3 H3 X.xe I3 (stat fr3) st3 go) fun r s4 ⟨u,hr,h4⟩=>?_);subst hr;refine wpAny_passesOwn hp (thn h4 fun _ s5 ⟨x,H5,I5,r5,y5,st5,fr5⟩=>?_);have I5':=I5.pinned (stat fr5) (T.obj _ _ st5);refine wpAny_passesOwn hp (thn (hg _ s5 σ3 H5 x u _ I5' r5 (step x H5 y5)) fun _ s6 ⟨σ6,H6,I6,q6⟩=>?_);refine wpAny_passesOwn hp (thn (hb _ s6 σ6 H6 _ I6 q6) fun f s7 q7=>?_);have again:∀ {σ7:St}{H7:Hp},Inv X (pins++pinsAt fp s5.heap) σ7 H7 s7→N σ7 H7→∃ m,m<n∧∃ i σ' H',Inv X pins σ' H' s7∧tn i s7.heap∧(∀ b∈fp,H' b=none)∧W i m σ' H':=fun {σ7 H7} I7 n7=>by
   obtain⟨m',hm,w7⟩:=hN σ7 H7 n7;refine⟨m',hm,i+1,σ7,H7,I7.unpinned,T.keep _ _ _ st5 fun b hb o e=>(I7.pin (b,o) (List.mem_append_right _ (List.mem_append_right _ (mem_pinsAt hb e)))).1,fun b hb=>?_,w7⟩;obtain⟨o,e,d⟩:=T.obj _ _ st5 b hb;exact (I7.pin (b,o) (List.mem_append_right _ (List.mem_append_right _ (mem_pinsAt hb e)))).2.1
  cases f with
  | next=>obtain⟨σ7,H7,I7,n7⟩:=q7;exact again I7 n7
  | cont=>obtain⟨σ7,H7,I7,n7⟩:=q7;exact again I7 n7
  | brk=>obtain⟨σ7,H7,I7,q7⟩:=q7;exact⟨σ7,H7,I7.unpinned,q7⟩
  | ret v=>obtain⟨x7,σ7,H7,I7,r7,q7⟩:=q7;exact⟨x7,σ7,H7,I7.unpinned,r7,q7⟩
end
theorem for_list {K:PySem.W.Frag}{a:Addr}{xs:List V}{g:TG}{tb:TS}{D:Ends} {σ:St}{H:Hp} (Pv:Nat→St→Hp→Prop) (h0:Pv 0 σ H) (hl:∀ i σ H,i≤xs.length→Pv i σ H→SqL K H a xs)
  (hs:∀ i x σ H,xs[i]? = some x→Pv i σ H→g x σ H fun σ2 H2=>tb { D with nx:=Pv (i+1),ct:=Pv (i+1),bk:=D.nx } σ2 H2) (hd:∀ σ H,Pv xs.length σ H→D.nx σ H) :
  ∃ W:Nat→Nat→St→Hp→Prop,(∃ m,W 0 m σ H)∧∀ i m σ H,W i m σ H →
   ((Itl K a).stop i H∧D.nx σ H)∨((Itl K a).go i H∧∃ N:St→Hp→Prop,(∀ σ' H',N σ' H'→∃ m',m'<m∧W (i+1) m' σ' H')∧∀ x H',(Itl K a).yld i H x H'→g x σ H' fun σ2 H2=>tb { D with nx:=N,ct:=N,bk:=D.nx } σ2 H2):=by
 refine⟨fun i m σ H=>m=xs.length-i∧i≤xs.length∧Pv i σ H,⟨xs.length,by simp,Nat.zero_le _,h0⟩,?_⟩;rintro i m σ H ⟨rfl,hi,p⟩;have q:=hl i σ H hi p;by_cases hlt:i<xs.length
 ·refine .inr ⟨⟨xs,xs[i],q,by simp[hlt]⟩,Pv (i+1),fun σ' H' p'=>⟨xs.length-(i+1),by omega,rfl,hlt,p'⟩,fun x H' y=>?_⟩;obtain⟨e,y⟩:=y;subst e;exact hs i x σ _ (y xs q) p
 ·have e:i=xs.length:=by omega
  subst e;exact .inl ⟨⟨xs,q,Nat.le_refl _⟩,hd σ H p⟩
theorem for_range {lo:Int}{n:Nat}{g:TG}{tb:TS}{D:Ends} {σ:St}{H:Hp} (Pv:Nat→St→Hp→Prop) (h0:Pv 0 σ H)
  (hs:∀ i σ H,i<n→Pv i σ H→g (.int (lo+i)) σ H fun σ2 H2=>tb { D with nx:=Pv (i+1),ct:=Pv (i+1),bk:=D.nx } σ2 H2) (hd:∀ σ H,Pv n σ H→D.nx σ H) :
  ∃ W:Nat→Nat→St→Hp→Prop,(∃ m,W 0 m σ H)∧∀ i m σ H,W i m σ H →
   ((Itr lo n).stop i H∧D.nx σ H)∨((Itr lo n).go i H∧∃ N:St→Hp→Prop,(∀ σ' H',N σ' H'→∃ m',m'<m∧W (i+1) m' σ' H')∧∀ x H',(Itr lo n).yld i H x H'→g x σ H' fun σ2 H2=>tb { D with nx:=N,ct:=N,bk:=D.nx } σ2 H2):=by
 refine⟨fun i m σ H=>m=n-i∧i≤n∧Pv i σ H,⟨n,by simp,Nat.zero_le _,h0⟩,?_⟩;rintro i m σ H ⟨rfl,hi,p⟩;by_cases hlt:i<n
 ·refine .inr ⟨hlt,Pv (i+1),fun σ' H' p'=>⟨n-(i+1),by omega,rfl,hlt,p'⟩,fun x H' y=>?_⟩;obtain⟨e,y⟩:=y;subst e y;exact hs i σ _ hlt p
 ·have e:i=n:=by omega
  subst e;exact .inl ⟨Nat.le_refl _,hd σ H p⟩
end L2
namespace L2
open PySem PySem.Spec PyProof.Rows
noncomputable abbrev R2:=V→V→Hp→VK→Prop
noncomputable def OpR (X:Cx) (f:Value→Value→Sem Value) (r:R2):Prop :=
 ∀ (pins:List (Addr × Obj)) (s:Shared) (σ:St) (H:Hp) (x y:V) (v u:Value) (Q:VK),Inv X pins σ H s→RelV x v→RelV y u→r x y H Q →
  wpAny (model X.prog X.w) X.A (f v u) (EP X pins σ Q) X.xe s
noncomputable def UnR (X:Cx) (f:Value→Sem Value) (r:V→Hp→VK→Prop):Prop :=
 ∀ (pins:List (Addr × Obj)) (s:Shared) (σ:St) (H:Hp) (x:V) (v:Value) (Q:VK),Inv X pins σ H s→RelV x v→r x H Q →
  wpAny (model X.prog X.w) X.A (f v) (EP X pins σ Q) X.xe s
noncomputable def CallR (X:Cx) (f:Value) (r:List V→Hp→VK→Prop):Prop :=
 ∀ (pins:List (Addr × Obj)) (s:Shared) (σ:St) (H:Hp) (xs:List V) (us:List Value) (Q:VK),Inv X pins σ H s→Vals xs us→r xs H Q →
  wpAny (model X.prog X.w) X.A (call f us) (EP X pins σ Q) X.xe s
noncomputable def TruR (X:Cx) (r:V→Hp→(Bool→Hp→Prop)→Prop):Prop :=
 ∀ (pins:List (Addr × Obj)) (s:Shared) (σ:St) (H:Hp) (x:V) (v:Value) (Q:Bool→Hp→Prop),Inv X pins σ H s→RelV x v→r x H Q →
  wpAny (model X.prog X.w) X.A (truthy v) (TP X pins σ Q) X.xe s
noncomputable def tOp (r:R2) (ta tb:TE):TE:=fun σ H Q=>ta σ H fun x H1=>tb σ H1 fun y H2=>r x y H2 Q
noncomputable def tUn (r:V→Hp→VK→Prop) (ta:TE):TE:=fun σ H Q=>ta σ H fun x H1=>r x H1 Q
noncomputable def rI (C:Int→Int→Prop) (g:Int→Int→V):R2:=fun x y H Q=>∃ i j,x = .int i∧y = .int j∧C i j∧Q (g i j) H
noncomputable def rI0 (g:Int→Int→V):R2:=fun x y H Q=>∃ i j,x = .int i∧y = .int j∧Q (g i j) H
noncomputable def rU (g:Int→V):V→Hp→VK→Prop:=fun x H Q=>∃ i,x = .int i∧Q (g i) H
section
variable {X:Cx}{a b c:Expr}{ta tb tc:TE}{pos:Pos}
theorem binT (ha:PE X a ta) (hb:PE X b tb) {pins:List (Addr × Obj)}{s:Shared} {σ:St}{H:Hp}{R:V→V→Hp→Prop} (I:Inv X pins σ H s)
  (h:ta σ H fun x H1=>tb σ H1 fun y H2=>R x y H2) {Q:Value→Shared→Prop}{f:Value→Value→Sem Value}
  (hf:∀ v u s2 x y H2,Inv X pins σ H2 s2→RelV x v→RelV y u→R x y H2→wpAny (model X.prog X.w) X.A (f v u) Q X.xe s2) :
  wpAny (model X.prog X.w) X.A (eval a X.env) (fun v s₁=>wpAny (model X.prog X.w) X.A (eval b X.env) (fun u s₂=>wpAny (model X.prog X.w) X.A (f v u) Q X.xe s₂) X.xe s₁) X.xe s:=by
 refine thn (ha pins s σ H _ I h) fun v s1 ⟨x,H1,I1,r1,q1⟩=>?_
 refine thn (hb pins s1 σ H1 _ I1 q1) fun u s2 ⟨y,H2,I2,r2,q2⟩=>?_
 exact hf v u s2 x y H2 I2 r1 r2 q2
theorem pe_op {op:Operator}{r:R2} (ho:OpR X (binaryOp op) r) (ha:PE X a ta) (hb:PE X b tb):PE X (.BinOp a op b pos) (tOp r ta tb):=by
 intro pins s σ H Q I h;exact wpAny_BinOp (binT ha hb I h fun v u s2 x y H2 I2 rx ry q=>ho pins s2 σ H2 x y v u Q I2 rx ry q)
theorem pe_un {op:UnaryOp}{r:V→Hp→VK→Prop} (ho:UnR X (unaryOp op) r) (ha:PE X a ta):PE X (.UnaryOp op a pos) (tUn r ta):=by
 intro pins s σ H Q I h;exact UnaryOp_ (thn (ha pins s σ H _ I h) fun v s1 ⟨x,H1,I1,r1,q1⟩=>ho pins s1 σ H1 x v Q I1 r1 q1)
theorem opI {f:Value→Value→Sem Value}{C:Int→Int→Prop}{g:Int→Int→Int}
  (rule:∀ (i j:Int) (t u:Tok) (s:Shared) (Q:Value→Shared→Prop) (E:Value→Shared→Prop),C i j→Q (.int (g i j) s.toks) { s with toks:=s.toks+1 }→wpAny (model X.prog X.w) X.A (f (.int i t) (.int j u)) Q E s) :
  OpR X f (rI C fun i j=>.int (g i j)):=by
 intro pins s σ H x y v u Q I rx ry h;obtain⟨i,j,rfl,rfl,hc,q⟩:=h;obtain⟨t,rfl⟩:=rx;obtain⟨t',rfl⟩:=ry;exact rule i j t t' s _ _ hc ⟨.int (g i j),H,I.tok _,⟨_,rfl⟩,q⟩
theorem opI0 {f:Value→Value→Sem Value}{g:Int→Int→Int}
  (rule:∀ (i j:Int) (t u:Tok) (s:Shared) (Q:Value→Shared→Prop) (E:Value→Shared→Prop),Q (.int (g i j) s.toks) { s with toks:=s.toks+1 }→wpAny (model X.prog X.w) X.A (f (.int i t) (.int j u)) Q E s) :
  OpR X f (rI0 fun i j=>.int (g i j)):=by
 intro pins s σ H x y v u Q I rx ry h;obtain⟨i,j,rfl,rfl,q⟩:=h;obtain⟨t,rfl⟩:=rx;obtain⟨t',rfl⟩:=ry;exact rule i j t t' s _ _ ⟨.int (g i j),H,I.tok _,⟨_,rfl⟩,q⟩
theorem opB0 {f:Value→Value→Sem Value}{g:Int→Int→Bool}
  (rule:∀ (i j:Int) (t u:Tok) (s:Shared) (Q:Value→Shared→Prop) (E:Value→Shared→Prop),Q (.bool (g i j)) s→wpAny (model X.prog X.w) X.A (f (.int i t) (.int j u)) Q E s) :
  OpR X f (rI0 fun i j=>.bl (g i j)):=by
 intro pins s σ H x y v u Q I rx ry h;obtain⟨i,j,rfl,rfl,q⟩:=h;obtain⟨t,rfl⟩:=rx;obtain⟨t',rfl⟩:=ry;exact rule i j t t' s _ _ ⟨.bl (g i j),H,I,rfl,q⟩
noncomputable def CPow (i j:Int):Prop:=0≤j∧j≤1000000∧i.natAbs<2^64
noncomputable def CMul (i j:Int):Prop:=(-(2^64)<i∧i<2^64)∨(-(2^64)<j∧j<2^64)
theorem CMul.ok {i j:Int} (h:CMul i j):IntMulOk i j:=by
 rcases h with ⟨h1,h2⟩ | ⟨h1,h2⟩
 ·exact .of_left (intBits_le_64 h1 h2)
 ·exact .of_right (intBits_le_64 h1 h2)
theorem op_add:OpR X (binaryOp .Add) (rI0 fun i j=>.int (i+j)):=opI0 fun _ _ _ _ _ _ _ q=>add_int q
theorem op_sub:OpR X (binaryOp .Sub) (rI0 fun i j=>.int (i-j)):=opI0 fun _ _ _ _ _ _ _ q=>sub_int q
theorem op_mod:OpR X (binaryOp .Mod) (rI (fun _ j=>0<j) fun i j=>.int (i % j)):=opI fun i j _ _ _ _ _ hc q=>by
 have h1:(0:Int)<j:=hc;exact mod_int' (by omega) (by rw[Int.fmod_eq_emod_of_nonneg i (by omega)];exact q)
theorem op_shl:OpR X (binaryOp .LShift) (rI CPow fun i j=>.int (i * 2^j.toNat)):=opI fun _ _ _ _ _ _ _ hc q=>lshift_int_small hc.1 hc.2.1 hc.2.2 q
theorem op_and:OpR X (binaryOp .BitAnd) (rI0 fun i j=>.int (Builtin.bitAnd i j)):=opI0 fun _ _ _ _ _ _ _ q=>and_int q
theorem op_or:OpR X (binaryOp .BitOr) (rI0 fun i j=>.int (Builtin.bitOr i j)):=opI0 fun _ _ _ _ _ _ _ q=>or_int q
theorem unI {f:Value→Sem Value}{g:Int→Int}
  (rule:∀ (i:Int) (t:Tok) (s:Shared) (Q:Value→Shared→Prop) (E:Value→Shared→Prop),Q (.int (g i) s.toks) { s with toks:=s.toks+1 }→wpAny (model X.prog X.w) X.A (f (.int i t)) Q E s) :
  UnR X f (rU fun i=>.int (g i)):=by
 intro pins s σ H x v Q I rx h;obtain⟨i,rfl,q⟩:=h;obtain⟨t,rfl⟩:=rx;exact rule i t s _ _ ⟨.int (g i),H,I.tok _,⟨_,rfl⟩,q⟩
theorem un_neg:UnR X (unaryOp .USub) (rU fun i=>.int (-i)):=unI fun _ _ _ _ _ q=>neg_int q
end
noncomputable def scal:V→V→Bool
 | .non,.non=>true | .non,.int _=>true | .int _,.non=>true | .non,.bl _=>true | .bl _,.non=>true | .non,.str _=>true | .str _,.non=>true
 | .int _,.int _=>true | .bl _,.bl _=>true | .str _,.str _=>true | .byt _,.byt _=>true
 | .int _,.str _=>true | .str _,.int _=>true | .bl _,.str _=>true | .str _,.bl _=>true
 | _,_=>false
noncomputable def rEq:R2:=fun x y H Q=>scal x y=true∧Q (.bl (decide (x=y))) H
noncomputable def rNe:R2:=fun x y H Q=>scal x y=true∧Q (.bl (!decide (x=y))) H
theorem dec_int {i j:Int}:decide (V.int i=V.int j)=(i == j):=by
 rw[Bool.eq_iff_iff];simp
theorem dec_bl {i j:Bool}:decide (V.bl i=V.bl j)=(i == j):=by
 rw[Bool.eq_iff_iff];simp
theorem dec_str {i j:Str}:decide (V.str i=V.str j)=(i == j):=by
 rw[Bool.eq_iff_iff];simp
theorem dec_byt {i j:Array UInt8}:decide (V.byt i=V.byt j)=(i.toList == j.toList):=by
 rw[Bool.eq_iff_iff];cases i;cases j;simp
section
variable {X:Cx}{a b c:Expr}{ta tb tc:TE}{pos:Pos}
theorem fin_bl {pins:List (Addr × Obj)} {σ:St}{H:Hp}{s:Shared}{Q:VK}{k k':Bool} (I:Inv X pins σ H s) (q:Q (.bl k) H) (e:k=k'):EP X pins σ Q (.bool k') s:=by
 subst e;exact⟨.bl k,H,I,rfl,q⟩
theorem op_eq:OpR X (compareOp .Eq) rEq:=by
 intro pins s σ H x y v u Q I rx ry h;obtain⟨hs,q⟩:=h;cases x with
 | non =>
  cases rx;cases y with
  | non=>cases ry;exact PySem.EqNone.eq_none_none (fin_bl I q (by simp))
  | bl j=>cases ry;exact PySem.EqNone.eq_none_bool (fin_bl I q (by simp))
  | int j=>obtain⟨t',rfl⟩:=ry;exact PySem.EqNone.eq_none_int (fin_bl I q (by simp))
  | str j=>obtain⟨t',rfl⟩:=ry;exact PySem.EqNone.eq_none_str (fin_bl I q (by simp))
  | _=>exact absurd (show false=true from hs) Bool.false_ne_true
 | bl i =>
  cases rx;cases y with
  | non=>cases ry;exact PySem.EqNone.eq_bool_none (fin_bl I q (by simp))
  | bl j=>cases ry;exact eq_bool (fin_bl I q dec_bl)
  | str j=>obtain⟨t',rfl⟩:=ry;exact PySem.EqMixed.eq_bool_str (fin_bl I q (by simp))
  | _=>exact absurd (show false=true from hs) Bool.false_ne_true
 | int i =>
  obtain⟨t,rfl⟩:=rx;cases y with
  | non=>cases ry;exact PySem.EqNone.eq_int_none (fin_bl I q (by simp))
  | int j=>obtain⟨t',rfl⟩:=ry;exact eq_int (fin_bl I q dec_int)
  | str j=>obtain⟨t',rfl⟩:=ry;exact PySem.EqMixed.eq_int_str (fin_bl I q (by simp))
  | _=>exact absurd (show false=true from hs) Bool.false_ne_true
 | str i =>
  obtain⟨t,rfl⟩:=rx;cases y with
  | non=>cases ry;exact PySem.EqNone.eq_str_none (fin_bl I q (by simp))
  | bl j=>cases ry;exact PySem.EqMixed.eq_str_bool (fin_bl I q (by simp))
  | int j=>obtain⟨t',rfl⟩:=ry;exact PySem.EqMixed.eq_str_int (fin_bl I q (by simp))
  | str j=>obtain⟨t',rfl⟩:=ry;exact eq_str (fin_bl I q dec_str)
  | _=>exact absurd (show false=true from hs) Bool.false_ne_true
 | byt i =>
  obtain⟨t,rfl⟩:=rx;cases y with
  | byt j=>obtain⟨t',rfl⟩:=ry;exact PySem.W.eq_bytes (fin_bl I q dec_byt)
  | _=>exact absurd (show false=true from hs) Bool.false_ne_true
 | _=>cases y <;> exact absurd (show false=true from hs) Bool.false_ne_true
theorem op_ne:OpR X (compareOp .NotEq) rNe:=by
 intro pins s σ H x y v u Q I rx ry h;obtain⟨hs,q⟩:=h;cases x with
 | non =>
  cases rx;cases y with
  | non=>cases ry;exact PySem.EqNone.ne_none_none (fin_bl I q (by simp))
  | bl j=>cases ry;exact PySem.EqNone.ne_none_bool (fin_bl I q (by simp))
  | int j=>obtain⟨t',rfl⟩:=ry;exact PySem.EqNone.ne_none_int (fin_bl I q (by simp))
  | str j=>obtain⟨t',rfl⟩:=ry;exact PySem.EqNone.ne_none_str (fin_bl I q (by simp))
  | _=>exact absurd (show false=true from hs) Bool.false_ne_true
 | bl i =>
  cases rx;cases y with
  | non=>cases ry;exact PySem.EqNone.ne_bool_none (fin_bl I q (by simp))
  | bl j=>cases ry;exact ne_bool (fin_bl I q (congrArg not dec_bl))
  | str j=>obtain⟨t',rfl⟩:=ry;exact PySem.EqMixed.ne_bool_str (fin_bl I q (by simp))
  | _=>exact absurd (show false=true from hs) Bool.false_ne_true
 | int i =>
  obtain⟨t,rfl⟩:=rx;cases y with
  | non=>cases ry;exact PySem.EqNone.ne_int_none (fin_bl I q (by simp))
  | int j=>obtain⟨t',rfl⟩:=ry;exact ne_int (fin_bl I q (congrArg not dec_int))
  | str j=>obtain⟨t',rfl⟩:=ry;exact PySem.EqMixed.ne_int_str (fin_bl I q (by simp))
  | _=>exact absurd (show false=true from hs) Bool.false_ne_true
 | str i =>
  obtain⟨t,rfl⟩:=rx;cases y with
  | non=>cases ry;exact PySem.EqNone.ne_str_none (fin_bl I q (by simp))
  | bl j=>cases ry;exact PySem.EqMixed.ne_str_bool (fin_bl I q (by simp))
  | int j=>obtain⟨t',rfl⟩:=ry;exact PySem.EqMixed.ne_str_int (fin_bl I q (by simp))
  | str j=>obtain⟨t',rfl⟩:=ry;exact ne_str (fin_bl I q (congrArg not dec_str))
  | _=>exact absurd (show false=true from hs) Bool.false_ne_true
 | byt i =>
  obtain⟨t,rfl⟩:=rx;cases y with
  | byt j=>obtain⟨t',rfl⟩:=ry;exact PySem.W.ne_bytes (fin_bl I q (congrArg not dec_byt))
  | _=>exact absurd (show false=true from hs) Bool.false_ne_true
 | _=>cases y <;> exact absurd (show false=true from hs) Bool.false_ne_true
theorem op_lt:OpR X (compareOp .Lt) (rI0 fun i j=>.bl (decide (i<j))):=opB0 fun _ _ _ _ _ _ _ q=>lt_int q
theorem op_le:OpR X (compareOp .LtE) (rI0 fun i j=>.bl (decide (i≤j))):=opB0 fun _ _ _ _ _ _ _ q=>le_int q
theorem op_gt:OpR X (compareOp .Gt) (rI0 fun i j=>.bl (decide (j<i))):=opB0 fun _ _ _ _ _ _ _ q=>gt_int q
theorem op_isN:OpR X (compareOp .Is) (fun x y H Q=>y = .non∧Q (.bl (decide (x = .non))) H):=by
 intro pins s σ H x y v u Q I rx ry h;obtain⟨rfl,q⟩:=h;cases ry;refine is_none_gen (fin_bl I q ?_);cases x <;> first
  | (cases rx;rfl)
  | (obtain⟨t,rfl⟩:=rx;rfl)
theorem op_notN:OpR X (compareOp .IsNot) (fun x y H Q=>y = .non∧Q (.bl (!decide (x = .non))) H):=by
 intro pins s σ H x y v u Q I rx ry h;obtain⟨rfl,q⟩:=h;cases ry;refine isnot_none_gen (fin_bl I q ?_);cases x <;> first
  | (cases rx;rfl)
  | (obtain⟨t,rfl⟩:=rx;rfl)
theorem nomark (b:Expr) {op:CmpOp} (h:op ≠ .In:=by decide) (h2:op ≠ .NotIn:=by decide):behindInMarks op b=false:=by
 have e1:(op == CmpOp.In)=false:=by cases op <;> first | rfl | exact absurd rfl h
 have e2:(op == CmpOp.NotIn)=false:=by cases op <;> first | rfl | exact absurd rfl h2
 cases b with
 | Set elts k pos=>show (k == 0 && (op == CmpOp.In || op == CmpOp.NotIn) && _)=false;rw[e1,e2,Bool.or_false,Bool.and_false,Bool.false_and]
 | _=>rfl
theorem pe_cmpR {op:CmpOp}{r:R2} (ho:OpR X (compareOp op) r) (ha:PE X a ta) (hb:PE X b tb) (hm:behindInMarks op b=false):PE X (.Compare a [op] [b] pos) (tOp r ta tb):=by
 intro pins s σ H Q I h;exact wpAny_Compare1 (binT ha hb I h fun v u s2 x y H2 I2 rx ry q=>ho pins s2 σ H2 x y v u Q I2 rx ry q) hm
noncomputable def tTest (t:TE):TT:=fun σ H Q=>t σ H fun x H'=>∃ k,x = .bl k∧Q k H'
theorem pt_cmpR {op:CmpOp}{r:R2} (ho:OpR X (compareOp op) r) (ha:PE X a ta) (hb:PE X b tb) (hm:behindInMarks op b=false):PT X (.Compare a [op] [b] pos) (tTest (tOp r ta tb)):=by
 intro pins s σ H Q I h;refine wpAny_isTrue_Compare1 (thn (ha pins s σ H _ I h) fun v s1 ⟨x,H1,I1,r1,q1⟩=>thn (hb pins s1 σ H1 _ I1 q1) fun u s2 ⟨y,H2,I2,r2,q2⟩ =>
  thn (ho pins s2 σ H2 x y v u _ I2 r1 r2 q2) fun c s3 ⟨z,H3,I3,r3,k,e,q3⟩=>?_) hm
 subst e;cases r3;exact wpAny_truthy_bool ⟨H3,I3,q3⟩
noncomputable def TruV (K:PySem.W.Frag) (x:V) (H:Hp) (k:Bool):Prop :=
 match x with
 | .non=>k=false
 | .bl b=>k=b
 | .int i=>k=(i != 0)
 | .str y=>y.length≤sizeLine∧k=((y.length:Int) != 0)
 | .byt y=>y.size≤sizeLine∧k=((y.size:Int) != 0)
 | .ref p=>(∃ xs,SqL K H p xs∧k = !xs.isEmpty)∨(∃ xs,SqT K H p xs∧k = !xs.isEmpty)∨∃ kvs,H p=some (.dK kvs)∧k = !kvs.isEmpty
 | _=>False
theorem isEmpty_kv {κ : Type}{kvs:List (κ × V)}{vs:List (κ × Value)} (r:KV kvs vs):(!vs.isEmpty) = !kvs.isEmpty:=by
 cases r <;> rfl
theorem isEmpty_of {xs:List V}{its:List Value} (r:Vals xs its):(!its.toArray.isEmpty) = !xs.isEmpty:=by
 cases r <;> simp
theorem line63:(sizeLine:Nat)<2^63:=by rw[sizeLine_eq];decide
theorem tru_ok:TruR X (fun x H Q=>∃ k,TruV X.K x H k∧Q k H):=by
 intro pins s σ H x v Q I rx h;obtain⟨k,e,q⟩:=h;have hl:=line63;have hs:sizeLine=16777216:=sizeLine_eq;cases x with
 | non =>
  cases rx;have e':k=false:=e;subst e';exact truthy_none ⟨H,I,q⟩
 | bl b =>
  cases rx;have e':k=b:=e;subst e';exact wpAny_truthy_bool ⟨H,I,q⟩
 | int i =>
  obtain⟨t,rfl⟩:=rx;have e':k=(i != 0):=e;subst e';exact PySem.P.truthy_int ⟨H,I,q⟩
 | str y =>
  obtain⟨t,rfl⟩:=rx;obtain⟨hy,e'⟩:y.length≤sizeLine∧k=((y.length:Int) != 0):=e;subst e';exact PySem.P.truthy_str (by omega) ⟨H,I.tok _,q⟩
 | byt y =>
  obtain⟨t,rfl⟩:=rx;obtain⟨hy,e'⟩:y.size≤sizeLine∧k=((y.size:Int) != 0):=e;subst e';exact PySem.W.truthy_bytes (by omega) ⟨H,I.tok _,q⟩
 | ref p =>
  cases rx;have e':(∃ xs,SqL X.K H p xs∧k = !xs.isEmpty)∨(∃ xs,SqT X.K H p xs∧k = !xs.isEmpty)∨∃ kvs,H p=some (.dK kvs)∧k = !kvs.isEmpty:=e;rcases e' with ⟨xs,hx,e'⟩ | ⟨xs,hx,e'⟩ | ⟨kvs,hx,e'⟩
  ·subst e';obtain⟨its,r,pl,hz⟩:=I.list hx;have hlen:=r.length;exact wpAny_truthy_list pl.isList (by simp only[List.size_toArray];omega) ⟨H,I.tok _,by rw[isEmpty_of r];exact q⟩
  ·subst e';obtain⟨its,r,pl,hz⟩:=I.tuple hx;have hlen:=r.length;exact truthy_tuple pl (by simp only[List.size_toArray];omega) ⟨H,I.tok _,by rw[isEmpty_of r];exact q⟩
  ·subst e';obtain⟨hz,hS,vs,r,m⟩:kvs.length≤sizeLine∧(p == sysModules)=false∧∃ vs,KV kvs vs∧s.heap.DictOf (mixKind X.prog X.w) p vs:=I.hok p _ hx;have hlen:kvs.length=vs.length:=Paired.length r;exact wpAny_truthy_dict hS m (by omega) ⟨H,I.tok _,by rw[isEmpty_kv r];exact q⟩
 | _=>exact (show False from e).elim
theorem pt_truth (ha:PE X a ta) (he:∀ whole,isTrue a X.env whole=(do let v ← whole;standAt a.pos;holding [v] (truthy v))) :
  PT X a (fun σ H Q=>ta σ H fun x H'=>∃ k,TruV X.K x H' k∧Q k H'):=by
 intro pins s σ H Q I h;exact isTrue_plain (thn (ha pins s σ H _ I h) fun v s1 ⟨x,H1,I1,r1,q1⟩=>tru_ok pins s1 σ H1 x v Q I1 r1 q1) (he _)
theorem vals1 {x:V}{us:List Value} (r:Vals [x] us):∃ u,us=[u]∧RelV x u:=by
 cases r with
 | cons r1 r2=>cases r2;exact⟨_,rfl,r1⟩
theorem vals2 {x y:V}{us:List Value} (r:Vals [x,y] us):∃ u w',us=[u,w']∧RelV x u∧RelV y w':=by
 cases r with
 | cons r1 r2 =>
  cases r2 with
  | cons r3 r4=>cases r4;exact⟨_,_,rfl,r1,r3⟩
theorem call_max2 (hc:X.calm=true):CallR X (.builtin "max") (fun xs H Q=>∃ i j,xs=[.int i,.int j]∧Q (.int (if j > i then j else i)) H):=by
 intro pins s σ H xs us Q I r h;obtain⟨i,j,rfl,q⟩:=h;obtain⟨u,w',rfl,⟨t,rfl⟩,⟨t',rfl⟩⟩:=vals2 r;refine max_two_ints (I.ok.hd hc) fun h' tk k=>⟨_,H,I.kept k,?_,q⟩
 by_cases hj:j > i
 ·rw[if_pos hj,if_pos hj];exact⟨_,rfl⟩
 ·rw[if_neg hj,if_neg hj];exact⟨_,rfl⟩
end
end L2
namespace L2
open PySem PySem.Spec PyProof.Rows
structure ObjM (h:Heap) (x dx C:Addr) (mA:Str→Option Value):Prop where
 obj:h.get? x=some (PySem.W.instObj C dx)
 ns:h.Ns1 dx mA
 ne:dx≠x
theorem lookIn_ns {h:Heap}{dx:Addr}{mA:Str→Option Value} (n:h.Ns1 dx mA):∃ od,h.get? dx=some od∧∀ name,PySem.W.lookIn name od=some (mA name):=by
 obtain⟨o,es,ep,ho,hd,hk,_,hm⟩:=n;refine⟨o,ho,fun name=>?_⟩;have e:=hm name;unfold nsFind findBy at e;rw[← Array.find?_toList] at e;unfold PySem.W.lookIn;rw[hd];dsimp only;split
 ·rename_i y q;rw[q] at e;exact congrArg some e
 ·rename_i q;rw[q] at e;have a:es.toList.any (·.refKey)=false:=by
   rw[List.any_eq_false];intro y hy;obtain⟨z,t,hkey⟩:=hk y (Array.mem_toList_iff.mp hy);simp[DictEntry.refKey,hkey]
  have a':¬ es.toList.any (·.refKey)=true:=by rw[a];exact Bool.false_ne_true
  rw[if_neg a'];exact congrArg some e
theorem ObjM.look {h:Heap}{x dx C:Addr}{mA:Str→Option Value} (I:ObjM h x dx C mA):∃ od,PySem.W.InstAt h x (PySem.W.instObj C dx) C (some od)∧∀ name,PySem.W.lookIn name od=some (mA name) :=
 let ⟨od,ho,hl⟩:=lookIn_ns I.ns
 ⟨od,⟨I.obj,rfl,rfl,ho⟩,hl⟩
theorem RelO.some_of {v:V}{o:Option Value} (r:RelO (some v) o):∃ u,o=some u∧RelV v u:=by
 cases o with
 | none=>exact (show False from r).elim
 | some u=>exact⟨u,rfl,r⟩
section
variable {P:Program}{w:World}{H H':Hp}{h h':Heap}{a C dx:Addr}{fs fs':List (Str × V)}
theorem ins_get (hok:HOk P w H h) (e:H a=some (.ins C dx fs)):∃ mA,ObjM h a dx C mA∧(∀ f,RelO (fs.lookup f) (mA f))∧PySem.Within mA (fs.map (·.1))∧fs.length≤1000∧H dx=some (.own a):=by
 obtain⟨d,z,ne,ob,mA,n,r,q⟩:=(show ObjOk P w H h a (.ins C dx fs) from hok a _ e);exact⟨mA,⟨ob,n,ne⟩,r,q,z,d⟩
end
structure Cls (K:PySem.W.Frag) (C:Addr):Prop where
 pg:PySem.W.plainGet K C Str.empty=true
 hd:PySem.W.hasDictIn K C=true
 po:PySem.W.plainOver K C=true
 sa:PySem.W.findIn K (.ref C) "__setattr__" = some (some (.builtin "object.__setattr__"))
theorem Cls.get {K:PySem.W.Frag}{C:Addr} (c:Cls K C) (f:Str):PySem.W.plainGet K C f=true:=c.pg
section
variable {X:Cx}{pins:List (Addr × Obj)} {σ:St}{H:Hp}{s:Shared}{A:Around}{E:Value→Shared→Prop}{Q:Value→Shared→Prop}{c:Value}{b:Bool}
inductive TyOf (K:PySem.W.Frag) (H:Hp):V→Value→Prop where
 | non:TyOf K H .non (.type "NoneType")
 | bl (x:Bool):TyOf K H (.bl x) (.type "bool")
 | int (i:Int):TyOf K H (.int i) (.type "int")
 | str (x:Str):TyOf K H (.str x) (.type "str")
 | flt (x:UInt64):TyOf K H (.flt x) (.type "float")
 | lst {a:Addr}{xs:List V} (e:H a=some (.lst xs)):TyOf K H (.ref a) (.type "list")
 | frz {a:Addr}{o:Obj}{xs:List V} (e:H a=some (.frz o (.lst xs))):TyOf K H (.ref a) (.type "list")
 | tup {a:Addr}{xs:List V} (e:H a=some (.tup xs)):TyOf K H (.ref a) (.type "tuple")
 | dK {a:Addr}{kvs:List (Key × V)} (e:H a=some (.dK kvs)):TyOf K H (.ref a) (.type "dict")
 | dT {a:Addr}{kvs:List (List Key × V)} (e:H a=some (.dT kvs)):TyOf K H (.ref a) (.type "dict")
 | ins {a C dx:Addr}{fs:List (Str × V)} (e:H a=some (.ins C dx fs)) (cl:Cls K C) (ha:PySem.W.findIn K (.ref C) "__class__" = some (some (.builtin "object.__class__")))
   (hn:PySem.W.specialIn K (.builtin "object.__class__") "__get__" = some (some (.builtin "getset_descriptor.__get__"))) (htk:PySem.W.takesIn K (.builtin "object.__class__")=some true)
   (hm:PySem.W.mroIn K C (.type "object")=some true):TyOf K H (.ref a) (.ref C)
theorem isinst_ok {x:V}{u t:Value} (I:Inv X pins σ H s) (rx:RelV x u) (ty:TyOf X.K H x t) (e:PySem.W.kitOne X.K t c=some b) (h:∀ tk,Q (.bool b) { s with toks:=tk }) :
  wpAny (model X.prog X.w) A (call (.builtin "isinstance") [u,c]) Q E s:=by
 cases ty with
 | non=>cases (show u=Value.none from rx);exact PySem.W.kia_one PySem.W.kitx_none I.kIn True.intro e (fun z=>nomatch z) h
 | bl y=>cases (show u=Value.bool y from rx);exact PySem.W.kia_one PySem.W.kitx_bool I.kIn True.intro e (fun z=>nomatch z) h
 | int i=>obtain⟨t,q⟩:=(show ∃ t,u=Value.int i t from rx);cases q;exact PySem.W.kia_one PySem.W.kitx_int I.kIn True.intro e (fun z=>nomatch z) h
 | str y=>obtain⟨t,q⟩:=(show ∃ t,u=Value.str y t from rx);cases q;exact PySem.W.kia_one PySem.W.kitx_str I.kIn True.intro e (fun z=>nomatch z) h
 | flt y=>obtain⟨t,q⟩:=(show ∃ t,u=Value.float y t from rx);cases q;exact PySem.W.kia_one PySem.W.kitx_float I.kIn True.intro e (fun z=>nomatch z) h
 | @lst a xs ea =>
  cases (show u=Value.ref a from rx);obtain⟨_,_,n,_,h1⟩:=(show ObjOk X.prog X.w H s.heap a (.lst xs) from I.hok a _ ea);exact PySem.W.kia_one PySem.W.kitx_list I.kIn ⟨_,h1,rfl⟩ e (fun z=>nomatch z) h
 | @frz a ob xs ea =>
  cases (show u=Value.ref a from rx);obtain⟨_,_,_,n,_,h1⟩:=(show ObjOk X.prog X.w H s.heap a (.frz ob (.lst xs)) from I.hok a _ ea);exact PySem.W.kia_one PySem.W.kitx_list I.kIn ⟨_,h1,rfl⟩ e (fun z=>nomatch z) h
 | @tup a xs ea =>
  cases (show u=Value.ref a from rx);obtain⟨_,_,_,p⟩:=(show ObjOk X.prog X.w H s.heap a (.tup xs) from I.hok a _ ea);obtain⟨o,h1,h2,_⟩:=p;exact PySem.W.kia_one PySem.W.kitx_tuple I.kIn ⟨o,h1,h2⟩ e (fun z=>nomatch z) h
 | @dK a kvs ea =>
  cases (show u=Value.ref a from rx);obtain⟨_,_,vs,_,p⟩:=(show ObjOk X.prog X.w H s.heap a (.dK kvs) from I.hok a _ ea);obtain⟨o,es,ep,h1,h2,_⟩:=p;exact PySem.W.kia_one PySem.W.kitx_dict I.kIn ⟨o,h1,h2.1⟩ e (fun z=>nomatch z) h
 | @dT a kvs ea =>
  cases (show u=Value.ref a from rx);obtain⟨_,_,xs,_,o,es,ep,h1,h2,_⟩:=(show ObjOk X.prog X.w H s.heap a (.dT kvs) from I.hok a _ ea);exact PySem.W.kia_one PySem.W.kitx_dict I.kIn ⟨o,h1,h2.1⟩ e (fun z=>nomatch z) h
 | @ins a C dx fs ea cl ha hn htk hm =>
  cases (show u=Value.ref a from rx);obtain⟨mA,O,_⟩:=ins_get I.hok ea;obtain⟨od,J,_⟩:=O.look;exact PySem.W.kia_one (PySem.W.kitx_own (cl.get _) cl.hd ha hn htk hm) I.kIn J e (fun z=>nomatch z) h
end
end L2
namespace L2
open PySem PySem.Spec PyProof.Rows
structure Room (k:Nat) (A:Around):Prop where
 hd:A.handled=none
 dp:A.depth+3 * k+5<recursionLimit
 un:A.units+16 * k+200<cLine
theorem Room.mono {j k:Nat}{A:Around} (r:Room k A) (h:j≤k):Room j A:=⟨r.hd,by have:=r.dp;omega,by have:=r.un;omega⟩
theorem Room.deeper {k:Nat}{A:Around} (r:Room (k+1) A) (env:Env):Room k (A.deeper env) :=
 ⟨r.hd,by have:=r.dp;show A.depth+1+3 * k+5<_;omega,by have:=r.un;show A.units+3+16 * k+200<_;omega⟩
theorem Room.depth {k:Nat}{A:Around} (r:Room k A):A.depth<recursionLimit:=by have:=r.dp;omega
theorem Room.units {k:Nat}{A:Around} (r:Room k A):A.units+64<cLine:=by have:=r.un;omega
noncomputable def tNil:TA:=fun _ H Q=>Q [] H
noncomputable def tCons (ta:TE) (tr:TA):TA:=fun σ H Q=>ta σ H fun x H1=>tr σ H1 fun xs H2=>Q (x :: xs) H2
section
variable {X:Cx}{e:Expr}{es:List Expr}{te:TE}{t:TA}{pos:Pos}
theorem pa_nil:PA X [] tNil:=fun _ _ _ _ H Q I h=>Calls.spliced_nil ⟨[],H,I,.nil,h⟩
theorem pa_cons (ha:PE X e te) (hr:PA X es t) (hs:starEach (e :: es) X.env=(false,eval e X.env) :: starEach es X.env:=by rfl):PA X (e :: es) (tCons te t):=by
 intro pos pins s σ H Q I h;rw[hs];show wpAny _ _ (spliced ((false,eval e X.env) :: backTo pos (starEach es X.env))) _ _ s;refine Calls.spliced_cons (thn (ha pins s σ H _ I h) fun u s1 ⟨x,H1,I1,r1,q1⟩=>?_);exact thn (hr pos pins s1 σ H1 _ I1 q1) fun us s2 ⟨xs,H2,I2,r2,q2⟩=>⟨x :: xs,H2,I2,.cons r1 r2,q2⟩
noncomputable def tTup (t:TA):TE:=fun σ H Q=>t σ H fun xs H1=>xs.length≤sizeLine∧∀ p,H1 p=none→Q (.ref p) (upd H1 p (.tup xs))
noncomputable def tLst (t:TA):TE:=fun σ H Q=>t σ H fun xs H1=>xs.length≤sizeLine∧∀ p,H1 p=none→Q (.ref p) (upd H1 p (.lst xs))
theorem pe_tup {x1} (h:PA X es t):PE X (.Tuple es x1 pos) (tTup t):=by
 intro pins s σ H Q I hq;refine wpAny_Tuple_spliced (thn (h pos pins s σ H _ I hq) fun us s1 ⟨xs,H1,I1,r,z,q⟩=>⟨by rw[← r.length];exact z,?_⟩);have hf:H1 s1.heap.objs.size=none:=I1.hok.fresh (Nat.le_refl _);refine⟨.ref s1.heap.objs.size,upd H1 s1.heap.objs.size (.tup xs),I1.laid (t':=s1.toks) (fun b u e=>Heap.get?_push_of_some _ e) (Nat.le_refl _) ?_,rfl,q _ hf⟩;exact⟨z,us,r,⟨_,Heap.get?_push_size _ rfl,rfl,_,rfl⟩⟩
theorem pe_lst (h:PA X es t):PE X (.List es pos) (tLst t):=by
 intro pins s σ H Q I hq;refine wpAny_List_spliced (thn (h pos pins s σ H _ I hq) fun us s1 ⟨xs,H1,I1,r,z,q⟩=>⟨by rw[← r.length];exact z,?_⟩);have hf:H1 s1.heap.objs.size=none:=I1.hok.fresh (Nat.le_refl _);refine⟨.ref s1.heap.objs.size,upd H1 s1.heap.objs.size (.lst xs),I1.laid (t':=s1.toks) (fun b u e=>Heap.get?_push_of_some _ e) (Nat.le_refl _) ?_,rfl,q _ hf⟩;exact⟨z,us,0,r,Heap.get?_push_size _ rfl⟩
end
noncomputable abbrev Sp:=List V→Hp→VK→XK→Prop
noncomputable abbrev CXT:=List Env→Hp→Shared→XK→Value→Shared→Prop
structure Env0 (P:Program) (w:World) (K:PySem.W.Frag) (mg:Str→Option Value) (base:Heap) (A:Around) (outer:List Env) (s:Shared) (H:Hp):Prop where
 frames:A.frames=some outer
 mod:Mod K mg base
 bs:∀ b o,base.get? b=some o→s.heap.get? b=some o∧H b=none
 bsz:base.objs.size≤s.heap.objs.size
 funs:s.heap.FunFrames base outer
 frf:∀ b∈frs outer,H b=none
 hok:HOk P w H s.heap
 bare:AllBare s.gens
noncomputable def CE (outer:List Env) (P:Program) (w:World) (H:Hp) (s:Shared) (Q:VK) (u:Value) (s':Shared):Prop :=
 ∃ v H',s'.os=s.os∧AllBare s'.gens∧Un (frs outer) [] H H' s.heap s'.heap∧HOk P w H' s'.heap∧RelV v u∧Q v H'
noncomputable def CR (CX:CXT) (outer:List Env) (P:Program) (w:World) (H:Hp) (s:Shared) (Q:VK) (E:XK) (r:Result) (s':Shared):Prop :=
 match r with
 | .ok (.ret u)=>CE outer P w H s Q u s'
 | .ok _=>False
 | .error e=>CX outer H s E e s'
structure FnOk (P:Program) (w:World) (K:PySem.W.Frag) (mg:Str→Option Value) (base:Heap) (CX:CXT) (k:Nat) (f:Addr) (fd:FuncData) (ps:List Str) (sp:Sp):Prop where
 len:∀ vs H Q E,sp vs H Q E→vs.length=ps.length
 run:∀ (A:Around) (outer:List Env) (s:Shared) (H:Hp) (args:Args) (us:List Value) (vs:List V) (Q:VK) (E:XK),Room k A→Env0 P w K mg base A outer s H→BindsTo s fd args (ps.zip us)→Vals vs us→sp vs H Q E →
  codeAny (model P w) A (.call (.ref f) args) (CR CX outer P w H s Q E) s
section
variable {X:Cx}{pins:List (Addr × Obj)} {σ:St}{H:Hp}{s s':Shared}
theorem Inv.env0 (I:Inv X pins σ H s):Env0 X.prog X.w X.K X.mg X.base X.A X.stack s H :=
 ⟨I.ok.frames,I.ok.mod,I.bs,Nat.le_trans I.ok.bsz I.sz,I.stack,I.stkFree,I.hok,I.bare⟩
theorem Inv.after {Q:VK}{u:Value} (I:Inv X pins σ H s) (h:CE X.stack X.prog X.w H s Q u s'):EP X pins σ Q u s':=by
 obtain⟨v,H',os,bare,un,hok,r,q⟩:=h;obtain⟨hh,g,d,t,os'⟩:=s';obtain rfl:os'=s.os:=os;exact⟨v,H',I.call (h':=hh) (g':=g) (d':=d) (t':=t) (ch:=[]) un hok bare (fun b z=>absurd z (by simp)),r,q⟩
end
noncomputable def tCall (sp:Sp) (dvs:List V) (E:XK) (t:TA):TE:=fun σ H Q=>t σ H fun vs H1=>sp (vs++dvs) H1 Q E
noncomputable def Binds (K:PySem.W.Frag) (fd:FuncData) (ps:List Str) (ds:List Value):Prop :=
 ∀ (s:Shared) (us:List Value),K.In s.heap→(us++ds).length=ps.length→BindsTo s fd ⟨us,[]⟩ (ps.zip (us++ds))
theorem Binds.all {K:PySem.W.Frag}{fd:FuncData}{ps:List Str} (h:∀ us:List Value,us.length=ps.length→bindArgs fd ⟨us,[]⟩=pure (ps.zip us)):Binds K fd ps []:=fun s us _ hl=>by
 rw[List.append_nil] at hl ⊢;exact .of_eq (h us hl)
noncomputable def Passes (CX:CXT) (X:Cx) (E:XK):Prop:=∀ (pins:List (Addr × Obj)) (σ:St) (H:Hp) (s:Shared) (e:Value) (s':Shared),Inv X pins σ H s→CX X.stack H s E e s'→X.xe e s'
section
variable {X:Cx}{CX:CXT}{k:Nat}{f C:Addr}{fd:FuncData}{ps:List Str}{sp:Sp}{dvs:List V}{ds:List Value}{E:XK}{x m:Str}{p pos apos:Pos}{e o:Expr}{es:List Expr}{ta:TE}{t:TA}
theorem run_fn {pins:List (Addr × Obj)} {σ:St}{H:Hp}{s:Shared}{Q:VK}{us:List Value}{vs:List V} (F:FnOk X.prog X.w X.K X.mg X.base CX k f fd ps sp) (hr:Room k X.A) (hb:Binds X.K fd ps ds) (hd:Vals dvs ds) (hx:Passes CX X E)
  (I:Inv X pins σ H s) (r:Vals vs us) (h:sp (vs++dvs) H Q E):wpAny (model X.prog X.w) X.A (call (.ref f) us) (EP X pins σ Q) X.xe s:=by
 have r2:Vals (vs++dvs) (us++ds):=r.append hd;have hl:(us++ds).length=ps.length:=by rw[← r2.length];exact F.len _ _ _ _ h
 refine wpAny_call (codeAny_mono (F.run X.A X.stack s H ⟨us,[]⟩ (us++ds) (vs++dvs) Q E hr I.env0 (hb s us I.kIn hl) r2 h) fun r s' hq=>?_);cases r with
 | error e=>exact hx pins σ H s e s' I hq
 | ok fl =>
  cases fl with
  | ret u=>exact I.after hq
  | next=>exact False.elim hq
  | brk=>exact False.elim hq
  | cont=>exact False.elim hq
theorem pe_call (F:FnOk X.prog X.w X.K X.mg X.base CX k f fd ps sp) (hr:Room k X.A) (hg:Gl X x) (hm:X.mg x=some (.ref f)) (hk:PySem.W.keepIn X.K (.ref f)=true) (hb:Binds X.K fd ps ds) (hd:Vals dvs ds) (hx:Passes CX X E)
  (ha:PA X (e :: es) t) (hdb:(x == ("__debug__" : Str))=false:=by decide) (he:starEach (e :: es) X.env=(false,eval e X.env) :: starEach es X.env:=by rfl) (hpl:(backTo pos (starEach es X.env)).any (·.1)=false:=by rfl) :
  PE X (.Call (.Name x p) (e :: es) [] pos) (tCall sp dvs E t):=by
 intro pins s σ H Q I h;refine wpAny_Call_Name_kw (ld_glob I hg hm ?_ hdb);refine PySem.W.callWith_K (h₀:=X.base) I.ok.mod.kin hk (thn (ha pos pins s σ H _ I h) fun us s1 ⟨vs,H1,I1,r,q⟩=>⟨I1.kIn,?_⟩) he hpl;exact run_fn F hr hb hd hx I1 r q
end
structure FnScope (N P:List Str) (sc:Scope):Prop where
 kind:sc.kind = .function
 co:sc.isCoroutine=false
 gen:sc.isGenerator=false
 nd:N.Nodup
 pre:N.take P.length=P
 par:∀ x∈P,sc.names.lookup x=some .local∨sc.names.lookup x=some .cell
 nofree:∀ y∈sc.names,y.2 ≠ .free
theorem bindL_out {kindOf:Str→Option NameKind}{x:Str}:∀ {binds:List (Str × Value)}{m:Str→Option Value},(∀ v,(x,v) ∉ binds)→bindL kindOf binds m x=m x
 | [],_,_=>rfl
 | (n,v) :: r,m,h=>by
  unfold bindL;rw[bindL_out fun w hw=>h w (List.mem_cons_of_mem _ hw)];split
  ·have:x≠n:=by rintro rfl;exact h v List.mem_cons_self
   simp[this]
  ·rfl
theorem bindC_out {kindOf:Str→Option NameKind}{x:Str}:∀ {binds:List (Str × Value)}{m:Str→Option Value},(∀ v,(x,v) ∉ binds)→bindC kindOf binds m x=m x
 | [],_,_=>rfl
 | (n,v) :: r,m,h=>by
  unfold bindC;rw[bindC_out fun w hw=>h w (List.mem_cons_of_mem _ hw)];split
  ·rfl
  ·have:x≠n:=by rintro rfl;exact h v List.mem_cons_self
   simp[this]
theorem bindL_get {kindOf:Str→Option NameKind}{x:Str}{v:Value}:∀ {P:List Str}{vs:List Value}{i:Nat}{m:Str→Option Value},P.Nodup→P[i]? = some x→vs[i]? = some v→kindOf x=some .local →
  bindL kindOf (P.zip vs) m x=some v
 | [],_,_,_,_,h,_,_=>by simp at h
 | _ :: _,[],_,_,_,_,h,_=>by simp at h
 | p :: P,w :: vs,0,m,nd,h1,h2,hk=>by
  simp at h1 h2;subst h1;subst h2;show bindL kindOf ((p,w) :: P.zip vs) m p=_;unfold bindL;rw[bindL_out fun v hv=>(List.nodup_cons.mp nd).1 (List.of_mem_zip hv).1,if_pos hk];simp
 | p :: P,w :: vs,i+1,m,nd,h1,h2,hk=>by
  show bindL kindOf ((p,w) :: P.zip vs) m x=_;unfold bindL;exact bindL_get (i:=i) (List.nodup_cons.mp nd).2 (by simpa using h1) (by simpa using h2) hk
theorem bindC_get {kindOf:Str→Option NameKind}{x:Str}{v:Value}:∀ {P:List Str}{vs:List Value}{i:Nat}{m:Str→Option Value},P.Nodup→P[i]? = some x→vs[i]? = some v→kindOf x≠some .local →
  bindC kindOf (P.zip vs) m x=some v
 | [],_,_,_,_,h,_,_=>by simp at h
 | _ :: _,[],_,_,_,_,h,_=>by simp at h
 | p :: P,w :: vs,0,m,nd,h1,h2,hk=>by
  simp at h1 h2;subst h1;subst h2;show bindC kindOf ((p,w) :: P.zip vs) m p=_;unfold bindC;rw[bindC_out fun v hv=>(List.nodup_cons.mp nd).1 (List.of_mem_zip hv).1,if_neg hk];simp
 | p :: P,w :: vs,i+1,m,nd,h1,h2,hk=>by
  show bindC kindOf ((p,w) :: P.zip vs) m x=_;unfold bindC;exact bindC_get (i:=i) (List.nodup_cons.mp nd).2 (by simpa using h1) (by simpa using h2) hk
noncomputable def start (N:List Str) (vs:List V):St:=vs.map some++List.replicate (N.length-vs.length) none
noncomputable def cxOf (CX:CXT) (P:Program) (w:World) (K:PySem.W.Frag) (mg:Str→Option Value) (base:Heap) (N:List Str) (qual:Str) (scope:Scope) (f:Addr) (cd:Value) (A:Around) (outer:List Env) (s:Shared) (H:Hp) (E:XK):Cx where
 prog:=P
 w:=w
 K:=K
 mg:=mg
 base:=base
 A:=A.deeper (envOfC qual scope s.heap.objs.size f cd)
 N:=N
 s₀:=s
 H₀:=H
 env:=envOfC qual scope s.heap.objs.size f cd
 outer:=outer
 stack:=envOfC qual scope s.heap.objs.size f cd :: outer
 ex:=[]
 calm:=true
 fn:=fun _=>true
 pn:=[]
 xe:=fun e s'=>wpAny (model P w) (A.deeper (envOfC qual scope s.heap.objs.size f cd)) (leaving (envOfC qual scope s.heap.objs.size f cd) e) (fun _ s''=>CX outer H s E e s'') (fun e' s''=>CX outer H s E e' s'') s'
theorem cell_has {sc:Scope}{n:Nat}{x:Str} (h:sc.names.lookup x=some .cell):∃ c,(cellsFrom n sc.names []).lookup x=some c:=by
 have q:=PySem.W.cellsFrom_some sc.names n [] (.inl h);exact Option.isSome_iff_exists.mp q
theorem inv_start {CX:CXT}{P:Program}{w:World}{K:PySem.W.Frag}{mg:Str→Option Value}{base:Heap}{N ps:List Str}{qual:Str}{scope:Scope}{f:Addr}{cd:Value}{A:Around}{outer:List Env}{s s1:Shared}{H:Hp}{E:XK}{us:List Value}{vs:List V}
  (S:FnScope N ps scope) (hd:A.handled=none) (e0:Env0 P w K mg base A outer s H) (hl:vs.length=ps.length) (r:Vals vs us)
  (x:InCallC s s.heap.objs.size (bindL (envOfC qual scope s.heap.objs.size f cd).kindOf (ps.zip us) fun _=>none) (cellsFrom (s.heap.objs.size+1) scope.names []) (bindC (envOfC qual scope s.heap.objs.size f cd).kindOf (ps.zip us) fun _=>none) s1) :
  Inv (cxOf CX P w K mg base N qual scope f cd A outer s H E) [] (start N vs) H s1:=by
 have hpl:ps.length≤N.length:=by have:=congrArg List.length S.pre;rw[List.length_take] at this;omega
 obtain⟨h1,tk,rfl,hk⟩:=x.done;have noA:∀ b:Addr,b ∉ (cxOf CX P w K mg base N qual scope f cd A outer s H E).ex:=fun b z=>absurd (show b∈([]:List Addr) from z) (by simp)
 refine⟨⟨e0.mod,S.kind,rfl,rfl,Nat.le_refl _,fun y z c h1 h2=>?_,fun y hy=>?_,fun y c _ h=>?_,fun _=>hd,Around.frames_deeper e0.frames,.inr ⟨rfl,rfl⟩,fun b z=>absurd z (noA b),e0.bs,e0.bsz,fun b _ _=>noA b,fun b z=>absurd z (noA b),e0.funs,e0.frf⟩,
  rfl,e0.bare,Un.kept hk,⟨_,x.toInCall.ns,fun i y v h1 h2 h3=>?_⟩,fun y c h=>⟨_,x.cell y c h⟩,e0.hok.fresh (Nat.le_refl _),fun y c h=>?_,fun p hp=>absurd (show p∈([]:List (Addr × Obj)) from hp) (by simp),e0.hok.kept hk,?_⟩
 ·exact name_of_addr x.apart (PySem.mem_of_lookup h1) (PySem.mem_of_lookup h2)
 ·have hy:scope.names.lookup y=some .cell∨scope.names.lookup y=some .free:=hy;rcases hy with hy | hy
  ·exact cell_has hy
  ·exact absurd rfl (S.nofree _ (PySem.mem_of_lookup hy))
 ·exact Nat.le_of_lt (x.above y c (PySem.mem_of_lookup h))
 ·have hi:i<vs.length:=by
   unfold start at h2;by_cases hi:i<vs.length
   ·exact hi
   ·rw[List.getElem?_append_right (by simpa using hi)] at h2;rw[List.getElem?_replicate] at h2;split at h2 <;> cases h2
  have ha:vs[i]? = some v:=by
   unfold start at h2;rw[List.getElem?_append_left (by simpa using hi),List.getElem?_map] at h2;cases e:vs[i]? with
   | none=>rw[e] at h2;cases h2
   | some a=>rw[e] at h2;cases h2;rfl
  obtain⟨u,hu,rv⟩:=r.get ha;have hp:ps[i]? = some y:=by
   rw[← S.pre,List.getElem?_take_of_lt (by omega)];exact h1
  have ndP:ps.Nodup:=by rw[← S.pre];exact S.nd.sublist (List.take_sublist _ _)
  refine⟨u,rv,?_⟩;rcases S.par y (List.mem_of_getElem? hp) with k | k
  ·exact .inl ⟨k,bindL_get ndP hp hu k⟩
  ·obtain⟨c,e⟩:=cell_has (n:=s.heap.objs.size+1) k;refine .inr ⟨.inl k,c,e,?_⟩;have q:=x.cell y c e;rw[bindC_get ndP hp hu (by show scope.names.lookup y≠_;rw[k];decide)] at q;exact q
 ·exact e0.hok.fresh (Nat.le_of_lt (x.above y c (PySem.mem_of_lookup h)))
 ·unfold start;show _=N.length;rw[List.length_append,List.length_map,List.length_replicate];omega
theorem fn_of {CX:CXT}{P:Program}{w:World}{K:PySem.W.Frag}{mg:Str→Option Value}{base:Heap}{k:Nat}{f:Addr}{name qual:Str}{params:Arguments}{body:List Stmt}{scope:Scope}{dV kV doc pm cdv ct oc:Value}{an od:Option Addr}
  {osl:Array (Option Value)}{N ps:List Str}{sp:Sp} (lk:K.lookup f=some ⟨oc,od,.func (PySem.W.fnOf name qual params body scope dV kV doc pm an cdv ct),osl⟩) (hcd:PySem.W.codeIn K cdv qual=true) (S:FnScope N ps scope)
  (len:∀ vs H Q E,sp vs H Q E→vs.length=ps.length)
  (hbody:∀ (A:Around) (outer:List Env) (s:Shared) (H:Hp) (vs:List V) (Q:VK) (E:XK),Room k (A.deeper (envOfC qual scope s.heap.objs.size f cdv))→sp vs H Q E →
   ∃ t,PSs (cxOf CX P w K mg base N qual scope f cdv A outer s H E) body t∧t { nx:=fun _ H'=>Q .non H',rt:=Q } (start N vs) H) :
  FnOk P w K mg base CX (k+1) f (PySem.W.fnOf name qual params body scope dV kV doc pm an cdv ct) ps sp:=by
 refine⟨len,fun A outer s H args us vs Q E hr e0 hb r hsp=>?_⟩;have hl:=len _ _ _ _ hsp;have KX:K.In s.heap:=e0.mod.kin.keeps fun b o e=>(e0.bs b o e).1
 have lim:s.heap.NoLimit:=e0.mod.nolimit.keeps fun b o e=>(e0.bs b o e).1
 have hkind:∀ y∈ps.zip us,scope.names.lookup y.1=some .local∨(scope.names.lookup y.1=some .cell∧((cellsFrom (s.heap.objs.size+1) scope.names []).lookup y.1).isSome=true):=fun ⟨n,v⟩ hy=>by
  rcases S.par n (List.of_mem_zip hy).1 with q | q
  ·exact .inl q
  ·exact .inr ⟨q,PySem.W.cellsFrom_some _ _ _ (.inl q)⟩
 refine codeAny_call_function hr.depth (KX _ _ lk) rfl S.co S.gen rfl (PySem.W.codeRec_of KX hcd) (hb _ _ _ _ ?_);refine wpAny_newFunctionEnv_cells S.kind hkind fun env he s1 x=>?_
 subst he;refine⟨lim.keeps x.toInCall.keep,codeAny_func ?_⟩;obtain⟨t,ht,hq⟩:=hbody A outer s H vs Q E (hr.deeper _) hsp;have I:Inv (cxOf CX P w K mg base N qual scope f cdv A outer s H E) [] (start N vs) H s1:=inv_start S hr.hd e0 hl r x;refine wpAny_mono (ht [] s1 (start N vs) H _ I hq) (fun fl s' hs=>?_) fun e s' hs=>hs
 have fin:∀ {σ':St}{H':Hp}{v:V}{u:Value},Inv (cxOf CX P w K mg base N qual scope f cdv A outer s H E) [] σ' H' s'→RelV v u→Q v H'→CE outer P w H s Q u s' :=
  fun {σ' H' v u} J rv q=>⟨v,H',J.os,J.bare,J.base,J.hok,rv,q⟩
 cases fl with
 | ret u =>
  obtain⟨v,σ',H',J,rv,q⟩:=hs;exact fin J rv q
 | next =>
  obtain⟨σ',H',J,q⟩:=hs;exact fin (v:=V.non) (u:=Value.none) J rfl q
 | brk =>
  obtain⟨_,_,_,q⟩:=hs;exact False.elim q
 | cont =>
  obtain⟨_,_,_,q⟩:=hs;exact False.elim q
end L2
namespace L2
open PySem PySem.Spec PyProof.Rows
section
variable {X:Cx}{x:Str}{p pos:Pos}{e:Expr}{es:List Expr}{t:TA}{id T:String}{r:List V→Hp→VK→Prop}
noncomputable def tCB (r:List V→Hp→VK→Prop) (t:TA):TE:=fun σ H Q=>t σ H fun vs H1=>r vs H1 Q
theorem pe_callB (hc:CallR X (.builtin id) r) (hg:Gl X x) (hm:X.mg x=none) (hv:bootBuiltins x=some (.builtin id)) (ha:PA X (e :: es) t) (hn:x ≠ "__name__" := by decide) (hdb:(x == ("__debug__" : Str))=false:=by decide)
  (he:starEach (e :: es) X.env=(false,eval e X.env) :: starEach es X.env:=by rfl) (hpl:(backTo pos (starEach es X.env)).any (·.1)=false:=by rfl):PE X (.Call (.Name x p) (e :: es) [] pos) (tCB r t):=by
 intro pins s σ H Q I h;refine wpAny_Call_Name_kw (ld_blt I hg hm hv ?_ hn hdb);exact PyProof.Rows.callWith_builtin1 (thn (ha pos pins s σ H _ I h) fun us s1 ⟨vs,H1,I1,r1,q1⟩=>hc pins s1 σ H1 vs us Q I1 r1 q1) he hpl
theorem pe_callTy (hc:CallR X (.type T) r) (hg:Gl X x) (hm:X.mg x=none) (hv:bootBuiltins x=some (.type T)) (ha:PA X (e :: es) t) (hn:x ≠ "__name__" := by decide) (hdb:(x == ("__debug__" : Str))=false:=by decide)
  (he:starEach (e :: es) X.env=(false,eval e X.env) :: starEach es X.env:=by rfl) (hpl:(backTo pos (starEach es X.env)).any (·.1)=false:=by rfl):PE X (.Call (.Name x p) (e :: es) [] pos) (tCB r t):=by
 intro pins s σ H Q I h;refine wpAny_Call_Name_kw (ld_blt I hg hm hv ?_ hn hdb);exact PyProof.Rows.callWith_type1 (thn (ha pos pins s σ H _ I h) fun us s1 ⟨vs,H1,I1,r1,q1⟩=>hc pins s1 σ H1 vs us Q I1 r1 q1) he hpl
end
end L2
namespace HT
open PySem PyProof.Rows
section
variable {prog:Program}{w:World}{A:Around}{E:Value→Shared→Prop}{s:Shared}
noncomputable def sIx (n d:Nat):Option Int→Nat
 | none=>d
 | some v=>if v<0 then (v+(n:Int)).toNat else min v.toNat n
theorem sIx_none (n d:Nat):sIx n d none=d:=rfl
theorem sIx_nat (n d k:Nat):sIx n d (some (k:Int))=min k n:=by
 show (if (k:Int)<0 then ((k:Int)+(n:Int)).toNat else min (k:Int).toNat n)=min k n;rw[if_neg (by omega),Int.toNat_natCast]
theorem sIx_le (n d:Nat) (hd:d≤n) (o:Option Int):sIx n d o≤n:=by
 cases o with
 | none=>exact hd
 | some v =>
  show (if v<0 then (v+(n:Int)).toNat else min v.toNat n)≤n;by_cases hv:v<0
  ·rw[if_pos hv];omega
  ·rw[if_neg hv];exact Nat.min_le_right _ _
theorem clip_eq (v:Int) (n d:Nat):(if v<0 then max (v+(n:Int)) 0 else min v (n:Int))=((sIx n d (some v):Nat):Int):=by
 show (if v<0 then max (v+(n:Int)) 0 else min v (n:Int))=(((if v<0 then (v+(n:Int)).toNat else min v.toNat n):Nat):Int);by_cases hv:v<0
 ·simp only[if_pos hv];omega
 ·simp only[if_neg hv];omega
theorem adjust_gen (lo hi:Option Int) (n:Nat):Builtin.Slice.sliceAdjust lo hi 1 (n:Int)=(((sIx n 0 lo:Nat):Int),((sIx n n hi:Nat):Int)):=by
 have h1:¬ ((1:Int)<0):=by omega
 unfold Builtin.Slice.sliceAdjust;simp only[h1,if_false];refine Prod.ext ?_ ?_
 ·cases lo with
  | none=>rfl
  | some v=>exact clip_eq v n 0
 ·cases hi with
  | none=>rfl
  | some v=>exact clip_eq v n n
theorem places_gen (i j:Nat):Builtin.Slice.slicePlaces (i:Int) (j:Int) 1=j-i:=by
 unfold Builtin.Slice.slicePlaces;have h1:(1:Int) > 0:=by omega
 simp only[h1,if_true,Int.ediv_one];split <;> omega
theorem slicePart_ {v:Value}{o:Option Int}{Q:Option Int→Shared→Prop} (p:IsPart v o) (h:Q o s):wpAny (model prog w) A (Builtin.Slice.slicePartIndex v) Q E s:=by
 cases p with
 | none=>exact slicePart_none h
 | int i t=>exact slicePart_int h
theorem sliceApplied_gen {sl:Addr}{vl vu:Value}{lo hi:Option Int}{n:Nat}{Q:Int × Int × Nat→Shared→Prop} (hs:s.heap.IsSliceOf sl vl vu .none) (pl:IsPart vl lo) (pu:IsPart vu hi)
  (h:Q (((sIx n 0 lo:Nat):Int),1,sIx n n hi-sIx n 0 lo) s):wpAny (model prog w) A (Builtin.Slice.sliceApplied (.ref sl) (pure (n:Int))) Q E s:=by
 obtain⟨os,hos,hcs,hds⟩:=id hs;unfold Builtin.Slice.sliceApplied Builtin.Slice.sliceFields;refine wpAny_bind (wpAny_bind (wpAny_field hos hds (x:=vl) rfl (wpAny_bind (wpAny_field hos hds (x:=vu) rfl (wpAny_bind (wpAny_field hos hds (x := .none) rfl (wpAny_pure ?_)))))));refine wpAny_bind (slicePart_none ?_);show wpAny _ _ (if ((1:Int) == 0)=true then _ else _) _ _ s;rw[if_neg (by decide)];refine wpAny_bind (slicePart_ pl (wpAny_bind (slicePart_ pu (wpAny_bind (wpAny_pure ?_)))));show wpAny _ _ (match Builtin.Slice.sliceAdjust lo hi 1 (n:Int) with | (lo,hi)=>pure (lo,(1:Int),Builtin.Slice.slicePlaces lo hi 1)) _ _ s;rw[adjust_gen lo hi n];show wpAny _ _ (pure (((sIx n 0 lo:Nat):Int),(1:Int),Builtin.Slice.slicePlaces ((sIx n 0 lo:Nat):Int) ((sIx n n hi:Nat):Int) 1)) _ _ s;rw[places_gen];exact wpAny_pure h
theorem pick_gen (xs:Array Value) (i k:Nat):((List.range k).filterMap fun (m:Nat)=>xs[((i:Int)+(m:Int) * 1).toNat]?).toArray=((xs.toList.drop i).take k).toArray:=by
 have e:(fun (m:Nat)=>xs[((i:Int)+(m:Int) * 1).toNat]?)=fun m=>xs[i+m]? := by
  funext m
  have:((i:Int)+(m:Int) * 1).toNat=i+m:=by omega
  rw[this]
 rw[e]
 have:=pick_run xs i k
 rw[List.filterMap_map] at this;have e2:((fun x=>xs[x]?) ∘ fun x=>i+x)=fun m=>xs[i+m]? := rfl
 rw[e2] at this;rw[this]
theorem getItem_tuple_cut {t sl:Addr}{items:Array Value}{vl vu:Value}{lo hi:Option Int}{Q:Value→Shared→Prop} (ht:IsTup s.heap t items) (hs:s.heap.IsSliceOf sl vl vu .none) (pl:IsPart vl lo) (pu:IsPart vu hi)
  (hw:¬ (sIx items.size 0 lo=0∧sIx items.size items.size hi=items.size))
  (h:Q (.ref s.heap.objs.size) { s with heap:=s.heap.push { cls := .type "tuple",data := .seq ((items.toList.drop (sIx items.size 0 lo)).take (sIx items.size items.size hi-sIx items.size 0 lo)).toArray } })
  (hsz:items.size≤sizeLine):wpAny (model prog w) A (getItem (.ref t) (.ref sl)) Q E s:=by
 have htake:sizeOk (.seq ((items.toList.drop (sIx items.size 0 lo)).take (sIx items.size items.size hi-sIx items.size 0 lo)).toArray):=by
  show ((items.toList.drop (sIx items.size 0 lo)).take (sIx items.size items.size hi-sIx items.size 0 lo)).toArray.size≤sizeLine;rw[List.size_toArray,List.length_take,List.length_drop,Array.length_toList];omega
 have hj:sIx items.size items.size hi≤items.size:=sIx_le _ _ (Nat.le_refl _) hi;obtain⟨os,hos,hcs,hds⟩:=id hs;have hTs:s.TypeIs (.ref sl) "slice" := ⟨os,hos,hcs⟩;unfold getItem
 try with_reducible refine wpAny_holding ?_
 first | refine wpAny_bind (wpAny_pure ?_) | skip
 refine wpAny_bind (wpAny_sequenceKey ht.typeIs (by decide) ?_);refine wpAny_bind (wpAny_callSpecial?_slot (name:=Str.ofString "__getitem__") ht.typeIs PyProof.Rows.slot_tuple_getitem
  (wpAny_call_entry PyProof.Rows.slot_tuple_getitem ht.typeIs entry_tuple_getitem ?_ (args_tuple_getitem _ _)))
 show wpAny _ _ (Builtin.Tuple.tupleItemsOf (.ref t) >>= _) _ _ s;refine wpAny_bind (tupleItemsOf_ ht ?_);refine wpAny_bind (wpAny_typeOf hTs ?_);rw[if_pos (by decide)];refine wpAny_bind (sliceApplied_gen hs pl pu ?_);have hno:¬ ((((sIx items.size 0 lo:Nat):Int) == 0 && (1:Int) == 1 && (sIx items.size items.size hi-sIx items.size 0 lo) == items.size)=true):=by
  intro q;rw[Bool.and_eq_true,Bool.and_eq_true] at q;have q1:((sIx items.size 0 lo:Nat):Int)=0:=eq_of_beq q.1.1;have q2:sIx items.size items.size hi-sIx items.size 0 lo=items.size:=eq_of_beq q.2;exact hw ⟨by omega,by omega⟩
 show wpAny _ _ (if (((sIx items.size 0 lo:Nat):Int) == 0 && (1:Int) == 1 && (sIx items.size items.size hi-sIx items.size 0 lo) == items.size)=true then _ else _) _ _ s;rw[if_neg hno,pick_gen]
 first
  | exact wpAny_bind (m:=Builtin.Tuple.tupleExact _) (wpAny_newObj_type (wpAny_pure ⟨_,rfl,wpAny_pure h⟩) htake)
  | exact wpAny_bind (m:=Builtin.Tuple.tupleExact _) (wpAny_newObj_type (wpAny_bind (wpAny_pure (wpAny_pure ⟨_,rfl,wpAny_pure h⟩))) htake)
  | exact wpAny_bind (wpAny_bind (m:=Builtin.Tuple.tupleExact _) (wpAny_newObj_type (wpAny_pure (wpAny_pure ⟨_,rfl,wpAny_pure h⟩)) htake))
  | exact wpAny_bind (wpAny_bind (m:=Builtin.Tuple.tupleExact _) (wpAny_newObj_type (wpAny_pure ⟨_,rfl,wpAny_pure h⟩) htake))
end
end HT
namespace L2
open PySem PySem.Spec PyProof.Rows
noncomputable abbrev TO:=St→Hp→(Option Int→Hp→Prop)→Prop
noncomputable def PO (X:Cx) (e:Option Expr) (t:TO):Prop :=
 ∀ (pins:List (Addr × Obj)) (s:Shared) (σ:St) (H:Hp) (Q:Option Int→Hp→Prop),Inv X pins σ H s→t σ H Q →
  wpAny (model X.prog X.w) X.A (evalPart e X.env) (fun u s'=>∃ o H',Inv X pins σ H' s'∧IsPart u o∧Q o H') X.xe s
noncomputable def tNoPart:TO:=fun _ H Q=>Q none H
noncomputable def tPart (t:TE):TO:=fun σ H Q=>t σ H fun x H1=>∃ i,x = .int i∧Q (some i) H1
theorem intsAre_of {ns:List Int}:∀ {us:List Value},Vals (ns.map V.int) us→IntsAre us ns:=by
 induction ns with
 | nil=>intro us r;rw[List.map_nil] at r;cases r;exact .nil
 | cons n ns ih =>
  intro us r;rw[List.map_cons] at r;cases r with
  | cons r1 r2 =>
   obtain⟨t,e⟩:=r1;subst e;exact .cons n t (ih r2)
section
variable {X:Cx}{e:Expr}{te:TE}{lo hi:Option Expr}{tl th:TO}{pos p2:Pos}
theorem po_none:PO X none tNoPart:=by
 intro pins s σ H Q I h;rw[evalPart_none];exact wpAny_pure ⟨none,H,I,.none,h⟩
theorem po_some (h:PE X e te):PO X (some e) (tPart te):=by
 intro pins s σ H Q I hw;rw[evalPart_some];refine thn (h pins s σ H _ I hw) fun u s1 ⟨x,H1,I1,r1,q1⟩=>?_
 obtain⟨i,rfl,q⟩:=q1;obtain⟨t,rfl⟩:=r1;exact⟨some i,H1,I1,.int i t,q⟩
noncomputable def SlR (X:Cx) (r:V→Option Int→Option Int→Hp→VK→Prop):Prop :=
 ∀ (pins:List (Addr × Obj)) (s:Shared) (σ:St) (H:Hp) (x:V) (v vl vu:Value) (lo hi:Option Int) (sl:Addr) (Q:VK),Inv X pins σ H s→RelV x v→s.heap.IsSliceOf sl vl vu .none→IsPart vl lo→IsPart vu hi→r x lo hi H Q →
  ∃ T id,typeLookup (.type T) "__getitem__" = pure (some (.builtin id))∧s.TypeIs v T∧wpAny (model X.prog X.w) X.A (getItem v (.ref sl)) (EP X pins σ Q) X.xe s
noncomputable def tSl (r:V→Option Int→Option Int→Hp→VK→Prop) (te:TE) (tl th:TO):TE:=fun σ H Q=>te σ H fun x H1=>tl σ H1 fun l H2=>th σ H2 fun u H3=>r x l u H3 Q
theorem pe_slice {r:V→Option Int→Option Int→Hp→VK→Prop} (hr:SlR X r) (he:PE X e te) (hl:PO X lo tl) (hu:PO X hi th):PE X (.Subscript e (.Slice lo hi none p2) pos) (tSl r te tl th):=by
 intro pins s σ H Q I h;refine Subscript_ (thn (he pins s σ H _ I h) fun v s1 ⟨x,H1,I1,r1,q1⟩=>?_);refine wpAny_Slice (thn (hl pins s1 σ H1 _ I1 q1) fun vl s2 ⟨l,H2,I2,pl,q2⟩=>thn (hu pins s2 σ H2 _ I2 q2) fun vu s3 ⟨u,H3,I3,pu,q3⟩=>?_);rw[evalPart_none];refine wpAny_pure ?_;have I4:Inv X pins σ H3 { s3 with heap:=s3.heap.push { cls := .type "slice",data := .fields #[vl,vu,.none] } }:=I3.kept (t':=s3.toks) fun b ob q=>Heap.get?_push_of_some _ q
 obtain⟨T,id,hT,ht,hg⟩:=hr pins { s3 with heap:=s3.heap.push { cls := .type "slice",data := .fields #[vl,vu,.none] } } σ H3 x v vl vu l u s3.heap.objs.size Q I4 r1 (Heap.IsSliceOf.new ..) pl pu q3;show wpAny (model X.prog X.w) X.A (subscriptTail e (.Slice lo hi none p2) v (.ref s3.heap.objs.size)) (EP X pins σ Q) X.xe { s3 with heap:=s3.heap.push { cls := .type "slice",data := .fields #[vl,vu,.none] } };exact tail_any (ops:=[.ref s3.heap.objs.size,v]) ht hT hg (by with_unfolding_all rfl)
noncomputable def cutV (xs:List V) (lo hi:Option Int):List V:=(xs.drop (HT.sIx xs.length 0 lo)).take (HT.sIx xs.length xs.length hi-HT.sIx xs.length 0 lo)
theorem cutV_length (xs:List V) (lo hi:Option Int):(cutV xs lo hi).length≤xs.length:=by
 unfold cutV;rw[List.length_take,List.length_drop];exact Nat.le_trans (Nat.min_le_right _ _) (Nat.sub_le _ _)
noncomputable def rSlT (K:PySem.W.Frag):V→Option Int→Option Int→Hp→VK→Prop:=fun x lo hi H Q=>∃ a xs,x = .ref a∧SqT K H a xs ∧
 ¬ (HT.sIx xs.length 0 lo=0∧HT.sIx xs.length xs.length hi=xs.length)∧∀ p,H p=none→Q (.ref p) (upd H p (.tup (cutV xs lo hi)))
theorem sl_tup:SlR X (rSlT X.K):=by
 intro pins s σ H x v vl vu lo hi sl Q I rx hs pl pu h;obtain⟨a,xs,rfl,hx,hw,q⟩:=h;cases rx;obtain⟨its,r,ht,hz⟩:=I.tuple hx;have hlen:its.toArray.size=xs.length:=by rw[List.size_toArray];exact r.length.symm
 refine⟨"tuple",_,PyProof.Rows.slot_tuple_getitem.lookup,ht.typeIs,?_⟩;refine HT.getItem_tuple_cut ht hs pl pu (by rw[hlen];exact hw) ?_ (by rw[hlen];exact hz);rw[hlen];refine⟨.ref s.heap.objs.size,_,I.laid (t':=s.toks) (o := .tup (cutV xs lo hi)) (fun b ob q=>Heap.get?_push_of_some _ q) (Nat.le_refl _) ?_,rfl,q _ (I.hok.fresh (Nat.le_refl _))⟩;exact⟨Nat.le_trans (cutV_length xs lo hi) hz,_,(r.drop (HT.sIx xs.length 0 lo)).take (HT.sIx xs.length xs.length hi-HT.sIx xs.length 0 lo),IsTup.new _ _⟩
end
end L2
namespace L2
open PySem PySem.Spec PyProof.Rows
noncomputable def ixN (n:Nat) (i:Int):Option Nat:=if 0≤i then (if i<n then some i.toNat else none) else if -(n:Int)≤i then some (i+n).toNat else none
noncomputable def atI {α : Type} (xs:List α) (i:Int):Option α := (ixN xs.length i).bind fun j=>xs[j]?
theorem ixN_seq {n:Nat}{i:Int}{j:Nat} (h:ixN n i=some j):seqIndex? i n=some j∧j<n ∧ -(n:Int)≤i∧i<n:=by
 unfold ixN at h;by_cases h0:0≤i
 ·rw[if_pos h0] at h;by_cases h1:i<n
  ·rw[if_pos h1] at h;have e:i.toNat=j:=Option.some.inj h;exact⟨by rw[seqIndex_of h0 h1,e],by omega,by omega,h1⟩
  ·rw[if_neg h1] at h;cases h
 ·rw[if_neg h0] at h;by_cases h1 : -(n:Int)≤i
  ·rw[if_pos h1] at h;have e:(i+n).toNat=j:=Option.some.inj h;exact⟨by rw[seqIndex_neg (by omega) h1,e],by omega,h1,by omega⟩
  ·rw[if_neg h1] at h;cases h
theorem atI_get {α : Type}{xs:List α}{i:Int}{v : α} (h:atI xs i=some v):∃ j,seqIndex? i xs.length=some j∧xs[j]? = some v∧j<xs.length ∧ -(xs.length:Int)≤i∧i<xs.length:=by
 unfold atI at h;cases e:ixN xs.length i with
 | none=>rw[e] at h;cases h
 | some j =>
  rw[e] at h;obtain⟨h1,h2,h3,h4⟩:=ixN_seq e;exact⟨j,h1,h,h2,h3,h4⟩
theorem atI_nat {α : Type}{xs:List α}{j:Nat}{v : α} (h:xs[j]? = some v):atI xs (j:Int)=some v:=by
 have hj:j<xs.length:=(List.getElem?_eq_some_iff.mp h).1;have e:ixN xs.length (j:Int)=some j:=by
  unfold ixN;rw[if_pos (by omega),if_pos (by omega)];simp
 unfold atI;rw[e];exact h
noncomputable def PlainIx (b:Expr):Prop:=∀ o i,subscripted b false o i=operate [o,i] (getItem o i)
noncomputable def IxR (X:Cx) (r:R2):Prop :=
 ∀ (value slice:Expr) (pins:List (Addr × Obj)) (s:Shared) (σ:St) (H:Hp) (x y:V) (v u:Value) (Q:VK),Inv X pins σ H s→RelV x v→RelV y u→r x y H Q →
  subscripted slice false v u=operate [v,u] (getItem v u)→wpAny (model X.prog X.w) X.A (subscriptTail value slice v u) (EP X pins σ Q) X.xe s
noncomputable def MtR (X:Cx) (id:String) (r:V→List V→Hp→VK→Prop):Prop :=
 ∀ (pins:List (Addr × Obj)) (s:Shared) (σ:St) (H:Hp) (x:V) (xs:List V) (v:Value) (us:List Value) (Q:VK),Inv X pins σ H s→RelV x v→Vals xs us→r x xs H Q →
  wpAny (model X.prog X.w) X.A (call (.builtin id) (v :: us)) (EP X pins σ Q) X.xe s
section
variable {X:Cx}{a b:Expr}{ta tb:TE}{pos:Pos}
theorem pe_ix {r:R2} (hr:IxR X r) (ha:PE X a ta) (hb:PE X b tb) (hs:PlainIx b):PE X (.Subscript a b pos) (tOp r ta tb):=by
 intro pins s σ H Q I h;exact Subscript_ (binT ha hb I h fun v u s2 x y H2 I2 rx ry q=>hr a b pins s2 σ H2 x y v u Q I2 rx ry q (hs _ _))
noncomputable def rIxL (K:PySem.W.Frag):R2:=fun x y H Q=>∃ p xs i v,x = .ref p∧y = .int i∧SqL K H p xs∧atI xs i=some v∧Q v H
noncomputable def rIxT (K:PySem.W.Frag):R2:=fun x y H Q=>∃ p xs i v,x = .ref p∧y = .int i∧SqT K H p xs∧atI xs i=some v∧Q v H
theorem ix_list:IxR X (rIxL X.K):=by
 intro value slice pins s σ H x y v u Q I rx ry h hs;obtain⟨p,xs,i,z,rfl,rfl,hq,he,q⟩:=h;cases rx;obtain⟨t,rfl⟩:=ry;obtain⟨its,r,pl,hz⟩:=I.list hq;obtain⟨j,h1,h2,h3,h4,h5⟩:=atI_get he;obtain⟨w,ew,rw'⟩:=r.get h2;have hl:=r.length;have hn:=line63;have fin:EP X pins σ Q w s:=⟨z,H,I,rw',q⟩;by_cases h0:0≤i
 ·have hj:i.toNat=j:=by
   rw[seqIndex_of h0 h5] at h1;exact Option.some.inj h1
  exact item_listR pl.isList h0 (by omega) (by rw[hj];simpa using ew) fin hs
 ·have hj:(i+(its.toArray.size:Int)).toNat=j:=by
   rw[seqIndex_neg (by omega) h4] at h1;rw[List.size_toArray,← hl];exact Option.some.inj h1
  exact subscriptTail_builtinR (x:=w) pl.isList.typeIs slot_list_getitem.lookup
   (wpAny_getItem_list_neg (Q:=fun r s'=>r=w∧EP X pins σ Q r s') pl.isList (by omega) (by rw[List.size_toArray] <;> omega) (by omega) (by rw[hj];simpa using ew) ⟨rfl,fin⟩) hs
theorem ix_tup:IxR X (rIxT X.K):=by
 intro value slice pins s σ H x y v u Q I rx ry h hs;obtain⟨p,xs,i,z,rfl,rfl,hq,he,q⟩:=h;cases rx;obtain⟨t,rfl⟩:=ry;obtain⟨its,r,pl,hz⟩:=I.tuple hq;obtain⟨j,h1,h2,h3,h4,h5⟩:=atI_get he;obtain⟨w,ew,rw'⟩:=r.get h2;have hl:=r.length;have hn:=line63;have fin:EP X pins σ Q w s:=⟨z,H,I,rw',q⟩;exact subscriptTail_builtinR (x:=w) pl.typeIs slot_tuple_getitem.lookup
  (getItem_tuple (j:=j) (Q:=fun r s'=>r=w∧EP X pins σ Q r s') pl (by omega) (by omega) (by rw[List.size_toArray,← hl];exact h1) (by simpa using ew) ⟨rfl,fin⟩) hs
theorem mapSeq_set (its:List Value) (n j:Nat) (u:Value):Obj.mapSeq (·.setIfInBounds j u) { cls := .type "list",data := .seq its.toArray n }={ cls := .type "list",data := .seq (its.set j u).toArray n }:=by
 simp[Obj.mapSeq]
theorem Inv.lst {pins:List (Addr × Obj)} {σ:St}{H:Hp}{s:Shared}{p:Addr}{xs:List V} (I:Inv X pins σ H s) (h:H p=some (.lst xs)) :
  ∃ (its:List Value) (n:Nat),Vals xs its∧s.heap.get? p=some { cls := .type "list",data := .seq its.toArray n }∧xs.length≤sizeLine:=by
 obtain⟨z,its,n,r,e⟩:=I.hok p _ h;exact⟨its,n,r,e,z⟩
theorem Inv.lstUpd {pins:List (Addr × Obj)} {σ:St}{H:Hp}{s:Shared}{p:Addr}{xs ys:List V}{its its':List Value}{n n':Nat}{f:Obj→Obj} (I:Inv X pins σ H s) (h:H p=some (.lst xs))
  (ho:s.heap.get? p=some { cls := .type "list",data := .seq its.toArray n }) (hf:f { cls := .type "list",data := .seq its.toArray n }={ cls := .type "list",data := .seq its'.toArray n' }) (r:Vals ys its') (hz:ys.length≤sizeLine) (t:Nat) :
  Inv X pins σ (upd H p (.lst ys)) { s with heap:=s.heap.update p f,toks:=t }:=by
 have e:(s.heap.update p f).get? p=some { cls := .type "list",data := .seq its'.toArray n' }:=by
  rw[Heap.get?_update_self f ho (by rw[hf] <;> rfl),hf]
 refine I.write (x:=p) (e:=p) (by rw[h];trivial) (.inl rfl) (fun b u hb q=>(Heap.get?_update_other _ _ (Ne.symm hb)).trans q) ⟨_,e⟩ ?_;exact⟨hz,its',n',r,e⟩
noncomputable def rSetL:V→V→V→Hp→(Hp→Prop)→Prop:=fun o i v H Q=>∃ p xs k j,o = .ref p∧i = .int k∧H p=some (.lst xs)∧ixN xs.length k=some j∧Q (upd H p (.lst (xs.set j v)))
theorem set_list:PSet X rSetL:=by
 intro pins s σ H o i v ov iv u Q I ro ri rv h;obtain⟨p,xs,k,j,rfl,rfl,hp,hj,q⟩:=h;cases ro;obtain⟨t,rfl⟩:=ri;obtain⟨its,n,r,ho,hz⟩:=I.lst hp;obtain⟨h1,h2,h3,h4⟩:=ixN_seq hj;have hl:=r.length;have hn:=line63;have I':Inv X pins σ (upd H p (.lst (xs.set j v))) { s with heap:=s.heap.update p (Obj.mapSeq (·.setIfInBounds j u)) } :=
  I.lstUpd hp ho (mapSeq_set its n j u) (r.set rv j) (by rw[List.length_set];exact hz) s.toks
 by_cases h0:0≤k
 ·have hk:k.toNat=j:=by
   rw[seqIndex_of h0 h4] at h1;exact Option.some.inj h1
  exact PySem.W.ki_setAt ho h0 (by omega) (by rw[List.size_toArray,← hl];exact h4) (by rw[hk];exact⟨_,I',q⟩)
 ·have hk:(k+(its.toArray.size:Int)).toNat=j:=by
   rw[seqIndex_neg (by omega) h3] at h1;rw[List.size_toArray,← hl];exact Option.some.inj h1
  exact PySem.W.ki_setBack ho (by omega) (by rw[List.size_toArray,← hl];exact h3) (by omega) (by rw[hk];exact⟨_,I',q⟩)
theorem sb_neg {i:Int}{n:Nat} (h:i<0):max 0 (min (i+(n:Int)) n)=(((i+n).toNat:Nat):Int):=by
 rw[Int.min_eq_left (by omega),Int.ofNat_toNat,Int.max_comm]
theorem sb_pos {i:Int}{n:Nat} (h:¬ i<0):max 0 (min i (n:Int))=((min i.toNat n:Nat):Int):=by
 obtain⟨k,rfl⟩:=Int.eq_ofNat_of_zero_le (Int.not_lt.mp h);rw[Int.toNat_natCast];rcases Nat.le_total k n with h | h
 ·rw[Nat.min_eq_left h,Int.min_eq_left (Int.ofNat_le.mpr h),Int.max_eq_right (Int.natCast_nonneg _)]
 ·rw[Nat.min_eq_right h,Int.min_eq_right (Int.ofNat_le.mpr h),Int.max_eq_right (Int.natCast_nonneg _)]
theorem slice_bounds (lo hi:Option Int) (n:Nat):(sliceBounds lo hi none n).1=((HT.sIx n 0 lo:Nat):Int)∧(sliceBounds lo hi none n).2.1=((HT.sIx n n hi:Nat):Int)∧(sliceBounds lo hi none n).2.2=1:=by
 refine⟨?_,?_,rfl⟩
 ·cases lo with
  | none=>simp[sliceBounds,HT.sIx]
  | some i =>
   simp only[sliceBounds,HT.sIx,Option.getD_none,show (1:Int) > 0 by decide,if_true];by_cases h:i<0
   ·simp only[h,if_true];exact sb_neg h
   ·simp only[h,if_false];exact sb_pos h
 ·cases hi with
  | none=>simp[sliceBounds,HT.sIx]
  | some i =>
   simp only[sliceBounds,HT.sIx,Option.getD_none,show (1:Int) > 0 by decide,if_true];by_cases h:i<0
   ·simp only[h,if_true];exact sb_neg h
   ·simp only[h,if_false];exact sb_pos h
theorem slicePick_cut (its:List Value) (lo hi:Option Int):slicePick its.toArray lo hi none=((its.drop (HT.sIx its.length 0 lo)).take (HT.sIx its.length its.length hi-HT.sIx its.length 0 lo)).toArray:=by
 obtain⟨h1,h2,h3⟩:=slice_bounds lo hi its.toArray.size;unfold slicePick;rw[h1,h2,h3];simp only[sliceRange_one,pick_run,List.size_toArray] <;> rfl
noncomputable def rSlL (K:PySem.W.Frag):V→Option Int→Option Int→Hp→VK→Prop:=fun x lo hi H Q=>∃ a xs,x = .ref a∧SqL K H a xs∧∀ p,H p=none→Q (.ref p) (upd H p (.lst (cutV xs lo hi)))
theorem sl_list:SlR X (rSlL X.K):=by
 intro pins s σ H x v vl vu lo hi sl Q I rx hs pl pu h;obtain⟨a,xs,rfl,hx,q⟩:=h;cases rx;obtain⟨its,r,ht,hz⟩:=I.list hx;have hlen:=r.length;refine⟨"list",_,slot_list_getitem.lookup,ht.isList.typeIs,?_⟩;refine wpAny_getItem_list_slice ht.isList hs pl pu .none (by simp) ?_ (by rw[List.size_toArray] <;> omega);rw[slicePick_cut,← hlen];refine⟨.ref s.heap.objs.size,_,I.laid (t':=s.toks) (o := .lst (cutV xs lo hi)) (fun b ob q=>Heap.get?_push_of_some _ q) (Nat.le_refl _) ?_,rfl,q _ (I.hok.fresh (Nat.le_refl _))⟩;exact⟨Nat.le_trans (cutV_length xs lo hi) hz,_,0,(r.drop (HT.sIx xs.length 0 lo)).take (HT.sIx xs.length xs.length hi-HT.sIx xs.length 0 lo),Heap.get?_push_size _ rfl⟩
theorem call_len_seq:CallR X (.builtin "len") (fun xs H Q=>∃ p ys,xs=[.ref p]∧(SqL X.K H p ys∨SqT X.K H p ys)∧Q (.int ys.length) H):=by
 intro pins s σ H xs us Q I r h;obtain⟨p,ys,rfl,hq,q⟩:=h;obtain⟨u,rfl,rx⟩:=vals1 r;cases rx;have hn:=line63;rcases hq with hq | hq
 ·obtain⟨its,r',pl,hz⟩:=I.list hq;have hlen:=r'.length;exact Calls.call_len_list pl.isList (by simp only[List.size_toArray] <;> omega) ⟨.int ys.length,H,I.tok _,⟨s.toks+1,by rw[List.size_toArray,hlen]⟩,q⟩
 ·obtain⟨its,r',pl,hz⟩:=I.tuple hq;have hlen:=r'.length;exact len_tuple pl (by simp only[List.size_toArray] <;> omega) ⟨.int ys.length,H,I.tok _,⟨s.toks+1,by rw[List.size_toArray,hlen]⟩,q⟩
theorem call_list_of:CallR X (.type "list") (fun xs H Q=>∃ p ys,xs=[.ref p]∧(SqL X.K H p ys∨SqT X.K H p ys)∧∀ l,H l=none→Q (.ref l) (upd H l (.lst ys))):=by
 intro pins s σ H xs us Q I r h;obtain⟨p,ys,rfl,hq,q⟩:=h;obtain⟨u,rfl,rx⟩:=vals1 r;cases rx;have fin:∀ (its:List Value),Vals ys its→ys.length≤sizeLine→∀ (h':Heap) (c':Nat),(∀ b o',s.heap.get? b=some o'→h'.get? b=some o') →
   h'.get? s.heap.objs.size=some { cls := .type "list",dict:=none,data := .seq its.toArray c',slots := #[] }→EP X pins σ Q (.ref s.heap.objs.size) { s with heap:=h' }:=fun its r' hz h' c' kp e =>
  ⟨.ref s.heap.objs.size,_,I.laid (t':=s.toks) kp (Nat.le_refl _) (show ObjOk X.prog X.w _ h' _ (.lst ys) from ⟨hz,its,c',r',e⟩),rfl,q _ (I.hok.fresh (Nat.le_refl _))⟩
 rcases hq with hq | hq
 ·obtain⟨its,r',pl,hz⟩:=I.list hq;have hlen:=r'.length;obtain⟨o,ho,hc,n,hd⟩:=pl.isList;exact call_list_seq p (.inl rfl) ho hc hd (fun h' c' kp e=>fin its r' hz h' c' kp e) (by simp only[List.size_toArray] <;> omega)
 ·obtain⟨its,r',pl,hz⟩:=I.tuple hq;have hlen:=r'.length;obtain⟨o,ho,hc,n,hd⟩:=pl;exact call_list_seq p (.inr rfl) ho hc hd (fun h' c' kp e=>fin its r' hz h' c' kp e) (by simp only[List.size_toArray] <;> omega)
noncomputable def tyV (K:PySem.W.Frag) (T:String) (x:V) (H:Hp):Prop:=match x with
 | .str _=>T = "str"
 | .int _=>T = "int"
 | .ref p=>(T = "list" ∧ ∃ xs,SqL K H p xs)∨(T = "tuple" ∧ ∃ o,K.lookup p=some o∧o.cls = .type "tuple" ∧ o.dict=none) ∨
   (T = "dict" ∧ ((∃ kvs,H p=some (.dK kvs))∨∃ kvs,H p=some (.dT kvs)))∨(T = "set" ∧ ∃ S n,H p=some (.set S n))
 | _=>False
theorem tyV_is {pins:List (Addr × Obj)} {σ:St}{H:Hp}{s:Shared}{T:String}{x:V}{v:Value} (I:Inv X pins σ H s) (r:RelV x v) (ty:tyV X.K T x H) :
  s.TypeIs v T∧∀ a,v = .ref a→∃ ob,s.heap.get? a=some ob∧ob.dict=none:=by
 cases x with
 | str z =>
  obtain⟨t,rfl⟩:=r;cases (show T = "str" from ty);exact⟨typeIs_str s z t,fun _ e=>nomatch e⟩
 | int i =>
  obtain⟨t,rfl⟩:=r;cases (show T = "int" from ty);exact⟨typeIs_int s i t,fun _ e=>nomatch e⟩
 | ref p =>
  cases r;rcases ty with ⟨rfl,xs,hq⟩ | ⟨rfl,o,hk,hc,hd⟩ | ⟨rfl,hk⟩ | ⟨rfl,S,n,hk⟩
  ·obtain⟨its,_,pl,_⟩:=I.list hq;refine⟨pl.isList.typeIs,fun a e=>?_⟩;cases e;obtain⟨o,n,e,c,hd,_⟩:=pl;exact⟨o,e,hd⟩
  ·refine⟨⟨o,I.kIn p o hk,hc⟩,fun a e=>?_⟩;cases e;exact⟨o,I.kIn _ o hk,hd⟩
  ·have z:∃ o,s.heap.get? p=some o∧o.ExactDict:=by
    rcases hk with ⟨kvs,hk⟩ | ⟨kvs,hk⟩
    ·obtain⟨_,_,_,_,o,_,_,e,ex,_⟩:=I.hok p _ hk;exact⟨o,e,ex⟩
    ·obtain⟨_,_,_,_,o,_,_,e,ex,_⟩:=I.hok p _ hk;exact⟨o,e,ex⟩
   obtain⟨o,e,ex⟩:=z;refine⟨⟨o,e,ex.1⟩,fun a e2=>?_⟩;cases e2;exact⟨o,e,ex.2.1⟩
  ·obtain⟨o,_,_,_,e,ex,_⟩:=I.hok p _ hk;refine⟨⟨o,e,ex.1⟩,fun a e2=>?_⟩;cases e2;exact⟨o,e,ex.2.1⟩
 | _=>exact False.elim ty
noncomputable def tBM0 (K:PySem.W.Frag) (T:String) (r:V→List V→Hp→VK→Prop) (to:TE):TE:=fun σ H Q=>to σ H fun x H1=>tyV K T x H1∧r x [] H1 Q
noncomputable def tBM (K:PySem.W.Frag) (T:String) (r:V→List V→Hp→VK→Prop) (to:TE) (t:TA):TE:=fun σ H Q=>to σ H fun x H1=>tyV K T x H1∧t σ H1 fun xs H2=>r x xs H2 Q
variable {o e:Expr}{es:List Expr}{to:TE}{t:TA}{name:Str}{apos cpos:Pos}{T id:String}{r:V→List V→Hp→VK→Prop}
theorem pe_bm0 (pa:PlainAttrs T) (slot:Slot T name id) (hty:typeOf (.builtin id)=pure (.type "method_descriptor")) (hm:MtR X id r) (ho:PE X o to)
  (hbase:attributeBase o name X.env (eval o X.env)=eval o X.env:=by rfl) (hline:(apos.endLine == cpos.line)=true:=by rfl):PE X (.Call (.Attribute o name apos) [] [] cpos) (tBM0 X.K T r to):=by
 intro pins s σ H Q I h;refine wpAny_Call_method0_late hbase hline (thn (ho pins s σ H _ I h) fun v s1 ⟨x,H1,I1,r1,ty,q1⟩=>?_);obtain⟨h1,h2⟩:=tyV_is I1 r1 ty;exact⟨T,id,pa,slot,hty,h1,h2,Calls.callWith_builtin rfl (PySem.evalArgs_none (hm pins s1 σ H1 x [] v [] Q I1 r1 .nil q1))⟩
theorem pe_bm (pa:PlainAttrs T) (slot:Slot T name id) (hty:typeOf (.builtin id)=pure (.type "method_descriptor")) (hm:MtR X id r) (ho:PE X o to) (ha:PA X (e :: es) t)
  (hbase:attributeBase o name X.env (eval o X.env)=eval o X.env:=by rfl)
  (hfew:((backTo cpos (starEach (e :: es) X.env)).all (fun x => !x.1) && (backToKw cpos (keywordEach [] X.env)).all (fun x=>x.1.isSome)
   && decide ((e :: es).length+([]:List Keyword).length+(if ([]:List Keyword).isEmpty then 0 else 1)<30))=true:=by rfl)
  (hline:(apos.endLine == cpos.line)=true:=by rfl) (hs:starEach (e :: es) X.env=(false,eval e X.env) :: starEach es X.env:=by rfl) (hplain:(backTo cpos (starEach es X.env)).any (·.1)=false:=by rfl) :
  PE X (.Call (.Attribute o name apos) (e :: es) [] cpos) (tBM X.K T r to t):=by
 intro pins s σ H Q I h;refine wpAny_Call_method_late hbase hfew hline rfl (thn (ho pins s σ H _ I h) fun v s1 ⟨x,H1,I1,r1,ty,q1⟩=>?_);obtain⟨h1,h2⟩:=tyV_is I1 r1 ty;refine⟨T,id,pa,slot,hty,h1,h2,?_⟩;have hA:=ha cpos pins s1 σ H1 _ I1 q1;rw[hs] at hA ⊢;refine Calls.callWith_builtin (by show (false || (backTo cpos (starEach es X.env)).any (·.1))=false;rw[hplain] <;> rfl) (Calls.evalArgs_plain ?_);exact thn hA fun us s2 ⟨vs,H2,I2,r2,q2⟩=>hm pins s2 σ H2 x vs v us Q I2 r1 r2 q2
end
end L2
namespace L2
open PySem PySem.Spec PyProof.Rows
noncomputable def MtM (X:Cx) (id:String) (r:V→List V→Hp→VK→Prop):Prop :=
 ∀ (pins:List (Addr × Obj)) (s:Shared) (σ:St) (H:Hp) (x:V) (xs:List V) (v:Value) (us:List Value) (Q:VK),Inv X pins σ H s→RelV x v→Vals xs us→r x xs H Q →
  wpAny (model X.prog X.w) X.A (call (.builtin id) (v :: us)) (EP X pins σ Q) X.xe s
theorem Vals.one {x:V}{us:List Value} (h:Vals [x] us):∃ u,us=[u]∧RelV x u:=by
 cases h with | cons r t=>cases t;exact⟨_,rfl,r⟩
theorem Vals.zero:∀ {us:List Value},Vals [] us→us=[]
 | _,.nil=>rfl
theorem Vals.dropLast {xs:List V}{us:List Value} (h:Vals xs us):Vals xs.dropLast us.dropLast:=by
 induction h with
 | nil=>exact .nil
 | cons r t ih =>
  cases t with
  | nil=>exact .nil
  | cons q t'=>exact .cons r ih
theorem erase_last {α : Type} (l:List α):l.eraseIdx (l.length-1)=l.dropLast:=by
 induction l with
 | nil=>rfl
 | cons a r ih =>
  cases r with
  | nil=>rfl
  | cons b r =>
   have e:(a :: b :: r).length-1=((b :: r).length-1)+1:=by
    have h1:(a :: b :: r).length=r.length+2:=rfl;have h2:(b :: r).length=r.length+1:=rfl;omega
   rw[e,List.eraseIdx_cons_succ,ih]
   all_goals rfl
section
variable {X:Cx}{pins:List (Addr × Obj)} {σ:St}{H:Hp}{s:Shared}{l b:Addr}{xs ys zs:List V}
theorem Inv.lset {its its':List Value}{n:Nat}{f:Array Value→Array Value}{t':Nat} (I:Inv X pins σ H s) (hH:H l=some (.lst xs))
  (e:s.heap.get? l=some { cls := .type "list",data := .seq its.toArray n }) (hf:f its.toArray=its'.toArray) (hv:Vals ys its') (hz:ys.length≤sizeLine) :
  Inv X pins σ (upd H l (.lst ys)) { s with heap:=s.heap.update l (Obj.mapSeq f),toks:=t' }:=by
 have q:=PySem.IsL.update e f;rw[hf] at q;refine I.write (x:=l) (e:=l) (by rw[hH];exact trivial) (.inl rfl) (fun b' u hb hu=>(Heap.get?_update_other s.heap (Obj.mapSeq f) (Ne.symm hb)).trans hu) ⟨_,q⟩ ?_;exact⟨hz,its',_,hv,q⟩
theorem Inv.lnew {its:List Value}{t':Nat} (I:Inv X pins σ H s) (hv:Vals ys its) (hz:ys.length≤sizeLine) :
  Inv X pins σ (upd H s.heap.objs.size (.lst ys)) { s with heap:=s.heap.push { cls := .type "list",data := .seq its.toArray },toks:=t' } :=
 I.laid (fun _ _ q=>Heap.get?_push_of_some _ q) (Nat.le_refl _) ⟨hz,its,0,hv,Heap.get?_push_size _ rfl⟩
theorem Inv.fresh (I:Inv X pins σ H s):H s.heap.objs.size=none:=I.hok.fresh (Nat.le_refl _)
theorem Inv.lstM (I:Inv X pins σ H s) (hH:H l=some (.lst xs)):xs.length≤sizeLine∧∃ (its:List Value) (n:Nat),Vals xs its∧xs.length=its.length∧s.heap.get? l=some { cls := .type "list",data := .seq its.toArray n }:=by
 obtain⟨z,its,n,r,e⟩:=I.hok l _ hH;exact⟨z,its,n,r,r.length,e⟩
end
section
variable {X:Cx}
noncomputable def rAppend:V→List V→Hp→VK→Prop:=fun x vs H Q=>∃ l xs y,x = .ref l∧vs=[y]∧H l=some (.lst xs)∧xs.length<sizeLine∧Q .non (upd H l (.lst (xs ++ [y])))
theorem mt_append:MtM X "list.append" rAppend:=by
 intro pins s σ H x vs v us Q I rx rv h;obtain⟨l,xs,y,rfl,rfl,hH,hz,q⟩:=h;cases rx;obtain⟨u,rfl,ru⟩:=rv.one;obtain⟨z,its,n,r,hl,e⟩:=I.lstM hH;refine call_meets F.slot_list_append ⟨_,e,rfl⟩ F.entry_list_append (F.args_list_append_2 _ _) (PySem.list_append l its.toArray n u (by rw[List.size_toArray];omega)) ⟨e,?_⟩;refine⟨.non,_,I.lset (its':=its ++ [u]) hH e (by simp) (r.append (.cons ru .nil)) ?_,rfl,q⟩;rw[List.length_append,List.length_singleton];omega
noncomputable def rPop:V→List V→Hp→VK→Prop:=fun x vs H Q=>∃ l xs y,x = .ref l∧vs=[]∧H l=some (.lst xs)∧xs[xs.length-1]? = some y∧Q y (upd H l (.lst xs.dropLast))
theorem mt_pop:MtM X "list.pop" rPop:=by
 intro pins s σ H x vs v us Q I rx rv h;obtain⟨l,xs,y,rfl,rfl,hH,hy,q⟩:=h;cases rx;have hus:=rv.zero;subst hus;obtain⟨z,its,n,r,hl,e⟩:=I.lstM hH;obtain⟨u,hu,ru⟩:=r.get hy;have hy':its.toArray[its.toArray.size-1]? = some u:=by
  show its.toArray[its.length-1]? = some u;rw[← Array.getElem?_toList,← hl];exact hu
 refine call_meets F.slot_list_pop ⟨_,e,rfl⟩ F.entry_list_pop (F.args_list_pop_1 _) (MeetsSeq.list_pop_last l its.toArray n u hy' (by rw[List.size_toArray];omega)) ⟨e,?_⟩;refine⟨y,_,I.lset (its':=its.dropLast) hH e ?_ r.dropLast ?_,ru,q⟩
 ·show its.toArray.eraseIdxIfInBounds (its.toArray.size-1)=its.dropLast.toArray;rw[List.size_toArray,List.eraseIdxIfInBounds_toArray,erase_last]
 ·rw[List.length_dropLast];omega
noncomputable def rCat:R2:=fun x y H Q=>∃ l b xs zs,x = .ref l∧y = .ref b∧H l=some (.lst xs)∧H b=some (.lst zs)∧xs.length+zs.length≤sizeLine∧∀ p,H p=none→Q (.ref p) (upd H p (.lst (xs++zs)))
theorem op_cat:OpR X (binaryOp .Add) rCat:=by
 intro pins s σ H x y v u Q I rx ry h;obtain⟨l,b,xs,zs,rfl,rfl,hH,hB,hz,q⟩:=h;cases rx;cases ry;obtain⟨z,its,n,r,hl,e⟩:=I.lstM hH;obtain⟨z2,its2,n2,r2,hl2,e2⟩:=I.lstM hB;refine PySem.P.add_list e e2 ?_ (by rw[List.size_toArray,List.size_toArray];omega);have ea:its.toArray++its2.toArray=(its++its2).toArray:=by simp
 rw[ea];exact⟨.ref _,_,I.lnew (t':=s.toks) (r.append r2) (by rw[List.length_append];omega),rfl,q _ I.fresh⟩
end
end L2
namespace L2
open PySem PySem.Spec PyProof.Rows
section
variable {κ : Type} [DecidableEq κ]
noncomputable def valV (kvs:List (κ × V)) (k : κ):Option V:=(kvs.find? fun kv=>decide (kv.1=k)).map (·.2)
noncomputable def putK (kvs:List (κ × V)) (k : κ) (v:V):List (κ × V) :=
 if (kvs.any fun kv=>decide (kv.1=k))=true then kvs.map (fun kv=>if kv.1=k then (kv.1,v) else kv) else kvs ++ [(k,v)]
theorem valV_pos {p : κ × V}{r:List (κ × V)}{k : κ} (e:p.1=k):valV (p :: r) k=some p.2:=by simp[valV,List.find?_cons,e]
theorem valV_neg {p : κ × V}{r:List (κ × V)}{k : κ} (e:¬ p.1=k):valV (p :: r) k=valV r k:=by simp[valV,List.find?_cons,e]
theorem valV_any (k : κ):∀ kvs:List (κ × V),(kvs.any fun kv=>decide (kv.1=k))=(valV kvs k).isSome
 | []=>rfl
 | p :: r=>by
  rw[List.any_cons];by_cases e:p.1=k
  ·simp only[valV_pos e,decide_eq_true e,Bool.true_or,Option.isSome_some]
  ·rw[valV_neg e,decide_eq_false e,Bool.false_or];exact valV_any k r
theorem length_putK (kvs:List (κ × V)) (k : κ) (v:V):(putK kvs k v).length≤kvs.length+1:=by
 unfold putK;split
 ·rw[List.length_map];omega
 ·rw[List.length_append,List.length_cons,List.length_nil];omega
theorem RelO.isSome_eq {o:Option V}{u:Option Value} (r:RelO o u):o.isSome=u.isSome:=by
 cases o with
 | none=>cases u with
  | none=>rfl
  | some _=>exact (show False from r).elim
 | some _=>cases u with
  | none=>exact (show False from r).elim
  | some _=>rfl
theorem RelO.getD {o:Option V}{u:Option Value}{d:V}{d':Value} (r:RelO o u) (rd:RelV d d'):RelV (o.getD d) (u.getD d'):=by
 cases o with
 | none=>cases u with
  | none=>exact rd
  | some _=>exact (show False from r).elim
 | some _=>cases u with
  | none=>exact (show False from r).elim
  | some _=>exact r
theorem KV.val {kvs:List (κ × V)}{vs:List (κ × Value)} (r:KV kvs vs) (k : κ):RelO (valV kvs k) (valueAt vs k):=by
 unfold KV at r;induction r with
 | nil=>exact True.intro
 | @cons p q ps qs h t ih =>
  obtain⟨h1,h2⟩:=h;by_cases e:p.1=k
  ·have e':q.1=k:=h1.symm.trans e;have b:valueAt (q :: qs) k=some q.2:=by simp[valueAt,List.find?_cons,e']
   rw[valV_pos e,b];exact h2
  ·have e':¬ q.1=k:=fun z=>e (h1.trans z)
   have b:valueAt (q :: qs) k=valueAt qs k:=by simp[valueAt,List.find?_cons,e']
   rw[valV_neg e,b];exact ih
theorem KV.any {kvs:List (κ × V)}{vs:List (κ × Value)} (r:KV kvs vs) (k : κ):(kvs.any fun kv=>decide (kv.1=k))=vs.any fun kv=>decide (kv.1=k):=by
 unfold KV at r;induction r with
 | nil=>rfl
 | cons h t ih=>rw[List.any_cons,List.any_cons,ih,h.1]
theorem KV.repl {kvs:List (κ × V)}{vs:List (κ × Value)} (r:KV kvs vs) (k : κ) {y:V}{u:Value} (ry:RelV y u) :
  KV (kvs.map fun kv=>if kv.1=k then (kv.1,y) else kv) (vs.map fun kv=>if kv.1=k then (kv.1,u) else kv):=by
 unfold KV at r ⊢;induction r with
 | nil=>exact .nil
 | @cons p q ps qs h t ih =>
  rw[List.map_cons,List.map_cons];refine .cons ?_ ih;obtain⟨h1,h2⟩:=h;by_cases e:p.1=k
  ·rw[if_pos e,if_pos (h1.symm.trans e)];exact⟨h1,ry⟩
  ·rw[if_neg e,if_neg (fun z=>e (h1.trans z))];exact⟨h1,h2⟩
theorem KV.put {kvs:List (κ × V)}{vs:List (κ × Value)} (r:KV kvs vs) (k : κ) {y:V}{u:Value} (ry:RelV y u):KV (putK kvs k y) (stored vs k u):=by
 unfold putK stored;rw[r.any k];by_cases e:(vs.any fun kv=>decide (kv.1=k))=true
 ·rw[if_pos e,if_pos e];exact r.repl k ry
 ·rw[if_neg e,if_neg e];exact Paired.snoc r ⟨rfl,ry⟩
theorem KV.keys {kvs:List (κ × V)}{vs:List (κ × Value)} (r:KV kvs vs):kvs.map (·.1)=vs.map (·.1):=by
 unfold KV at r;induction r with
 | nil=>rfl
 | cons h t ih=>rw[List.map_cons,List.map_cons,ih,h.1]
theorem KV.length {kvs:List (κ × V)}{vs:List (κ × Value)} (r:KV kvs vs):kvs.length=vs.length:=Paired.length r
end
theorem kV_is {P:Program}{w:World}{k:Key}{u:Value} (r:RelV (kV k) u):(mixKind P w).is k u=true:=by
 cases k with
 | inl i=>obtain⟨t,e⟩:=(show ∃ t,u=Value.int i t from r);subst e;exact mixKind_int P w i t
 | inr x=>obtain⟨t,e⟩:=(show ∃ t,u=Value.str x t from r);subst e;exact mixKind_str P w x t
theorem items_are {P:Program}{w:World}:∀ {ks:List Key}{us:List Value},Vals (ks.map kV) us→ItemsAre (mixKind P w) ks us
 | [],_,r=>by rw[List.map_nil] at r;cases r;exact .nil
 | k :: ks,_,r=>by
  rw[List.map_cons] at r;cases r with
  | cons h t=>exact .cons (kV_is h) (items_are t)
noncomputable abbrev KT (H:Hp):List (List Key × V)→List (List Key × Addr × Value)→Prop:=Paired fun p q=>p.1=q.1∧H q.2.1=some (.tup (p.1.map kV))∧RelV p.2 q.2.2
theorem KT.val {H:Hp}{kvs:List (List Key × V)}{xs:List (List Key × Addr × Value)} (r:KT H kvs xs) (k:List Key):RelO (valV kvs k) ((atKey xs k).map (·.2)):=by
 induction r with
 | nil=>exact True.intro
 | @cons p q ps qs h t ih =>
  obtain⟨h1,_,h2⟩:=h;by_cases e:p.1=k
  ·have e':q.1=k:=h1.symm.trans e;have b:atKey (q :: qs) k=some q.2:=by simp[atKey,List.find?_cons,e']
   rw[valV_pos e,b];exact h2
  ·have e':¬ q.1=k:=fun z=>e (h1.trans z)
   have b:atKey (q :: qs) k=atKey qs k:=by simp[atKey,List.find?_cons,e']
   rw[valV_neg e,b];exact ih
theorem KT.repl {H:Hp}{kvs:List (List Key × V)}{xs:List (List Key × Addr × Value)} (r:KT H kvs xs) (k:List Key) {y:V}{u:Value} (ry:RelV y u) :
  KT H (kvs.map fun kv=>if kv.1=k then (kv.1,y) else kv) (xs.map (putAt k u)):=by
 induction r with
 | nil=>exact .nil
 | @cons p q ps qs h t ih =>
  rw[List.map_cons,List.map_cons];refine .cons ?_ ih;obtain⟨h1,h2,h3⟩:=h;unfold putAt;by_cases e:p.1=k
  ·rw[if_pos e,if_pos (h1.symm.trans e)];exact⟨h1,h2,ry⟩
  ·rw[if_neg e,if_neg (fun z=>e (h1.trans z))];exact⟨h1,h2,h3⟩
theorem KT.put {H:Hp}{kvs:List (List Key × V)}{xs:List (List Key × Addr × Value)} (r:KT H kvs xs) (k:List Key) {b:Addr}{y:V}{u:Value} (hb:H b=some (.tup (k.map kV))) (ry:RelV y u) :
  KT H (putK kvs k y) (storedH xs k b u):=by
 have e:(kvs.any fun kv=>decide (kv.1=k))=(atKey xs k).isSome:=by
  rw[valV_any,(r.val k).isSome_eq,Option.isSome_map]
 unfold putK storedH;rw[e];by_cases q:(atKey xs k).isSome=true
 ·rw[if_pos q,if_pos q];exact r.repl k ry
 ·rw[if_neg q,if_neg q];exact Paired.snoc r ⟨rfl,hb,ry⟩
theorem KT.keeps {H H':Hp}{kvs:List (List Key × V)}{xs:List (List Key × Addr × Value)} (r:KT H kvs xs) (ht:∀ b ys,H b=some (.tup ys)→H' b=some (.tup ys)):KT H' kvs xs :=
 Paired.mapP r fun _ _ z=>⟨z.1,ht _ _ z.2.1,z.2.2⟩
section
variable {P:Program}{w:World}{H:Hp}{h:Heap}{a:Addr}
theorem rd_of {u:HO} (ok:HOk P w H h) (e:Rd H a u):ObjOk P w H h a u:=e.ok ok
theorem dk_rd {kvs:List (Key × V)} (ok:HOk P w H h) (e:Rd H a (.dK kvs)):kvs.length≤sizeLine∧(a == sysModules)=false∧∃ vs,KV kvs vs∧h.DictOf (mixKind P w) a vs :=
 show ObjOk P w H h a (.dK kvs) from rd_of ok e
theorem dk_of {kvs:List (Key × V)} (ok:HOk P w H h) (e:H a=some (.dK kvs)):kvs.length≤sizeLine∧(a == sysModules)=false∧∃ vs,KV kvs vs∧h.DictOf (mixKind P w) a vs:=dk_rd ok (.inl e)
theorem key_of {ks:List Key} (ok:HOk P w H h) (e:H a=some (.tup (ks.map kV))):(tupleKind (mixKind P w)).is h ks a:=by
 obtain⟨_,its,r,o,h1,h2,n,h3⟩:=(show ObjOk P w H h a (.tup (ks.map kV)) from ok a _ e);exact⟨o,its.toArray,n,h1,h2,h3,by simpa using items_are r⟩
theorem dt_rd {kvs:List (List Key × V)} (ok:HOk P w H h) (e:Rd H a (.dT kvs)):kvs.length≤sizeLine∧(a == sysModules)=false ∧
  ∃ xs,KT H kvs xs∧h.DictOfH (tupleKind (mixKind P w)) a xs:=by
 obtain⟨z,y,xs,r,o,es,ep,h1,h2,h3,h4,h5⟩:=(show ObjOk P w H h a (.dT kvs) from rd_of ok e);refine⟨z,y,xs,r,o,es,ep,h1,h2,h3,h4,fun x hx=>?_,h5⟩;have all:∀ {l:List (List Key × V)}{m:List (List Key × Addr × Value)},KT H l m→∀ x∈m,(tupleKind (mixKind P w)).is h x.1 x.2.1:=by
  intro l m q;induction q with
  | nil=>intro x hx;exact nomatch hx
  | @cons p q ps qs hq t ih =>
   intro x hx;rcases List.mem_cons.mp hx with e | hx
   ·subst e;exact key_of ok (by rw[← hq.1];exact hq.2.1)
   ·exact ih x hx
 exact all r x hx
theorem dt_of {kvs:List (List Key × V)} (ok:HOk P w H h) (e:H a=some (.dT kvs)):kvs.length≤sizeLine∧(a == sysModules)=false ∧
  ∃ xs,KT H kvs xs∧h.DictOfH (tupleKind (mixKind P w)) a xs:=dt_rd ok (.inl e)
end
noncomputable def DGet (H:Hp) (a:Addr) (y:V) (r:Option V):Prop :=
 (∃ kvs k,Rd H a (.dK kvs)∧y=kV k∧r=valV kvs k)∨∃ kvs k b,Rd H a (.dT kvs)∧y = .ref b∧H b=some (.tup (k.map kV))∧r=valV kvs k
noncomputable def DPut (H:Hp) (a:Addr) (y v:V) (H':Hp):Prop :=
 (∃ kvs k,H a=some (.dK kvs)∧y=kV k∧kvs.length<sizeLine∧H'=upd H a (.dK (putK kvs k v))) ∨
 ∃ kvs k b,H a=some (.dT kvs)∧y = .ref b∧H b=some (.tup (k.map kV))∧kvs.length<sizeLine∧H'=upd H a (.dT (putK kvs k v))
theorem DGet.k {H:Hp}{a:Addr}{kvs:List (Key × V)}{k:Key} (e:H a=some (.dK kvs)):DGet H a (kV k) (valV kvs k) := .inl ⟨kvs,k,.inl e,rfl,rfl⟩
theorem DPut.k {H:Hp}{a:Addr}{kvs:List (Key × V)}{k:Key}{v:V} (e:H a=some (.dK kvs)) (hl:kvs.length<sizeLine):DPut H a (kV k) v (upd H a (.dK (putK kvs k v))) := .inl ⟨kvs,k,e,rfl,hl,rfl⟩
section
variable {X:Cx}{pins:List (Addr × Obj)} {σ:St}{H:Hp}{s:Shared}{a:Addr}{y v:V}{u r:Value}{o:Option V}{A:Around}{E:Value→Shared→Prop}
theorem Inv.big (I:Inv X pins σ H s):sysModules<s.heap.objs.size:=by
 have h:mainGlobals<s.heap.objs.size:=(I.mod.glob.keeps I.bk).lt;exact Nat.lt_trans (by decide) h
theorem d_getItem {Q:Value→Shared→Prop} (hu:A.units+1<cLine) (I:Inv X pins σ H s) (g:DGet H a y (some v)) (ry:RelV y u) (h:∀ w' s',Inv X pins σ H s'→RelV v w'→Q w' s') :
  wpAny (model X.prog X.w) A (getItem (.ref a) u) Q E s:=by
 rcases g with ⟨kvs,k,e,ey,l⟩ | ⟨kvs,k,b,e,ey,eb,l⟩
 ·subst ey;obtain⟨z,hd,vs,rel,dd⟩:=dk_rd I.hok e;obtain⟨w',hw,rw'⟩:=RelO.some_of (v:=v) (o:=valueAt vs k) (by rw[l];exact rel.val k);exact wpAny_getItem_of (kV_is ry) dd.mapOf hw (h w' _ (I.tok _) rw')
 ·subst ey;cases (show u=Value.ref b from ry);obtain⟨z,hd,xs,rel,dd⟩:=dt_rd I.hok e;obtain⟨w',hw,rw'⟩:=RelO.some_of (v:=v) (o:=(atKey xs k).map (·.2)) (by rw[l];exact rel.val k);obtain⟨p,hp,hp2⟩:=Option.map_eq_some_iff.mp hw;refine wpAny_getItem_heap (tupleKind_room_in1 hu) (key_of I.hok eb) dd hp ?_;rw[hp2];exact h w' _ (I.tok _) rw'
theorem d_write {h':Heap}{t':Nat}{ob:HO} (I:Inv X pins σ H s) (mu:Mut (H a)) (hs:Heap.SameBut a s.heap h') (he:∃ q,h'.get? a=some q) (new:ObjOk X.prog X.w (upd H a ob) h' a ob) :
  Inv X pins σ (upd H a ob) { s with heap:=h',toks:=t' } :=
 I.write (x:=a) (e:=a) mu (.inl rfl) (fun b q hb z=>(hs.2 b hb).trans z) he new
theorem dk_new {P:Program}{w:World}{H':Hp}{h':Heap}{kvs:List (Key × V)}{vs:List (Key × Value)} (z:kvs.length≤sizeLine) (hd:(a == sysModules)=false) (rel:KV kvs vs) (dd:h'.DictOf (mixKind P w) a vs) :
  ObjOk P w H' h' a (.dK kvs):=⟨z,hd,vs,rel,dd⟩
theorem d_setItem {H':Hp}{Q:Unit→Shared→Prop} (hu:A.units+1<cLine) (I:Inv X pins σ H s) (g:DPut H a y v H') (ry:RelV y u) (rv:RelV v r) (h:∀ s',Inv X pins σ H' s'→Q () s') :
  wpAny (model X.prog X.w) A (setItem (.ref a) u r) Q E s:=by
 rcases g with ⟨kvs,k,e,ey,l,eH⟩ | ⟨kvs,k,b,e,ey,eb,l,eH⟩
 ·subst ey eH;obtain⟨z,hd,vs,rel,dd⟩:=dk_of I.hok e;have hz:vs.length≤sizeLine:=by rw[← rel.length];exact z
  have hl:(putK kvs k v).length≤sizeLine:=by have:=length_putK kvs k v;omega
  refine wpAny_setItem_pairs (hsz:=hz) (kV_is ry) dd fun h' dd' hs=>h _ ?_
  have he:∃ q,h'.get? a=some q:=let ⟨q,_,_,hq,_⟩:=dd'; ⟨q,hq⟩
  exact d_write I (by rw[e];exact True.intro) hs he (dk_new hl hd (rel.put k rv) dd')
 ·subst ey eH;cases (show u=Value.ref b from ry);obtain⟨z,hd,xs,rel,dd⟩:=dt_of I.hok e;have hz:xs.length≤sizeLine:=by rw[← Paired.length rel];exact z
  have hl:(putK kvs k v).length≤sizeLine:=by have:=length_putK kvs k v;omega
  refine wpAny_setItem_heap (hsz:=hz) (tupleKind_room_in1 hu) (key_of I.hok eb) dd fun h' dd' hs=>h _ ?_
  obtain⟨q,es,ep,hq,h2,h3,h4,_,h5⟩:=dd';refine d_write I (by rw[e];exact True.intro) hs ⟨q,hq⟩ ⟨hl,hd,_,(rel.put k eb rv).keeps fun c ys ec=>?_,q,es,ep,hq,h2,h3,h4,h5⟩;rw[upd_ne (ne_of ec e (fun z=>nomatch z))];exact ec
end
noncomputable def NoSl (i:Expr):Prop:=∀ ov iv,subscripted i false ov iv=operate [ov,iv] (getItem ov iv)
theorem subD_of {prog:Program}{w:World}{A:Around}{E:Value→Shared→Prop}{s:Shared}{env:Env}{value slice:Expr}{pos:Pos}{T id:String}{Q:Value→Shared→Prop}
  (hl:typeLookup (.type T) "__getitem__" = pure (some (.builtin id))) (hs:NoSl slice)
  (h:wpAny (model prog w) A (eval value env) (fun o s₁=>wpAny (model prog w) A (eval slice env) (fun i s₂=>s₂.TypeIs o T∧wpAny (model prog w) A (getItem o i) Q E s₂) E s₁) E s) :
  wpAny (model prog w) A (eval (.Subscript value slice pos) env) Q E s:=by
 refine Subscript_ (wpAny_mono h (fun o s₁ h₁=>wpAny_mono h₁ (fun i s₂ h₂=>?_) fun _ _ x=>x) fun _ _ x=>x);obtain⟨hT,h₂⟩:=h₂;unfold subscriptTail;refine wpAny_bind ?_;rw[getitemInPython_of_ne hT.not_modules];refine wpAny_bind (wpAny_specialOf hT hl ?_);have fin:wpAny (model prog w) A (subscripted slice false o i) (fun r s₃=>wpAny (model prog w) A (letTemporaryGo value o r >>= fun _=>pure r) Q E s₃) E s₂:=by
  rw[hs o i];exact wpAny_operating (wpAny_mono h₂ (fun r s₃ h₃=>wpAny_bind (wpAny_letTemporaryGo (wpAny_pure h₃))) fun _ _ x=>x)
 first
  | exact wpAny_pure (wpAny_bind fin)
  | exact wpAny_bind (wpAny_pure (wpAny_bind fin))
  | exact wpAny_bind fin
theorem dict_typeIs {X:Cx}{pins:List (Addr × Obj)} {σ:St}{H:Hp}{s:Shared}{a:Addr}{y:V}{o:Option V} (I:Inv X pins σ H s) (g:DGet H a y o):s.TypeIs (.ref a) "dict" := by
 rcases g with ⟨kvs,k,e,_,_⟩ | ⟨kvs,k,b,e,_,_,_⟩
 ·obtain⟨_,_,vs,_,dd⟩:=dk_rd I.hok e;exact dd.typeIs
 ·obtain⟨_,_,xs,_,dd⟩:=dt_rd I.hok e;exact dd.typeIs
noncomputable def tDGet (td ty:TE):TE:=fun σ H Q=>td σ H fun x H1=>ty σ H1 fun y H2=>∃ a v,x = .ref a∧DGet H2 a y (some v)∧Q v H2
noncomputable def sDPut (td ty tv:TE):TS:=fun D σ H=>tv σ H fun v H1=>td σ H1 fun x H2=>ty σ H2 fun y H3=>∃ a H4,x = .ref a∧DPut H3 a y v H4∧D.nx σ H4
section
variable {X:Cx}{o i e value:Expr}{pos pos' tpos:Pos}{td ty tv:TE}
theorem pe_dget (hu:X.A.units+1<cLine) (ho:PE X o td) (hi:PE X i ty) (hs:NoSl i):PE X (.Subscript o i pos) (tDGet td ty):=by
 intro pins s σ H Q I h;refine subD_of PySem.F.slot_dict_getitem.lookup hs (thn (ho pins s σ H _ I h) fun u s1 ⟨x,H1,I1,rx,q1⟩=>thn (hi pins s1 σ H1 _ I1 q1) fun iv s2 ⟨y,H2,I2,ry,a,v,ex,g,q2⟩=>?_);subst ex;obtain rfl:u=Value.ref a:=rx;exact⟨dict_typeIs I2 g,d_getItem hu I2 g ry fun w' s3 I3 rw'=>⟨v,H2,I3,rw',q2⟩⟩
theorem ps_dput (hu:X.A.units+1<cLine) (ho:PE X o td) (hi:PE X i ty) (hv:PE X value tv) (hs:swapsWith value (some (.Subscript o i pos')) pos.line X.env=pure false) :
  PS X (.Assign [.Subscript o i pos'] value pos) (sDPut td ty tv):=by
 intro pins s σ H D I h;refine wpAny_Assign_Subscript (thn (hv pins s σ H _ I h) fun r s1 ⟨v,H1,I1,rv,q1⟩=>thn (ho pins s1 σ H1 _ I1 q1) fun u s2 ⟨x,H2,I2,rx,q2⟩=>thn (hi pins s2 σ H2 _ I2 q2) fun iv s3 ⟨y,H3,I3,ry,a,H4,ex,g,q3⟩=>?_) hs;subst ex;obtain rfl:u=Value.ref a:=rx;exact d_setItem hu I3 g ry rv fun s4 I4=>⟨σ,H4,I4,q3⟩
end
theorem dk_empty {P:Program}{w:World}{H:Hp} (h:Heap) (hb:sysModules<h.objs.size):ObjOk P w H (h.push { cls := .type "dict",data := .dict #[] }) h.objs.size (.dK []) :=
 ⟨Nat.zero_le _,beq_eq_false_iff_ne.mpr (Ne.symm (Nat.ne_of_lt hb)),[],.nil,Heap.DictOf.new h⟩
noncomputable def tDNewK:TE:=fun _ H Q=>∀ p,H p=none→Q (.ref p) (upd H p (.dK []))
section
variable {X:Cx}{pos:Pos}
theorem pe_dnewK:PE X (.Dict [] [] pos) tDNewK:=fun pins s σ H Q I h =>
 wpAny_Dict_empty ⟨.ref s.heap.objs.size,_,I.laid (a:=s.heap.objs.size) (o := .dK []) (t':=s.toks) (fun _ _ q=>Heap.get?_push_of_some _ q) (Nat.le_refl _) (dk_empty s.heap I.big),rfl,h _ (I.hok.fresh (Nat.le_refl _))⟩
end
structure M2 (X:Cx) (o:Expr) (m:Str) (apos:Pos) (e f:Expr) (cpos:Pos):Prop where
 base:attributeBase o m X.env (eval o X.env)=eval o X.env
 few:((backTo cpos (starEach [e,f] X.env)).all (fun x => !x.1) && (backToKw cpos (keywordEach [] X.env)).all (fun x=>x.1.isSome)
  && decide (([e,f]:List Expr).length+([]:List Keyword).length+(if ([]:List Keyword).isEmpty then 0 else 1)<30))=true
 line:(apos.endLine == cpos.line)=true
 trees:backTo cpos (starEach [e,f] X.env)=[(false,eval e X.env),(false,eval f X.env)]
noncomputable def IsD (H:Hp) (a:Addr):Prop:=(∃ kvs,Rd H a (.dK kvs))∨∃ kvs,Rd H a (.dT kvs)
theorem isD_at {X:Cx}{pins:List (Addr × Obj)} {σ:St}{H:Hp}{s:Shared}{a:Addr} (I:Inv X pins σ H s) (d:IsD H a) :
  s.TypeIs (.ref a) "dict" ∧ (∀ b,Value.ref a = .ref b→∃ ob,s.heap.get? b=some ob∧ob.dict=none)∧(a == sysModules)=false:=by
 rcases d with ⟨kvs,e⟩ | ⟨kvs,e⟩
 ·obtain⟨_,hd,vs,_,dd⟩:=dk_rd I.hok e;refine⟨dd.typeIs,fun b q=>?_,hd⟩;cases q;obtain⟨ob,_,_,h1,h2,_⟩:=dd;exact⟨ob,h1,h2.2.1⟩
 ·obtain⟨_,hd,xs,_,dd⟩:=dt_rd I.hok e;refine⟨dd.typeIs,fun b q=>?_,hd⟩;cases q;obtain⟨ob,_,_,h1,h2,_⟩:=dd;exact⟨ob,h1,h2.2.1⟩
section
variable {X:Cx}{pins:List (Addr × Obj)} {σ:St}{H:Hp}{s:Shared}{a:Addr}{y d:V}{u r:Value}{o:Option V}{A:Around}{E:Value→Shared→Prop}
theorem d_get2 {Q:Value→Shared→Prop} (hu:A.units+1<cLine) (I:Inv X pins σ H s) (g:DGet H a y o) (ry:RelV y u) (rd:RelV d r) (h:∀ w' s',Inv X pins σ H s'→RelV (o.getD d) w'→Q w' s') :
  wpAny (model X.prog X.w) A (call (.builtin "dict.get") [.ref a,u,r]) Q E s:=by
 rcases g with ⟨kvs,k,e,ey,l⟩ | ⟨kvs,k,b,e,ey,eb,l⟩
 ·subst ey;obtain⟨z,hd,vs,rel,dd⟩:=dk_rd I.hok e;refine call_meetsIn PySem.F.slot_dict_get dd.typeIs PySem.F.entry_dict_get (PySem.F.args_dict_get_3 _ _ _) (meets_dict_get_default (mixKind X.prog X.w) a (kV_is ry) hd r) ⟨_,dd.mapOf,h _ _ (I.tok _) ?_⟩;rw[l];exact (rel.val k).getD rd
 ·subst ey;cases (show u=Value.ref b from ry);obtain⟨z,hd,xs,rel,dd⟩:=dt_rd I.hok e;refine call_meetsIn PySem.F.slot_dict_get dd.typeIs PySem.F.entry_dict_get (PySem.F.args_dict_get_3 _ _ _) (meetsH_dict_get_default (tupleKind (mixKind X.prog X.w)) a b hd r) ⟨tupleKind_room_in1 hu,k,xs,key_of I.hok eb,dd,h _ _ (I.tok _) ?_⟩;rw[l];exact (rel.val k).getD rd
end
noncomputable def tDGet2 (td ty tx:TE):TE:=fun σ H Q=>td σ H fun x H1=>∃ a,x = .ref a∧IsD H1 a∧ty σ H1 fun y H2=>tx σ H2 fun z H3=>∃ o,DGet H3 a y o∧Q (o.getD z) H3
section
variable {X:Cx}{o e f:Expr}{apos cpos:Pos}{td ty tx:TE}
theorem pe_dget2 (hu:X.A.units+1<cLine) (ho:PE X o td) (he:PE X e ty) (hf:PE X f tx) (m:M2 X o "get" apos e f cpos):PE X (.Call (.Attribute o "get" apos) [e,f] [] cpos) (tDGet2 td ty tx):=by
 intro pins s σ H Q I h;refine wpAny_Call_method m.base m.few m.line PySem.F.plainAttrs_dict PySem.F.slot_dict_get PySem.F.type_dict_get (thn (ho pins s σ H _ I h) fun u s1 ⟨x,H1,I1,rx,a,ex,d,q1⟩=>?_);subst ex;obtain rfl:u=Value.ref a:=rx;obtain⟨t1,t2,_⟩:=isD_at I1 d;refine⟨t1,t2,?_⟩;rw[m.trees];refine Calls.callWith_builtin rfl (Calls.evalArgs_plain (Calls.spliced_cons (thn (he pins s1 σ H1 _ I1 q1) fun iv s2 ⟨y,H2,I2,ry,q2⟩ =>
  Calls.spliced_cons (thn (hf pins s2 σ H2 _ I2 q2) fun fv s3 ⟨z,H3,I3,rz,ov,g,q3⟩=>Calls.spliced_nil ?_))))
 exact d_get2 hu I3 g ry rz fun w' s4 I4 rw'=>⟨_,H3,I4,rw',q3⟩
end
end L2
namespace Att
open PySem PySem.W PySem.Calls PyProof.Rows
theorem ints_of_wellAll {P:Params}{h:Heap}:∀ (ns:List Int) (vs:List Value),WellAll P h vs (ns.map WData.int)→IntsAre vs ns:=by
 intro ns;induction ns with
 | nil =>
  intro vs w;rw[List.map_nil] at w;cases w;exact .nil
 | cons n ns ih =>
  intro vs w;rw[List.map_cons] at w;cases w with
  | cons a b =>
   cases a;exact .cons _ _ (ih _ b)
theorem script_of {l:OpenLaw}{n:Nat} (hn:l.most=some n) {P:Params}{h:Heap}{args:List WData}{vals:List Value}
  (hpre:l.row.toRowW.claim.pre args=true) (hwl:WellAll P h vals args) :
  ∃ a vs ns,vals=[Value.ref a]∧args=[WData.list (ns.map WData.int)]∧h.get? a=some { cls := .type "list",data := .seq vs.toArray }∧IntsAre vs ns∧ns.length≤n:=by
 have hsh:WShape.hasAll [] args [.list .int]=true:=(pre_splitW hpre).1;have hc:l.pre.holds [] { args:=args }=true:=(pre_splitW hpre).2;obtain⟨d,r,rfl,h1,h2⟩:=hasAllW_cons hsh;obtain rfl:=hasAllW_nil h2;obtain⟨xs,rfl,h3⟩:=hasW_list h1;obtain⟨ns,rfl⟩:=items_int h3;have hlen:ns.length≤n:=by
  unfold OpenLaw.pre at hc;have h4:(WTm.not (.lt (.lit (.int (n:Int))) (.len (.arg 0)))).holds [] { args:=[.list (ns.map .int)] }=true:=by
   have h4:=(holds_andW hc).1;rw[hn] at h4;exact h4
  have h5:=condW_of h4 (w_not (w_lt w_lit (w_len_list (w_arg rfl))));rw[List.length_map] at h5;refine Nat.le_of_not_lt fun q=>?_
  have q':(n:Int)<((ns.length:Nat):Int):=by omega
  first
   | (rw[decide_eq_true q'] at h5;exact absurd h5 (by decide))
   | (simp at h5;omega)
 cases hwl with
 | cons w1 w2 =>
  cases w2;cases w1 with
  | list ho hall=>exact⟨_,_,ns,rfl,rfl,ho,ints_of_wellAll ns _ hall,hlen⟩
theorem post_true (l:OpenLaw) (args:List WData):l.row.toRowW.claim.post args (.bool true) args=true :=
 postW_of (r:=l.row.toRowW) (X:=(true == true))
  (show WShape.has [] (.bool true) .bool=true by first | rfl | decide | simp[WShape.has,WShape.arms,WShape.armsAll])
  (show (WTm.eq .res (.lit (.bool true))).value [] { args:=args,res:=some (.bool true),after:=args }=some (.bool (true == true)) from w_eq_bool (w_res rfl) w_lit) rfl
end Att
namespace L2
open PySem PySem.Spec PyProof.Rows
theorem vals_ints:∀ {vs:List Value}{ns:List Int},IntsAre vs ns→Vals (ns.map V.int) vs
 | _,_,.nil=>.nil
 | _,_,.cons n t h=>.cons ⟨t,rfl⟩ (vals_ints h)
noncomputable def Only (H:Hp):Prop:=∀ b,H b=none∨∃ o xs,H b=some (.frz o (.lst xs))
theorem law_call {P:Program}{w:World}{K:PySem.W.Frag}{mg mb:Str→Option Value}{CX:CXT}{k:Nat}{fa a:Addr}{fd:FuncData}{x:Str}{sp:Sp}{s₁:Shared}{vs:List Value}{ns:List Int}
  (KX:K.In s₁.heap) (hns:s₁.heap.Ns mainGlobals mg) (hb:s₁.heap.Ns builtinsNs mb) (hbb:∀ x:Str,x ≠ "__name__" → mb x=bootBuiltins x) (hlim:s₁.heap.NoLimit) (hg:s₁.gens = #[])
  (ha:s₁.heap.get? a=some { cls := .type "list",data := .seq vs.toArray }) (hi:IntsAre vs ns) (hl:ns.length≤sizeLine) (hr:Room k callerA)
  (F:∀ base:Heap,K.In base→base.Ns mainGlobals mg→FnOk P w K mg base CX k fa fd [x] sp) (hbind:∀ (s:Shared) (u:Value),BindsTo s fd ⟨[u],[]⟩ [(x,u)])
  (hsp:∀ H:Hp,Only H→SqL K H a (ns.map V.int)→sp [.ref a] H (fun v _=>v = .bl true) fun _ _ _=>False)
  (hCX:∀ H e s',CX [] H s₁ (fun _ _ _=>False) e s'→False) :
  codeAny (model P w) callerA (.call (.ref fa) ⟨[.ref a],[]⟩) (fun r s'=>r = .ok (.ret (.bool true))∧OldK s₁.heap s'.heap∧s'.os=s₁.os∧AllBare s'.gens) s₁:=by
 have rv:=vals_ints hi;have lenV:=hi.length;have core:∀ H:Hp,Only H→SqL K H a (ns.map V.int)→HOk P w H s₁.heap→(∀ b,H b≠none→b=a)→(H a≠none→K.lookup a=none) →
   codeAny (model P w) callerA (.call (.ref fa) ⟨[.ref a],[]⟩) (fun r s'=>r = .ok (.ret (.bool true))∧OldK s₁.heap s'.heap∧s'.os=s₁.os∧AllBare s'.gens) s₁:=by
  intro H hO hS hok hA hK;have base_of:∀ {b:Addr}{o:Obj},s₁.heap.get? b=some o→H b=none→(hidT s₁.heap H).get? b=some o:=fun e n=>hidT_get e n
  have noA:∀ {b:Addr}{o:Obj}{es:Array DictEntry}{ep:Nat},s₁.heap.get? b=some o→o.data = .dict es ep→H b=none:=fun {b o es ep} e d=>by
   cases q:H b with
   | none=>rfl
   | some u =>
    have e':b=a:=hA b (by rw[q];simp);subst e';rw[ha] at e;cases e;have d':Data.seq vs.toArray _=Data.dict es ep:=d;cases d'
  have nsK:∀ {b:Addr}{m:Str→Option Value},s₁.heap.Ns b m→(hidT s₁.heap H).Ns b m:=fun {b m} ⟨o,es,ep,e,d,r⟩=>⟨o,es,ep,base_of e (noA e d),d,r⟩
  have hKb:K.In (hidT s₁.heap H):=fun b o e=>base_of (KX b o e) (by
   cases q:H b with
   | none=>rfl
   | some u =>
    have e':b=a:=hA b (by rw[q];simp);subst e';rw[hK (by rw[q];simp)] at e;cases e)
  have hM:Mod K mg (hidT s₁.heap H):=⟨hKb,nsK hns,⟨mb,nsK hb,hbb⟩,let ⟨mc,h1,h2⟩:=hlim; ⟨mc,nsK h1,h2⟩⟩;have e0:Env0 P w K mg (hidT s₁.heap H) callerA [] s₁ H:=⟨rfl,hM,fun b o e=>of_hidT e,Nat.le_of_eq (hidT_size _ _),trivial,fun b hb=>absurd (show b∈([]:List Addr) from hb) (by simp),hok,.of_eq hg⟩;refine codeAny_mono ((F _ hKb (nsK hns)).run callerA [] s₁ H ⟨[.ref a],[]⟩ [.ref a] [.ref a] _ _ hr e0 (hbind s₁ (.ref a)) (.cons rfl .nil) (hsp H hO hS)) fun r s' h=>?_
  cases r with
  | error e=>exact (hCX H e s' h).elim
  | ok fl =>
   cases fl with
   | next=>exact False.elim h
   | brk=>exact False.elim h
   | cont=>exact False.elim h
   | ret u =>
    obtain⟨v,H',os,bare,un,hok',r',q⟩:=h;have q':v = .bl true:=q;subst q';obtain rfl:u=Value.bool true:=r';refine⟨rfl,OldK.of_keep fun b o e=>?_,os,bare⟩;cases q:H b with
    | none=>exact un.keep b o e q (by intro z;exact absurd (show b∈([]:List Addr) from z) (by simp)) (by simp)
    | some u =>
     rcases hO b with z | ⟨ob,xs,z⟩
     ·rw[q] at z;cases z
     ·have z2:=un.frzs b ob _ z;obtain⟨e1,_⟩:=hok b _ z;obtain⟨e2,_⟩:=hok' b _ z2;rw[e] at e1;cases e1;exact e2
 cases hk:K.lookup a with
 | some o =>
  have e:=KX a o hk;rw[ha] at e;cases e;refine core (fun _=>none) (fun _=>.inl rfl) (.inr ⟨_,vs.toArray,_,hk,rfl,rfl,rfl,by rw[List.size_toArray,lenV];exact hl,by simpa using rv⟩) (fun b u z=>by have z':(none:Option HO)=some u:=z;cases z') (fun b z=>absurd rfl z) fun z=>absurd rfl z
 | none =>
  refine core (fun b=>if b=a then some (.frz { cls := .type "list",data := .seq vs.toArray } (.lst (ns.map V.int))) else none) (fun b=>?_) (.inl (.inr ⟨{ cls := .type "list",data := .seq vs.toArray },if_pos rfl⟩)) (fun b u z=>?_) (fun b z=>?_) fun _=>hk
  ·by_cases hb:b=a
   ·exact .inr ⟨_,_,if_pos hb⟩
   ·exact .inl (if_neg hb)
  ·by_cases hb:b=a
   ·have z':=(if_pos hb).symm.trans z;cases z';subst hb;exact⟨ha,by rw[List.length_map];exact hl,vs,_,rv,ha⟩
   ·have z':=(if_neg hb).symm.trans z;cases z'
  ·by_cases hb:b=a
   ·exact hb
   ·exact absurd (if_neg hb) z
end L2
namespace L2
open PySem PySem.Spec PyProof.Rows
noncomputable def defArgs (s:Stmt):Arguments:=match s with
 | .FunctionDef _ a _ _ _ _ _ _ _ _=>a
 | _=>{ posonlyargs:=[],args:=[],vararg:=none,kwonlyargs:=[],kw_defaults:=[],kwarg:=none,defaults:=[] }
noncomputable def defBody (s:Stmt):List Stmt:=match s with
 | .FunctionDef _ _ b _ _ _ _ _ _ _=>b
 | _=>[]
noncomputable def defScope (s:Stmt):Scope:=match s with
 | .FunctionDef _ _ _ _ _ _ sc _ _ _=>sc
 | _=>{ kind := .function,names:=[],isGenerator:=false,isCoroutine:=false }
noncomputable abbrev CX0:CXT:=fun _ _ _ _ _ _=>False
noncomputable abbrev E0:XK:=fun _ _ _=>False
theorem pass0 {X:Cx}:Passes CX0 X E0:=fun _ _ _ _ _ _ _ h=>h.elim
structure Fun (K:PySem.W.Frag) (x qual:Str) (st:Stmt) (f:Addr) (fd:FuncData):Prop where
 ex:∃ (oc:Value) (od:Option Addr) (kV doc pm:Value) (an:Option Addr) (cdv ct:Value) (osl:Array (Option Value)),
  fd=PySem.W.fnOf x qual (defArgs st) (defBody st) (defScope st) .none kV doc pm an cdv ct∧K.lookup f=some ⟨oc,od,.func fd,osl⟩∧PySem.W.codeIn K cdv qual=true
 kp:PySem.W.keepIn K (.ref f)=true
section
variable {P:Program}{w:World}{K:PySem.W.Frag}{mg:Str→Option Value}{base:Heap}
theorem Fun.ok {x qual:Str}{st:Stmt}{f:Addr}{fd:FuncData}{N ps:List Str}{k:Nat}{sp:Sp} (F:Fun K x qual st f fd) (S:FnScope N ps (defScope st)) (len:∀ vs H Q E,sp vs H Q E→vs.length=ps.length)
  (hbody:∀ (cdv:Value) (A:Around) (outer:List Env) (s:Shared) (H:Hp) (vs:List V) (Q:VK) (E:XK),Room k (A.deeper (envOfC qual (defScope st) s.heap.objs.size f cdv))→sp vs H Q E →
   ∃ t,PSs (cxOf CX0 P w K mg base N qual (defScope st) f cdv A outer s H E).nox (defBody st) t∧t { nx:=fun _ H'=>Q .non H',rt:=Q } (start N vs) H):FnOk P w K mg base CX0 (k+1) f fd ps sp:=by
 obtain⟨oc,od,kV,doc,pm,an,cdv,ct,osl,rfl,lk,hcd⟩:=F.ex;refine fn_of lk hcd S len fun A outer s H vs Q E hr hsp=>?_
 obtain⟨t,h,q⟩:=hbody cdv A outer s H vs Q E hr hsp;exact⟨t,h.nox,q⟩
theorem Fun.binds {x qual:Str}{st:Stmt}{f:Addr}{fd:FuncData}{ps:List Str} (F:Fun K x qual st f fd)
  (h:∀ (kV doc pm:Value) (an:Option Addr) (cdv ct:Value) (us:List Value),us.length=ps.length→bindArgs (PySem.W.fnOf x qual (defArgs st) (defBody st) (defScope st) .none kV doc pm an cdv ct) ⟨us,[]⟩=pure (ps.zip us)):Binds K fd ps []:=by
 obtain⟨oc,od,kV,doc,pm,an,cdv,ct,osl,rfl,lk,hcd⟩:=F.ex;exact .all (h kV doc pm an cdv ct)
theorem fun_mk {x qual:Str}{st:Stmt}{f:Addr}{oc:Value}{od an:Option Addr}{osl:Array (Option Value)}{kV doc pm cdv ct:Value} (l:K.lookup f=some ⟨oc,od,.func (PySem.W.fnOf x qual (defArgs st) (defBody st) (defScope st) .none kV doc pm an cdv ct),osl⟩)
  (c:PySem.W.codeIn K cdv qual=true) (k:PySem.W.keepIn K (.ref f)=true):Fun K x qual st f (PySem.W.fnOf x qual (defArgs st) (defBody st) (defScope st) .none kV doc pm an cdv ct):=⟨⟨oc,od,kV,doc,pm,an,cdv,ct,osl,rfl,l,c⟩,k⟩
end
theorem hu_of {A:Around}{k:Nat} (hr:Room k A):A.units+1<cLine:=Nat.lt_of_le_of_lt (Nat.add_le_add_left (by decide:1≤64) _) hr.units
section
variable {X:Cx}
theorem pv (i:Nat) {x:Str}{pos:Pos} (hN:X.N[i]? = some x:=by rfl) (hv:Vis X.env.scope x:=by first | exact Or.inl rfl | exact Or.inr (Or.inl rfl) | exact Or.inr (Or.inr rfl)) (hd:(x == ("__debug__" : Str))=false:=by decide)
  (hcd:(x == ("__classdict__" : Str))=false:=by decide):PE X (.Name x pos) (tVar i):=pe_var hN hv hd hcd
end
theorem iteF {A B:Prop} (h:B):if false=true then A else B:=by
 rw[if_neg Bool.false_ne_true];exact h
theorem iteT {A B:Prop} (h:A):if true=true then A else B:=by
 rw[if_pos rfl];exact h
theorem ite2 {c A B:Prop} [Decidable c] (h1:c→A) (h2:¬ c→B):if c then A else B:=by
 by_cases h:c
 ·rw[if_pos h];exact h1 h
 ·rw[if_neg h];exact h2 h
theorem iteNS {c A B:Prop} [Decidable c] (hc:c) (h:B):if (!decide c)=true then A else B:=by
 rw[decide_eq_true hc];exact iteF h
noncomputable def Same (H H':Hp):Prop:=∀ b o,H b=some o→H' b=some o
theorem Same.refl (H:Hp):Same H H:=fun _ _ h=>h
theorem Same.trans {H H1 H2:Hp} (a:Same H H1) (b:Same H1 H2):Same H H2:=fun c o h=>b c o (a c o h)
theorem Same.free {H H':Hp} (e:Same H H') {l:Addr} (h:H' l=Option.none):H l=Option.none:=by
 cases q:H l with
 | none=>rfl
 | some o =>
  rw[e l o q] at h;cases h
theorem Same.seq {K:PySem.W.Frag}{H H':Hp}{a:Addr}{xs:List V} (e:Same H H') (h:SqL K H a xs):SqL K H' a xs:=by
 rcases h with (h | ⟨o,h⟩) | h
 ·exact .inl (.inl (e _ _ h))
 ·exact .inl (.inr ⟨o,e _ _ h⟩)
 ·exact .inr h
end L2
namespace OF
noncomputable abbrev Terms:=List (Int × Int)
noncomputable def coef:Terms→Int→Int
 | [],_=>0
 | p :: r,k=>(if p.1=k then p.2 else 0)+coef r k
structure IsForm (f:Terms):Prop where
 rise:f.Pairwise (fun a b=>a.1<b.1)
 nz:∀ p∈f,p.2≠0
theorem coef_append:∀ (a b:Terms) (k:Int),coef (a++b) k=coef a k+coef b k
 | [],b,k=>by simp[coef]
 | p :: r,b,k=>by
  have ih:=coef_append r b k;simp only[List.cons_append,coef,ih];omega
theorem coef_snoc (a:Terms) (p:Int × Int) (k:Int):coef (a ++ [p]) k=coef a k+(if p.1=k then p.2 else 0):=by
 rw[coef_append];simp[coef]
theorem coef_neg:∀ (a:Terms) (k:Int),coef (a.map fun p=>(p.1,-p.2)) k = -coef a k
 | [],_=>rfl
 | p :: r,k=>by
  simp only[List.map_cons,coef,coef_neg r k];split <;> omega
theorem coef_none:∀ (a:Terms) (k:Int),(∀ p∈a,p.1≠k)→coef a k=0
 | [],_,_=>rfl
 | p :: r,k,h=>by
  have h1:¬ p.1=k:=h p (by simp);simp only[coef,if_neg h1,coef_none r k fun q hq=>h q (by simp[hq])];rfl
theorem coef_head {p:Int × Int}{r:Terms} (h:∀ q∈r,p.1<q.1):coef (p :: r) p.1=p.2:=by
 simp only[coef,if_pos];rw[coef_none r p.1 fun q hq=>Int.ne_of_gt (h q hq)];omega
theorem form_ext:∀ {f g:Terms},IsForm f→IsForm g→(∀ k,coef f k=coef g k)→f=g
 | [],[],_,_,_=>rfl
 | [],q :: s,_,hg,h=>by
  have h1:=List.pairwise_cons.mp hg.rise;have h2:=h q.1;rw[coef_head h1.1] at h2;exact absurd h2.symm (hg.nz q (by simp))
 | p :: r,[],hf,_,h=>by
  have h1:=List.pairwise_cons.mp hf.rise;have h2:=h p.1;rw[coef_head h1.1] at h2;exact absurd h2 (hf.nz p (by simp))
 | p :: r,q :: s,hf,hg,h=>by
  have f1:=List.pairwise_cons.mp hf.rise;have g1:=List.pairwise_cons.mp hg.rise;have hpq:p.1=q.1:=by
   rcases Int.lt_trichotomy p.1 q.1 with hl | he | hl
   ·have h2:=h p.1;rw[coef_head f1.1,coef_none (q :: s) p.1 (fun z hz=>by
     rcases List.mem_cons.mp hz with e | hz
     ·rw[e];omega
     ·have:=g1.1 z hz;omega)] at h2
    exact absurd h2 (hf.nz p (by simp))
   ·exact he
   ·have h2:=h q.1;rw[coef_head g1.1,coef_none (p :: r) q.1 (fun z hz=>by
     rcases List.mem_cons.mp hz with e | hz
     ·rw[e];omega
     ·have:=f1.1 z hz;omega)] at h2
    exact absurd h2.symm (hg.nz q (by simp))
  have hv:p.2=q.2:=by
   have h2:=h p.1;rw[coef_head f1.1,hpq,coef_head g1.1] at h2;exact h2
  have e:p=q:=Prod.ext hpq hv;subst e;have ih:=form_ext (f:=r) (g:=s) ⟨f1.2,fun z hz=>hf.nz z (by simp[hz])⟩ ⟨g1.2,fun z hz=>hg.nz z (by simp[hz])⟩ fun k=>by
   have h2:=h k;simp only[coef] at h2;omega
  rw[ih]
noncomputable def look:Terms→Int→Option Int
 | [],_=>none
 | p :: r,k=>if p.1=k then some p.2 else look r k
noncomputable def getI (d:Terms) (k:Int):Int:=(look d k).getD 0
noncomputable def putI (d:Terms) (k v:Int):Terms:=if (d.any fun p=>decide (p.1=k))=true then d.map (fun p=>if p.1=k then (p.1,v) else p) else d ++ [(k,v)]
theorem look_any (k:Int):∀ d:Terms,(d.any fun p=>decide (p.1=k))=(look d k).isSome
 | []=>rfl
 | p :: r=>by
  rw[List.any_cons,look];by_cases e:p.1=k
  ·simp[e]
  ·simp[e,look_any k r]
theorem look_map (k j v:Int):∀ d:Terms,look (d.map fun p=>if p.1=k then (p.1,v) else p) j=(look d j).map fun x=>if j=k then v else x
 | []=>rfl
 | p :: r=>by
  have ih:=look_map k j v r;rw[List.map_cons];by_cases h:p.1=k
  ·rw[if_pos h];by_cases e:p.1=j
   ·simp[look,e,show j=k from e.symm.trans h]
   ·simp[look,e,ih]
  ·rw[if_neg h];by_cases e:p.1=j
   ·simp[look,e,show ¬ j=k from fun z=>h (e.trans z)]
   ·simp[look,e,ih]
theorem look_snoc (k j v:Int):∀ d:Terms,look d k=none→look (d ++ [(k,v)]) j=if j=k then some v else look d j
 | [],_=>by
  by_cases e:k=j
  ·simp[look,e]
  ·simp[look,e,show ¬ j=k from fun z=>e z.symm]
 | p :: r,hn=>by
  have hk:¬ p.1=k:=fun z=>by simp[look,z] at hn
  have hn':look r k=none:=by simpa [look,hk] using hn
  have ih:=look_snoc k j v r hn';rw[List.cons_append];by_cases e:p.1=j
  ·simp[look,e,show ¬ j=k from fun z=>hk (e.trans z)]
  ·simp[look,e,ih]
theorem look_put (d:Terms) (k j v:Int):look (putI d k v) j=if j=k then some v else look d j:=by
 unfold putI;by_cases a:(d.any fun p=>decide (p.1=k))=true
 ·rw[if_pos a,look_map];rw[look_any] at a;by_cases e:j=k
  ·obtain⟨x,hx⟩:=Option.isSome_iff_exists.mp a;rw[e,hx];simp
  ·rw[if_neg e];cases look d j <;> simp[e]
 ·rw[if_neg a];refine look_snoc k j v d ?_;rw[look_any] at a;cases q:look d k with
  | none=>rfl
  | some x=>rw[q] at a;exact (a rfl).elim
theorem length_put (d:Terms) (k v:Int):(putI d k v).length≤d.length+1:=by
 unfold putI;split
 ·rw[List.length_map];omega
 ·simp
theorem look_mem {d:Terms}{k:Int}:look d k≠none↔k∈d.map (·.1):=by
 induction d with
 | nil=>simp[look]
 | cons p r ih =>
  rw[List.map_cons,List.mem_cons,look];by_cases e:p.1=k
  ·simp[e]
  ·have e':¬ k=p.1:=fun z=>e z.symm
   simp only[if_neg e];rw[ih];simp[e']
theorem keys_put (d:Terms) (k v:Int):(putI d k v).map (·.1)=if (look d k).isSome then d.map (·.1) else d.map (·.1) ++ [k]:=by
 unfold putI;rw[look_any];by_cases a:(look d k).isSome=true
 ·rw[if_pos a,if_pos a,List.map_map];congr 1
  funext p
  simp only[Function.comp];split <;> rfl
 ·rw[if_neg a,if_neg a,List.map_append];rfl
theorem nodup_put {d:Terms} (k v:Int) (h:(d.map (·.1)).Nodup):((putI d k v).map (·.1)).Nodup:=by
 rw[keys_put];by_cases a:(look d k).isSome=true
 ·rw[if_pos a];exact h
 ·rw[if_neg a];have hk:¬ k∈d.map (·.1):=fun m=>a (by
   have:=look_mem.mpr m
   cases q:look d k with
   | none=>exact (this q).elim
   | some x=>rfl)
  exact List.nodup_append.mpr ⟨h,by simp,fun a ha b hb=>by
   have:b=k:=by simpa using hb
   subst this;intro e;subst e;exact hk ha⟩
theorem getI_put (d:Terms) (k j v:Int):getI (putI d k v) j=if j=k then v else getI d j:=by
 unfold getI;rw[look_put];split <;> rfl
structure DictOf (d l:Terms):Prop where
 nd:(d.map (·.1)).Nodup
 len:d.length≤l.length
 val:∀ k,getI d k=coef l k
 src:∀ k∈d.map (·.1),k∈l.map (·.1)
theorem dictOf_nil:DictOf [] []:=⟨List.nodup_nil,Nat.le_refl _,fun _=>rfl,fun _ h=>h⟩
theorem DictOf.snoc {d l:Terms} (h:DictOf d l) (p:Int × Int):DictOf (putI d p.1 (getI d p.1+p.2)) (l ++ [p]):=by
 refine⟨nodup_put _ _ h.nd,?_,fun k=>?_,fun k hk=>?_⟩
 ·have:=length_put d p.1 (getI d p.1+p.2);have:=h.len;simp;omega
 ·rw[getI_put,coef_snoc,← h.val];by_cases e:k=p.1
  ·subst e;simp
  ·simp[e,show ¬ p.1=k from fun z=>e z.symm]
 ·rw[keys_put] at hk;rw[List.map_append,List.mem_append];split at hk
  ·exact .inl (h.src k hk)
  ·rcases List.mem_append.mp hk with hk | hk
   ·exact .inl (h.src k hk)
   ·exact .inr (by simpa using hk)
noncomputable def formOf (d:Terms) (ks:List Int):Terms:=(ks.filter fun k=>decide (getI d k≠0)).map fun k=>(k,getI d k)
theorem coef_formOf (d:Terms):∀ (ks:List Int),ks.Nodup→∀ k,coef (formOf d ks) k=if k∈ks then getI d k else 0
 | [],_,k=>by simp[formOf,coef]
 | a :: r,hn,k=>by
  have h1:=List.nodup_cons.mp hn;have ih:=coef_formOf d r h1.2 k;have e0:formOf d (a :: r)=if getI d a≠0 then (a,getI d a) :: formOf d r else formOf d r:=by
   unfold formOf;rw[List.filter_cons];by_cases e:getI d a=0 <;> simp[e]
  rw[e0];by_cases e:a=k
  ·subst e;have:¬ a∈r:=h1.1;by_cases z:getI d a=0
   ·simp[z,ih,this]
   ·simp[z,coef,ih,this]
  ·have e':¬ k=a:=fun z=>e z.symm
   by_cases z:getI d a=0
   ·simp[z,ih,e']
   ·simp[z,coef,ih,e,e']
theorem formOf_isForm (d:Terms) {ks:List Int} (h:ks.Pairwise (· < ·)):IsForm (formOf d ks):=by
 refine⟨?_,fun p hp=>?_⟩
 ·unfold formOf;rw[List.pairwise_map];exact (h.filter _)
 ·unfold formOf at hp;obtain⟨k,hk,e⟩:=List.mem_map.mp hp;subst e;simpa using (List.mem_filter.mp hk).2
theorem lt_of_le_nodup:∀ {ks:List Int},ks.Pairwise (· ≤ ·)→ks.Nodup→ks.Pairwise (· < ·)
 | [],_,_=>.nil
 | a :: r,h,n=>by
  have h1:=List.pairwise_cons.mp h;have n1:=List.nodup_cons.mp n;refine .cons (fun b hb=>?_) (lt_of_le_nodup h1.2 n1.2)
  have:=h1.1 b hb
  have:a≠b:=fun e=>n1.1 (e ▸ hb)
  omega
structure FormOf (f l:Terms):Prop extends IsForm f where
 val:∀ k,coef f k=coef l k
 src:∀ p∈f,p.1∈l.map (·.1)
theorem formOf_ok {d l:Terms}{ks:List Int} (h:DictOf d l) (hp:ks.Perm (d.map (·.1))) (hs:ks.Pairwise (· ≤ ·)):FormOf (formOf d ks) l:=by
 have nd:ks.Nodup:=hp.nodup_iff.mpr h.nd;refine⟨formOf_isForm d (lt_of_le_nodup hs nd),fun k=>?_,fun p hq=>?_⟩
 ·rw[coef_formOf d ks nd,← h.val];split
  ·rfl
  ·rename_i hk;unfold getI
   have:look d k=none:=by
    cases q:look d k with
    | none=>rfl
    | some x=>exact (hk (hp.mem_iff.mpr (look_mem.mp (by rw[q];simp)))).elim
   rw[this];rfl
 ·unfold formOf at hq;obtain⟨k,hk,e⟩:=List.mem_map.mp hq;subst e;exact h.src k (hp.mem_iff.mp (List.mem_filter.mp hk).1)
theorem FormOf.unique {f g l m:Terms} (a:FormOf f l) (b:FormOf g m) (h:∀ k,coef l k=coef m k):f=g :=
 form_ext a.toIsForm b.toIsForm fun k=>by rw[a.val,b.val,h]
theorem formOf_length (d:Terms) (ks:List Int):(formOf d ks).length≤ks.length:=by
 unfold formOf;rw[List.length_map];exact List.length_filter_le _ _
end OF
namespace L2
open PySem PySem.Spec PyProof.Rows
section
variable {X:Cx}
noncomputable def CDivG (i j:Int):Prop:=0<j∧j.natAbs.log2<9000
theorem op_fdivG:OpR X (binaryOp .FloorDiv) (rI CDivG fun i j=>.int (i / j)):=opI fun i j _ _ _ _ _ hc q=>by
 have h1:(0:Int)<j:=hc.1;have e:i.fdiv j=i / j:=Int.fdiv_eq_ediv_of_nonneg i (Int.le_of_lt h1);exact floordiv_int (Int.ne_of_gt h1) (by rw[e];exact q) (.inl (PyProof.noPylong_of_log2 hc.2))
theorem op_mulO:OpR X (binaryOp .Mult) (rI IntMulOk fun i j=>.int (i * j)):=opI fun _ _ _ _ _ _ _ hc q=>mul_int q hc
theorem call_isinstance:CallR X (.builtin "isinstance") (fun xs H Q=>∃ x n t b,xs=[x,V.ty n]∧TyOf X.K H x t∧PySem.W.kitOne X.K t (.type n)=some b∧Q (.bl b) H):=by
 intro pins s σ H xs us Q I r h;obtain⟨x,n,t,b,rfl,ty,e,q⟩:=h;obtain⟨u,w',rfl,ru,rw'⟩:=vals2 r;cases (show w'=Value.type n from rw');exact isinst_ok I ru ty e fun tk=>⟨.bl b,H,I.tok _,rfl,q⟩
end
end L2
namespace L2
open PySem PySem.Spec PyProof.Rows
theorem ObjOk.there {P:Program}{w:World}{H:Hp}{h:Heap}{a:Addr}{o:HO} (x:ObjOk P w H h a o):∃ ob,h.get? a=some ob:=by
 cases o with
 | lst xs=>obtain⟨_,_,_,_,e⟩:=x;exact⟨_,e⟩
 | tup xs=>obtain⟨_,_,_,o,e,_⟩:=x;exact⟨_,e⟩
 | dK kvs=>obtain⟨_,_,_,_,o,_,_,e,_⟩:=x;exact⟨_,e⟩
 | dT kvs=>obtain⟨_,_,_,_,o,_,_,e,_⟩:=x;exact⟨_,e⟩
 | set S n=>obtain⟨o,_,_,_,e,_⟩:=x;exact⟨_,e⟩
 | ins C dx fs=>obtain⟨_,_,_,e,_⟩:=x;exact⟨_,e⟩
 | own y=>exact x
 | xd fs=>obtain⟨_,⟨_,_,_,e,_⟩,_⟩:=x;exact⟨_,e⟩
 | rng lo hi=>obtain⟨_,_,_,e⟩:=x;exact⟨_,e⟩
 | frz ob u=>obtain⟨e,_⟩:=x;exact⟨_,e⟩
 | tbl ps=>exact⟨_,x⟩
 | met f y=>exact⟨_,x⟩
 | ext φ => obtain⟨_,e,_⟩:=x;exact e
theorem Inv.laidN {X:Cx}{pins:List (Addr × Obj)} {σ:St}{H:Hp}{s:Shared}{h':Heap}{a:Addr}{o:HO}{t':Nat} (I:Inv X pins σ H s) (k:∀ b u,s.heap.get? b=some u→h'.get? b=some u) (hn:s.heap.get? a=none)
  (new:ObjOk X.prog X.w (upd H a o) h' a o):Inv X pins σ (upd H a o) { s with heap:=h',toks:=t' }:=by
 have hH:H a=none:=by
  cases q:H a with
  | none=>rfl
  | some u =>
   obtain⟨ob,e⟩:=(I.hok a u q).there;rw[hn] at e;cases e
 refine I.un ⟨fun b u q _ _ _=>k b u q,fun b u q _ _ _=>⟨u.slots,k b u q⟩,fun b u q n _=>?_,fun b u q _=>⟨u,k b u q⟩,fun b xs q=>?_,fun b u xs q=>?_,fun b ps q=>⟨#[],?_⟩⟩ fun b u e=>?_
 ·rw[upd_ne (by intro z;rw[z,hn] at q;cases q)];exact n
 ·rw[upd_ne (ne_of_none q hH)];exact q
 ·rw[upd_ne (ne_of_none q hH)];exact q
 ·rw[upd_ne (ne_of_none q hH),q];simp
 ·by_cases hb:b=a
  ·subst hb;rw[upd_same] at e;cases e;exact new
  ·rw[upd_ne hb] at e;exact (I.hok b u e).stay (fun c v _ q=>k c v q) (fun c q=>by rw[upd_ne (ne_of_none q hH)];exact q) fun c xs q=>by rw[upd_ne (ne_of_none q hH)];exact q
theorem closureFor_of {env:Env}:∀ (names:List (Str × NameKind)) (acc:List (Str × Addr)),(∀ x,(x,NameKind.free)∈names→∃ c,env.cells.lookup x=some c) →
  ∃ cl,(forIn names acc fun (x:Str × NameKind) (cs:List (Str × Addr))=>(if (x.2 == NameKind.free)=true then (do let a ← cellOf env x.1;pure (ForInStep.yield ((x.1,a) :: cs))) else pure (ForInStep.yield cs):Sem (ForInStep (List (Str × Addr)))))=pure cl ∧
   ∀ x,cl.lookup x=(if (x,NameKind.free)∈names then env.cells.lookup x else acc.lookup x)
 | [],acc,_=>⟨acc,rfl,fun x=>by simp⟩
 | (n,k) :: r,acc,h=>by
  by_cases hk:k=NameKind.free
  ·subst hk;obtain⟨c,hc⟩:=h n (by simp);obtain⟨cl,e,l⟩:=closureFor_of (env:=env) r ((n,c) :: acc) fun x hx=>h x (by simp[hx])
   refine⟨cl,?_,fun x=>?_⟩
   ·rw[List.forIn_cons];have hcell:cellOf env n=pure c:=by unfold cellOf;rw[hc]
    simp only[beq_self_eq_true,if_true,hcell,pure_bind];exact e
   ·rw[l x];by_cases hx:(x,NameKind.free)∈r
    ·simp[hx]
    ·by_cases hn:x=n
     ·subst hn;simp[hx,hc]
     ·have hb:(x == n)=false:=by simpa using hn
      simp[hx,hn,List.lookup_cons,hb]
  ·have hb:(k == NameKind.free)=false:=by simpa using hk
   obtain⟨cl,e,l⟩:=closureFor_of (env:=env) r acc fun x hx=>h x (by simp[hx])
   refine⟨cl,?_,fun x=>?_⟩
   ·rw[List.forIn_cons];simp only[hb,Bool.false_eq_true,if_false,pure_bind];exact e
   ·rw[l x];have:¬ ((x,NameKind.free)=(n,k)):=fun z=>hk (by injection z with _ z2;exact z2.symm)
    simp[List.mem_cons,this]
theorem lookup_relabel (env:Env) (x:Str):∀ (names:List (Str × NameKind)),(names.map fun (n,k)=>if (k == NameKind.free && env.scope.kind == .function && env.kindOf n == some .cell) then (n,NameKind.cell) else (n,k)).lookup x =
  (names.lookup x).map fun k=>if (k == NameKind.free && env.scope.kind == .function && env.kindOf x == some .cell) then NameKind.cell else k
 | []=>rfl
 | (n,k) :: r=>by
  have ih:=lookup_relabel env x r;show List.lookup x ((if (k == NameKind.free && env.scope.kind == .function && env.kindOf n == some .cell)=true then (n,NameKind.cell) else (n,k)) :: _)=_;by_cases hx:x=n
  ·subst hx;split <;> simp_all [List.lookup_cons]
  ·have hb:(x == n)=false:=by simpa using hx
   split
   ·simp only[List.lookup_cons,hb];exact ih
   ·simp only[List.lookup_cons,hb];exact ih
noncomputable abbrev cxComp (X:Cx) (N':List Str) (scope:Scope) (cl:List (Str × Addr)) (C:Addr) (s₀:Shared) (H₀:Hp) (fp:List Addr):Cx :=
 { X with N:=N',s₀:=s₀,H₀:=H₀,env:=compEnvC scope cl C X.env,outer:=X.stack,ex:=fp,fn:=fun _=>false,pn:=[],xe:=fun _ _=>False }
structure CompSc (X:Cx) (scope:Scope) (N':List Str) (nT:Nat) (js:List Nat):Prop where
 kind:scope.kind = .function
 nocell:∀ y∈scope.names,y.2 ≠ .cell
 names:∀ y∈scope.names,y.2 = .local→scope.names.lookup y.1=some .local
 len:N'.length=nT+js.length
 frees:∀ (k j:Nat) (x:Str),js[k]? = some j→N'[nT+k]? = some x→X.N[j]? = some x
 kinds:∀ y∈scope.names,y.2 = .free→X.env.scope.names.lookup y.1=some .cell
 vis:∀ x∈N'.drop nT,scope.names.lookup x=some .free
noncomputable def startC (nT:Nat) (js:List Nat) (σ:St):St:=List.replicate nT none++js.map fun j=>(σ[j]?).join
noncomputable def tComp (wi:TI) (nT:Nat) (js:List Nat) (g:TG) (tc:TT) (te:TE):TE:=fun σ H Q=>wi σ H fun J H1=>∃ W:Nat→Nat→List V→St→Hp→Prop,(∃ m,W 0 m [] (startC nT js σ) H1)∧∀ i m ys σ H,W i m ys σ H →
 (J.stop i H∧∀ D,H D=none→Q (.ref D) (upd H D (.lst ys))) ∨
 (J.go i H∧ys.length<sizeLine∧∃ N:List V→St→Hp→Prop,(∀ ys' σ' H',N ys' σ' H'→∃ m',m'<m∧W (i+1) m' ys' σ' H') ∧
  ∀ x H',J.yld i H x H'→g x σ H' fun σ2 H2=>tc σ2 H2 fun b H3=>if b=true then te σ2 H3 fun y H4=>N (ys ++ [y]) σ2 H4 else N ys σ2 H3)
noncomputable def PTs (X:Cx) (ifs:List Expr) (t:TT):Prop :=
 ∀ (pins:List (Addr × Obj)) (s:Shared) (σ:St) (H:Hp) (Q:Bool→Hp→Prop),Inv X pins σ H s→t σ H Q →
  wpAny (model X.prog X.w) X.A (forIn ifs true fun c r=>if r=true then do let ok ← isTrue c X.env (eval c X.env);pure (ForInStep.yield ok) else pure (ForInStep.yield r)) (TP X pins σ Q) X.xe s
noncomputable def tTrue:TT:=fun _ H Q=>Q true H
theorem pts_nil {X:Cx}:PTs X [] tTrue:=fun _ _ _ H _ I h=>wpAny_tests_nil ⟨H,I,h⟩
theorem pts_one {X:Cx}{c:Expr}{t:TT} (h:PT X c t):PTs X [c] t:=fun pins s σ H Q I q=>wpAny_tests_one (h pins s σ H Q I q)
section
variable {prog:Program}{w:World}{A:Around}{R:Result→Shared→Prop}{s:Shared}
theorem compLoop_any {elt target iter:Expr}{ifs:List Expr}{scope:Scope}{pos:Pos}{it acc:Value}{env:Env} (I:Nat→Shared→Prop)
  (turn:∀ n s,I n s→wpAny (model prog w) A (pyNext it) (fun r s₁=>match r with
   | none=>R (.ok .next) s₁
   | some v=>wpAny (model prog w) A (letOwnedTupleGo target it v) (fun _ s₁'=>wpAny (model prog w) A (assign target env v) (fun _ s₂ =>
     wpAny (model prog w) A (forIn ifs true fun c r=>if r=true then do let ok ← isTrue c env (eval c env);pure (ForInStep.yield ok) else pure (ForInStep.yield r)) (fun ok s₃ =>
      if ok=true then wpAny (model prog w) A (eval elt env) (fun x s₄ =>
       wpAny (model prog w) A (call (.builtin "list.append") [acc,x]) (fun _ s₅=>∃ m,m<n∧I m s₅) (fun _ _=>False) s₄) (fun _ _=>False) s₃
      else ∃ m,m<n∧I m s₃) (fun _ _=>False) s₂) (fun _ _=>False) s₁') (fun _ _=>False) s₁) (fun _ _=>False) s)
  (n:Nat) (h:I n s) :
  codeAny (model prog w) A (.compLoop (.ListComp elt [⟨target,iter,ifs,0⟩] scope pos) 0 it acc env) R s:=by
 refine codeAny_loop rfl I (fun n s hI=>?_) n h;show wpAny _ A ((compTurn (.ListComp elt [⟨target,iter,ifs,0⟩] scope pos) 0 it acc env).onRaise (fun x=>do noteFrame x env;theTreesLotGoes x)) _ _ s;refine wpAny_noted ?_;rw[compTurn_list];refine wpAny_bind (wpAny_standAt (wpAny_bind (wpAny_mono (turn n s hI) (fun r s₁ h₁=>?_) fun _ _ h'=>h'.elim)));cases r with
 | none=>exact wpAny_pure h₁
 | some v =>
  refine wpAny_bind (wpAny_mono h₁ (fun _ s₁' h₁'=>?_) fun _ _ h'=>h'.elim);refine wpAny_bind (wpAny_mono h₁' (fun _ s₂ h₂=>wpAny_bind (wpAny_mono h₂ (fun ok s₃ h₃=>?_) fun _ _ h'=>h'.elim)) fun _ _ h'=>h'.elim);cases ok with
  | false=>exact wpAny_pure ⟨rfl,h₃⟩
  | true =>
   exact wpAny_bind (wpAny_bind (wpAny_mono h₃ (fun x s₄ h₄=>wpAny_bind (wpAny_mono h₄ (fun _ s₅ h₅=>wpAny_pure (wpAny_pure ⟨rfl,h₅⟩)) fun _ _ h'=>h'.elim)) fun _ _ h'=>h'.elim))
end
set_option maxHeartbeats 4000000 in
theorem comp_core {X:Cx}{tg iter elt:Expr}{ifs:List Expr}{scope:Scope}{pos:Pos}{N':List Str}{nT:Nat}{js:List Nat}{g:TG}{tc:TT}{te:TE}{RR:Value→Addr→Result→Shared→Prop}
  (hc:X.calm=true) (S:CompSc X scope N' nT js) {pins:List (Addr × Obj)} {σ:St}{H2:Hp}{s2:Shared}{cl:List (Str × Addr)}{it:Addr}{fp:List Addr}{tn:Nat→Heap→Prop}{J:It}
  (hcl:∀ x,cl.lookup x=(if (x,NameKind.free)∈scope.names then X.env.cells.lookup x else none))
  (hg:∀ C s₀ H₀ fp,PG (cxComp X N' scope cl C s₀ H₀ fp) tg g) (ht:∀ C s₀ H₀ fp,PTs (cxComp X N' scope cl C s₀ H₀ fp) ifs tc) (he:∀ C s₀ H₀ fp,PE (cxComp X N' scope cl C s₀ H₀ fp) elt te)
  (I2:Inv X pins σ H2 s2) (T:Turn X.prog X.w X.K tg J fp it tn) (st2:tn 0 s2.heap) (f2:∀ b∈fp,FpOk X pins H2 b) {QQ:Addr→List V→Hp→Prop}
  (W:Nat→Nat→List V→St→Hp→Prop) (w0:∃ m,W 0 m [] (startC nT js σ) H2)
  (turn:∀ i m ys σ H,W i m ys σ H→(J.stop i H∧∀ D,H D=none→QQ D ys H) ∨
   (J.go i H∧ys.length<sizeLine∧∃ N:List V→St→Hp→Prop,(∀ ys' σ' H',N ys' σ' H'→∃ m',m'<m∧W (i+1) m' ys' σ' H') ∧
    ∀ x H',J.yld i H x H'→g x σ H' fun σ2 H2=>tc σ2 H2 fun b H3=>if b=true then te σ2 H3 fun y H4=>N (ys ++ [y]) σ2 H4 else N ys σ2 H3))
  (hRR:∀ (D C:Addr) (s':Shared) (ys:List V) (H':Hp) (m:Str→Option Value),QQ D ys H'→s'.heap.Ns C m→s2.heap.get? C=none→s2.heap.objs.size≤C→D≠C→H' C=none→(∀ h',Heap.SameBut C s'.heap h'→Inv X pins σ (upd H' D (.lst ys)) { s' with heap:=h' })→RR (.ref D) C (.ok .next) s') :
  wpAny (model X.prog X.w) X.A (newList []) (fun acc s₃=>wpAny (model X.prog X.w) X.A (newFunctionEnv scope X.env.globals cl [] X.env.qual none .none (some X.env)) (fun cenv s₄ =>
   codeAny (model X.prog X.w) X.A (.compStart (.ListComp elt [⟨tg,iter,ifs,0⟩] scope pos) 0 (.ref it) acc { cenv with scope:=relabel scope X.env }) (RR acc cenv.locals) s₄) (fun _ _=>False) s₃) (fun _ _=>False) s2:=by
 refine wpAny_newObj_type (wpAny_newFunctionEnv S.nocell (by intro y hy;simp at hy) (fun h₁ hns₁ hsb₁=>?_) S.kind);dsimp only at hns₁ hsb₁ ⊢;generalize hH2:s2.heap.push { cls := .type "list",dict:=none,data := .seq ([]:List Value).toArray }=G2 at hns₁ hsb₁ ⊢;have hC:G2.objs.size=s2.heap.objs.size+1:=by rw[← hH2,Heap.size_push]
 generalize hCC:G2.objs.size=C at hns₁ hsb₁ hC ⊢;generalize hDD:s2.heap.objs.size=D at hC ⊢;have hDC:D≠C:=by omega
 have below:∀ b o,s2.heap.get? b=some o→b≠C∧b≠D:=fun b o e=>by
  have h:@LT.lt Nat _ b s2.heap.objs.size:=Heap.lt_size e;exact⟨fun z=>by have z':@Eq Nat b C:=z;omega,fun z=>by have z':@Eq Nat b D:=z;omega⟩
 have old:∀ b o,s2.heap.get? b=some o→h₁.get? b=some o:=fun b o e=>hsb₁.extBut b o (below b o e).1 (Heap.get?_push_of_some _ (hH2 ▸ Heap.get?_push_of_some _ e))
 have hacc:h₁.get? D=some { cls := .type "list",data := .seq ([]:List Value).toArray }:=hsb₁.extBut _ _ hDC (Heap.get?_push_of_some _ (by rw[← hH2,← hDD];exact Heap.get?_push_size _ rfl));have nC:s2.heap.get? C=none:=Heap.get?_none_of_le (by omega);have nD:s2.heap.get? D=none:=Heap.get?_none_of_le (by omega);have fC:H2 C=none:=I2.hok.fresh (by omega);have fD:H2 D=none:=I2.hok.fresh (by omega);have fpl:∀ b∈fp,b≠C∧b≠D:=fun b hb=>by obtain⟨o,e,_⟩:=T.obj _ _ st2 b hb;exact below b o e
 have nstk:∀ b∈fp,b ∉ frs X.stack:=fun b hb z=>by
  obtain⟨_,f1,f3,_⟩:=f2 b hb;rcases List.mem_cons.mp (I2.stkSub b z) with e | e
  ·exact f1 e
  ·exact f3 e
 have clO:∀ x c,cl.lookup x=some c→X.env.cells.lookup x=some c∧(x,NameKind.free)∈scope.names:=fun x c e=>by
  rw[hcl] at e;split at e
  ·rename_i hm;exact⟨e,hm⟩
  ·cases e
 have stkD:∀ b∈frs X.stack,b≠D∧b≠C:=fun b hb=>by
  have h:=I2.stkSub b hb;rcases List.mem_cons.mp h with e | e
  ·have h1:@LT.lt Nat _ X.env.locals s2.heap.objs.size:=I2.lt;have h2:@Eq Nat b X.env.locals:=e;exact⟨fun z=>by have z':@Eq Nat b D:=z;omega,fun z=>by have z':@Eq Nat b C:=z;omega⟩
  ·obtain⟨_,o,ho,_⟩:=I2.ok.funs.mem e;have h1:@LT.lt Nat _ b X.s₀.heap.objs.size:=Heap.lt_size ho;have h2:=I2.sz;exact⟨fun z=>by have z':@Eq Nat b D:=z;omega,fun z=>by have z':@Eq Nat b C:=z;omega⟩
 have ok':(cxComp X N' scope cl C s2 H2 fp).Ok:=by
  refine⟨I2.ok.mod,S.kind,I2.ok.glob,I2.ok.blt,(by show s2.heap.objs.size≤C;omega),fun x y c h1 h2=>I2.ok.inj x y c (clO x c h1).1 (clO y c h2).1,fun x hx=>?_,fun x c hx _=>(Bool.false_ne_true hx).elim,fun _=>I2.ok.hd hc,I2.ok.frames,.inl rfl,
   fun b hb=>⟨(fpl b hb).1,fun x c e=>(f2 b hb).2.2.2.2.1 x c (clO x c e).1⟩,I2.bs,Nat.le_trans I2.ok.bsz I2.sz,fun b o e hb=>?_,nstk,I2.stack,I2.stkFree⟩
  ·have hx':(relabel scope X.env).names.lookup x=some .cell∨(relabel scope X.env).names.lookup x=some .free:=hx;have hk:(relabel scope X.env).names.lookup x=_:=lookup_relabel X.env x scope.names;rw[hk] at hx';have hf:(x,NameKind.free)∈scope.names:=by
    cases q:scope.names.lookup x with
    | none=>rw[q] at hx';rcases hx' with z | z <;> cases z
    | some k =>
     have hm:=PySem.mem_of_lookup q;cases k with
     | free=>exact hm
     | cell=>exact absurd rfl (S.nocell _ hm)
     | _=>rw[q] at hx';rcases hx' with z | z <;> simp at z
   obtain⟨c,e⟩:=I2.ok.has x (.inl (S.kinds _ hf rfl));exact⟨c,by show cl.lookup x=some c;rw[hcl,if_pos hf];exact e⟩
  ·rcases (f2 b hb).2.2.2.1 with z | z
   ·exact I2.ok.noex b o e z
   ·have h1:@LT.lt Nat _ b X.s₀.heap.objs.size:=Heap.lt_size (I2.ok.bs b o e).1;have h2:@LE.le Nat _ X.s₀.heap.objs.size b:=z;omega
 have I0:Inv (cxComp X N' scope cl C s2 H2 fp) [] (startC nT js σ) H2 { s2 with heap:=h₁,toks:=s2.toks+([]:List (Str × Value)).length }:=by
  refine⟨ok',rfl,I2.bare,Un.kept old,⟨_,hns₁,fun i x v e1 e2 e3=>?_⟩,fun x c e=>?_,fC,fun x c e=>I2.freeC x c (clO x c e).1,fun p hp=>absurd (show p∈([]:List (Addr × Obj)) from hp) (by simp),I2.hok.kept old,?_⟩
  ·unfold startC at e2;by_cases hi:i<nT
   ·rw[List.getElem?_append_left (by simpa using hi),List.getElem?_replicate,if_pos hi] at e2;cases e2
   ·rw[List.getElem?_append_right (by simpa using hi),List.length_replicate,List.getElem?_map] at e2;obtain⟨k,hk⟩:∃ k,i=nT+k:=⟨i-nT,by omega⟩;subst hk;rw[Nat.add_sub_cancel_left] at e2;cases q:js[k]? with
    | none=>rw[q] at e2;cases e2
    | some j =>
     rw[q] at e2;have e2':(σ[j]?).join=some v:=Option.some.inj e2;have e3' : σ[j]? = some (some v):=by
      cases z : σ[j]? with
      | none=>rw[z] at e2';cases e2'
      | some a=>rw[z] at e2';exact congrArg some e2'
     have hxN:=S.frees k j x q e1;have hlk:scope.names.lookup x=some .free:=S.vis x (by
      rw[List.mem_iff_getElem?];exact⟨k,by rw[List.getElem?_drop];exact e1⟩)
     have hfree:(x,NameKind.free)∈scope.names:=PySem.mem_of_lookup hlk;have hcell:=S.kinds _ hfree rfl;obtain⟨m,hn,hl⟩:=I2.loc;obtain⟨u,r,l⟩:=hl j x v hxN e3' (.inr (.inl hcell));refine⟨u,r,?_⟩;rcases l with ⟨l,_⟩ | ⟨_,c,ec,ic⟩
     ·have l':X.env.scope.names.lookup x=some .local:=l;rw[hcell] at l';cases l'
     ·refine .inr ⟨?_,c,?_,?_⟩
      ·left;show (relabel scope X.env).names.lookup x=some .cell;have hk:(relabel scope X.env).names.lookup x=_:=lookup_relabel X.env x scope.names;have hkind:X.env.scope.kind = .function:=I2.ok.kind;have hko:X.env.kindOf x=some .cell:=hcell;rw[hk,hlk,Option.map_some,hkind,hko];rfl
      ·show cl.lookup x=some c;rw[hcl,if_pos hfree];exact ec
      ·exact ic.keeps old
  ·obtain⟨v,q⟩:=I2.cell x c (clO x c e).1;exact⟨v,q.keeps old⟩
  ·unfold startC;rw[List.length_append,List.length_replicate,List.length_map];exact S.len.symm
 have lp:∀ s₃:Shared,s₃={ s2 with heap:=h₁,toks:=s2.toks+([]:List (Str × Value)).length } →
   codeAny (model X.prog X.w) X.A (.compLoop (.ListComp elt [⟨tg,iter,ifs,0⟩] scope pos) 0 (.ref it) (.ref D) (compEnvC scope cl C X.env)) (RR (.ref D) C) s₃:=by
  rintro s₃ rfl;obtain⟨m0,w0⟩:=w0;refine compLoop_any (fun n s'=>∃ (i:Nat) (ys:List V) (its:List Value) (no:Nat) (σ':St) (H':Hp),Inv (cxComp X N' scope cl C s2 H2 fp) [(D,{ cls := .type "list",data := .seq its.toArray no })] σ' H' s'∧Vals ys its∧tn i s'.heap∧(∀ b∈fp,H' b=none)∧ys.length≤sizeLine∧W i n ys σ' H') ?_ m0
   ⟨0,[],[],0,startC nT js σ,H2,I0.pins_of fun p hp=>?_,.nil,T.keep _ _ _ st2 fun b _ o e=>old b o e,fun b hb=>(f2 b hb).1,Nat.zero_le _,w0⟩
  ·rintro n s3 ⟨i,ys,its,no,σ3,H3,I3,rv,st3,fr3,hz,w3⟩;have fpk:∀ {H':Hp},(∀ b∈fp,H' b=none)→∀ b∈fp,FpOk (cxComp X N' scope cl C s2 H2 fp) [(D,{ cls := .type "list",data := .seq its.toArray no })] H' b:=fun hn b hb =>
    ⟨hn b hb,(fpl b hb).1,nstk b hb,.inl hb,fun x c e=>(f2 b hb).2.2.2.2.1 x c (clO x c e).1,fun p hp=>by
     have e:p=(D,{ cls := .type "list",data := .seq its.toArray no }):=by simpa using hp
     rw[e];exact Ne.symm (fpl b hb).2⟩
   rcases turn i n ys σ3 H3 w3 with ⟨stop,q⟩ | ⟨go,hlt,N,hN,step⟩
   ·refine wpAny_mono (T.done (cxComp X N' scope cl C s2 H2 fp) rfl rfl rfl hc i _ s3 σ3 H3 (fun _ _=>False) I3 (fpk fr3) st3 stop) (fun r s4 ⟨hr,I4⟩=>?_) fun _ _ h=>h
    subst hr;obtain⟨pD1,pD2,pD3,pD4,_⟩:=I4.pin (D,{ cls := .type "list",data := .seq its.toArray no }) (by simp);obtain⟨m,hn,_⟩:=I4.loc;have fC4:H3 C=none:=I4.free;refine hRR D C s4 ys H3 m (q D pD2) hn nC (by omega) hDC fC4 fun h' sb=>?_
    have k4:∀ b o,b≠C→s4.heap.get? b=some o→h'.get? b=some o:=fun b o hb e=>sb.extBut b o hb e
    have tne:∀ b u,H3 b=some u→b≠D:=fun b u e=>ne_of_none e pD2
    refine I2.call' (s':={ s4 with heap:=h' }) (ch:=fp) I4.os ⟨fun b o e n hb hx=>k4 b o (below b o e).1 (I4.base.keep b o e n hb hx),fun b o e n hb hx=>?_,fun b o e n hx=>?_,fun b o e hx=>?_,fun b xs e=>?_,fun b o u e=>?_,fun b ps e=>?_⟩ (fun b u e=>?_) I4.bare fun b hb=>?_
    ·obtain⟨sl,e'⟩:=I4.base.slot b o e n hb hx;exact⟨sl,k4 b _ (below b o e).1 e'⟩
    ·rw[upd_ne (below b o e).2];exact I4.base.free b o e n hx
    ·obtain⟨o',e'⟩:=I4.base.there b o e hx;exact⟨o',k4 b o' (below b o e).1 e'⟩
    ·have e':=I4.base.tups b xs e;rw[upd_ne (tne b _ e')];exact e'
    ·have e':=I4.base.frzs b o u e;rw[upd_ne (tne b _ e')];exact e'
    ·obtain⟨more,e'⟩:=I4.base.tbls b ps e;exact⟨more,by rw[upd_ne (tne b _ e')];exact e'⟩
    ·by_cases hb:b=D
     ·subst hb;rw[upd_same] at e;cases e;exact⟨hz,its,no,rv,k4 b _ hDC pD1⟩
     ·rw[upd_ne hb] at e;refine (I4.hok b u e).stay (fun c v hcc z=>k4 c v ?_ z) (fun c z=>by rw[upd_ne (tne c _ z)];exact z) fun c xs z=>by rw[upd_ne (tne c _ z)];exact z
      rcases hcc with rfl | hcc
      ·exact ne_of_none e fC4
      ·exact ne_of_none hcc fC4
    ·obtain⟨_,g1,_,g3,g4,g5⟩:=f2 b hb;exact⟨g3,g1,g4,g5⟩
   ·refine wpAny_mono (T.item (cxComp X N' scope cl C s2 H2 fp) rfl rfl rfl hc i _ s3 σ3 H3 (fun _ _=>False) I3 (fpk fr3) st3 go) (fun r s4 ⟨u,hr,h4⟩=>?_) fun _ _ h=>h
    subst hr;refine wpAny_mono h4 (fun _ s5 ⟨x,H5,I5,r5,y5,st5,fr5⟩=>?_) fun _ _ h=>h
    have I5':=I5.pinned (fpk fr5) (T.obj _ _ st5);refine wpAny_mono (hg C s2 H2 fp _ s5 σ3 H5 x u _ I5' r5 (step x H5 y5)) (fun _ s6 ⟨σ6,H6,I6,q6⟩=>?_) fun _ _ h=>h
    refine wpAny_mono (ht C s2 H2 fp _ s6 σ6 H6 _ I6 q6) (fun ok s7 ⟨H7,I7,q7⟩=>?_) fun _ _ h=>h
    have back:∀ {pp:List (Addr × Obj)}{s':Shared} {σ':St}{H':Hp},(∀ b∈fp,∀ o,s5.heap.get? b=some o→(b,o)∈pp)→Inv (cxComp X N' scope cl C s2 H2 fp) pp σ' H' s'→tn (i+1) s'.heap∧∀ b∈fp,H' b=none:=fun {pp s' σ' H'} hpp I'=>by
     refine⟨T.keep _ _ _ st5 fun b hb o e=>(I'.pin (b,o) (List.mem_append_right _ (hpp b hb o e))).1,fun b hb=>?_⟩;obtain⟨o,e,d⟩:=T.obj _ _ st5 b hb;exact (I'.pin (b,o) (List.mem_append_right _ (hpp b hb o e))).2.1
    have inpp:∀ b∈fp,∀ o,s5.heap.get? b=some o→(b,o)∈[(D,({ cls := .type "list",data := .seq its.toArray no }:Obj))]++pinsAt fp s5.heap:=fun b hb o e=>List.mem_append_right _ (mem_pinsAt hb e)
    cases ok with
    | false =>
     rw[if_neg Bool.false_ne_true];rw[if_neg Bool.false_ne_true] at q7;obtain⟨m',hm,w7⟩:=hN _ _ _ q7;obtain⟨b1,b2⟩:=back inpp I7;exact⟨m',hm,i+1,ys,its,no,σ6,H7,I7.unpinned,rv,b1,b2,hz,w7⟩
    | true =>
     rw[if_pos rfl];rw[if_pos rfl] at q7;refine wpAny_mono (he C s2 H2 fp _ s7 σ6 H7 _ I7 q7) (fun v8 s8 ⟨y,H8,I8,r8,q8⟩=>?_) fun _ _ h=>h
     obtain⟨eD,nD8,neL,nf,_⟩:=I8.pin (D,{ cls := .type "list",data := .seq its.toArray no }) (List.mem_append_right _ (List.mem_append_left _ (by simp)));have hlen:=rv.length;refine call_meets F.slot_list_append ⟨_,eD,rfl⟩ F.entry_list_append (F.args_list_append_2 _ _) (PySem.list_append D its.toArray no v8 (by rw[List.size_toArray];omega)) ⟨eD,?_⟩;obtain⟨m',hm,w8⟩:=hN _ _ _ q8;have I9:Inv (cxComp X N' scope cl C s2 H2 fp) (pinsAt fp s5.heap) σ6 H8 s8:=I8.pins_of fun p hp=>I8.pin p (List.mem_append_right _ (List.mem_append_right _ hp))
     have hup:=get?_update_seq eD (fun a=>a.push v8);have I10:=I9.turned (h':=s8.heap.update D (Obj.mapSeq fun a=>a.push v8)) (t':=s8.toks) (it:=D) (fun b o hb e=>(Heap.get?_update_ne _ _ _ _ hb).trans e) nD8 neL (.inr (by show s2.heap.objs.size≤D;omega))
      (fun x c e z=>by
       obtain⟨v,oc,hoc,hdc⟩:=I8.cell x c e;rw[z,eD] at hoc;cases hoc;cases hdc) (fun p hp z=>by
        have hp':p∈pinsAt fp s5.heap:=by simpa using hp
        exact (fpl p.1 (of_pinsAt hp').1).2 z)
     obtain⟨b1,b2⟩:=back (fun b hb o e=>mem_pinsAt hb e) I10;refine⟨m',hm,i+1,ys ++ [y],its ++ [v8],(if ((its.toArray.push v8).size == its.toArray.size)=true then no else no+1),σ6,H8,I10.pins_of fun p hp=>?_,rv.append (.cons r8 .nil),b1,b2,(by rw[List.length_append];simp;omega),w8⟩;obtain rfl:=List.mem_singleton.mp hp;refine⟨?_,nD8,neL,nf,fun v z=>by cases z⟩;refine hup.trans ?_;rw[List.push_toArray]
  ·have e:p=(D,{ cls := .type "list",data := .seq ([]:List Value).toArray }):=by simpa using hp
   subst e;exact⟨hacc,fD,hDC,fun z=>(stkD D z).1 rfl,fun v z=>by cases z⟩
 exact codeAny_compStart_list (lp _ rfl) (T.self _ 0 _ _ _ (T.keep _ _ _ st2 fun b _ o e=>old b o e) (lp _ rfl))
theorem pe_comp {X:Cx}{tg iter elt:Expr}{ifs:List Expr}{scope:Scope}{pos:Pos} (N':List Str) (nT:Nat) (js:List Nat) {wi:TI}{g:TG}{tc:TT}{te:TE}
  (hc:X.calm=true) (S:CompSc X.nox scope N' nT js) (hi:PI X.nox tg iter wi)
  (hg:∀ cl C s₀ H₀ fp,PG (cxComp X.nox N' scope cl C s₀ H₀ fp) tg g) (ht:∀ cl C s₀ H₀ fp,PTs (cxComp X.nox N' scope cl C s₀ H₀ fp) ifs tc) (he:∀ cl C s₀ H₀ fp,PE (cxComp X.nox N' scope cl C s₀ H₀ fp) elt te)
  (hs:∀ x,foldedSetIterable iter X.env x=pure x:=by intro _;rfl) :
  PE X.nox (.ListComp elt [⟨tg,iter,ifs,0⟩] scope pos) (tComp wi nT js g tc te):=by
 intro pins s σ H Q I h;rw[eval_ListComp];obtain⟨cl,e,l⟩:=closureFor_of (env:=X.env) scope.names [] fun x hx=>I.ok.has x (.inl (S.kinds _ hx rfl))
 have hclos:closureFor scope X.env=pure cl:=by
  unfold closureFor;show (forIn scope.names [] fun (x:Str × NameKind) (cs:List (Str × Addr))=>(if (x.2 == NameKind.free)=true then (do let a ← cellOf X.env x.1;pure (ForInStep.yield ((x.1,a) :: cs))) else pure (ForInStep.yield cs):Sem (ForInStep (List (Str × Addr))))) >>= (fun s=>pure s)=pure cl;rw[e,pure_bind]
 refine wpAny_comprehension_free (cl:=cl) (use:=none) rfl hs hclos S.kind S.names ?_;refine thn (hi pins s σ H _ I h) fun v s1 h1=>thn h1 fun itv s2 h2=>?_
 obtain⟨it,fp,tn,J,H2,rfl,I2,T,st2,f2,W,w0,turn⟩:=h2;refine comp_core (X:=X.nox) (QQ:=fun D ys H'=>Q (.ref D) (upd H' D (.lst ys))) (RR:=fun acc C=>compPost (model X.prog X.w) X.A (fun _ _=>False) none (EP X.nox pins σ Q) acc C) hc S (fun x=>by rw[l x];rfl) (hg cl) (ht cl) (he cl) I2 T st2 f2 W w0 turn fun D C s' ys H' m q hn nC _ _ _ fin=>?_
 exact⟨m,hn,fun h' sb=>⟨.ref D,_,fin h' sb,rfl,q⟩⟩
theorem ps_setC {X:Cx}{tg iter elt:Expr}{ifs:List Expr}{scope:Scope}{cpos pos pos':Pos}{x:Str}{i:Nat} (N':List Str) (nT:Nat) (js:List Nat) {wi:TI}{g:TG}{tc:TT}{te:TE}
    (hN:X.nox.N.Nodup) (hix:X.nox.N[i]? = some x) (hx:Loc X.nox.env.scope x)
    (hc:X.calm=true) (S:CompSc X.nox scope N' nT js) (hi:PI X.nox tg iter wi)
    (hg:∀ cl C s₀ H₀ fp,PG (cxComp X.nox N' scope cl C s₀ H₀ fp) tg g) (ht:∀ cl C s₀ H₀ fp,PTs (cxComp X.nox N' scope cl C s₀ H₀ fp) ifs tc) (he:∀ cl C s₀ H₀ fp,PE (cxComp X.nox N' scope cl C s₀ H₀ fp) elt te)
    (hs:∀ x,foldedSetIterable iter X.env x=pure x:=by intro _;rfl) (hsw:swapsWith (.ListComp elt [⟨tg,iter,ifs,0⟩] scope cpos) (some (.Name x pos')) pos.line X.env=pure true:=by rfl)
    (hf:X.nox.fn x=true∨X.nox.env.scope.names.lookup x=some .local:=by first | exact .inl rfl | exact .inr rfl | assumption) :
    PS X.nox (.Assign [.Name x pos'] (.ListComp elt [⟨tg,iter,ifs,0⟩] scope cpos) pos) (tAsg (tComp wi nT js g tc te) (gName i)):=by
  intro pins s σ H D0 I h;have hG:PG X.nox (.Name x pos') (gName i):=pg_name hN hix hx hf;rw [exec_Assign_Name_used _ _ _ _ hsw];obtain ⟨cl,e,l⟩:=closureFor_of (env:=X.env) scope.names [] fun x hx=>I.ok.has x (.inl (S.kinds _ hx rfl))
  have hclos:closureFor scope X.env=pure cl:=by
    unfold closureFor;show (forIn scope.names [] fun (x:Str × NameKind) (cs:List (Str × Addr))=>(if (x.2 == NameKind.free)=true then (do let a ← cellOf X.env x.1;pure (ForInStep.yield ((x.1,a) :: cs))) else pure (ForInStep.yield cs) : Sem (ForInStep (List (Str × Addr))))) >>= (fun s=>pure s)=pure cl;rw [e,pure_bind]
  refine wpAny_bind (wpAny_standAt (wpAny_bind ?_));show wpAny _ X.nox.A (do let _ ← comprehension (.ListComp elt [⟨tg,iter,ifs,0⟩] scope cpos) scope X.env _ (newList []) false (eval iter X.env) (some (assign (.Name x pos') X.env))) _ _ s;refine wpAny_bind (wpAny_mono (wpAny_comprehension_free (cl:=cl) (use:=some (assign (.Name x pos') X.env)) (Q:=fun _ s'=>SP X.nox pins D0 .next s') rfl hs hclos S.kind S.names ?_) (fun _ s' hq=>wpAny_pure (wpAny_pure hq)) fun _ _ e=>e);refine thn (hi pins s σ H _ I h) fun v s1 h1=>thn h1 fun itv s2 h2 => ?_
  obtain ⟨it,fp,tn,J,H2,rfl,I2,T,st2,f2,W,w0,turn⟩:=h2;refine comp_core (X:=X.nox) (QQ:=fun D ys H'=>gName i (.ref D) σ (upd H' D (.lst ys)) D0.nx) (RR:=fun acc C=>compPost (model X.prog X.w) X.A (fun _ _=>False) (some (assign (.Name x pos') X.env)) (fun _ s'=>SP X.nox pins D0 .next s') acc C) hc S (fun x=>by rw [l x];rfl) (hg cl) (ht cl) (he cl) I2 T st2 f2 W w0 turn fun D C s' ys H' m q hn nC hC hDC hHC fin => ?_
  show wpAny _ X.A (assign (.Name x pos') X.env (.ref D)) _ _ _;have I3:Inv X.nox pins σ (upd H' D (.lst ys)) s':=fin s'.heap ⟨rfl,fun _ _=>rfl⟩;have hHC':upd H' D (.lst ys) C=none:=by rw [upd_ne (Ne.symm hDC)];exact hHC
  have fpC:∀ {H3:Hp},H3 C=none→FpOk X.nox pins H3 C:=fun h3=>I2.fpOk hC h3
  obtain ⟨oC,es,ep,hoC,rC⟩:=id hn;have hcell:∀ v,oC.data ≠ .cell v:=fun v z=>by
    have:=rC
    rw [z] at this;simp at this
  have I4 := I3.pinned (fp := [C]) (fun b hb => by have z : b = C := by simpa using hb
                                                   subst z; exact fpC hHC') (fun b hb => by have z : b = C := by simpa using hb
                                                                                            subst z; exact ⟨oC, hoC, hcell⟩)
  refine thn (hG _ s' σ _ (.ref D) (.ref D) _ I4 rfl q) fun _ s5 ⟨σ5,H5,I5,q5⟩ => ?_
  have pC:=I5.pin (C,oC) (List.mem_append_right _ (List.mem_append_right _ (mem_pinsAt (by simp) hoC)));refine ⟨m,⟨oC,es,ep,pC.1,rC⟩,fun h' sb => ?_⟩;obtain ⟨f0,f1,f2',f3,f4,f5⟩:=fpC pC.2.1;exact ⟨σ5,H5,(I5.unpinned).turned (t':=s5.toks) (fun b o hb e=>(sb.2 b hb).trans e) f0 f1 f3 f4 f5,q5⟩
theorem comp_list {K:PySem.W.Frag}{a:Addr}{xs:List V}{g:TG}{tc:TT}{te:TE} {σ:St}{H:Hp}{R:List V→Hp→Addr→Prop} (Pv:Nat→List V→St→Hp→Prop) (h0:Pv 0 [] σ H) (hl:∀ i ys σ H,i≤xs.length→Pv i ys σ H→SqL K H a xs∧ys.length≤i) (hz:xs.length≤sizeLine)
  (hs:∀ i x ys σ H,xs[i]? = some x→Pv i ys σ H→g x σ H fun σ2 H2=>tc σ2 H2 fun b H3=>if b=true then te σ2 H3 fun y H4=>Pv (i+1) (ys ++ [y]) σ2 H4 else Pv (i+1) ys σ2 H3)
  (hd:∀ ys σ H,Pv xs.length ys σ H→∀ D,H D=none→R ys H D) :
  ∃ W:Nat→Nat→List V→St→Hp→Prop,(∃ m,W 0 m [] σ H)∧∀ i m ys σ H,W i m ys σ H →
   ((Itl K a).stop i H∧∀ D,H D=none→R ys H D) ∨
   ((Itl K a).go i H∧ys.length<sizeLine∧∃ N:List V→St→Hp→Prop,(∀ ys' σ' H',N ys' σ' H'→∃ m',m'<m∧W (i+1) m' ys' σ' H') ∧
    ∀ x H',(Itl K a).yld i H x H'→g x σ H' fun σ2 H2=>tc σ2 H2 fun b H3=>if b=true then te σ2 H3 fun y H4=>N (ys ++ [y]) σ2 H4 else N ys σ2 H3):=by
 refine⟨fun i m ys σ H=>m=xs.length-i∧i≤xs.length∧Pv i ys σ H,⟨xs.length,by simp,Nat.zero_le _,h0⟩,?_⟩;rintro i m ys σ H ⟨rfl,hi,p⟩;have q:=hl i ys σ H hi p;by_cases hlt:i<xs.length
 ·refine .inr ⟨⟨xs,xs[i],q.1,by simp[hlt]⟩,(by omega),Pv (i+1),fun ys' σ' H' p'=>⟨xs.length-(i+1),by omega,rfl,hlt,p'⟩,fun x H' y=>?_⟩;obtain⟨e,y⟩:=y;subst e;exact hs i x ys σ _ (y xs q.1) p
 ·have e:i=xs.length:=by omega
  subst e;exact .inl ⟨⟨xs,q.1,Nat.le_refl _⟩,hd ys σ H p⟩
theorem comp_range {lo:Int}{n:Nat}{g:TG}{tc:TT}{te:TE} {σ:St}{H:Hp}{R:List V→Hp→Addr→Prop} (Pv:Nat→List V→St→Hp→Prop) (h0:Pv 0 [] σ H) (hl:∀ i ys σ H,Pv i ys σ H→ys.length≤i) (hz:n≤sizeLine)
  (hs:∀ i ys σ H,i<n→Pv i ys σ H→g (.int (lo+i)) σ H fun σ2 H2=>tc σ2 H2 fun b H3=>if b=true then te σ2 H3 fun y H4=>Pv (i+1) (ys ++ [y]) σ2 H4 else Pv (i+1) ys σ2 H3)
  (hd:∀ ys σ H,Pv n ys σ H→∀ D,H D=none→R ys H D) :
  ∃ W:Nat→Nat→List V→St→Hp→Prop,(∃ m,W 0 m [] σ H)∧∀ i m ys σ H,W i m ys σ H →
   ((Itr lo n).stop i H∧∀ D,H D=none→R ys H D) ∨
   ((Itr lo n).go i H∧ys.length<sizeLine∧∃ N:List V→St→Hp→Prop,(∀ ys' σ' H',N ys' σ' H'→∃ m',m'<m∧W (i+1) m' ys' σ' H') ∧
    ∀ x H',(Itr lo n).yld i H x H'→g x σ H' fun σ2 H2=>tc σ2 H2 fun b H3=>if b=true then te σ2 H3 fun y H4=>N (ys ++ [y]) σ2 H4 else N ys σ2 H3):=by
 refine⟨fun i m ys σ H=>m=n-i∧i≤n∧Pv i ys σ H,⟨n,by simp,Nat.zero_le _,h0⟩,?_⟩;rintro i m ys σ H ⟨rfl,hi,p⟩;have q:=hl i ys σ H p;by_cases hlt:i<n
 ·refine .inr ⟨hlt,(by omega),Pv (i+1),fun ys' σ' H' p'=>⟨n-(i+1),by omega,rfl,hlt,p'⟩,fun x H' y=>?_⟩;obtain⟨e,y⟩:=y;subst e y;exact hs i ys σ _ hlt p
 ·have e:i=n:=by omega
  subst e;exact .inl ⟨Nat.le_refl _,hd ys σ H p⟩
end L2
namespace OS
open PySem PyProof.Rows
class KO where
 num:Value→Int
 ok:Value→Prop
 kind:SortKind
class KL [KO] (prog:Program) (w:World) (A:Around) (s:Shared):Prop where
 lt:∀ {E:Value→Shared→Prop}{Q:Bool→Shared→Prop}{u v:Value},KO.ok u→KO.ok v→Q (decide (KO.num u<KO.num v)) s→wpAny (model prog w) A (keyLt' KO.kind u v) Q E s
noncomputable def gallop':Bool→Keyed→Array Keyed→Nat→Nat→Nat→StateT SortSt Sem (Option Nat):=sortPriv% PySem.Builtin.gallop
variable [KO]
noncomputable def kn (p:Keyed):Int:=KO.num p.1
noncomputable def IsK (p:Keyed):Prop:=KO.ok p.1
structure SB (st:SortSt):Prop where
 kind:kindOf st=KO.kind
 failed:failedOf st=none
section
variable {prog:Program}{w:World}{A:Around}{E:Value→Shared→Prop}{s:Shared} [KL prog w A s]
theorem wpS_elem {arr:Array Keyed}{i:Nat}{p:Keyed}{st:SortSt}{Q:Keyed→SortSt→Prop} (e:arr[i]? = some p) (h:Q p st):wpS (model prog w) A E s (elem' arr i) Q st:=by
 rw[elem'_eq,e];exact wpS_pure h
theorem wpS_lt {st:SortSt}{x y:Keyed}{Q:Option Bool→SortSt→Prop} (hB:SB st) (hx:IsK x) (hy:IsK y) (h:Q (some (decide (kn x<kn y))) st):wpS (model prog w) A E s (lt' x y) Q st:=by
 rw[lt'_eq];refine wpS_bind (wpS_get ?_);rw[hB.kind];exact wpS_bind (wpS_lift (wpAny_attempt (KL.lt hx hy ⟨rfl,wpS_pure h⟩)))
theorem wpS_ltA {st:SortSt}{i j:Nat}{x y:Keyed}{Q:Option Bool→SortSt→Prop} (hB:SB st) (hi:(arrOf st)[i]? = some x) (hj:(arrOf st)[j]? = some y) (hx:IsK x) (hy:IsK y) (h:Q (some (decide (kn x<kn y))) st):wpS (model prog w) A E s (ltAt' i j) Q st:=by
 rw[ltAt'_eq];refine wpS_bind (wpS_get ?_);show wpS _ _ _ _ (do let x ← elem' (arrOf st) i;let y ← elem' (arrOf st) j;lt' x y) Q st;exact wpS_bind (wpS_elem hi (wpS_bind (wpS_elem hj (wpS_lt hB hx hy h))))
noncomputable def bey (left:Bool) (key:Keyed) (arr:Array Keyed) (base i:Nat):StateT SortSt Sem (Option Bool):=do
 let x ← elem' arr (base+i);if left then lt' x key else return (← lt' key x).map (!·)
set_option maxHeartbeats 4000000 in
theorem gallop'_eq (left:Bool) (key:Keyed) (arr:Array Keyed) (base n hint:Nat):gallop' left key arr base n hint=(do
 let mut lastofs:=0;let mut ofs:=1;let mut lo:=0;let mut hi:=0
 let some right ← bey left key arr base hint | return none
 if right then
  let maxofs:=n-hint
  for _ in [0:n] do
   if ofs ≥ maxofs then break
   let some more ← bey left key arr base (hint+ofs) | return none
   if !more then break
   lastofs:=ofs;ofs:=2 * ofs+1
  lo:=hint+lastofs+1;hi:=hint+min ofs maxofs
 else
  let maxofs:=hint+1
  for _ in [0:n] do
   if ofs ≥ maxofs then break
   let some found ← bey left key arr base (hint-ofs) | return none
   if found then break
   lastofs:=ofs;ofs:=2 * ofs+1
  lo:=hint+1-min ofs maxofs;hi:=hint-lastofs
 for _ in [0:n] do
  if lo ≥ hi then break
  let m:=lo+(hi-lo) / 2
  let some more ← bey left key arr base m | return none
  if more=true then lo:=m+1 else hi:=m
 return some hi):=rfl
noncomputable def Bey (left:Bool) (key x:Keyed):Prop:=if left then kn x<kn key else kn x≤kn key
noncomputable instance (left:Bool) (key x:Keyed):Decidable (Bey left key x):=by unfold Bey;infer_instance
theorem wpS_bey {left:Bool}{key:Keyed}{arr:Array Keyed}{base i:Nat}{x:Keyed}{st:SortSt}{Q:Option Bool→SortSt→Prop} (hB:SB st) (hk:IsK key) (hx:IsK x) (e:arr[base+i]? = some x)
  (h:Q (some (decide (Bey left key x))) st):wpS (model prog w) A E s (bey left key arr base i) Q st:=by
 unfold bey;refine wpS_bind (wpS_elem e ?_);cases left with
 | true=>exact wpS_lt hB hx hk h
 | false =>
  refine wpS_bind (wpS_lt hB hk hx (wpS_pure ?_));have e:(Option.map (fun x => !x) (some (decide (kn key<kn x))))=some (decide (Bey false key x)):=by
   have:(!decide (kn key<kn x))=decide (kn x≤kn key):=by
    rw[Bool.eq_iff_iff];simp
   show some (!decide (kn key<kn x))=some (decide (kn x≤kn key));rw[this]
  rw[e];exact h
structure Run (arr:Array Keyed) (base n:Nat):Prop where
 has:base+n≤arr.size
 keys:∀ x∈arr,IsK x
 rise:∀ i j (x y:Keyed),i≤j→j<n→arr[base+i]? = some x→arr[base+j]? = some y→kn x≤kn y
theorem Run.at {arr:Array Keyed}{base n:Nat} (r:Run arr base n) {i:Nat} (hi:i<n):∃ x,arr[base+i]? = some x∧IsK x:=by
 have:=r.has
 have hi':base+i<arr.size:=by omega
 exact⟨arr[base+i],by simp[hi'],r.keys _ (by simp)⟩
theorem Run.mono {arr:Array Keyed}{base n:Nat} (r:Run arr base n) {left:Bool}{key x y:Keyed}{i j:Nat} (hij:i≤j) (hj:j<n) (ex:arr[base+i]? = some x) (ey:arr[base+j]? = some y) (h:Bey left key y):Bey left key x:=by
 have:=r.rise i j x y hij hj ex ey
 unfold Bey at *;split at h <;> simp_all <;> omega
noncomputable def Cut (left:Bool) (key:Keyed) (arr:Array Keyed) (base n k:Nat):Prop:=k≤n∧(∀ i x,i<k→arr[base+i]? = some x→Bey left key x)∧(∀ i x,k≤i→i<n→arr[base+i]? = some x→¬ Bey left key x)
noncomputable def AllB (left:Bool) (key:Keyed) (arr:Array Keyed) (base lo:Nat):Prop:=∀ i x,i<lo→arr[base+i]? = some x→Bey left key x
noncomputable def NoneB (left:Bool) (key:Keyed) (arr:Array Keyed) (base n hi:Nat):Prop:=∀ i x,hi≤i→i<n→arr[base+i]? = some x→¬ Bey left key x
theorem Run.allB {arr:Array Keyed}{base n:Nat} (r:Run arr base n) {left:Bool}{key x:Keyed}{j:Nat} (hj:j<n) (ex:arr[base+j]? = some x) (h:Bey left key x):AllB left key arr base (j+1) :=
 fun i y hi ey=>r.mono (by omega) hj ey ex h
theorem Run.noneB {arr:Array Keyed}{base n:Nat} (r:Run arr base n) {left:Bool}{key x:Keyed}{j:Nat} (hj:j<n) (ex:arr[base+j]? = some x) (h:¬ Bey left key x):NoneB left key arr base n j :=
 fun i y hi hn ey z=>h (r.mono hi hn ex ey z)
set_option maxHeartbeats 4000000 in
theorem wpS_gallop {left:Bool}{key:Keyed}{arr:Array Keyed}{base n hint:Nat}{st:SortSt}{Q:Option Nat→SortSt→Prop} (hB:SB st) (hk:IsK key) (r:Run arr base n) (hh:hint<n)
  (h:∀ k,Cut left key arr base n k→Q (some k) st):wpS (model prog w) A E s (gallop' left key arr base n hint) Q st:=by
 rw[gallop'_eq];dsimp only;obtain⟨xh,eh,kh⟩:=r.at hh;have search:∀ (F:Nat→Option (Option Nat) × Nat × Nat→StateT SortSt Sem (ForInStep (Option (Option Nat) × Nat × Nat))) (G:Option (Option Nat) × Nat × Nat→StateT SortSt Sem (Option Nat)),
   (∀ x lo hi,F x (none,lo,hi)=if lo ≥ hi then pure (ForInStep.done (none,lo,hi)) else bey left key arr base (lo+(hi-lo) / 2) >>= fun o=>match o with
    | some more=>if more=true then pure (ForInStep.yield (none,lo+(hi-lo) / 2+1,hi)) else pure (ForInStep.yield (none,lo,lo+(hi-lo) / 2))
    | none=>pure (ForInStep.done (some none,lo,hi)))→(∀ lo hi,G (none,lo,hi)=pure (some hi)) →
   ∀ lo hi:Nat,lo≤hi→hi≤n→AllB left key arr base lo→NoneB left key arr base n hi→wpS (model prog w) A E s (forIn [0:n] (none,lo,hi) F >>= G) Q st:=by
  intro F G hF hG lo hi hlh hhn ha hb;refine wpS_bind (wpS_mono (wpS_forRange (I:=fun x c st'=>st'=st∧∃ lo hi,c=(none,lo,hi)∧lo≤hi∧hi≤n∧hi-lo≤n-x∧AllB left key arr base lo∧NoneB left key arr base n hi)
   (Q:=fun c st'=>st'=st∧∃ k,c=(none,k,k)∧k≤n∧AllB left key arr base k∧NoneB left key arr base n k) ?step ?fin ⟨rfl,lo,hi,rfl,hlh,hhn,by omega,ha,hb⟩) ?post)
  case post =>
   rintro c st' ⟨rfl,k,rfl,h1,h2,h3⟩;rw[hG];exact wpS_pure (h k ⟨h1,h2,h3⟩)
  case fin =>
   rintro c st' ⟨rfl,lo,hi,rfl,h1,h2,h3,h4,h5⟩
   have:lo=hi:=by omega
   subst this;exact⟨rfl,lo,rfl,h2,h4,h5⟩
  case step =>
   rintro x c st' _ hx ⟨rfl,lo,hi,rfl,h1,h2,h3,h4,h5⟩;rw[hF];by_cases hge:lo ≥ hi
   ·rw[if_pos hge]
    have:lo=hi:=by omega
    subst this;exact wpS_pure ⟨rfl,lo,rfl,h2,h4,h5⟩
   ·rw[if_neg hge];generalize hm:lo+(hi-lo) / 2=m;have hmn:m<n:=by omega
    obtain⟨xm,em,km⟩:=r.at hmn;refine wpS_bind (wpS_bey hB hk km em ?_);by_cases hb:Bey left key xm
    ·simp only[hb,decide_true,if_true];exact wpS_pure ⟨rfl,m+1,hi,rfl,by omega,h2,by omega,r.allB hmn em hb,h5⟩
    ·simp only[hb,decide_false,Bool.false_eq_true,if_false];exact wpS_pure ⟨rfl,lo,m,rfl,by omega,by omega,by omega,h4,r.noneB hmn em hb⟩
 refine wpS_bind (wpS_bey hB hk kh eh ?_);by_cases hb:Bey left key xh
 ·simp only[hb,decide_true,if_true];refine wpS_bind (wpS_mono (wpS_forRange (I:=fun x c st'=>st'=st∧∃ la of,c=(none,la,of)∧la<of∧x+1≤of∧hint+la<n∧AllB left key arr base (hint+la+1))
   (Q:=fun c st'=>st'=st∧∃ la of,c=(none,la,of)∧la<of∧hint+la<n∧AllB left key arr base (hint+la+1)∧(of<n-hint→NoneB left key arr base n (hint+of))) ?step ?fin ⟨rfl,0,1,rfl,by omega,by omega,by omega,r.allB hh eh hb⟩) ?post)
  case step =>
   rintro x c st' _ hx ⟨rfl,la,of,rfl,h1,h0,h2,h3⟩;dsimp only;by_cases hge:of ≥ n-hint
   ·rw[if_pos hge];exact wpS_pure ⟨rfl,la,of,rfl,h1,h2,h3,fun z=>by omega⟩
   ·rw[if_neg hge];have hmn:hint+of<n:=by omega
    obtain⟨xm,em,km⟩:=r.at hmn;refine wpS_bind (wpS_bey hB hk km em ?_);by_cases hb:Bey left key xm
    ·simp only[hb,decide_true,Bool.not_true,Bool.false_eq_true,if_false];exact wpS_pure ⟨rfl,of,2 * of+1,rfl,by omega,by omega,hmn,r.allB hmn em hb⟩
    ·simp only[hb,decide_false,Bool.not_false,if_true];exact wpS_pure ⟨rfl,la,of,rfl,h1,h2,h3,fun _=>r.noneB hmn em hb⟩
  case fin =>
   rintro c st' ⟨rfl,la,of,rfl,h1,h0,h2,h3⟩;exact⟨rfl,la,of,rfl,h1,h2,h3,fun z=>by omega⟩
  case post =>
   rintro c st' ⟨rfl,la,of,rfl,h1,h2,h3,h4⟩;dsimp only;refine search _ _ (fun _ _ _=>by dsimp only;split;rfl;congr 1;funext o;cases o <;> rfl) (fun _ _=>rfl) (hint+la+1) (hint+min of (n-hint)) (by omega) (by omega) h3 ?_;by_cases hlt:of<n-hint
   ·rw[Nat.min_eq_left (by omega)];exact h4 hlt
   ·rw[Nat.min_eq_right (by omega)];intro i x a1 a2;omega
 ·simp only[hb,decide_false,Bool.false_eq_true,if_false];refine wpS_bind (wpS_mono (wpS_forRange (I:=fun x c st'=>st'=st∧∃ la of,c=(none,la,of)∧la<of∧x+1≤of∧la≤hint∧NoneB left key arr base n (hint-la))
   (Q:=fun c st'=>st'=st∧∃ la of,c=(none,la,of)∧la<of∧la≤hint∧NoneB left key arr base n (hint-la)∧(of<hint+1→AllB left key arr base (hint-of+1))) ?step ?fin ⟨rfl,0,1,rfl,by omega,by omega,by omega,r.noneB hh eh hb⟩) ?post)
  case step =>
   rintro x c st' _ hx ⟨rfl,la,of,rfl,h1,h0,h2,h3⟩;dsimp only;by_cases hge:of ≥ hint+1
   ·rw[if_pos hge];exact wpS_pure ⟨rfl,la,of,rfl,h1,h2,h3,fun z=>by omega⟩
   ·rw[if_neg hge];have hmn:hint-of<n:=by omega
    obtain⟨xm,em,km⟩:=r.at hmn;refine wpS_bind (wpS_bey hB hk km em ?_);by_cases hb:Bey left key xm
    ·simp only[hb,decide_true,if_true];exact wpS_pure ⟨rfl,la,of,rfl,h1,h2,h3,fun _=>r.allB hmn em hb⟩
    ·simp only[hb,decide_false,Bool.false_eq_true,if_false];exact wpS_pure ⟨rfl,of,2 * of+1,rfl,by omega,by omega,by omega,r.noneB hmn em hb⟩
  case fin =>
   rintro c st' ⟨rfl,la,of,rfl,h1,h0,h2,h3⟩;exact⟨rfl,la,of,rfl,h1,h2,h3,fun z=>by omega⟩
  case post =>
   rintro c st' ⟨rfl,la,of,rfl,h1,h2,h3,h4⟩;dsimp only;refine search _ _ (fun _ _ _=>by dsimp only;split;rfl;congr 1;funext o;cases o <;> rfl) (fun _ _=>rfl) (hint+1-min of (hint+1)) (hint-la) (by omega) (by omega) ?_ h3;by_cases hlt:of<hint+1
   ·rw[Nat.min_eq_left (by omega),show hint+1-of=hint-of+1 by omega];exact h4 hlt
   ·rw[Nat.min_eq_right (by omega)];intro i x a1 a2;omega
end
end OS
namespace OS
open PySem PyProof.Rows
variable [KO]
noncomputable abbrev Up (l:List Keyed):Prop:=l.Pairwise fun x y=>kn x≤kn y
noncomputable abbrev Bel (l m:List Keyed):Prop:=∀ x∈l,∀ y∈m,kn x≤kn y
structure MInv (A B out:List Keyed) (ia ib:Nat):Prop where
 perm:out.Perm (A.take ia++B.take ib)
 srt:Up out
 ubA:Bel out (A.drop ia)
 ubB:Bel out (B.drop ib)
theorem MInv.swap {A B out:List Keyed}{ia ib:Nat} (h:MInv A B out ia ib):MInv B A out ib ia:=⟨h.perm.trans List.perm_append_comm,h.srt,h.ubB,h.ubA⟩
noncomputable def Merged (A B res:List Keyed):Prop:=res.Perm (A++B)∧Up res
theorem drop_split (A:List Keyed) (i k:Nat):A.drop i=(A.drop i).take k++A.drop (i+k):=by
 rw[← List.drop_drop,List.take_append_drop]
theorem MInv.pushAs {A B out:List Keyed}{ia ib:Nat} (h:MInv A B out ia ib) (sA:Up A) (k:Nat) (hb:Bel ((A.drop ia).take k) (B.drop ib)):MInv A B (out++(A.drop ia).take k) (ia+k) ib:=by
 have e:=drop_split A ia k;have sd:Up (A.drop ia):=sA.sublist (List.drop_sublist _ _);have sd':=sd;rw[e] at sd';have sp:=List.pairwise_append.mp sd';refine⟨?_,List.pairwise_append.mpr ⟨h.srt,sp.1,fun x hx y hy=>h.ubA x hx y (List.mem_of_mem_take hy)⟩,fun x hx y hy=>?_,fun x hx y hy=>?_⟩
 ·rw[List.take_add];have h1:(out++(A.drop ia).take k).Perm ((A.take ia++B.take ib)++(A.drop ia).take k):=h.perm.append_right _;refine h1.trans ?_;rw[List.append_assoc,List.append_assoc];exact (List.perm_append_comm).append_left _
 ·rcases List.mem_append.mp hx with hx | hx
  ·exact h.ubA x hx y (by rw[e];exact List.mem_append_right _ hy)
  ·exact sp.2.2 x hx y hy
 ·rcases List.mem_append.mp hx with hx | hx
  ·exact h.ubB x hx y hy
  ·exact hb x hx y hy
theorem MInv.pushBs {A B out:List Keyed}{ia ib:Nat} (h:MInv A B out ia ib) (sB:Up B) (k:Nat) (hb:Bel ((B.drop ib).take k) (A.drop ia)):MInv A B (out++(B.drop ib).take k) ia (ib+k) :=
 (h.swap.pushAs sB k hb).swap
theorem take_one {A:List Keyed}{i:Nat}{x:Keyed} (e:A[i]? = some x):(A.drop i).take 1=[x]:=by
 have hi:=(List.getElem?_eq_some_iff.mp e).1;rw[List.drop_eq_getElem_cons hi];simp[(List.getElem?_eq_some_iff.mp e).2]
theorem MInv.pushA {A B out:List Keyed}{ia ib:Nat}{x:Keyed} (h:MInv A B out ia ib) (sA:Up A) (e:A[ia]? = some x) (hb:∀ y∈B.drop ib,kn x≤kn y):MInv A B (out ++ [x]) (ia+1) ib:=by
 have:=h.pushAs sA 1 (by rw[take_one e];intro z hz;rw[List.mem_singleton.mp hz];exact hb)
 rwa [take_one e] at this
theorem MInv.pushB {A B out:List Keyed}{ia ib:Nat}{x:Keyed} (h:MInv A B out ia ib) (sB:Up B) (e:B[ib]? = some x) (hb:∀ y∈A.drop ia,kn x≤kn y):MInv A B (out ++ [x]) ia (ib+1) :=
 (h.swap.pushA sB e hb).swap
theorem MInv.done {A B out:List Keyed}{ia ib:Nat} (h:MInv A B out ia ib) (sA:Up A) (sB:Up B) (hb:Bel (A.drop ia) (B.drop ib)):Merged A B (out++A.drop ia++B.drop ib):=by
 refine⟨?_,?_⟩
 ·have h1:(out++A.drop ia++B.drop ib).Perm ((A.take ia++B.take ib)++A.drop ia++B.drop ib):=(h.perm.append_right _).append_right _;refine h1.trans ?_;have h2:((A.take ia++B.take ib)++A.drop ia).Perm (A++B.take ib):=by
   rw[List.append_assoc];refine (List.perm_append_comm.append_left _).trans ?_;rw[← List.append_assoc,List.take_append_drop]
  refine (h2.append_right _).trans ?_;rw[List.append_assoc,List.take_append_drop]
 ·refine List.pairwise_append.mpr ⟨List.pairwise_append.mpr ⟨h.srt,sA.sublist (List.drop_sublist _ _),h.ubA⟩,sB.sublist (List.drop_sublist _ _),fun x hx y hy=>?_⟩;rcases List.mem_append.mp hx with hx | hx
  ·exact h.ubB x hx y hy
  ·exact hb x hx y hy
theorem Merged.swap {A B res:List Keyed} (h:Merged A B res):Merged B A res:=⟨h.1.trans List.perm_append_comm,h.2⟩
theorem MInv.lastA {A B out:List Keyed}{ia ib:Nat} (h:MInv A B out ia ib) (sA:Up A) (sB:Up B) (hb:Bel (B.drop ib) (A.drop ia)):Merged A B (out++B.drop ib++A.drop ia):=(h.swap.done sB sA hb).swap
theorem up_head {A:List Keyed}{i:Nat}{x:Keyed} (sA:Up A) (e:A[i]? = some x):∀ y∈A.drop i,kn x≤kn y:=by
 have hi:=(List.getElem?_eq_some_iff.mp e).1;have hx:=(List.getElem?_eq_some_iff.mp e).2;intro y hy;have sd:Up (A.drop i):=sA.sublist (List.drop_sublist _ _);rw[List.drop_eq_getElem_cons hi] at sd hy;rcases List.mem_cons.mp hy with z | z
 ·rw[z,hx];exact Int.le_refl _
 ·have:=(List.pairwise_cons.mp sd).1 y z
  rw[hx] at this;exact this
section
variable {prog:Program}{w:World}{A:Around}{E:Value→Shared→Prop}{s:Shared} [KL prog w A s]
noncomputable def mergeLo':Array Keyed→Array Keyed→StateT SortSt Sem (Array Keyed):=sortPriv% PySem.Builtin.mergeLo
noncomputable def setG (g:Nat):StateT SortSt Sem Unit:=modify fun s=>SortSt.mk' (kindOf s) (arrOf s) (pendingOf s) g (failedOf s)
set_option maxHeartbeats 4000000 in
theorem mergeLo'_eq (a b:Array Keyed):mergeLo' a b=(do
 rule "list.sort.merge-lo";let total:=a.size+b.size
 let done (out:Array Keyed) (ia ib:Nat):=out++a.extract ia a.size++b.extract ib b.size;let lastOfA (out:Array Keyed) (ia ib:Nat):=out++b.extract ib b.size++a.extract ia a.size
 let mut out:Array Keyed := #[← elem' b 0];let mut ia:=0;let mut ib:=1
 if ib == b.size then return done out ia ib
 if ia+1 == a.size then return lastOfA out ia ib
 let mut minGallop:=gallopOf (← get)
 for _ in [0:total] do
  let mut acount:=0;let mut bcount:=0
  for _ in [0:total] do
   let some bWins ← lt' (← elem' b ib) (← elem' a ia) | return done out ia ib
   if bWins=true then
    out:=out.push (← elem' b ib);ib:=ib+1;bcount:=bcount+1;acount:=0
    if ib == b.size then return done out ia ib
    if bcount ≥ minGallop then break
   else
    out:=out.push (← elem' a ia);ia:=ia+1;acount:=acount+1;bcount:=0
    if ia+1 == a.size then return lastOfA out ia ib
    if acount ≥ minGallop then break
  rule "list.sort.gallop";minGallop:=minGallop+1
  for _ in [0:total] do
   if minGallop > 1 then minGallop:=minGallop-1
   setG minGallop
   let some k ← gallop' false (← elem' b ib) a ia (a.size-ia) 0 | return done out ia ib
   acount:=k
   if k > 0 then
    out:=out++a.extract ia (ia+k);ia:=ia+k
    if ia+1 == a.size then return lastOfA out ia ib
    if ia == a.size then return done out ia ib
   out:=out.push (← elem' b ib);ib:=ib+1
   if ib == b.size then return done out ia ib
   let some k ← gallop' true (← elem' a ia) b ib (b.size-ib) 0 | return done out ia ib
   bcount:=k
   if k > 0 then
    out:=out++b.extract ib (ib+k);ib:=ib+k
    if ib == b.size then return done out ia ib
   out:=out.push (← elem' a ia);ia:=ia+1
   if ia+1 == a.size then return lastOfA out ia ib
   if acount<7 && bcount<7 then break
  minGallop:=minGallop+1;setG minGallop
 unsupported "internal:list.sort.merge-bound"):=rfl
theorem ext_all (a:Array Keyed) (i:Nat):(a.extract i a.size).toList=a.toList.drop i:=by
 rw[Array.toList_extract,List.extract_eq_take_drop,List.take_of_length_le (by simp)]
theorem ext_cut (a:Array Keyed) (i k:Nat):(a.extract i (i+k)).toList=(a.toList.drop i).take k:=by
 rw[Array.toList_extract,List.extract_eq_take_drop,Nat.add_sub_cancel_left]
theorem mem_cut {a:Array Keyed}{i k:Nat}{x:Keyed} (h:x∈(a.toList.drop i).take k):∃ j,j<k∧a[i+j]? = some x:=by
 obtain⟨j,hj,e⟩:=List.getElem_of_mem h;rw[List.length_take] at hj;refine⟨j,by omega,?_⟩;have e2:((a.toList.drop i).take k)[j]? = some x:=by rw[List.getElem?_eq_getElem (by rw[List.length_take];exact hj),e]
 rw[List.getElem?_take_of_lt (by omega),List.getElem?_drop] at e2;simpa using e2
theorem Run.up {a:Array Keyed} (r:Run a 0 a.size):Up a.toList:=by
 refine List.pairwise_iff_getElem.mpr fun i j hi hj hij=>?_
 rw[Array.length_toList] at hi hj;exact r.rise i j _ _ (by omega) hj (by simp[hi]) (by simp[hj])
theorem Run.suf {a:Array Keyed} (r:Run a 0 a.size) (i:Nat) (hi:i≤a.size):Run a i (a.size-i) :=
 ⟨by omega,r.keys,fun j k x y hjk hk ex ey=>r.rise (i+j) (i+k) x y (by omega) (by omega) (by rw[Nat.zero_add];exact ex) (by rw[Nat.zero_add];exact ey)⟩
theorem Run.pre {a:Array Keyed} (r:Run a 0 a.size) (i:Nat) (hi:i≤a.size):Run a 0 i :=
 ⟨by omega,r.keys,fun j k x y hjk hk ex ey=>r.rise j k x y hjk (by omega) ex ey⟩
theorem ls {a:Array Keyed}{i:Nat}{x:Keyed} (h:a[i]? = some x):a.toList[i]? = some x:=by simpa using h
structure Kp (st st':SortSt):Prop where
 sb:SB st'
 arr:arrOf st'=arrOf st
 pend:pendingOf st'=pendingOf st
theorem Kp.setG {st st':SortSt} (h:Kp st st') (g:Nat):Kp st (SortSt.mk' (kindOf st') (arrOf st') (pendingOf st') g (failedOf st')):=⟨⟨h.sb.kind,h.sb.failed⟩,h.arr,h.pend⟩
theorem wpS_setG {st:SortSt}{g:Nat}{Q:Unit→SortSt→Prop} (h:Q () (SortSt.mk' (kindOf st) (arrOf st) (pendingOf st) g (failedOf st))):wpS (model prog w) A E s (setG g) Q st:=by
 unfold setG;exact wpS_modify h
noncomputable abbrev C7:=Option (Array Keyed) × Array Keyed × Nat × Nat × Nat × Nat × Nat
structure LoR (a b:Array Keyed) (st₀:SortSt) (c:Nat) (R:ForInStep C7→SortSt→Prop):Prop where
 res:∀ res out ia ib mg ac bc st',Kp st₀ st'→Merged a.toList b.toList res.toList→R (.done (some res,out,ia,ib,mg,ac,bc)) st'
 brk:∀ out ia ib mg ac bc st',Kp st₀ st'→MInv a.toList b.toList out.toList ia ib→ia+1<a.size→ib<b.size→c<ia+ib→R (.done (none,out,ia,ib,mg,ac,bc)) st'
 go:∀ out ia ib mg ac bc st',Kp st₀ st'→MInv a.toList b.toList out.toList ia ib→ia+1<a.size→ib<b.size→c<ia+ib→R (.yield (none,out,ia,ib,mg,ac,bc)) st'
theorem bel_last {a b:Array Keyed} (h2:∀ z,a[a.size-1]? = some z→∀ y∈b,kn y<kn z) {i j:Nat} (hi:i+1=a.size):Bel (b.toList.drop j) (a.toList.drop i):=by
 intro y hy z hz;have hl:i<a.toList.length:=by rw[Array.length_toList];omega
 rw[List.drop_eq_getElem_cons hl,List.drop_eq_nil_of_le (by rw[Array.length_toList];omega)] at hz;have hz':z=a.toList[i]:=by simpa using hz
 have e:a[a.size-1]? = some z:=by
  rw[hz',show a.size-1=i by omega];simp
 exact Int.le_of_lt (h2 z e y (by simpa using List.mem_of_mem_drop hy))
theorem lo_tail {a b:Array Keyed}{st₀ st':SortSt}{c:Nat}{R:ForInStep C7→SortSt→Prop} (G:LoR a b st₀ c R) (ra:Run a 0 a.size) (rb:Run b 0 b.size) (h2:∀ z,a[a.size-1]? = some z→∀ y∈b,kn y<kn z)
  {out:Array Keyed}{ia ib mg k k1:Nat} (hK:Kp st₀ st') (I:MInv a.toList b.toList out.toList ia ib) (hia:ia+1<a.size) (hib:ib<b.size) (hc:c≤ia+ib)
  (hx:∀ x,a[ia]? = some x→∀ y∈b.toList.drop ib,kn x≤kn y) :
  wpS (model prog w) A E s (do
   let x ← elem' a ia
   if (ia+1+1 == a.size)=true then pure (ForInStep.done (some (out.push x++b.extract ib b.size++a.extract (ia+1) a.size),out.push x,ia+1,ib,mg,k,k1))
   else if (decide (k<7) && decide (k1<7))=true then pure (ForInStep.done (none,out.push x,ia+1,ib,mg,k,k1)) else pure (ForInStep.yield (none,out.push x,ia+1,ib,mg,k,k1))) R st':=by
 obtain⟨x,ex,kx⟩:=ra.at (i:=ia) (by omega);rw[Nat.zero_add] at ex;refine wpS_bind (wpS_elem ex ?_);have I':=I.pushA ra.up (ls ex) (hx x ex);rw[← Array.toList_push] at I';by_cases hl:ia+1+1=a.size
 ·rw[if_pos (by simpa using hl)];refine wpS_pure (G.res _ _ _ _ _ _ _ _ hK ?_);rw[Array.toList_append,Array.toList_append,ext_all,ext_all];exact I'.lastA ra.up rb.up (bel_last h2 hl)
 ·rw[if_neg (by simpa using hl)];split
  ·exact wpS_pure (G.brk _ _ _ _ _ _ _ hK I' (by omega) hib (by omega))
  ·exact wpS_pure (G.go _ _ _ _ _ _ _ hK I' (by omega) hib (by omega))
theorem lo_mid {a b:Array Keyed}{st₀ st':SortSt}{c:Nat}{R:ForInStep C7→SortSt→Prop} (G:LoR a b st₀ c R) (ra:Run a 0 a.size) (rb:Run b 0 b.size) (h2:∀ z,a[a.size-1]? = some z→∀ y∈b,kn y<kn z)
  {out:Array Keyed}{ia ib mg k bc:Nat} (hK:Kp st₀ st') (I:MInv a.toList b.toList out.toList ia ib) (hia:ia+1<a.size) (hib:ib<b.size) (hc:c≤ia+ib)
  (hx:∀ x,b[ib]? = some x→∀ y∈a.toList.drop ia,kn x≤kn y) (F:Keyed→Option Nat→StateT SortSt Sem (ForInStep C7))
  (hF:∀ y k1,F y (some k1)=if k1 > 0 then if (ib+1+k1 == b.size)=true then pure (ForInStep.done (some (out.push y++b.extract (ib+1) (ib+1+k1)++a.extract ia a.size++b.extract (ib+1+k1) b.size),out.push y++b.extract (ib+1) (ib+1+k1),ia,ib+1+k1,mg,k,k1))
    else do
     let x ← elem' a ia
     if (ia+1+1 == a.size)=true then pure (ForInStep.done (some ((out.push y++b.extract (ib+1) (ib+1+k1)).push x++b.extract (ib+1+k1) b.size++a.extract (ia+1) a.size),(out.push y++b.extract (ib+1) (ib+1+k1)).push x,ia+1,ib+1+k1,mg,k,k1))
     else if (decide (k<7) && decide (k1<7))=true then pure (ForInStep.done (none,(out.push y++b.extract (ib+1) (ib+1+k1)).push x,ia+1,ib+1+k1,mg,k,k1)) else pure (ForInStep.yield (none,(out.push y++b.extract (ib+1) (ib+1+k1)).push x,ia+1,ib+1+k1,mg,k,k1))
   else do
     let x ← elem' a ia
     if (ia+1+1 == a.size)=true then pure (ForInStep.done (some ((out.push y).push x++b.extract (ib+1) b.size++a.extract (ia+1) a.size),(out.push y).push x,ia+1,ib+1,mg,k,k1))
     else if (decide (k<7) && decide (k1<7))=true then pure (ForInStep.done (none,(out.push y).push x,ia+1,ib+1,mg,k,k1)) else pure (ForInStep.yield (none,(out.push y).push x,ia+1,ib+1,mg,k,k1))) :
  wpS (model prog w) A E s (do
   let y ← elem' b ib
   if (ib+1 == b.size)=true then pure (ForInStep.done (some (out.push y++a.extract ia a.size++b.extract (ib+1) b.size),out.push y,ia,ib+1,mg,k,bc))
   else do
    let z ← elem' a ia
    let o ← gallop' true z b (ib+1) (b.size-(ib+1)) 0
    F y o) R st':=by
 obtain⟨y,ey,ky⟩:=rb.at hib;rw[Nat.zero_add] at ey;refine wpS_bind (wpS_elem ey ?_);have I':=I.pushB rb.up (ls ey) (hx y ey);rw[← Array.toList_push] at I';by_cases hl:ib+1=b.size
 ·rw[if_pos (by simpa using hl)];refine wpS_pure (G.res _ _ _ _ _ _ _ _ hK ?_);rw[Array.toList_append,Array.toList_append,ext_all,ext_all];refine I'.done ra.up rb.up ?_;rw[List.drop_eq_nil_of_le (as:=b.toList) (by rw[Array.length_toList];omega)];intro _ _ _ z;simp at z
 ·rw[if_neg (by simpa using hl)];obtain⟨z,ez,kz⟩:=ra.at (i:=ia) (by omega);rw[Nat.zero_add] at ez;refine wpS_bind (wpS_elem ez ?_);refine wpS_bind (wpS_gallop hK.sb kz (rb.suf (ib+1) (by omega)) (by omega) fun k1 hcut=>?_);rw[hF];obtain⟨c1,c2,c3⟩:=hcut;have hz:∀ x∈(b.toList.drop (ib+1)).take k1,kn x<kn z:=fun x hx=>by
   obtain⟨j,hj,e⟩:=mem_cut hx;exact c2 j x hj e
  have I2:=I'.pushBs rb.up k1 fun x hx v hv=>Int.le_trans (Int.le_of_lt (hz x hx)) (up_head ra.up (ls ez) v hv)
  have tl:∀ x,a[ia]? = some x→ib+1+k1<b.size→∀ v∈b.toList.drop (ib+1+k1),kn x≤kn v:=fun x ex hlt v hv=>by
   rw[ez] at ex;obtain⟨u,eu,ku⟩:=rb.at hlt;rw[Nat.zero_add] at eu;have h3:¬ kn u<kn z:=c3 k1 u (Nat.le_refl _) (by omega) eu;have h4:=up_head rb.up (ls eu) v hv;cases ex;omega
  by_cases hk:k1 > 0
  ·rw[if_pos hk];rw[← ext_cut,← Array.toList_append] at I2;by_cases hl2:ib+1+k1=b.size
   ·rw[if_pos (by simpa using hl2)];refine wpS_pure (G.res _ _ _ _ _ _ _ _ hK ?_);rw[Array.toList_append,Array.toList_append,ext_all,ext_all];refine I2.done ra.up rb.up ?_;rw[List.drop_eq_nil_of_le (as:=b.toList) (by rw[Array.length_toList];omega)];intro _ _ _ z;simp at z
   ·rw[if_neg (by simpa using hl2)];exact lo_tail G ra rb h2 hK I2 hia (by omega) (by omega) fun x ex=>tl x ex (by omega)
  ·rw[if_neg hk];have hk0:k1=0:=by omega
   subst hk0;exact lo_tail G ra rb h2 hK I' hia (by omega) (by omega) fun x ex=>tl x ex (by omega)
set_option maxHeartbeats 4000000 in
theorem wpS_mergeLo {a b:Array Keyed}{st:SortSt}{Q:Array Keyed→SortSt→Prop} (hB:SB st) (ra:Run a 0 a.size) (rb:Run b 0 b.size) (hb:0<b.size) (ha:0<a.size)
  (h1:∀ x y,b[0]? = some x→a[0]? = some y→kn x<kn y) (h2:∀ z,a[a.size-1]? = some z→∀ y∈b,kn y<kn z)
  (h:∀ res st',SB st'→arrOf st'=arrOf st→pendingOf st'=pendingOf st→Merged a.toList b.toList res.toList→Q res st'):wpS (model prog w) A E s (mergeLo' a b) Q st:=by
 rw[mergeLo'_eq];dsimp only;refine wpS_bind (wpS_lift (wpAny_rule ⟨rfl,?_⟩));obtain⟨b0,eb0,kb0⟩:=rb.at hb;rw[Nat.zero_add] at eb0;refine wpS_bind (wpS_elem eb0 ?_);have hA:=ra.up;have hBu:=rb.up;have hlB:0<b.toList.length:=by rw[Array.length_toList];exact hb
 have I0:MInv a.toList b.toList (#[b0]:Array Keyed).toList 0 1:=by
  have e1:b.toList.take 1=[b0]:=by have:=take_one (ls eb0);rwa [List.drop_zero] at this
  refine⟨by rw[List.take_zero,List.nil_append,e1],List.pairwise_singleton _ _,fun x hx y hy=>?_,fun x hx y hy=>?_⟩
  ·obtain⟨a0,ea0,_⟩:=ra.at ha;rw[Nat.zero_add] at ea0;have hx':x=b0:=by simpa using hx
   rw[hx'];exact Int.le_trans (Int.le_of_lt (h1 b0 a0 eb0 ea0)) (up_head hA (ls ea0) y hy)
  ·have hx':x=b0:=by simpa using hx
   rw[hx'];refine up_head hBu (ls eb0) y ?_;rw[List.drop_zero];exact List.mem_of_mem_drop hy
 have K0:Kp st st:=⟨hB,rfl,rfl⟩;have dn:∀ {out:Array Keyed}{ia ib:Nat},MInv a.toList b.toList out.toList ia ib→ib=b.size→Merged a.toList b.toList (out++a.extract ia a.size++b.extract ib b.size).toList:=fun {out ia ib} I hl=>by
  rw[Array.toList_append,Array.toList_append,ext_all,ext_all];refine I.done hA hBu ?_;rw[List.drop_eq_nil_of_le (as:=b.toList) (by rw[Array.length_toList];omega)];intro _ _ _ z;simp at z
 have la:∀ {out:Array Keyed}{ia ib:Nat},MInv a.toList b.toList out.toList ia ib→ia+1=a.size→Merged a.toList b.toList (out++b.extract ib b.size++a.extract ia a.size).toList:=fun {out ia ib} I hl=>by
  rw[Array.toList_append,Array.toList_append,ext_all,ext_all];exact I.lastA hA hBu (bel_last h2 hl)
 by_cases g1:1=b.size
 ·rw[if_pos (by simpa using g1)];exact wpS_pure (h _ st hB rfl rfl (dn I0 g1))
 rw[if_neg (by simpa using g1)];by_cases g2:0+1=a.size
 ·rw[if_pos (by simpa using g2)];exact wpS_pure (h _ st hB rfl rfl (la I0 g2))
 rw[if_neg (by simpa using g2)];refine wpS_bind (wpS_get ?_);refine wpS_bind (wpS_mono (wpS_forRange
  (I:=fun x c st'=>∃ out ia ib mg,c=(none,out,ia,ib,mg)∧Kp st st'∧MInv a.toList b.toList out.toList ia ib∧ia+1<a.size∧ib<b.size∧x+1≤ia+ib)
  (Q:=fun c st'=>∃ res out ia ib mg,c=(some res,out,ia,ib,mg)∧Kp st st'∧Merged a.toList b.toList res.toList) ?step ?fin ⟨#[b0],0,1,_,rfl,K0,I0,by omega,by omega,by omega⟩) ?post)
 case fin =>
  rintro c st' ⟨out,ia,ib,mg,rfl,_,_,h3,h4,h5⟩;omega
 case post =>
  rintro c st' ⟨res,out,ia,ib,mg,rfl,hk,hm⟩;exact wpS_pure (h res st' hk.sb hk.arr hk.pend hm)
 case step =>
  rintro x c st1 _ hxt ⟨out,ia,ib,mg,rfl,hk1,I1,h3,h4,h5⟩;dsimp only;refine wpS_bind (wpS_mono (wpS_forRange
   (I:=fun x1 c st'=>∃ out ia ib ac bc,c=(none,out,ia,ib,ac,bc)∧Kp st st'∧MInv a.toList b.toList out.toList ia ib∧ia+1<a.size∧ib<b.size∧x+1+x1≤ia+ib)
   (Q:=fun c st'=>(∃ res out ia ib ac bc,c=(some res,out,ia,ib,ac,bc)∧Kp st st'∧Merged a.toList b.toList res.toList) ∨
    ∃ out ia ib ac bc,c=(none,out,ia,ib,ac,bc)∧Kp st st'∧MInv a.toList b.toList out.toList ia ib∧ia+1<a.size∧ib<b.size∧x+2≤ia+ib) ?step1 ?fin1 ⟨out,ia,ib,0,0,rfl,hk1,I1,h3,h4,by omega⟩) ?post1)
  case fin1 =>
   rintro c st' ⟨out,ia,ib,ac,bc,rfl,h6,h7,h8,h9,h10⟩;exact .inr ⟨out,ia,ib,ac,bc,rfl,h6,h7,h8,h9,by omega⟩
  case step1 =>
   rintro x1 c st2 _ hx1 ⟨out,ia,ib,ac,bc,rfl,hk2,I2,h8,h9,h10⟩;dsimp only;obtain⟨y,ey,ky⟩:=rb.at h9;obtain⟨z,ez,kz⟩:=ra.at (i:=ia) (by omega);rw[Nat.zero_add] at ey ez;refine wpS_bind (wpS_elem ey (wpS_bind (wpS_elem ez (wpS_bind (wpS_lt hk2.sb ky kz ?_)))));by_cases hw:kn y<kn z
   ·simp only[hw,decide_true,if_true];refine wpS_bind (wpS_elem ey ?_);have I3:=I2.pushB hBu (ls ey) fun v hv=>Int.le_trans (Int.le_of_lt hw) (up_head hA (ls ez) v hv)
    rw[← Array.toList_push] at I3;by_cases hl:ib+1=b.size
    ·rw[if_pos (by simpa using hl)];exact wpS_pure (.inl ⟨_,_,_,_,_,_,rfl,hk2,dn I3 hl⟩)
    ·rw[if_neg (by simpa using hl)];split
     ·exact wpS_pure (.inr ⟨_,_,_,_,_,rfl,hk2,I3,h8,by omega,by omega⟩)
     ·exact wpS_pure ⟨_,_,_,_,_,rfl,hk2,I3,h8,by omega,by omega⟩
   ·simp only[hw,decide_false,Bool.false_eq_true,if_false];refine wpS_bind (wpS_elem ez ?_);have I3:=I2.pushA hA (ls ez) fun v hv=>Int.le_trans (Int.not_lt.mp hw) (up_head hBu (ls ey) v hv)
    rw[← Array.toList_push] at I3;by_cases hl:ia+1+1=a.size
    ·rw[if_pos (by simpa using hl)];exact wpS_pure (.inl ⟨_,_,_,_,_,_,rfl,hk2,la I3 hl⟩)
    ·rw[if_neg (by simpa using hl)];split
     ·exact wpS_pure (.inr ⟨_,_,_,_,_,rfl,hk2,I3,by omega,h9,by omega⟩)
     ·exact wpS_pure ⟨_,_,_,_,_,rfl,hk2,I3,by omega,h9,by omega⟩
  case post1 =>
   rintro c st2 (⟨res,out,ia,ib,ac,bc,rfl,hk2,hm⟩ | ⟨out,ia,ib,ac,bc,rfl,hk2,I2,h8,h9,h10⟩)
   ·exact wpS_pure ⟨_,_,_,_,_,rfl,hk2,hm⟩
   dsimp only;refine wpS_bind (wpS_lift (wpAny_rule ⟨rfl,?_⟩));refine wpS_bind (wpS_mono (wpS_forRange
    (I:=fun x2 c st'=>∃ out ia ib mg ac bc,c=(none,out,ia,ib,mg,ac,bc)∧Kp st st'∧MInv a.toList b.toList out.toList ia ib∧ia+1<a.size∧ib<b.size∧x+2≤ia+ib)
    (Q:=fun c st'=>(∃ res out ia ib mg ac bc,c=(some res,out,ia,ib,mg,ac,bc)∧Kp st st'∧Merged a.toList b.toList res.toList) ∨
     ∃ out ia ib mg ac bc,c=(none,out,ia,ib,mg,ac,bc)∧Kp st st'∧MInv a.toList b.toList out.toList ia ib∧ia+1<a.size∧ib<b.size∧x+2≤ia+ib) ?step2 ?fin2 ⟨out,ia,ib,_,ac,bc,rfl,hk2,I2,h8,h9,by omega⟩) ?post2)
   case fin2 =>
    rintro c st' h';exact .inr h'
   case post2 =>
    rintro c st3 (⟨res,out,ia,ib,mg,ac,bc,rfl,hk3,hm⟩ | ⟨out,ia,ib,mg,ac,bc,rfl,hk3,I3,h11,h12,h13⟩)
    ·exact wpS_pure ⟨_,_,_,_,_,rfl,hk3,hm⟩
    ·exact wpS_bind (wpS_setG (wpS_pure ⟨_,_,_,_,rfl,hk3.setG _,I3,h11,h12,by omega⟩))
   case step2 =>
    rintro x2 c st3 _ hx2 ⟨out,ia,ib,mg,ac,bc,rfl,hk3,I3,h11,h12,h13⟩;dsimp only;obtain⟨y,ey,ky⟩:=rb.at h12;rw[Nat.zero_add] at ey;have ylast:∀ z,a[a.size-1]? = some z→kn y<kn z:=fun z ez=>h2 z ez y (Array.mem_of_getElem? ey)
    by_cases hmg:mg > 1
    all_goals first | rw[if_pos hmg] | rw[if_neg hmg]
    all_goals
     refine wpS_bind (wpS_setG ?_);refine wpS_bind (wpS_elem ey ?_);refine wpS_bind (wpS_gallop (hk3.setG _).sb ky (ra.suf ia (by omega)) (by omega) fun k hcut=>?_);dsimp only;obtain⟨c1,c2,c3⟩:=hcut;have hlt:ia+k<a.size:=by
      rcases Nat.lt_or_ge (ia+k) a.size with q | q
      ·exact q
      ·obtain⟨z,ez,_⟩:=ra.at (i:=a.size-1) (by omega);rw[Nat.zero_add] at ez;have q1:kn z≤kn y:=c2 (a.size-1-ia) z (by omega) (by rw[show ia+(a.size-1-ia)=a.size-1 by omega];exact ez)
       have:=ylast z ez
       omega
     have hy:∀ v∈a.toList.drop (ia+k),kn y≤kn v:=fun v hv=>by
      obtain⟨u,eu,ku⟩:=ra.at hlt;rw[Nat.zero_add] at eu;have q1:¬ kn u≤kn y:=c3 k u (Nat.le_refl _) (by omega) eu;have q2:=up_head hA (ls eu) v hv;omega
     have I4:=I3.pushAs hA k fun u hu v hv=>by
      obtain⟨j,hj,e⟩:=mem_cut hu;have q1:kn u≤kn y:=c2 j u hj e;exact Int.le_trans q1 (up_head hBu (ls ey) v hv)
     by_cases hk:k > 0
     ·rw[if_pos hk];rw[← ext_cut,← Array.toList_append] at I4;by_cases hl:ia+k+1=a.size
      ·rw[if_pos (by simpa using hl)];exact wpS_pure (.inl ⟨_,_,_,_,_,_,_,rfl,hk3.setG _,la I4 hl⟩)
      ·rw[if_neg (by simpa using hl),if_neg (by simp;omega)];refine lo_mid (c:=x+1) (st₀:=st) ⟨fun res out ia ib mg ac bc st' a1 a2=>.inl ⟨_,_,_,_,_,_,_,rfl,a1,a2⟩,fun out ia ib mg ac bc st' a1 a2 a3 a4 a5=>.inr ⟨_,_,_,_,_,_,rfl,a1,a2,a3,a4,by omega⟩,fun out ia ib mg ac bc st' a1 a2 a3 a4 a5=>⟨_,_,_,_,_,_,rfl,a1,a2,a3,a4,by omega⟩⟩ ra rb h2 (hk3.setG _) I4 (by omega) h12 (by omega) (fun u eu v hv=>by rw[ey] at eu;cases eu;exact hy v hv) _ (fun _ _=>rfl)
     ·rw[if_neg hk];have hk0:k=0:=by omega
      subst hk0;refine lo_mid (c:=x+1) (st₀:=st) ⟨fun res out ia ib mg ac bc st' a1 a2=>.inl ⟨_,_,_,_,_,_,_,rfl,a1,a2⟩,fun out ia ib mg ac bc st' a1 a2 a3 a4 a5=>.inr ⟨_,_,_,_,_,_,rfl,a1,a2,a3,a4,by omega⟩,fun out ia ib mg ac bc st' a1 a2 a3 a4 a5=>⟨_,_,_,_,_,_,rfl,a1,a2,a3,a4,by omega⟩⟩ ra rb h2 (hk3.setG _) I3 h11 h12 (by omega) (fun u eu v hv=>by rw[ey] at eu;cases eu;exact hy v hv) _ (fun _ _=>rfl)
end
end OS
namespace OS
open PySem PyProof.Rows
variable [KO]
structure NInv (A B o:List Keyed) (na nb:Nat):Prop where
 perm:o.Perm (A.drop na++B.drop nb)
 srt:Up o
 lbA:Bel (A.take na) o
 lbB:Bel (B.take nb) o
theorem NInv.swap {A B o:List Keyed}{na nb:Nat} (h:NInv A B o na nb):NInv B A o nb na:=⟨h.perm.trans List.perm_append_comm,h.srt,h.lbB,h.lbA⟩
theorem take_split (A:List Keyed) {i n:Nat} (h:i≤n):A.take n=A.take i++(A.take n).drop i:=by
 have e:=List.take_append_drop i (A.take n);rw[List.take_take,Nat.min_eq_left h] at e;exact e.symm
theorem NInv.pushAs {A B o:List Keyed}{na nb:Nat} (h:NInv A B o na nb) (sA:Up A) {i:Nat} (hi:i≤na) (hb:Bel (B.take nb) ((A.take na).drop i)):NInv A B ((A.take na).drop i++o) i nb:=by
 have e:=take_split A hi;have sd:Up (A.take na):=sA.sublist (List.take_sublist _ _);rw[e] at sd;have sp:=List.pairwise_append.mp sd;refine⟨?_,List.pairwise_append.mpr ⟨sp.2.1,h.srt,fun x hx y hy=>h.lbA x (List.mem_of_mem_drop hx) y hy⟩,fun x hx y hy=>?_,fun x hx y hy=>?_⟩
 ·have e2:A.drop i=(A.take na).drop i++A.drop na:=by
   have e3:A=A.take na++A.drop na:=(List.take_append_drop na A).symm;by_cases hl:na≤A.length
   ·have:i≤(A.take na).length:=by rw[List.length_take];omega
    conv=>lhs;rw[e3]
    rw[List.drop_append_of_le_length this]
   ·rw[List.take_of_length_le (by omega),List.drop_eq_nil_of_le (as:=A) (i:=na) (by omega),List.append_nil]
  rw[e2,List.append_assoc];exact h.perm.append_left _
 ·rcases List.mem_append.mp hy with hy | hy
  ·exact sp.2.2 x hx y hy
  ·exact h.lbA x (by rw[e];exact List.mem_append_left _ hx) y hy
 ·rcases List.mem_append.mp hy with hy | hy
  ·exact hb x hx y hy
  ·exact h.lbB x hx y hy
theorem NInv.pushBs {A B o:List Keyed}{na nb:Nat} (h:NInv A B o na nb) (sB:Up B) {i:Nat} (hi:i≤nb) (hb:Bel (A.take na) ((B.take nb).drop i)):NInv A B ((B.take nb).drop i++o) na i :=
 (h.swap.pushAs sB hi hb).swap
theorem cut_last {A:List Keyed}{n:Nat}{x:Keyed} (e:A[n]? = some x):(A.take (n+1)).drop n=[x]:=by
 rw[List.take_add_one,e];have hn:=(List.getElem?_eq_some_iff.mp e).1;rw[List.drop_append_of_le_length (by rw[List.length_take];omega),List.drop_eq_nil_of_le (by rw[List.length_take];omega)];rfl
theorem NInv.pushA {A B o:List Keyed}{na nb:Nat}{x:Keyed} (h:NInv A B o (na+1) nb) (sA:Up A) (e:A[na]? = some x) (hb:∀ y∈B.take nb,kn y≤kn x):NInv A B (x :: o) na nb:=by
 have:=h.pushAs sA (i:=na) (by omega) (by rw[cut_last e];intro y hy z hz;rw[List.mem_singleton.mp hz];exact hb y hy)
 rwa [cut_last e] at this
theorem NInv.pushB {A B o:List Keyed}{na nb:Nat}{x:Keyed} (h:NInv A B o na (nb+1)) (sB:Up B) (e:B[nb]? = some x) (hb:∀ y∈A.take na,kn y≤kn x):NInv A B (x :: o) na nb :=
 (h.swap.pushA sB e hb).swap
theorem NInv.done {A B o:List Keyed}{na nb:Nat} (h:NInv A B o na nb) (sA:Up A) (sB:Up B) (hb:Bel (A.take na) (B.take nb)):Merged A B (A.take na++B.take nb++o):=by
 refine⟨?_,?_⟩
 ·refine (h.perm.append_left _).trans ?_;have h2:(A.take na++B.take nb++(A.drop na++B.drop nb)).Perm (A.take na++(A.drop na++(B.take nb++B.drop nb))):=by
   rw[List.append_assoc];refine List.Perm.append_left _ ?_;rw[← List.append_assoc,← List.append_assoc];exact List.perm_append_comm.append_right _
  refine h2.trans ?_;rw[List.take_append_drop,← List.append_assoc,List.take_append_drop]
 ·refine List.pairwise_append.mpr ⟨List.pairwise_append.mpr ⟨sA.sublist (List.take_sublist _ _),sB.sublist (List.take_sublist _ _),hb⟩,h.srt,fun x hx y hy=>?_⟩;rcases List.mem_append.mp hx with hx | hx
  ·exact h.lbA x hx y hy
  ·exact h.lbB x hx y hy
theorem NInv.firstB {A B o:List Keyed}{na nb:Nat} (h:NInv A B o na nb) (sA:Up A) (sB:Up B) (hb:Bel (B.take nb) (A.take na)):Merged A B (B.take nb++A.take na++o):=(h.swap.done sB sA hb).swap
theorem up_lastT {A:List Keyed}{n:Nat}{x:Keyed} (sA:Up A) (e:A[n]? = some x):∀ y∈A.take (n+1),kn y≤kn x:=by
 intro y hy;have hn:=List.getElem?_eq_some_iff.mp e;obtain⟨j,hj,ey⟩:=List.getElem_of_mem hy;rw[List.length_take] at hj;have ey':A[j]'(by omega)=y:=by rw[← ey];simp
 by_cases h:j=n
 ·subst h;rw[← ey',hn.2];exact Int.le_refl _
 ·have:=List.pairwise_iff_getElem.mp sA j n (by omega) hn.1 (by omega)
  rw[ey',hn.2] at this;exact this
theorem ext_pre (a:Array Keyed) (n:Nat):(a.extract 0 n).toList=a.toList.take n:=by
 rw[Array.toList_extract,List.extract_eq_take_drop,List.drop_zero,Nat.sub_zero]
theorem ext_mid (a:Array Keyed) {i n:Nat}:(a.extract i n).toList=(a.toList.take n).drop i:=by
 rw[Array.toList_extract,List.extract_eq_take_drop,List.drop_take]
theorem mem_mid {a:Array Keyed}{i n:Nat}{x:Keyed} (h:x∈(a.toList.take n).drop i):∃ j,i≤j∧j<n∧a[j]? = some x:=by
 obtain⟨j,hj,e⟩:=List.getElem_of_mem h;rw[List.length_drop,List.length_take] at hj;refine⟨i+j,by omega,by omega,?_⟩;have e2:((a.toList.take n).drop i)[j]? = some x:=by rw[List.getElem?_eq_getElem (by rw[List.length_drop,List.length_take];exact hj),e]
 rw[List.getElem?_drop,List.getElem?_take_of_lt (by omega)] at e2;simpa using e2
section
variable {prog:Program}{w:World}{A:Around}{E:Value→Shared→Prop}{s:Shared} [KL prog w A s]
noncomputable def mergeHi':Array Keyed→Array Keyed→StateT SortSt Sem (Array Keyed):=sortPriv% PySem.Builtin.mergeHi
set_option maxHeartbeats 4000000 in
theorem mergeHi'_eq (a b:Array Keyed):mergeHi' a b=(do
 rule "list.sort.merge-hi";let total:=a.size+b.size
 let done (out:Array Keyed) (na nb:Nat):=a.extract 0 na++b.extract 0 nb++out.reverse;let firstOfB (out:Array Keyed) (na nb:Nat):=b.extract 0 nb++a.extract 0 na++out.reverse
 let mut na:=a.size-1;let mut nb:=b.size;let mut out:Array Keyed := #[← elem' a na]
 if na == 0 then return done out na nb
 if nb == 1 then return firstOfB out na nb
 let mut minGallop:=gallopOf (← get)
 for _ in [0:total] do
  let mut acount:=0;let mut bcount:=0
  for _ in [0:total] do
   let some aWins ← lt' (← elem' b (nb-1)) (← elem' a (na-1)) | return done out na nb
   if aWins=true then
    na:=na-1;out:=out.push (← elem' a na);acount:=acount+1;bcount:=0
    if na == 0 then return done out na nb
    if acount ≥ minGallop then break
   else
    nb:=nb-1;out:=out.push (← elem' b nb);bcount:=bcount+1;acount:=0
    if nb == 1 then return firstOfB out na nb
    if bcount ≥ minGallop then break
  rule "list.sort.gallop";minGallop:=minGallop+1
  for _ in [0:total] do
   if minGallop > 1 then minGallop:=minGallop-1
   setG minGallop
   let some at_ ← gallop' false (← elem' b (nb-1)) a 0 na (na-1) | return done out na nb
   let k:=na-at_
   acount:=k
   if k > 0 then
    out:=out++(a.extract at_ na).reverse;na:=at_
    if na == 0 then return done out na nb
   nb:=nb-1;out:=out.push (← elem' b nb)
   if nb == 1 then return firstOfB out na nb
   let some at_ ← gallop' true (← elem' a (na-1)) b 0 nb (nb-1) | return done out na nb
   let k:=nb-at_
   bcount:=k
   if k > 0 then
    out:=out++(b.extract at_ nb).reverse;nb:=at_
    if nb == 1 then return firstOfB out na nb
    if nb == 0 then return done out na nb
   na:=na-1;out:=out.push (← elem' a na)
   if na == 0 then return done out na nb
   if acount<7 && bcount<7 then break
  minGallop:=minGallop+1;setG minGallop
 unsupported "internal:list.sort.merge-bound"):=rfl
noncomputable abbrev D7:=Option (Array Keyed) × Nat × Nat × Array Keyed × Nat × Nat × Nat
structure HiR (a b:Array Keyed) (st₀:SortSt) (c:Nat) (R:ForInStep D7→SortSt→Prop):Prop where
 res:∀ res out na nb mg ac bc st',Kp st₀ st'→Merged a.toList b.toList res.toList→R (.done (some res,na,nb,out,mg,ac,bc)) st'
 brk:∀ out na nb mg ac bc st',Kp st₀ st'→NInv a.toList b.toList out.toList.reverse na nb→1≤na→na≤a.size→2≤nb→nb≤b.size→c<a.size-na+(b.size-nb)→R (.done (none,na,nb,out,mg,ac,bc)) st'
 go:∀ out na nb mg ac bc st',Kp st₀ st'→NInv a.toList b.toList out.toList.reverse na nb→1≤na→na≤a.size→2≤nb→nb≤b.size→c<a.size-na+(b.size-nb)→R (.yield (none,na,nb,out,mg,ac,bc)) st'
theorem hi_res0 {a b out:Array Keyed}{na nb:Nat} (ra:Run a 0 a.size) (rb:Run b 0 b.size) (I:NInv a.toList b.toList out.toList.reverse na nb) (hl:na=0):Merged a.toList b.toList (a.extract 0 na++b.extract 0 nb++out.reverse).toList:=by
 rw[Array.toList_append,Array.toList_append,ext_pre,ext_pre,Array.toList_reverse];refine I.done ra.up rb.up ?_;rw[hl];intro x hx;simp at hx
theorem hi_res1 {a b out:Array Keyed}{na nb:Nat} (ra:Run a 0 a.size) (rb:Run b 0 b.size) (h1:∀ x y,b[0]? = some x→a[0]? = some y→kn x<kn y) (I:NInv a.toList b.toList out.toList.reverse na nb) (hl:nb=1):Merged a.toList b.toList (b.extract 0 nb++a.extract 0 na++out.reverse).toList:=by
 rw[Array.toList_append,Array.toList_append,ext_pre,ext_pre,Array.toList_reverse];refine I.firstB ra.up rb.up fun x hx y hy=>?_
 rw[hl] at hx;obtain⟨j,_,hj,ex⟩:=mem_mid (i:=0) (by rw[List.drop_zero];exact hx);have hj0:j=0:=by omega
 subst hj0;obtain⟨i,_,hi,ey⟩:=mem_mid (i:=0) (by rw[List.drop_zero];exact hy);have hi':i<a.size:=by
  rcases Nat.lt_or_ge i a.size with q | q
  ·exact q
  ·rw[Array.getElem?_eq_none q] at ey;cases ey
 obtain⟨a0,ea0,_⟩:=ra.at (i:=0) (by omega);have q1:=ra.rise 0 i a0 y (by omega) hi' ea0 (by rw[Nat.zero_add];exact ey);rw[Nat.zero_add] at ea0;have q2:=h1 x a0 ex ea0;omega
theorem hi_tail {a b:Array Keyed}{st₀ st':SortSt}{c:Nat}{R:ForInStep D7→SortSt→Prop} (G:HiR a b st₀ c R) (ra:Run a 0 a.size) (rb:Run b 0 b.size)
  {out:Array Keyed}{na nb mg k k1:Nat} (hK:Kp st₀ st') (I:NInv a.toList b.toList out.toList.reverse na nb) (hna:1≤na) (hna2:na≤a.size) (hnb:2≤nb) (hnb2:nb≤b.size) (hc:c≤a.size-na+(b.size-nb))
  (hx:∀ x,a[na-1]? = some x→∀ y∈b.toList.take nb,kn y≤kn x) :
  wpS (model prog w) A E s (do
   let x ← elem' a (na-1)
   if (na-1 == 0)=true then pure (ForInStep.done (some (a.extract 0 (na-1)++b.extract 0 nb++(out.push x).reverse),na-1,nb,out.push x,mg,k,k1))
   else if (decide (k<7) && decide (k1<7))=true then pure (ForInStep.done (none,na-1,nb,out.push x,mg,k,k1)) else pure (ForInStep.yield (none,na-1,nb,out.push x,mg,k,k1))) R st':=by
 obtain⟨x,ex,kx⟩:=ra.at (i:=na-1) (by omega);rw[Nat.zero_add] at ex;refine wpS_bind (wpS_elem ex ?_);have I':NInv a.toList b.toList (out.push x).toList.reverse (na-1) nb:=by
  have e:(out.push x).toList.reverse=x :: out.toList.reverse:=by simp
  rw[e];refine NInv.pushA (na:=na-1) ?_ ra.up (ls ex) (hx x ex);rw[show na-1+1=na by omega];exact I
 by_cases hl:na-1=0
 ·rw[if_pos (by simpa using hl)];exact wpS_pure (G.res _ _ _ _ _ _ _ _ hK (hi_res0 ra rb I' hl))
 ·rw[if_neg (by simpa using hl)];split
  ·exact wpS_pure (G.brk _ _ _ _ _ _ _ hK I' (by omega) (by omega) hnb hnb2 (by omega))
  ·exact wpS_pure (G.go _ _ _ _ _ _ _ hK I' (by omega) (by omega) hnb hnb2 (by omega))
theorem hi_mid {a b:Array Keyed}{st₀ st':SortSt}{c:Nat}{R:ForInStep D7→SortSt→Prop} (G:HiR a b st₀ c R) (ra:Run a 0 a.size) (rb:Run b 0 b.size) (h1:∀ x y,b[0]? = some x→a[0]? = some y→kn x<kn y)
  {out:Array Keyed}{na nb mg k bc:Nat} (hK:Kp st₀ st') (I:NInv a.toList b.toList out.toList.reverse na nb) (hna:1≤na) (hna2:na≤a.size) (hnb:2≤nb) (hnb2:nb≤b.size) (hc:c≤a.size-na+(b.size-nb))
  (hx:∀ x,b[nb-1]? = some x→∀ y∈a.toList.take na,kn y≤kn x) (F:Keyed→Option Nat→StateT SortSt Sem (ForInStep D7))
  (hF:∀ y t,F y (some t)=if nb-1-t > 0 then
    if (t == 1)=true then pure (ForInStep.done (some (b.extract 0 t++a.extract 0 na++(out.push y++(b.extract t (nb-1)).reverse).reverse),na,t,out.push y++(b.extract t (nb-1)).reverse,mg,k,nb-1-t))
    else if (t == 0)=true then pure (ForInStep.done (some (a.extract 0 na++b.extract 0 t++(out.push y++(b.extract t (nb-1)).reverse).reverse),na,t,out.push y++(b.extract t (nb-1)).reverse,mg,k,nb-1-t))
    else do
     let x ← elem' a (na-1)
     if (na-1 == 0)=true then pure (ForInStep.done (some (a.extract 0 (na-1)++b.extract 0 t++((out.push y++(b.extract t (nb-1)).reverse).push x).reverse),na-1,t,(out.push y++(b.extract t (nb-1)).reverse).push x,mg,k,nb-1-t))
     else if (decide (k<7) && decide (nb-1-t<7))=true then pure (ForInStep.done (none,na-1,t,(out.push y++(b.extract t (nb-1)).reverse).push x,mg,k,nb-1-t)) else pure (ForInStep.yield (none,na-1,t,(out.push y++(b.extract t (nb-1)).reverse).push x,mg,k,nb-1-t))
   else do
     let x ← elem' a (na-1)
     if (na-1 == 0)=true then pure (ForInStep.done (some (a.extract 0 (na-1)++b.extract 0 (nb-1)++((out.push y).push x).reverse),na-1,nb-1,(out.push y).push x,mg,k,nb-1-t))
     else if (decide (k<7) && decide (nb-1-t<7))=true then pure (ForInStep.done (none,na-1,nb-1,(out.push y).push x,mg,k,nb-1-t)) else pure (ForInStep.yield (none,na-1,nb-1,(out.push y).push x,mg,k,nb-1-t))) :
  wpS (model prog w) A E s (do
   let y ← elem' b (nb-1)
   if (nb-1 == 1)=true then pure (ForInStep.done (some (b.extract 0 (nb-1)++a.extract 0 na++(out.push y).reverse),na,nb-1,out.push y,mg,k,bc))
   else do
    let z ← elem' a (na-1)
    let o ← gallop' true z b 0 (nb-1) (nb-1-1)
    F y o) R st':=by
 obtain⟨y,ey,ky⟩:=rb.at (i:=nb-1) (by omega);rw[Nat.zero_add] at ey;refine wpS_bind (wpS_elem ey ?_);have I':NInv a.toList b.toList (out.push y).toList.reverse na (nb-1):=by
  have e:(out.push y).toList.reverse=y :: out.toList.reverse:=by simp
  rw[e];refine NInv.pushB (nb:=nb-1) ?_ rb.up (ls ey) (hx y ey);rw[show nb-1+1=nb by omega];exact I
 by_cases hl:nb-1=1
 ·rw[if_pos (by simpa using hl)];exact wpS_pure (G.res _ _ _ _ _ _ _ _ hK (hi_res1 ra rb h1 I' hl))
 ·rw[if_neg (by simpa using hl)];obtain⟨z,ez,kz⟩:=ra.at (i:=na-1) (by omega);rw[Nat.zero_add] at ez;refine wpS_bind (wpS_elem ez ?_);refine wpS_bind (wpS_gallop hK.sb kz (rb.pre (nb-1) (by omega)) (by omega) fun t hcut=>?_);rw[hF];obtain⟨c1,c2,c3⟩:=hcut;have ht1:1≤t:=by
   rcases Nat.lt_or_ge 0 t with q | q
   ·exact q
   ·obtain⟨b0,eb0,_⟩:=rb.at (i:=0) (by omega);obtain⟨a0,ea0,_⟩:=ra.at (i:=0) (by omega);have q1:¬ kn b0<kn z:=c3 0 b0 (by omega) (by omega) eb0;have q2:=ra.rise 0 (na-1) a0 z (by omega) (by omega) ea0 (by rw[Nat.zero_add];exact ez);rw[Nat.zero_add] at eb0 ea0;have q3:=h1 b0 a0 eb0 ea0;omega
  have tz:∀ x,a[na-1]? = some x→∀ v∈b.toList.take t,kn v≤kn x:=fun x exx v hv=>by
   rw[ez] at exx;obtain⟨j,_,hj,ev⟩:=mem_mid (i:=0) (by rw[List.drop_zero];exact hv);have q1:kn v<kn z:=c2 j v hj (by rw[Nat.zero_add];exact ev);cases exx;omega
  have I2:=I'.pushBs rb.up (i:=t) (by omega) fun x hx v hv=>by
   obtain⟨j,hj1,hj2,ev⟩:=mem_mid hv;have q1:¬ kn v<kn z:=c3 j v hj1 (by omega) (by rw[Nat.zero_add];exact ev);have q2:=up_lastT ra.up (ls ez) x (by rw[show na-1+1=na by omega];exact hx);omega
  by_cases hk:nb-1-t > 0
  ·rw[if_pos hk];have e:(out.push y++(b.extract t (nb-1)).reverse).toList.reverse=(b.toList.take (nb-1)).drop t++(out.push y).toList.reverse:=by
    rw[Array.toList_append,List.reverse_append,Array.toList_reverse,List.reverse_reverse,ext_mid]
   rw[← e] at I2;by_cases hl2:t=1
   ·rw[if_pos (by simpa using hl2)];exact wpS_pure (G.res _ _ _ _ _ _ _ _ hK (hi_res1 ra rb h1 I2 hl2))
   ·rw[if_neg (by simpa using hl2),if_neg (by simp;omega)];exact hi_tail G ra rb hK I2 hna hna2 (by omega) (by omega) (by omega) tz
  ·rw[if_neg hk];have ht:t=nb-1:=by omega
   rw[ht] at tz ⊢;exact hi_tail G ra rb hK I' hna hna2 (by omega) (by omega) (by omega) tz
set_option maxHeartbeats 4000000 in
theorem wpS_mergeHi {a b:Array Keyed}{st:SortSt}{Q:Array Keyed→SortSt→Prop} (hB:SB st) (ra:Run a 0 a.size) (rb:Run b 0 b.size) (hb:0<b.size) (ha:0<a.size)
  (h1:∀ x y,b[0]? = some x→a[0]? = some y→kn x<kn y) (h2:∀ z,a[a.size-1]? = some z→∀ y∈b,kn y<kn z)
  (h:∀ res st',SB st'→arrOf st'=arrOf st→pendingOf st'=pendingOf st→Merged a.toList b.toList res.toList→Q res st'):wpS (model prog w) A E s (mergeHi' a b) Q st:=by
 rw[mergeHi'_eq];dsimp only;refine wpS_bind (wpS_lift (wpAny_rule ⟨rfl,?_⟩));obtain⟨z,ez,kz⟩:=ra.at (i:=a.size-1) (by omega);rw[Nat.zero_add] at ez;refine wpS_bind (wpS_elem ez ?_);have hA:=ra.up;have hBu:=rb.up;have I0:NInv a.toList b.toList (#[z]:Array Keyed).toList.reverse (a.size-1) b.size:=by
  have e1:a.toList.drop (a.size-1)=[z]:=by
   have:=take_one (ls ez)
   rwa [List.take_of_length_le (by rw[List.length_drop,Array.length_toList];omega)] at this
  have e2:b.toList.drop b.size=[]:=List.drop_eq_nil_of_le (by rw[Array.length_toList];omega);refine⟨by rw[e1,e2];exact List.Perm.refl _,List.pairwise_singleton _ _,fun x hx y hy=>?_,fun x hx y hy=>?_⟩
  ·have hy':y=z:=by simpa using hy
   rw[hy'];refine up_lastT hA (ls ez) x ?_;rw[show a.size-1+1=a.size by omega,List.take_of_length_le (by rw[Array.length_toList];omega)];exact List.mem_of_mem_take hx
  ·have hy':y=z:=by simpa using hy
   rw[hy'];exact Int.le_of_lt (h2 z ez x (by simpa using List.mem_of_mem_take hx))
 have K0:Kp st st:=⟨hB,rfl,rfl⟩;by_cases g1:a.size-1=0
 ·rw[if_pos (by simpa using g1)];exact wpS_pure (h _ st hB rfl rfl (hi_res0 ra rb I0 g1))
 rw[if_neg (by simpa using g1)];by_cases g2:b.size=1
 ·rw[if_pos (by simpa using g2)];exact wpS_pure (h _ st hB rfl rfl (hi_res1 ra rb h1 I0 g2))
 rw[if_neg (by simpa using g2)];refine wpS_bind (wpS_get ?_);refine wpS_bind (wpS_mono (wpS_forRange
  (I:=fun x c st'=>∃ na nb out mg,c=(none,na,nb,out,mg)∧Kp st st'∧NInv a.toList b.toList out.toList.reverse na nb∧1≤na∧na≤a.size∧2≤nb∧nb≤b.size∧x+1≤a.size-na+(b.size-nb))
  (Q:=fun c st'=>∃ res na nb out mg,c=(some res,na,nb,out,mg)∧Kp st st'∧Merged a.toList b.toList res.toList) ?step ?fin ⟨a.size-1,b.size,#[z],_,rfl,K0,I0,by omega,by omega,by omega,by omega,by omega⟩) ?post)
 case fin =>
  rintro c st' ⟨na,nb,out,mg,rfl,_,_,h3,h4,h5,h6,h7⟩;omega
 case post =>
  rintro c st' ⟨res,na,nb,out,mg,rfl,hk,hm⟩;exact wpS_pure (h res st' hk.sb hk.arr hk.pend hm)
 case step =>
  rintro x c st1 _ hxt ⟨na,nb,out,mg,rfl,hk1,I1,h3,h4,h5,h6,h7⟩;dsimp only;refine wpS_bind (wpS_mono (wpS_forRange
   (I:=fun x1 c st'=>∃ na nb out ac bc,c=(none,na,nb,out,ac,bc)∧Kp st st'∧NInv a.toList b.toList out.toList.reverse na nb∧1≤na∧na≤a.size∧2≤nb∧nb≤b.size∧x+1+x1≤a.size-na+(b.size-nb))
   (Q:=fun c st'=>(∃ res na nb out ac bc,c=(some res,na,nb,out,ac,bc)∧Kp st st'∧Merged a.toList b.toList res.toList) ∨
    ∃ na nb out ac bc,c=(none,na,nb,out,ac,bc)∧Kp st st'∧NInv a.toList b.toList out.toList.reverse na nb∧1≤na∧na≤a.size∧2≤nb∧nb≤b.size∧x+2≤a.size-na+(b.size-nb)) ?step1 ?fin1 ⟨na,nb,out,0,0,rfl,hk1,I1,h3,h4,h5,h6,by omega⟩) ?post1)
  case fin1 =>
   rintro c st' ⟨na,nb,out,ac,bc,rfl,g3,g4,g5,g6,g7,g8,g9⟩;exact .inr ⟨na,nb,out,ac,bc,rfl,g3,g4,g5,g6,g7,g8,by omega⟩
  case step1 =>
   rintro x1 c st2 _ hx1 ⟨na,nb,out,ac,bc,rfl,hk2,I2,g5,g6,g7,g8,g9⟩;dsimp only;obtain⟨y,ey,ky⟩:=rb.at (i:=nb-1) (by omega);obtain⟨v,ev,kv⟩:=ra.at (i:=na-1) (by omega);rw[Nat.zero_add] at ey ev;refine wpS_bind (wpS_elem ey (wpS_bind (wpS_elem ev (wpS_bind (wpS_lt hk2.sb ky kv ?_)))));have uy:=up_lastT hBu (ls ey);have uv:=up_lastT hA (ls ev);rw[show nb-1+1=nb by omega] at uy;rw[show na-1+1=na by omega] at uv;by_cases hw:kn y<kn v
   ·simp only[hw,decide_true,if_true];refine wpS_bind (wpS_elem ev ?_);have I3:NInv a.toList b.toList (out.push v).toList.reverse (na-1) nb:=by
     have e:(out.push v).toList.reverse=v :: out.toList.reverse:=by simp
     rw[e];refine NInv.pushA (na:=na-1) ?_ hA (ls ev) fun u hu=>by have:=uy u hu;omega
     rw[show na-1+1=na by omega];exact I2
    by_cases hl:na-1=0
    ·rw[if_pos (by simpa using hl)];exact wpS_pure (.inl ⟨_,_,_,_,_,_,rfl,hk2,hi_res0 ra rb I3 hl⟩)
    ·rw[if_neg (by simpa using hl)];split
     ·exact wpS_pure (.inr ⟨_,_,_,_,_,rfl,hk2,I3,by omega,by omega,g7,g8,by omega⟩)
     ·exact wpS_pure ⟨_,_,_,_,_,rfl,hk2,I3,by omega,by omega,g7,g8,by omega⟩
   ·simp only[hw,decide_false,Bool.false_eq_true,if_false];refine wpS_bind (wpS_elem ey ?_);have I3:NInv a.toList b.toList (out.push y).toList.reverse na (nb-1):=by
     have e:(out.push y).toList.reverse=y :: out.toList.reverse:=by simp
     rw[e];refine NInv.pushB (nb:=nb-1) ?_ hBu (ls ey) fun u hu=>by have:=uv u hu;omega
     rw[show nb-1+1=nb by omega];exact I2
    by_cases hl:nb-1=1
    ·rw[if_pos (by simpa using hl)];exact wpS_pure (.inl ⟨_,_,_,_,_,_,rfl,hk2,hi_res1 ra rb h1 I3 hl⟩)
    ·rw[if_neg (by simpa using hl)];split
     ·exact wpS_pure (.inr ⟨_,_,_,_,_,rfl,hk2,I3,by omega,by omega,by omega,by omega,by omega⟩)
     ·exact wpS_pure ⟨_,_,_,_,_,rfl,hk2,I3,by omega,by omega,by omega,by omega,by omega⟩
  case post1 =>
   rintro c st2 (⟨res,na,nb,out,ac,bc,rfl,hk2,hm⟩ | ⟨na,nb,out,ac,bc,rfl,hk2,I2,g5,g6,g7,g8,g9⟩)
   ·exact wpS_pure ⟨_,_,_,_,_,rfl,hk2,hm⟩
   dsimp only;refine wpS_bind (wpS_lift (wpAny_rule ⟨rfl,?_⟩));refine wpS_bind (wpS_mono (wpS_forRange
    (I:=fun x2 c st'=>∃ na nb out mg ac bc,c=(none,na,nb,out,mg,ac,bc)∧Kp st st'∧NInv a.toList b.toList out.toList.reverse na nb∧1≤na∧na≤a.size∧2≤nb∧nb≤b.size∧x+2≤a.size-na+(b.size-nb))
    (Q:=fun c st'=>(∃ res na nb out mg ac bc,c=(some res,na,nb,out,mg,ac,bc)∧Kp st st'∧Merged a.toList b.toList res.toList) ∨
     ∃ na nb out mg ac bc,c=(none,na,nb,out,mg,ac,bc)∧Kp st st'∧NInv a.toList b.toList out.toList.reverse na nb∧1≤na∧na≤a.size∧2≤nb∧nb≤b.size∧x+2≤a.size-na+(b.size-nb)) ?step2 ?fin2 ⟨na,nb,out,_,ac,bc,rfl,hk2,I2,g5,g6,g7,g8,by omega⟩) ?post2)
   case fin2 =>
    rintro c st' h';exact .inr h'
   case post2 =>
    rintro c st3 (⟨res,na,nb,out,mg,ac,bc,rfl,hk3,hm⟩ | ⟨na,nb,out,mg,ac,bc,rfl,hk3,I3,p5,p6,p7,p8,p9⟩)
    ·exact wpS_pure ⟨_,_,_,_,_,rfl,hk3,hm⟩
    ·exact wpS_bind (wpS_setG (wpS_pure ⟨_,_,_,_,rfl,hk3.setG _,I3,p5,p6,p7,p8,by omega⟩))
   case step2 =>
    rintro x2 c st3 _ hx2 ⟨na,nb,out,mg,ac,bc,rfl,hk3,I3,p5,p6,p7,p8,p9⟩;dsimp only;obtain⟨y,ey,ky⟩:=rb.at (i:=nb-1) (by omega);rw[Nat.zero_add] at ey;have uy:=up_lastT hBu (ls ey);rw[show nb-1+1=nb by omega] at uy;by_cases hmg:mg > 1
    all_goals first | rw[if_pos hmg] | rw[if_neg hmg]
    all_goals
     refine wpS_bind (wpS_setG ?_);refine wpS_bind (wpS_elem ey ?_);refine wpS_bind (wpS_gallop (hk3.setG _).sb ky (ra.pre na p6) (by omega) fun t hcut=>?_);dsimp only;obtain⟨c1,c2,c3⟩:=hcut;have ty:∀ u,b[nb-1]? = some u→∀ v∈a.toList.take t,kn v≤kn u:=fun u eu v hv=>by
      rw[ey] at eu;obtain⟨j,_,hj,ev⟩:=mem_mid (i:=0) (by rw[List.drop_zero];exact hv);have q1:kn v≤kn y:=c2 j v hj (by rw[Nat.zero_add];exact ev);cases eu;exact q1
     have I4:=I3.pushAs hA (i:=t) c1 fun u hu v hv=>by
      obtain⟨j,hj1,hj2,ev⟩:=mem_mid hv;have q1:¬ kn v≤kn y:=c3 j v hj1 hj2 (by rw[Nat.zero_add];exact ev);have q2:=uy u hu;omega
     by_cases hk:na-t > 0
     ·rw[if_pos hk];have e:(out++(a.extract t na).reverse).toList.reverse=(a.toList.take na).drop t++out.toList.reverse:=by
       rw[Array.toList_append,List.reverse_append,Array.toList_reverse,List.reverse_reverse,ext_mid]
      rw[← e] at I4;by_cases hl:t=0
      ·rw[if_pos (by simpa using hl)];exact wpS_pure (.inl ⟨_,_,_,_,_,_,_,rfl,hk3.setG _,hi_res0 ra rb I4 hl⟩)
      ·rw[if_neg (by simpa using hl)];refine hi_mid (c:=x+1) (st₀:=st) ⟨fun res out na nb mg ac bc st' a1 a2=>.inl ⟨_,_,_,_,_,_,_,rfl,a1,a2⟩,fun out na nb mg ac bc st' a1 a2 a3 a4 a5 a6 a7=>.inr ⟨_,_,_,_,_,_,rfl,a1,a2,a3,a4,a5,a6,by omega⟩,fun out na nb mg ac bc st' a1 a2 a3 a4 a5 a6 a7=>⟨_,_,_,_,_,_,rfl,a1,a2,a3,a4,a5,a6,by omega⟩⟩ ra rb h1 (hk3.setG _) I4 (by omega) (by omega) p7 p8 (by omega) ty _ (fun _ _=>rfl)
     ·rw[if_neg hk];have ht:t=na:=by omega
      rw[ht] at ty;refine hi_mid (c:=x+1) (st₀:=st) ⟨fun res out na nb mg ac bc st' a1 a2=>.inl ⟨_,_,_,_,_,_,_,rfl,a1,a2⟩,fun out na nb mg ac bc st' a1 a2 a3 a4 a5 a6 a7=>.inr ⟨_,_,_,_,_,_,rfl,a1,a2,a3,a4,a5,a6,by omega⟩,fun out na nb mg ac bc st' a1 a2 a3 a4 a5 a6 a7=>⟨_,_,_,_,_,_,rfl,a1,a2,a3,a4,a5,a6,by omega⟩⟩ ra rb h1 (hk3.setG _) I3 p5 p6 p7 p8 (by omega) ty _ (fun _ _=>rfl)
end
end OS
namespace OS
open PySem PyProof.Rows
variable [KO]
noncomputable def putAll (xs:Array Keyed) (m:List Keyed) (o:Nat):Array Keyed:=m.zipIdx.foldl (fun a (p,j)=>a.setIfInBounds (o+j) p) xs
theorem putFrom:∀ (m:List Keyed) (n o:Nat) (xs:Array Keyed),o+n+m.length≤xs.size→((m.zipIdx n).foldl (fun a (p,j)=>a.setIfInBounds (o+j) p) xs).toList=xs.toList.take (o+n)++m++xs.toList.drop (o+n+m.length)
 | [],n,o,xs,_=>by
  show xs.toList=_;rw[List.append_nil,List.length_nil,Nat.add_zero,List.take_append_drop]
 | p :: m,n,o,xs,h=>by
  rw[List.length_cons] at h;rw[List.zipIdx_cons,List.foldl_cons];have ih:=putFrom m (n+1) o (xs.setIfInBounds (o+n) p) (by rw[Array.size_setIfInBounds];omega);refine ih.trans ?_;have hl:o+n<xs.toList.length:=by rw[Array.length_toList];omega
  have e1:(xs.setIfInBounds (o+n) p).toList=xs.toList.set (o+n) p:=by simp
  rw[e1,show o+(n+1)=o+n+1 by omega,List.take_add_one,List.getElem?_set_self hl,List.take_set_of_le (by omega),List.drop_set_of_lt (by omega),List.length_cons,show o+n+1+m.length=o+n+(m.length+1) by omega];simp
theorem putAll_list {m:List Keyed}{o:Nat}{xs:Array Keyed} (h:o+m.length≤xs.size):(putAll xs m o).toList=xs.toList.take o++m++xs.toList.drop (o+m.length):=by
 have:=putFrom m 0 o xs (by simpa using h)
 simpa [putAll] using this
theorem Run.rise' {xs:Array Keyed}{b n i j:Nat}{x y:Keyed} (r:Run xs b n) (h1:b≤i) (h2:i≤j) (h3:j<b+n) (ex:xs[i]? = some x) (ey:xs[j]? = some y):kn x≤kn y :=
 r.rise (i-b) (j-b) x y (by omega) (by omega) (by rw[show b+(i-b)=i by omega];exact ex) (by rw[show b+(j-b)=j by omega];exact ey)
theorem run_of {xs:Array Keyed}{b n:Nat} (hs:b+n≤xs.size) (hk:∀ x∈xs,IsK x) (h:∀ i j x y,b≤i→i≤j→j<b+n→xs[i]? = some x→xs[j]? = some y→kn x≤kn y):Run xs b n :=
 ⟨hs,hk,fun i j x y hij hj ex ey=>h (b+i) (b+j) x y (by omega) (by omega) (by omega) ex ey⟩
theorem run_join {xs:Array Keyed}{sa na nb:Nat} (ra:Run xs sa na) (rb:Run xs (sa+na) nb) (hna:1≤na) (hnb:1≤nb) (h:∀ x y,xs[sa+na-1]? = some x→xs[sa+na]? = some y→kn x≤kn y):Run xs sa (na+nb):=by
 have hs:=rb.has;refine run_of (by omega) ra.keys fun i j x y h1 h2 h3 ex ey=>?_
 by_cases hj:j<sa+na
 ·exact ra.rise' h1 h2 hj ex ey
 ·by_cases hi:sa+na≤i
  ·exact rb.rise' hi h2 (by omega) ex ey
  ·obtain⟨z,ez,_⟩:=ra.at (i:=na-1) (by omega);obtain⟨v,ev,_⟩:=rb.at (i:=0) (by omega);rw[Nat.add_zero] at ev;rw[show sa+(na-1)=sa+na-1 by omega] at ez;have q1:=ra.rise' h1 (show i≤sa+na-1 by omega) (by omega) ex ez;have q2:=h z v ez ev;have q3:=rb.rise' (Nat.le_refl _) (show sa+na≤j by omega) (by omega) ev ey;omega
theorem ext_sub (a:Array Keyed) (i j:Nat):(a.extract i j).toList=(a.toList.drop i).take (j-i):=by
 rw[Array.toList_extract,List.extract_eq_take_drop]
theorem run_ext {xs:Array Keyed}{b n i j:Nat} (r:Run xs b n) (h1:b≤i) (h2:i≤j) (h3:j≤b+n):Run (xs.extract i j) 0 (xs.extract i j).size:=by
 have hs:=r.has;have hz:(xs.extract i j).size=j-i:=by rw[Array.size_extract];omega
 have hg:∀ t,t<j-i→(xs.extract i j)[t]? = xs[i+t]? := fun t ht=>by rw[Array.getElem?_extract,if_pos (by omega)]
 refine run_of (by omega) (fun x hx=>?_) fun t u x y a1 a2 a3 ex ey=>?_
 ·obtain⟨t,ht,e⟩:=Array.getElem_of_mem hx;have e2:=hg t (by omega);rw[Array.getElem?_eq_getElem ht,e] at e2;exact r.keys x (Array.mem_of_getElem? e2.symm)
 ·rw[hg t (by omega)] at ex;rw[hg u (by omega)] at ey;exact r.rise' (by omega) (show i+t≤i+u by omega) (by omega) ex ey
theorem merge_seg {xs:Array Keyed}{sa na nb k n2:Nat}{b0 z:Keyed}{M:List Keyed} (ra:Run xs sa na) (rb:Run xs (sa+na) nb) (hk:k<na) (hn:1≤n2) (hn2:n2≤nb) (eb:xs[sa+na]? = some b0) (ez:xs[sa+na-1]? = some z)
  (c1:Cut false b0 xs sa na k) (c2:Cut true z xs (sa+na) nb n2) (hM:Merged (xs.extract (sa+k) (sa+na)).toList (xs.extract (sa+na) (sa+na+n2)).toList M) :
  (putAll xs M (sa+k)).toList.Perm xs.toList∧(∀ j,j<sa∨sa+na+nb≤j→(putAll xs M (sa+k))[j]? = xs[j]?)∧Run (putAll xs M (sa+k)) sa (na+nb):=by
 have hs:=rb.has;rw[ext_sub,ext_sub] at hM;have hxl:xs.toList.length=xs.size:=Array.length_toList;have hml:M.length=na-k+n2:=by
  rw[hM.1.length_eq,List.length_append,List.length_take,List.length_take,List.length_drop,List.length_drop,hxl];omega
 have e:=putAll_list (m:=M) (o:=sa+k) (xs:=xs) (by omega);have emid:xs.toList=xs.toList.take (sa+k)++((xs.toList.drop (sa+k)).take (sa+na-(sa+k))++(xs.toList.drop (sa+na)).take (sa+na+n2-(sa+na)))++xs.toList.drop (sa+k+M.length):=by
  have d1:=drop_split xs.toList (sa+k) (sa+na-(sa+k));have d2:=drop_split xs.toList (sa+na) (sa+na+n2-(sa+na));rw[show sa+k+(sa+na-(sa+k))=sa+na by omega] at d1;rw[show sa+na+(sa+na+n2-(sa+na))=sa+k+M.length by omega] at d2;rw[List.append_assoc,List.append_assoc,← d2,← d1,List.take_append_drop]
 have hperm:(putAll xs M (sa+k)).toList.Perm xs.toList:=by
  rw[e]
  conv=>rhs;rw[emid]
  exact (hM.1.append_left _).append_right _
 have hsz:(putAll xs M (sa+k)).size=xs.size:=by
  have:=hperm.length_eq
  rwa [Array.length_toList,Array.length_toList] at this
 have hlt:(xs.toList.take (sa+k)).length=sa+k:=by rw[List.length_take];omega
 have out:∀ j,j<sa+k∨sa+na+n2≤j→(putAll xs M (sa+k))[j]? = xs[j]? := fun j hj=>by
  rw[← Array.getElem?_toList,← Array.getElem?_toList,e];rcases hj with hj | hj
  ·rw[List.getElem?_append_left (by rw[List.length_append];omega),List.getElem?_append_left (by omega),List.getElem?_take_of_lt (by omega)]
  ·rw[List.getElem?_append_right (by rw[List.length_append];omega),List.getElem?_drop,List.length_append,hlt];congr 1;omega
 have ins:∀ j x,sa+k≤j→j<sa+na+n2→(putAll xs M (sa+k))[j]? = some x→M[j-(sa+k)]? = some x:=fun j x h1 h2 ex=>by
  rw[← Array.getElem?_toList,e,List.getElem?_append_left (by rw[List.length_append];omega),List.getElem?_append_right (by omega),hlt] at ex;exact ex
 have src:∀ x∈M,∃ t,sa+k≤t∧t<sa+na+n2∧xs[t]? = some x:=fun x hx=>by
  rcases List.mem_append.mp (hM.1.mem_iff.mp hx) with q | q
  ·obtain⟨t,ht,et⟩:=mem_cut q;exact⟨_,by omega,by omega,et⟩
  ·obtain⟨t,ht,et⟩:=mem_cut q;exact⟨_,by omega,by omega,et⟩
 refine⟨hperm,fun j hj=>out j (by omega),run_of (by omega) (fun x hx=>ra.keys x ?_) fun i j x y h1 h2 h3 ex ey=>?_⟩
 ·have:=hperm.mem_iff.mp (Array.mem_toList_iff.mpr hx)
  exact Array.mem_toList_iff.mp this
 obtain⟨_,a1,a2⟩:=c1;obtain⟨_,d1,d2⟩:=c2;have lowM:∀ i x y,sa≤i→i<sa+k→xs[i]? = some x→y∈M→kn x≤kn y:=fun i x y g1 g2 ex hy=>by
  obtain⟨t,t1,t2,et⟩:=src y hy;by_cases ht:t<sa+na
  ·exact ra.rise' g1 (by omega) ht ex et
  ·have q1:kn x≤kn b0:=a1 (i-sa) x (by omega) (by rw[show sa+(i-sa)=i by omega];exact ex);have q2:=rb.rise' (Nat.le_refl _) (show sa+na≤t by omega) (by omega) eb et;omega
 have Mhigh:∀ j x y,sa+na+n2≤j→j<sa+na+nb→xs[j]? = some y→x∈M→kn x≤kn y:=fun j x y g1 g2 ey hx=>by
  obtain⟨t,t1,t2,et⟩:=src x hx;by_cases ht:t<sa+na
  ·have q1:¬ kn y<kn z:=d2 (j-(sa+na)) y (by omega) (by omega) (by rw[show sa+na+(j-(sa+na))=j by omega];exact ey);have q2:=ra.rise' (by omega) (show t≤sa+na-1 by omega) (by omega) et ez;omega
  ·exact rb.rise' (by omega) (show t≤j by omega) g2 et ey
 by_cases hi:i<sa+k
 ·rw[out i (.inl hi)] at ex;by_cases hj:j<sa+k
  ·rw[out j (.inl hj)] at ey;exact ra.rise' h1 h2 (by omega) ex ey
  ·by_cases hj2:j<sa+na+n2
   ·exact lowM i x y h1 hi ex (List.mem_of_getElem? (ins j y (by omega) hj2 ey))
   ·rw[out j (.inr (by omega))] at ey;have q1:kn x≤kn b0:=a1 (i-sa) x (by omega) (by rw[show sa+(i-sa)=i by omega];exact ex);have q2:=rb.rise' (Nat.le_refl _) (show sa+na≤j by omega) (by omega) eb ey;omega
 ·by_cases hi2:i<sa+na+n2
  ·have hx:=ins i x (by omega) hi2 ex;by_cases hj2:j<sa+na+n2
   ·have hy:=ins j y (by omega) hj2 ey;by_cases hij:i=j
    ·subst hij;rw[hx] at hy;cases hy;exact Int.le_refl _
    ·obtain⟨l1,e1⟩:=List.getElem?_eq_some_iff.mp hx;obtain⟨l2,e2⟩:=List.getElem?_eq_some_iff.mp hy
     have:=List.pairwise_iff_getElem.mp hM.2 _ _ l1 l2 (by omega)
     rwa [e1,e2] at this
   ·rw[out j (.inr (by omega))] at ey;exact Mhigh j x y (by omega) (by omega) ey (List.mem_of_getElem? hx)
  ·rw[out i (.inr (by omega))] at ex;rw[out j (.inr (by omega))] at ey;exact rb.rise' (by omega) h2 (by omega) ex ey
section
variable {prog:Program}{w:World}{A:Around}{E:Value→Shared→Prop}{s:Shared} [KL prog w A s]
theorem wpS_set {σ:Type}{M:Model}{t st : σ}{Q:PUnit → σ → Prop} (h:Q ⟨⟩ t):wpS M A E s (set t:StateT σ Sem PUnit) Q st:=by
 unfold wpS;rw[StateT.run_set];exact wpAny_pure ⟨rfl,h⟩
set_option maxHeartbeats 4000000 in
theorem mergeAt'_eq (i:Nat):mergeAt' i=(do
 let s ← get
 let (some (sa,na,power),some (sb,nb,_)):=((pendingOf s)[i]?,(pendingOf s)[i+1]?) | unsupported "internal:list.sort.pending"
 set (SortSt.mk' (kindOf s) (arrOf s) (((pendingOf s).setIfInBounds i (sa,na+nb,power)).eraseIdxIfInBounds (i+1)) (gallopOf s) (failedOf s))
 let some k ← gallop' false (← elem' (arrOf s) sb) (arrOf s) sa na 0 | return false
 let (sa,na):=(sa+k,na-k)
 if na == 0 then return true
 let some nb ← gallop' true (← elem' (arrOf s) (sa+na-1)) (arrOf s) sb nb (nb-1) | return false
 if nb == 0 then return true
 let x:=(arrOf s).extract sa sb;let y:=(arrOf s).extract sb (sb+nb)
 let merged ← if na≤nb then mergeLo' x y else mergeHi' x y
 modify fun s=>setArr s (putAll (arrOf s) merged.toList sa)
 return (failedOf (← get)).isNone):=rfl
set_option maxHeartbeats 4000000 in
theorem wpS_mergeAt {st:SortSt}{i sa na sb nb p p':Nat}{pre post:List (Nat × Nat × Nat)}{Q:Bool→SortSt→Prop} (hB:SB st) (hp:(pendingOf st).toList=pre++(sa,na,p) :: (sb,nb,p') :: post) (hi:i=pre.length) (hsb:sb=sa+na)
  (ra:Run (arrOf st) sa na) (rb:Run (arrOf st) sb nb) (hna:1≤na) (hnb:1≤nb)
  (h:∀ st',SB st'→(pendingOf st').toList=pre++(sa,na+nb,p) :: post→(arrOf st').toList.Perm (arrOf st).toList→(∀ j,j<sa∨sb+nb≤j→(arrOf st')[j]? = (arrOf st)[j]?)→Run (arrOf st') sa (na+nb)→Q true st') :
  wpS (model prog w) A E s (mergeAt' i) Q st:=by
 rw[mergeAt'_eq];refine wpS_bind (wpS_get ?_);have g1:(pendingOf st)[i]? = some (sa,na,p):=by rw[← Array.getElem?_toList,hp,hi];simp
 have g2:(pendingOf st)[i+1]? = some (sb,nb,p'):=by rw[← Array.getElem?_toList,hp,hi];simp
 rw[g1,g2];dsimp only;refine wpS_bind (wpS_set ?_);subst hsb;generalize hst1:SortSt.mk' (kindOf st) (arrOf st) (((pendingOf st).setIfInBounds i (sa,na+nb,p)).eraseIdxIfInBounds (i+1)) (gallopOf st) (failedOf st)=st1;have k1:SB st1:=by rw[← hst1];exact⟨hB.kind,hB.failed⟩
 have k2:arrOf st1=arrOf st:=by rw[← hst1]
 have k3:(pendingOf st1).toList=pre++(sa,na+nb,p) :: post:=by
  rw[← hst1];show (((pendingOf st).setIfInBounds i (sa,na+nb,p)).eraseIdxIfInBounds (i+1)).toList=_;rw[Array.toList_eraseIdxIfInBounds,Array.toList_setIfInBounds,hp,hi];rw[List.set_append_right _ _ (Nat.le_refl _),Nat.sub_self,List.set_cons_zero,List.eraseIdx_append_of_length_le (by omega),Nat.add_sub_cancel_left];rfl
 obtain⟨b0,eb,kb⟩:=rb.at (i:=0) (by omega);rw[Nat.add_zero] at eb;obtain⟨z,ez,kz⟩:=ra.at (i:=na-1) (by omega);rw[show sa+(na-1)=sa+na-1 by omega] at ez;refine wpS_bind (wpS_elem eb ?_);refine wpS_bind (wpS_gallop k1 kb ra (by omega) fun k hc1=>?_);dsimp only;have same:Run (arrOf st) sa (na+nb)→Q true st1:=fun hr=>h st1 k1 k3 (by rw[k2]) (fun j _=>by rw[k2]) (by rw[k2];exact hr)
 by_cases hz:na-k=0
 ·rw[if_pos (by simpa using hz)];refine wpS_pure (same (run_join ra rb hna hnb fun x y ex ey=>?_));rw[eb] at ey;cases ey;exact hc1.2.1 (na-1) x (by omega) (by rw[show sa+(na-1)=sa+na-1 by omega];exact ex)
 rw[if_neg (by simpa using hz),show sa+k+(na-k)-1=sa+na-1 by omega];refine wpS_bind (wpS_elem ez ?_);refine wpS_bind (wpS_gallop k1 kz rb (by omega) fun n2 hc2=>?_);dsimp only;by_cases hz2:n2=0
 ·rw[if_pos (by simpa using hz2)];refine wpS_pure (same (run_join ra rb hna hnb fun x y ex ey=>?_));rw[ez] at ex;cases ex;have:¬ kn y<kn z:=hc2.2.2 0 y (by omega) (by omega) (by rw[Nat.add_zero];exact ey);omega
 rw[if_neg (by simpa using hz2)];have hn2:=hc2.1;have hs:=rb.has;have s1:((arrOf st).extract (sa+k) (sa+na)).size=na-k:=by rw[Array.size_extract];omega
 have s2:((arrOf st).extract (sa+na) (sa+na+n2)).size=n2:=by rw[Array.size_extract];omega
 have p1:∀ x y,((arrOf st).extract (sa+na) (sa+na+n2))[0]? = some x→((arrOf st).extract (sa+k) (sa+na))[0]? = some y→kn x<kn y:=fun x y ex ey=>by
  rw[Array.getElem?_extract,if_pos (by omega),Nat.add_zero] at ex ey;rw[eb] at ex;cases ex;have:¬ kn y≤kn b0:=hc1.2.2 k y (Nat.le_refl _) (by omega) ey;omega
 have p2:∀ v,((arrOf st).extract (sa+k) (sa+na))[((arrOf st).extract (sa+k) (sa+na)).size-1]? = some v→∀ y∈(arrOf st).extract (sa+na) (sa+na+n2),kn y<kn v:=fun v ev y hy=>by
  rw[s1,Array.getElem?_extract,if_pos (by omega),show sa+k+(na-k-1)=sa+na-1 by omega,ez] at ev;cases ev;have hy':y∈((arrOf st).extract (sa+na) (sa+na+n2)).toList:=Array.mem_toList_iff.mpr hy;rw[ext_sub,Nat.add_sub_cancel_left] at hy';obtain⟨t,ht,et⟩:=mem_cut hy';exact hc2.2.1 t y ht et
 have fin:∀ (res:Array Keyed) (st2:SortSt),SB st2→arrOf st2=arrOf st1→pendingOf st2=pendingOf st1→Merged ((arrOf st).extract (sa+k) (sa+na)).toList ((arrOf st).extract (sa+na) (sa+na+n2)).toList res.toList →
   wpS (model prog w) A E s (do modify fun s=>setArr s (putAll (arrOf s) res.toList (sa+k));let d ← get;pure (failedOf d).isNone) Q st2:=fun res st2 q1 q2 q3 q4=>by
  refine wpS_bind (wpS_modify (wpS_bind (wpS_get (wpS_pure ?_))));have e:(failedOf (setArr st2 (putAll (arrOf st2) res.toList (sa+k)))).isNone=true:=by
   show (failedOf st2).isNone=true;rw[q1.failed];rfl
  rw[e];obtain⟨m1,m2,m3⟩:=merge_seg ra rb (by omega) (by omega) hn2 eb ez hc1 hc2 q4;have ea:arrOf (setArr st2 (putAll (arrOf st2) res.toList (sa+k)))=putAll (arrOf st) res.toList (sa+k):=by
   show putAll (arrOf st2) res.toList (sa+k)=_;rw[q2,k2]
  exact h _ ⟨q1.kind,q1.failed⟩ (by show (pendingOf st2).toList=_;rw[q3,k3]) (by rw[ea];exact m1) (by rw[ea];exact m2) (by rw[ea];exact m3)
 have r1:=run_ext ra (show sa≤sa+k by omega) (show sa+k≤sa+na by omega) (Nat.le_refl _);have r2:=run_ext rb (Nat.le_refl _) (show sa+na≤sa+na+n2 by omega) (by omega);by_cases hle:na-k≤n2
 ·rw[if_pos hle];exact wpS_bind (wpS_mergeLo k1 r1 r2 (by omega) (by omega) p1 p2 fin)
 ·rw[if_neg hle];exact wpS_bind (wpS_mergeHi k1 r1 r2 (by omega) (by omega) p1 p2 fin)
end
end OS
namespace OS
open PySem PyProof.Rows
variable [KO]
structure SL (a:Array Keyed) (pd:Array (Nat × Nat × Nat)) (lo:Nat) (st:SortSt):Prop where
 sb:SB st
 perm:(arrOf st).Perm a
 same:∀ j,j<lo→(arrOf st)[j]? = a[j]?
 pend:pendingOf st=pd
theorem SL.size {a:Array Keyed}{pd:Array (Nat × Nat × Nat)}{lo:Nat}{st:SortSt} (h:SL a pd lo st):(arrOf st).size=a.size:=h.perm.size_eq
theorem SL.setArr {a:Array Keyed}{pd:Array (Nat × Nat × Nat)}{lo:Nat}{st:SortSt} (h:SL a pd lo st) {xs:Array Keyed} (hp:xs.Perm (arrOf st)) (hs:∀ j,j<lo→xs[j]? = (arrOf st)[j]?):SL a pd lo (setArr st xs) :=
 ⟨⟨h.sb.kind,h.sb.failed⟩,hp.trans h.perm,fun j hj=>(hs j hj).trans (h.same j hj),h.pend⟩
theorem SL.mir {a:Array Keyed}{pd:Array (Nat × Nat × Nat)}{lo:Nat}{st:SortSt} (h:SL a pd lo st) {i j:Nat} (hi:lo≤i) (hj:j≤a.size):SL a pd lo (PyProof.Rows.setArr st (mirror (arrOf st) i j ((j-i) / 2))) :=
 h.setArr (mirror_perm _ _ _ _) fun t ht=>by rw[getElem?_mirror_all (by rw[h.size];exact hj),if_neg (by omega)]
noncomputable def KI (xs:Array Keyed) (i:Nat):Int:=match xs[i]? with
 | some p=>kn p
 | none=>0
theorem KI_congr {xs ys:Array Keyed}{i j:Nat} (h:xs[i]? = ys[j]?):KI xs i=KI ys j:=by unfold KI;rw[h]
theorem KI_kn {xs:Array Keyed}{i:Nat}{x:Keyed} (e:xs[i]? = some x):KI xs i=kn x:=by unfold KI;rw[e]
theorem KI_bubble {xs:Array Keyed}{src d:Nat} (hs:src<xs.size) (hd:d≤src) (k:Nat):KI (bubble xs src d) k=if k=src-d then KI xs src else if src-d<k∧k≤src then KI xs (k-1) else KI xs k:=by
 have e:=getElem?_bubble hs d hd k;split at e
 ·rename_i h1;rw[if_pos h1];exact KI_congr e
 ·rename_i h1;rw[if_neg h1];split at e
  ·rename_i h2;rw[if_pos h2];exact KI_congr e
  ·rename_i h2;rw[if_neg h2];exact KI_congr e
theorem KI_mirror {xs:Array Keyed}{i j:Nat} (hj:j≤xs.size) (k:Nat):KI (mirror xs i j ((j-i) / 2)) k=if i≤k∧k<j then KI xs (i+j-1-k) else KI xs k:=by
 have e:=getElem?_mirror_all (i:=i) hj k;split at e
 ·rename_i h1;rw[if_pos h1];exact KI_congr e
 ·rename_i h1;rw[if_neg h1];exact KI_congr e
theorem KI_mirror_equal {xs:Array Keyed}{i j:Nat} (hj:j≤xs.size) (q:∀ k,i≤k→k<j→KI xs k=KI xs (j-1)) (k:Nat):KI (mirror xs i j ((j-i) / 2)) k=KI xs k:=by
 rw[KI_mirror hj];split
 ·rw[q _ (by omega) (by omega),q k (by omega) (by omega)]
 ·rfl
noncomputable def Asc (xs:Array Keyed) (lo n:Nat):Prop:=∀ i j,i≤j→j<n→KI xs (lo+i)≤KI xs (lo+j)
noncomputable def Dsc (xs:Array Keyed) (lo n:Nat):Prop:=∀ i j,i≤j→j<n→KI xs (lo+j)≤KI xs (lo+i)
noncomputable abbrev C2:=Option (Option Nat) × Nat
noncomputable abbrev C3:=Option (Option Nat) × Nat × Nat
noncomputable def upF (lo:Nat):Nat→C2→StateT SortSt Sem (ForInStep C2):=fun _ c=>ltAt' (lo+c.2) (lo+c.2-1) >>= fun o=>match o with
 | some b=>if b=true then pure (.done (none,c.2)) else pure (.yield (none,c.2+1))
 | none=>pure (.done (some none,c.2))
noncomputable def endG (c:C2):StateT SortSt Sem (Option Nat):=match c.1 with | some r=>pure r | none=>pure (some c.2)
noncomputable def part3 (lo n m:Nat):StateT SortSt Sem (Option Nat):=reverseSlice' lo (lo+n) >>= fun _=>forIn [n:m] ((none,n):C2) (upF lo) >>= endG
noncomputable def dnF (lo:Nat):Nat→C3→StateT SortSt Sem (ForInStep C3):=fun _ c=>ltAt' (lo+c.2.1) (lo+c.2.1-1) >>= fun o=>match o with
 | some b=>if b=true then (if c.2.2 > 0 then reverseSlice' (lo+c.2.1-(c.2.2+1)) (lo+c.2.1) >>= fun _=>pure (.yield (none,c.2.1+1,0)) else pure (.yield (none,c.2.1+1,0)))
  else ltAt' (lo+c.2.1-1) (lo+c.2.1) >>= fun o=>match o with
   | some g=>if g=true then pure (.done (none,c.2.1,c.2.2)) else pure (.yield (none,c.2.1+1,c.2.2+1))
   | none=>pure (.done (some none,c.2.1,c.2.2))
 | none=>pure (.done (some none,c.2.1,c.2.2))
noncomputable def endH (lo m:Nat) (c:C3):StateT SortSt Sem (Option Nat):=match c.1 with
 | some r=>pure r
 | none=>if c.2.2 > 0 then reverseSlice' (lo+c.2.1-(c.2.2+1)) (lo+c.2.1) >>= fun _=>part3 lo c.2.1 m else part3 lo c.2.1 m
noncomputable def part2 (lo n m:Nat):StateT SortSt Sem (Option Nat):=liftM (rule "list.sort.descending-run") >>= fun _=>forIn [n+1:m] ((none,n+1,0):C3) (dnF lo) >>= endH lo m
noncomputable def endR (lo m:Nat) (c:C2):StateT SortSt Sem (Option Nat):=match c.1 with
 | some r=>pure r
 | none=>if (c.2 == m)=true then pure (some c.2) else if c.2 > 1 then ltAt' lo (lo+c.2-1) >>= fun o=>match o with
    | some b=>if b=true then pure (some c.2) else reverseSlice' lo (lo+c.2) >>= fun _=>part2 lo c.2 m
    | none=>pure none
   else part2 lo c.2 m
section
variable {σ:Type} {α β : Type}
theorem bc {m:StateT σ Sem α}{f g : α → StateT σ Sem β} (h:∀ a,f a=g a):(m >>= f)=(m >>= g):=by rw[show f=g from funext h]
theorem fc {γ : Type}{r:Std.Legacy.Range}{c : γ}{F F':Nat → γ → StateT σ Sem (ForInStep γ)}{G G' : γ → StateT σ Sem β} (h:∀ x c,F x c=F' x c) (h':∀ c,G c=G' c):(forIn r c F >>= G)=(forIn r c F' >>= G'):=by
 rw[show F=F' from funext fun x=>funext fun c=>h x c,show G=G' from funext h']
end
set_option maxHeartbeats 4000000 in
theorem run1_eq (lo m:Nat):countRun' lo m=(forIn [1:m] ((none,1):C2) (upF lo) >>= endR lo m):=by
 rw[countRun'_eq];refine fc (fun x c=>?_) (fun c=>?_)
 ·unfold upF;refine bc fun o=>?_
  cases o <;> rfl
 ·obtain⟨r,n⟩:=c;unfold endR;cases r with
  | some r=>rfl
  | none =>
   dsimp only;split
   ·rfl
   ·split
    ·refine bc fun o=>?_
     cases o with
     | none=>rfl
     | some b =>
      dsimp only;split
      ·rfl
      ·refine bc fun _=>?_
       unfold part2;refine bc fun _=>fc (fun x c=>?_) (fun c=>?_)
       ·unfold dnF;refine bc fun o=>?_
        cases o with
        | none=>rfl
        | some b =>
         dsimp only;split
         ·rfl
         ·refine bc fun o=>?_
          cases o <;> rfl
       ·obtain⟨r,k,q⟩:=c;unfold endH;cases r with
        | some r=>rfl
        | none =>
         dsimp only;split
         ·refine bc fun _=>?_
          unfold part3;refine bc fun _=>fc (fun x c=>?_) (fun c=>?_)
          ·unfold upF;refine bc fun o=>?_
           cases o <;> rfl
          ·obtain⟨r,n⟩:=c;cases r <;> rfl
         ·unfold part3;refine bc fun _=>fc (fun x c=>?_) (fun c=>?_)
          ·unfold upF;refine bc fun o=>?_
           cases o <;> rfl
          ·obtain⟨r,n⟩:=c;cases r <;> rfl
    ·unfold part2;refine bc fun _=>fc (fun x c=>?_) (fun c=>?_)
     ·unfold dnF;refine bc fun o=>?_
      cases o with
      | none=>rfl
      | some b =>
       dsimp only;split
       ·rfl
       ·refine bc fun o=>?_
        cases o <;> rfl
     ·obtain⟨r,k,q⟩:=c;unfold endH;cases r with
      | some r=>rfl
      | none =>
       dsimp only;split
       ·refine bc fun _=>?_
        unfold part3;refine bc fun _=>fc (fun x c=>?_) (fun c=>?_)
        ·unfold upF;refine bc fun o=>?_
         cases o <;> rfl
        ·obtain⟨r,n⟩:=c;cases r <;> rfl
       ·unfold part3;refine bc fun _=>fc (fun x c=>?_) (fun c=>?_)
        ·unfold upF;refine bc fun o=>?_
         cases o <;> rfl
        ·obtain⟨r,n⟩:=c;cases r <;> rfl
section
variable {prog:Program}{w:World}{A:Around}{E:Value→Shared→Prop}{s:Shared} [KL prog w A s] {a:Array Keyed}{pd:Array (Nat × Nat × Nat)}{lo:Nat}
theorem SL.at {st:SortSt} (h:SL a pd lo st) (hk:∀ x∈a,IsK x) {i:Nat} (hi:i<a.size):∃ x,(arrOf st)[i]? = some x∧IsK x∧KI (arrOf st) i=kn x:=by
 have hi':i<(arrOf st).size:=by rw[h.size];exact hi
 have hm:(arrOf st)[i]∈a.toList:=(Array.perm_iff_toList_perm.mp h.perm).mem_iff.mp (by simp);have e:=Array.getElem?_eq_getElem hi';exact⟨_,e,hk _ (Array.mem_toList_iff.mp hm),KI_kn e⟩
theorem SL.lt {st:SortSt}{i j:Nat}{Q:Option Bool→SortSt→Prop} (h:SL a pd lo st) (hk:∀ x∈a,IsK x) (hi:i<a.size) (hj:j<a.size) (q:Q (some (decide (KI (arrOf st) i<KI (arrOf st) j))) st):wpS (model prog w) A E s (ltAt' i j) Q st:=by
 obtain⟨x,e1,k1,f1⟩:=h.at hk hi;obtain⟨y,e2,k2,f2⟩:=h.at hk hj;rw[f1,f2] at q;exact wpS_ltA h.sb e1 e2 k1 k2 q
theorem wpS_up {st:SortSt}{b m:Nat}{Q:C2→SortSt→Prop} (hL:SL a pd lo st) (hk:∀ x∈a,IsK x) (hm:lo+m≤a.size) (hb:1≤b) (hbm:b≤m) (hs:Asc (arrOf st) lo b)
  (h:∀ n,b≤n→n≤m→Asc (arrOf st) lo n→(n=m∨KI (arrOf st) (lo+n)<KI (arrOf st) (lo+n-1))→Q (none,n) st):wpS (model prog w) A E s (forIn [b:m] ((none,b):C2) (upF lo)) Q st:=by
 refine wpS_forRange (I:=fun x c st'=>st'=st∧c=(none,x)∧Asc (arrOf st) lo x) ?step ?fin ⟨rfl,rfl,hs⟩
 case fin =>
  rintro c st' ⟨rfl,rfl,hs'⟩;rw[show max b m=m by omega] at hs' ⊢;exact h m hbm (Nat.le_refl _) hs' (.inl rfl)
 case step =>
  rintro x c st' hax hxn ⟨rfl,rfl,hs'⟩;unfold upF;dsimp only;refine wpS_bind (hL.lt hk (by omega) (by omega) ?_);by_cases hless:KI (arrOf st') (lo+x)<KI (arrOf st') (lo+x-1)
  ·simp only[hless,decide_true,if_true];exact wpS_pure (h x hax (by omega) hs' (.inr hless))
  ·simp only[hless,decide_false,Bool.false_eq_true,if_false];refine wpS_pure ⟨rfl,rfl,fun i j hij hj=>?_⟩;by_cases hjx:j<x
   ·exact hs' i j hij hjx
   ·by_cases hi':i=j
    ·rw[hi'];exact Int.le_refl _
    ·have q1:=hs' i (x-1) (by omega) (by omega);rw[show lo+(x-1)=lo+x-1 by omega] at q1;rw[show j=x by omega];omega
theorem wpS_part3 {st:SortSt}{n m:Nat}{Q:Option Nat→SortSt→Prop} (hL:SL a pd lo st) (hk:∀ x∈a,IsK x) (hm:lo+m≤a.size) (hn:1≤n) (hnm:n≤m) (hs:Dsc (arrOf st) lo n)
  (h:∀ k st',SL a pd lo st'→1≤k→k≤m→Asc (arrOf st') lo k→Q (some k) st'):wpS (model prog w) A E s (part3 lo n m) Q st:=by
 unfold part3;have hsz:lo+n≤(arrOf st).size:=by rw[hL.size];omega
 have hL':=hL.mir (Nat.le_refl lo) (show lo+n≤a.size by omega);refine wpS_bind (wpS_reverse (wpS_bind (wpS_up hL' hk hm hn hnm (fun i j hij hj=>?_) fun k k1 k2 k3 _=>wpS_pure (h k _ hL' (by omega) k2 k3))));show KI (mirror (arrOf st) lo (lo+n) ((lo+n-lo) / 2)) (lo+i)≤KI (mirror (arrOf st) lo (lo+n) ((lo+n-lo) / 2)) (lo+j);rw[KI_mirror hsz,KI_mirror hsz,if_pos (by omega),if_pos (by omega),show lo+(lo+n)-1-(lo+i)=lo+(n-1-i) by omega,show lo+(lo+n)-1-(lo+j)=lo+(n-1-j) by omega];exact hs _ _ (by omega) (by omega)
theorem mir_eq {xs:Array Keyed}{n q:Nat} (hs:lo+n≤xs.size) (hq:q+1≤n) (he:∀ i,n-(q+1)≤i→i<n→KI xs (lo+i)=KI xs (lo+n-1)) (k:Nat):KI (mirror xs (lo+n-(q+1)) (lo+n) ((lo+n-(lo+n-(q+1))) / 2)) k=KI xs k :=
 KI_mirror_equal hs (fun k h1 h2=>by have:=he (k-lo) (by omega) (by omega);rwa [show lo+(k-lo)=k by omega] at this) k
theorem wpS_dn {st:SortSt}{n m:Nat}{Q:C3→SortSt→Prop} (hL:SL a pd lo st) (hk:∀ x∈a,IsK x) (hm:lo+m≤a.size) (hn:1≤n) (hnm:n≤m) (hs:Dsc (arrOf st) lo n)
  (h:∀ k q st',SL a pd lo st'→n≤k→k≤m→Dsc (arrOf st') lo k→q+1≤k→(∀ i,k-(q+1)≤i→i<k→KI (arrOf st') (lo+i)=KI (arrOf st') (lo+k-1))→Q (none,k,q) st') :
  wpS (model prog w) A E s (forIn [n:m] ((none,n,0):C3) (dnF lo)) Q st:=by
 refine wpS_forRange (I:=fun x c st'=>∃ q,c=(none,x,q)∧SL a pd lo st'∧Dsc (arrOf st') lo x∧q+1≤x∧(∀ i,x-(q+1)≤i→i<x→KI (arrOf st') (lo+i)=KI (arrOf st') (lo+x-1))) ?step ?fin
  ⟨0,rfl,hL,hs,by omega,fun i h1 h2=>by congr 1;omega⟩
 case fin =>
  rintro c st' ⟨q,rfl,b1,b2,b3,b4⟩;rw[show max n m=m by omega] at b2 b3 b4 ⊢;exact h m q st' b1 hnm (Nat.le_refl _) b2 b3 b4
 case step =>
  rintro x c st' hax hxn ⟨q,rfl,b1,b2,b3,b4⟩;unfold dnF;dsimp only;have hsz:lo+x≤(arrOf st').size:=by rw[b1.size];omega
  refine wpS_bind (b1.lt hk (by omega) (by omega) ?_);by_cases hless:KI (arrOf st') (lo+x)<KI (arrOf st') (lo+x-1)
  ·simp only[hless,decide_true,if_true];have step1:∀ xs:Array Keyed,(∀ k,KI xs k=KI (arrOf st') k)→Dsc xs lo (x+1):=by
    intro xs hxs i j hij hj;rw[hxs,hxs];by_cases hjx:j<x
    ·exact b2 i j hij hjx
    ·by_cases hi':i=j
     ·rw[hi'];exact Int.le_refl _
     ·have q1:=b2 i (x-1) (by omega) (by omega);rw[show lo+(x-1)=lo+x-1 by omega] at q1;rw[show j=x by omega];omega
   by_cases hq:q > 0
   ·rw[if_pos hq];exact wpS_bind (wpS_reverse (wpS_pure ⟨0,rfl,b1.mir (by omega) (by omega),step1 _ (mir_eq hsz b3 b4),by omega,fun i h1 h2=>by congr 1;omega⟩))
   ·rw[if_neg hq];exact wpS_pure ⟨0,rfl,b1,step1 _ (fun _=>rfl),by omega,fun i h1 h2=>by congr 1;omega⟩
  ·simp only[hless,decide_false,Bool.false_eq_true,if_false];refine wpS_bind (b1.lt hk (by omega) (by omega) ?_);by_cases hg:KI (arrOf st') (lo+x-1)<KI (arrOf st') (lo+x)
   ·simp only[hg,decide_true,if_true];exact wpS_pure (h x q st' b1 hax (by omega) b2 b3 b4)
   ·simp only[hg,decide_false,Bool.false_eq_true,if_false];have heq:KI (arrOf st') (lo+x)=KI (arrOf st') (lo+x-1):=by omega
    refine wpS_pure ⟨q+1,rfl,b1,fun i j hij hj=>?_,by omega,fun i h1 h2=>?_⟩
    ·by_cases hjx:j<x
     ·exact b2 i j hij hjx
     ·by_cases hi':i=j
      ·rw[hi'];exact Int.le_refl _
      ·have q1:=b2 i (x-1) (by omega) (by omega);rw[show lo+(x-1)=lo+x-1 by omega] at q1;rw[show j=x by omega];omega
    ·rw[show lo+(x+1)-1=lo+x by omega];by_cases hix:i=x
     ·rw[hix]
     ·rw[heq];exact b4 i (by omega) (by omega)
theorem wpS_part2 {st:SortSt}{n m:Nat}{Q:Option Nat→SortSt→Prop} (hL:SL a pd lo st) (hk:∀ x∈a,IsK x) (hm:lo+m≤a.size) (hnm:n+1≤m) (hs:Dsc (arrOf st) lo (n+1))
  (h:∀ k st',SL a pd lo st'→1≤k→k≤m→Asc (arrOf st') lo k→Q (some k) st'):wpS (model prog w) A E s (part2 lo n m) Q st:=by
 unfold part2;refine wpS_bind (wpS_lift (wpAny_rule ⟨rfl,wpS_bind (wpS_dn hL hk hm (by omega) hnm hs fun k q st' b1 b2 b3 b4 b5 b6=>?_)⟩));unfold endH;dsimp only;have hsz:lo+k≤(arrOf st').size:=by rw[b1.size];omega
 by_cases hq:q > 0
 ·rw[if_pos hq];refine wpS_bind (wpS_reverse (wpS_part3 (b1.mir (by omega) (by omega)) hk hm (by omega) b3 (fun i j hij hj=>?_) h));show KI (mirror (arrOf st') _ _ _) _≤KI (mirror (arrOf st') _ _ _) _;rw[mir_eq hsz b5 b6,mir_eq hsz b5 b6];exact b4 i j hij hj
 ·rw[if_neg hq];exact wpS_part3 b1 hk hm (by omega) b3 b4 h
theorem wpS_run1 {st:SortSt}{m:Nat}{Q:Option Nat→SortSt→Prop} (hL:SL a pd lo st) (hk:∀ x∈a,IsK x) (hm:lo+m≤a.size) (hm1:1≤m)
  (h:∀ k st',SL a pd lo st'→1≤k→k≤m→Asc (arrOf st') lo k→Q (some k) st'):wpS (model prog w) A E s (countRun' lo m) Q st:=by
 rw[run1_eq];refine wpS_bind (wpS_up hL hk hm (Nat.le_refl 1) hm1 (fun i j hij hj=>by rw[show i=j by omega];exact Int.le_refl _) fun n n1 n2 hs hor=>?_);unfold endR;dsimp only;by_cases hnm:n=m
 ·rw[if_pos (by simpa using hnm)];exact wpS_pure (h n st hL n1 n2 hs)
 ·rw[if_neg (by simpa using hnm)];have hlt:=hor.resolve_left hnm;have ext:∀ xs:Array Keyed,(∀ k,KI xs k=KI (arrOf st) k)→(∀ i,i<n→KI (arrOf st) (lo+i)=KI (arrOf st) (lo+n-1))→Dsc xs lo (n+1):=fun xs hxs hall i j hij hj=>by
   rw[hxs,hxs];by_cases hjn:j<n
   ·rw[hall i (by omega),hall j hjn];exact Int.le_refl _
   ·by_cases hi':i=j
    ·rw[hi'];exact Int.le_refl _
    ·rw[hall i (by omega),show j=n by omega];exact Int.le_of_lt hlt
  by_cases hg:n > 1
  ·rw[if_pos hg];refine wpS_bind (hL.lt hk (by omega) (by omega) ?_);by_cases hr:KI (arrOf st) lo<KI (arrOf st) (lo+n-1)
   ·simp only[hr,decide_true,if_true];exact wpS_pure (h n st hL n1 n2 hs)
   ·simp only[hr,decide_false,Bool.false_eq_true,if_false];have hall:∀ i,i<n→KI (arrOf st) (lo+i)=KI (arrOf st) (lo+n-1):=fun i hi=>by
     have q1:=hs 0 i (by omega) hi;have q2:=hs i (n-1) (by omega) (by omega);rw[Nat.add_zero] at q1;rw[show lo+(n-1)=lo+n-1 by omega] at q2;omega
    have hsz:lo+n≤(arrOf st).size:=by rw[hL.size];omega
    have hme:∀ k,KI (mirror (arrOf st) lo (lo+n) ((lo+n-lo) / 2)) k=KI (arrOf st) k:=KI_mirror_equal hsz fun k h1 h2=>by
     have:=hall (k-lo) (by omega)
     rwa [show lo+(k-lo)=k by omega] at this
    exact wpS_bind (wpS_reverse (wpS_part2 (hL.mir (Nat.le_refl lo) (by omega)) hk hm (by omega) (ext _ hme hall) h))
  ·rw[if_neg hg];exact wpS_part2 hL hk hm (by omega) (ext _ (fun _=>rfl) fun i hi=>by rw[show i=0 by omega,show n=1 by omega];rfl) h
theorem wpS_bin {st:SortSt}{n ok:Nat}{Q:Bool→SortSt→Prop} (hL:SL a pd lo st) (hk:∀ x∈a,IsK x) (hn:lo+n≤a.size) (hok:ok≤n) (hs:Asc (arrOf st) lo ok)
  (h:∀ st',SL a pd lo st'→Asc (arrOf st') lo n→Q true st'):wpS (model prog w) A E s (binarySort' lo n ok) Q st:=by
 rw[binarySort'_eq];refine wpS_bind (wpS_mono (wpS_forRange (I:=fun k c st'=>c=(none,())∧SL a pd lo st'∧Asc (arrOf st') lo (min k n)) (Q:=fun c st'=>c=(none,())∧SL a pd lo st'∧Asc (arrOf st') lo n) ?step ?fin ?init) ?post)
 case post =>
  rintro c st' ⟨rfl,b1,b2⟩;exact wpS_pure (h st' b1 b2)
 case init =>
  refine⟨rfl,hL,fun i j hij hj=>?_⟩;by_cases h1:ok=0
  ·rw[show i=j by omega];exact Int.le_refl _
  ·exact hs i j hij (by omega)
 case fin =>
  rintro c st' ⟨hc,b1,b2⟩;rw[show min (max (max ok 1) n) n=n by omega] at b2;exact⟨hc,b1,b2⟩
 case step =>
  rintro k c st' hak hkn ⟨rfl,b1,b2⟩;rw[show min k n=k by omega] at b2;refine wpS_bind (wpS_mono (wpS_forRange (I:=fun x c st''=>st''=st'∧∃ l r,c=(none,l,r)∧l≤r∧r≤k∧r-l≤k-x∧(∀ i,i<l→KI (arrOf st') (lo+i)≤KI (arrOf st') (lo+k))∧(∀ i,r≤i→i<k→KI (arrOf st') (lo+k)<KI (arrOf st') (lo+i)))
   (Q:=fun c st''=>st''=st'∧∃ l r,c=(none,l,r)∧l≤k∧(∀ i,i<l→KI (arrOf st') (lo+i)≤KI (arrOf st') (lo+k))∧(∀ i,l≤i→i<k→KI (arrOf st') (lo+k)<KI (arrOf st') (lo+i))) ?istep ?ifin
   ⟨rfl,0,k,rfl,by omega,by omega,by omega,fun i hi=>by omega,fun i h1 h2=>by omega⟩) ?ipost)
  case ifin =>
   rintro c st'' ⟨rfl,l,r,rfl,d1,d2,d3,d4,d5⟩;obtain rfl:l=r:=by omega
   exact⟨rfl,l,l,rfl,d2,d4,d5⟩
  case istep =>
   rintro x c st'' _ hxk ⟨rfl,l,r,rfl,d1,d2,d3,d4,d5⟩;dsimp only;by_cases hge:l ≥ r
   ·rw[if_pos hge];obtain rfl:l=r:=by omega
    exact wpS_pure ⟨rfl,l,l,rfl,d2,d4,d5⟩
   ·rw[if_neg hge];refine wpS_bind (b1.lt hk (by omega) (by omega) ?_);by_cases hless:KI (arrOf st'') (lo+k)<KI (arrOf st'') (lo+(l+r) / 2)
    ·simp only[hless,decide_true,if_true];exact wpS_pure ⟨rfl,l,(l+r) / 2,rfl,by omega,by omega,by omega,d4,fun i h1 h2=>Int.lt_of_lt_of_le hless (b2 _ _ h1 h2)⟩
    ·simp only[hless,decide_false,Bool.false_eq_true,if_false];exact wpS_pure ⟨rfl,(l+r) / 2+1,r,rfl,by omega,by omega,by omega,fun i h1=>Int.le_trans (b2 i ((l+r) / 2) (by omega) (by omega)) (Int.not_lt.mp hless),d5⟩
  case ipost =>
   rintro c st'' ⟨rfl,l,r,rfl,d1,d4,d5⟩;show wpS _ _ _ _ (do moveDown' (lo+k) (lo+l);pure (ForInStep.yield (none,()))) _ _;rw[moveDown'_eq];have hks:lo+k<(arrOf st'').size:=by rw[b1.size];omega
   refine wpS_bind (wpS_modify (wpS_pure ⟨rfl,b1.setArr (bubble_perm _ _ _) (fun j hj=>?_),?_⟩))
   ·rw[getElem?_bubble hks _ (by omega),if_neg (by omega),if_neg (by omega)]
   rw[show min (k+1) n=k+1 by omega];intro i j hij hj;show KI (bubble (arrOf st'') (lo+k) (lo+k-(lo+l))) (lo+i)≤KI (bubble (arrOf st'') (lo+k) (lo+k-(lo+l))) (lo+j);rw[KI_bubble hks (by omega),KI_bubble hks (by omega),show lo+k-(lo+k-(lo+l))=lo+l by omega];have pr:∀ t,0<t→lo+t-1=lo+(t-1):=fun t ht=>by omega
   by_cases hi1:i=l
   ·rw[if_pos (by omega)];by_cases hj1:j=l
    ·rw[if_pos (by omega)];exact Int.le_refl _
    ·rw[if_neg (by omega),if_pos (by omega),pr j (by omega)];exact Int.le_of_lt (d5 _ (by omega) (by omega))
   ·rw[if_neg (by omega)];by_cases hil:l<i
    ·rw[if_pos (by omega),if_neg (by omega),if_pos (by omega),pr i (by omega),pr j (by omega)];exact b2 _ _ (by omega) (by omega)
    ·rw[if_neg (by omega)];by_cases hj1:j=l
     ·rw[if_pos (by omega)];exact d4 _ (by omega)
     ·rw[if_neg (by omega)];by_cases hjl:l<j
      ·rw[if_pos (by omega),pr j (by omega)];exact b2 _ _ (by omega) (by omega)
      ·rw[if_neg (by omega)];exact b2 _ _ (by omega) (by omega)
end
end OS
namespace OS
open PySem PyProof.Rows
variable [KO]
theorem ite_ix {c:Prop} [Decidable c] {n:Nat} (h:2≤n):(if c then n-2-1 else n-2)+1<n:=by split <;> omega
noncomputable def tl (p:Array (Nat × Nat × Nat)):List (Nat × Nat):=p.toList.map fun t=>(t.1,t.2.1)
noncomputable def Tiles (xs:Array Keyed):Nat→List (Nat × Nat)→Nat→Prop
 | b,[],e=>b=e
 | b,t :: r,e=>t.1=b∧1≤t.2∧Run xs b t.2∧Tiles xs (b+t.2) r e
theorem Tiles.le {xs:Array Keyed}:∀ {l:List (Nat × Nat)}{b e:Nat},Tiles xs b l e→b+l.length≤e
 | [],b,e,h=>by have:b=e:=h;simp;omega
 | t :: r,b,e,h=>by
  have:=Tiles.le h.2.2.2
  have:=h.2.1
  rw[List.length_cons];omega
theorem Tiles.append {xs:Array Keyed}:∀ {l r:List (Nat × Nat)}{b e:Nat},Tiles xs b (l++r) e↔∃ m,Tiles xs b l m∧Tiles xs m r e
 | [],r,b,e=>⟨fun h=>⟨b,rfl,h⟩,fun ⟨m,h1,h2⟩=>by have:b=m:=h1;rw[this];exact h2⟩
 | t :: l,r,b,e=>by
  constructor
  ·intro h;obtain⟨m,h1,h2⟩:=Tiles.append.mp h.2.2.2;exact⟨m,⟨h.1,h.2.1,h.2.2.1,h1⟩,h2⟩
  ·rintro⟨m,h1,h2⟩;exact⟨h1.1,h1.2.1,h1.2.2.1,Tiles.append.mpr ⟨m,h1.2.2.2,h2⟩⟩
theorem Run.keep {xs ys:Array Keyed}{b n:Nat} (r:Run xs b n) (hs:ys.size=xs.size) (hk:∀ x∈ys,IsK x) (h:∀ j,b≤j→j<b+n→ys[j]? = xs[j]?):Run ys b n:=by
 have:=r.has
 refine run_of (by omega) hk fun i j x y h1 h2 h3 ex ey=>?_
 rw[h i h1 (by omega)] at ex;rw[h j (by omega) h3] at ey;exact r.rise' h1 h2 h3 ex ey
theorem Tiles.keep {xs ys:Array Keyed} (hs:ys.size=xs.size) (hk:∀ x∈ys,IsK x):∀ {l:List (Nat × Nat)}{b e:Nat},Tiles xs b l e→(∀ j,b≤j→j<e→ys[j]? = xs[j]?)→Tiles ys b l e
 | [],_,_,h,_=>h
 | t :: r,b,e,h,q=>by
  have:=Tiles.le h.2.2.2
  exact⟨h.1,h.2.1,h.2.2.1.keep hs hk fun j h1 h2=>q j h1 (by omega),Tiles.keep hs hk h.2.2.2 fun j h1 h2=>q j (by omega) h2⟩
section
variable {prog:Program}{w:World}{A:Around}{E:Value→Shared→Prop}{s:Shared} [KL prog w A s] {a₀:Array Keyed}
structure SM (a₀:Array Keyed) (lo:Nat) (st:SortSt):Prop where
 sb:SB st
 perm:(arrOf st).Perm a₀
 tiles:Tiles (arrOf st) 0 (tl (pendingOf st)) lo
theorem SM.size {lo:Nat}{st:SortSt} (h:SM a₀ lo st):(arrOf st).size=a₀.size:=h.perm.size_eq
theorem SM.keys {lo:Nat}{st:SortSt} (h:SM a₀ lo st) (hk:∀ x∈a₀,IsK x):∀ x∈arrOf st,IsK x:=fun x hx=>hk x (h.perm.mem_iff.mp hx)
theorem tl_len (p:Array (Nat × Nat × Nat)):(tl p).length=p.size:=by unfold tl;simp
theorem SM.merge {lo i:Nat}{st:SortSt}{Q:Bool→SortSt→Prop} (h:SM a₀ lo st) (hk:∀ x∈a₀,IsK x) (hlo:lo≤a₀.size) (hi:i+1<(pendingOf st).size)
  (q:∀ st',SM a₀ lo st'→(pendingOf st').size+1=(pendingOf st).size→(∀ j,lo≤j→(arrOf st')[j]? = (arrOf st)[j]?)→Q true st'):wpS (model prog w) A E s (mergeAt' i) Q st:=by
 obtain⟨⟨sa,na,p⟩,e1⟩:∃ t,(pendingOf st)[i]? = some t:=⟨(pendingOf st)[i],by simp⟩;obtain⟨⟨sb,nb,p'⟩,e2⟩:∃ t,(pendingOf st)[i+1]? = some t:=⟨(pendingOf st)[i+1],by simp[hi]⟩;have el:(pendingOf st).toList=(pendingOf st).toList.take i++(sa,na,p) :: (sb,nb,p') :: (pendingOf st).toList.drop (i+2):=by
  have l1:i<(pendingOf st).toList.length:=by rw[Array.length_toList];omega
  have l2:i+1<(pendingOf st).toList.length:=by rw[Array.length_toList];omega
  have f1:(pendingOf st).toList[i]=(sa,na,p):=by
   have:=e1;rw[← Array.getElem?_toList,List.getElem?_eq_getElem l1] at this;exact Option.some.inj this
  have f2:(pendingOf st).toList[i+1]=(sb,nb,p'):=by
   have:=e2;rw[← Array.getElem?_toList,List.getElem?_eq_getElem l2] at this;exact Option.some.inj this
  have:=List.take_append_drop i (pendingOf st).toList
  rw[List.drop_eq_getElem_cons l1,List.drop_eq_getElem_cons l2,f1,f2] at this;exact this.symm
 have hpl:((pendingOf st).toList.take i).length=i:=by rw[List.length_take,Array.length_toList];omega
 generalize (pendingOf st).toList.take i=pre at el hpl;generalize (pendingOf st).toList.drop (i+2)=post at el;have hT:=h.tiles;unfold tl at hT;rw[el,List.map_append,List.map_cons,List.map_cons] at hT;obtain⟨m,t1,t2⟩:=Tiles.append.mp hT;obtain⟨z1,z2,z3,z4,z5,z6,z7⟩:=t2;dsimp only at z1 z2 z3 z4 z5 z6 z7;subst z1;refine wpS_mergeAt h.sb el hpl.symm z4 z3 (by rw[z4];exact z6) z2 z5 fun st' b1 b2 b3 b4 b5=>?_
 have hs':(arrOf st').size=(arrOf st).size:=by have:=b3.length_eq;rwa [Array.length_toList,Array.length_toList] at this
 have hp':(arrOf st').Perm a₀:=(Array.perm_iff_toList_perm.mpr b3).trans h.perm;have hk':∀ x∈arrOf st',IsK x:=fun x hx=>hk x (hp'.mem_iff.mp hx)
 have le1:=Tiles.le t1;have le2:=Tiles.le z7;refine q st' ⟨b1,hp',?_⟩ ?_ fun j hj=>b4 j (.inr (by omega))
 ·unfold tl;rw[b2,List.map_append,List.map_cons];refine Tiles.append.mpr ⟨sa,t1.keep hs' hk' fun j _ h2=>b4 j (.inl h2),rfl,by dsimp only;omega,b5,?_⟩;dsimp only;rw[show sa+(na+nb)=sa+na+nb by omega];exact z7.keep hs' hk' fun j h1 _=>b4 j (.inr (by omega))
 ·have l1:=congrArg List.length el;have l2:=congrArg List.length b2;rw[List.length_append,List.length_cons,List.length_cons,Array.length_toList] at l1;rw[List.length_append,List.length_cons,Array.length_toList] at l2;omega
noncomputable def SortedI (xs:Array Keyed) (k:Nat):Prop:=∀ i j,i≤j→j<k→KI xs i≤KI xs j
theorem run_asc {xs:Array Keyed}{lo n:Nat} (hs:lo+n≤xs.size) (hk:∀ x∈xs,IsK x) (h:Asc xs lo n):Run xs lo n :=
 ⟨hs,hk,fun i j x y hij hj ex ey=>by have:=h i j hij hj;rwa [KI_kn ex,KI_kn ey] at this⟩
theorem tl_push (p:Array (Nat × Nat × Nat)) (t:Nat × Nat × Nat):tl (p.push t)=tl p ++ [(t.1,t.2.1)]:=by unfold tl;simp
theorem tl_mod (p:Array (Nat × Nat × Nat)) (i w:Nat):tl (p.modify i fun x=>(x.fst,x.2.fst,w))=tl p:=by
 unfold tl;rw[Array.toList_modify];generalize p.toList=l;induction l generalizing i with
 | nil=>simp
 | cons t r ih =>
  cases i with
  | zero=>simp
  | succ i=>simpa using ih i
set_option maxHeartbeats 4000000 in
theorem wpS_runs {st:SortSt}{Q:Unit→SortSt→Prop} (hk:∀ x∈a₀,IsK x) (hB:SB st) (ha:(arrOf st).Perm a₀) (hp:pendingOf st = #[]) (h1:1≤a₀.size)
  (h:∀ st',(arrOf st').Perm a₀→failedOf st'=none→SortedI (arrOf st') a₀.size→Q () st'):wpS (model prog w) A E s sortRuns' Q st:=by
 rw[sortRuns'_eq];refine wpS_bind (wpS_get ?_);dsimp only;have hsz:(arrOf st).size=a₀.size:=ha.size_eq;simp only[hsz];generalize minRun' a₀.size a₀.size 0=mr;refine wpS_bind (wpS_mono (wpS_forRange (I:=fun x c st'=>∃ lo,c=(none,lo)∧SM a₀ lo st'∧lo≤a₀.size∧(x≤lo∨lo=a₀.size))
  (Q:=fun c st'=>c=(none,a₀.size)∧SM a₀ a₀.size st') ?step ?fin ⟨0,rfl,⟨hB,ha,by rw[hp];rfl⟩,by omega,by omega⟩) ?post)
 case fin =>
  rintro c st' ⟨lo,rfl,M,h2,h3⟩;have e:lo=a₀.size:=by omega
  rw[e] at M;exact⟨by rw[e],M⟩
 case post =>
  rintro c st1 ⟨rfl,M⟩;dsimp only;refine wpS_bind (wpS_mono (wpS_forRange (I:=fun x c st'=>c=(none,())∧SM a₀ a₀.size st'∧((pendingOf st').size≤1∨(pendingOf st').size+x≤a₀.size))
   (Q:=fun c st'=>c=(none,())∧SM a₀ a₀.size st'∧(pendingOf st').size≤1) ?step3 ?fin3 ⟨rfl,M,.inr ?init3⟩) ?post3)
  case init3 =>
   have:=Tiles.le M.tiles
   rw[tl_len] at this;omega
  case fin3 =>
   rintro c st' ⟨rfl,M',h2⟩;exact⟨rfl,M',by omega⟩
  case step3 =>
   rintro x c st' _ hx ⟨rfl,M',h2⟩;refine wpS_bind (wpS_get ?_)
   try dsimp only
   by_cases hle:(pendingOf st').size≤1
   ·rw[if_pos hle];exact wpS_pure ⟨rfl,M',hle⟩
   ·rw[if_neg hle];refine wpS_bind (M'.merge hk (Nat.le_refl _) (ite_ix (by omega)) fun st4 M4 h4 _=>?_);simp only[Bool.not_true,Bool.false_eq_true,if_false];exact wpS_pure ⟨rfl,M4,by omega⟩
  case post3 =>
   rintro c st' ⟨rfl,M',h2⟩;refine wpS_pure (h st' M'.perm M'.sb.failed ?_);have hT:=M'.tiles;have hlen:=tl_len (pendingOf st');generalize tl (pendingOf st')=l at hT hlen
   match l,hT,hlen with
   | [],hT,_=>have:0=a₀.size:=hT;omega
   | [t],hT,_ =>
    obtain⟨z1,z2,z3,z4⟩:=hT;have z5:0+t.2=a₀.size:=z4;intro i j hij hj;have hi':i<(arrOf st').size:=by rw[M'.size];omega
    have hj':j<(arrOf st').size:=by rw[M'.size];omega
    rw[KI_kn (Array.getElem?_eq_getElem hi'),KI_kn (Array.getElem?_eq_getElem hj')];exact z3.rise' (Nat.zero_le _) hij (by omega) (Array.getElem?_eq_getElem hi') (Array.getElem?_eq_getElem hj')
   | _ :: _ :: _,_,hlen=>rw[List.length_cons,List.length_cons] at hlen;omega
 case step =>
  rintro x c st1 _ hx ⟨lo,rfl,M1,h2,h3⟩;dsimp only;by_cases hge:lo ≥ a₀.size
  ·rw[if_pos hge];have e:lo=a₀.size:=by omega
   rw[e] at M1 ⊢;exact wpS_pure ⟨rfl,M1⟩
  rw[if_neg hge];have fin:∀ n,1≤n→lo+n≤a₀.size→∀ st',SM a₀ lo st'→Run (arrOf st') lo n→∃ l,((none,lo+n):Option Unit × Nat)=(none,l)∧SM a₀ l (setPending st' ((pendingOf st').push (lo,n,0)))∧l≤a₀.size∧(x+1≤l∨l=a₀.size):=fun n hn1 hn2 st' M R =>
   ⟨lo+n,rfl,⟨⟨M.sb.kind,M.sb.failed⟩,M.perm,by
    show Tiles (arrOf st') 0 (tl ((pendingOf st').push (lo,n,0))) (lo+n);rw[tl_push];exact Tiles.append.mpr ⟨lo,M.tiles,rfl,hn1,R,rfl⟩⟩,hn2,by omega⟩
  have hs1:=M1.size;refine wpS_bind (wpS_run1 (a:=arrOf st1) (pd:=pendingOf st1) (lo:=lo) ⟨M1.sb,Array.Perm.refl _,fun _ _=>rfl,rfl⟩ (M1.keys hk) (by omega) (by omega) fun n st2 L2 hn1 hnm As2=>?_);dsimp only;have hn2:lo+n≤a₀.size:=by omega
  by_cases hlt:n<mr
  ·rw[if_pos hlt];refine wpS_bind (wpS_lift (wpAny_rule ⟨rfl,?_⟩));refine wpS_bind (wpS_bin L2 (M1.keys hk) (n:=min (a₀.size-lo) mr) (by omega) (by omega) As2 fun st2 L2 As2=>?_);simp only[Bool.not_true,Bool.false_eq_true,if_false];have hn1:1≤min (a₀.size-lo) mr:=by omega
   have hn2:lo+min (a₀.size-lo) mr≤a₀.size:=by omega
   generalize min (a₀.size-lo) mr=n at As2 hn1 hn2;have M2:SM a₀ lo st2:=⟨L2.sb,L2.perm.trans M1.perm,by
    rw[L2.pend];exact M1.tiles.keep L2.size (fun x hx=>hk x ((L2.perm.trans M1.perm).mem_iff.mp hx)) fun j _ hj=>L2.same j hj⟩
   have R2:Run (arrOf st2) lo n:=run_asc (by rw[M2.size];exact hn2) (M2.keys hk) As2;refine wpS_bind (wpS_get ?_);cases hb:(pendingOf st2).back? with
   | none =>
    exact wpS_bind (wpS_modify (wpS_pure (fin n hn1 hn2 st2 M2 R2)))
   | some t =>
    obtain⟨s1,n1,o1⟩:=t;dsimp only;refine wpS_bind (wpS_mono (wpS_forRange (I:=fun _ c st'=>c=(none,())∧SM a₀ lo st'∧Run (arrOf st') lo n) (Q:=fun c st'=>c=(none,())∧SM a₀ lo st'∧Run (arrOf st') lo n) ?_ (fun _ _ hh=>hh) ⟨rfl,M2,R2⟩) ?_)
    ·rintro x c st3 _ _ ⟨rfl,M3,R3⟩;refine wpS_bind (wpS_get ?_)
     try dsimp only
     by_cases hsz:(pendingOf st3).size > 1
     ·rw[if_pos hsz];obtain⟨⟨u1,u2,u3⟩,eu⟩:∃ t,(pendingOf st3)[(pendingOf st3).size-2]? = some t:=⟨(pendingOf st3)[(pendingOf st3).size-2],by simp⟩;rw[eu];dsimp only;split
      ·exact wpS_pure ⟨rfl,M3,R3⟩
      ·refine wpS_bind (M3.merge hk (by omega) (by omega) fun st4 M4 _ e4=>?_);simp only[Bool.not_true,Bool.false_eq_true,if_false];exact wpS_pure ⟨rfl,M4,R3.keep (by rw[M4.size,M3.size]) (M4.keys hk) fun j h1 _=>e4 j h1⟩
     ·rw[if_neg hsz];exact wpS_pure ⟨rfl,M3,R3⟩
    ·rintro c st3 ⟨rfl,M3,R3⟩;dsimp only;refine wpS_bind (wpS_modify (wpS_bind (wpS_modify (wpS_pure ?_))));exact fin n hn1 hn2 _ ⟨⟨M3.sb.kind,M3.sb.failed⟩,M3.perm,by
      show Tiles (arrOf st3) 0 (tl ((pendingOf st3).modify _ _)) lo;rw[tl_mod];exact M3.tiles⟩ R3
  ·rw[if_neg hlt];have M2:SM a₀ lo st2:=⟨L2.sb,L2.perm.trans M1.perm,by
    rw[L2.pend];exact M1.tiles.keep L2.size (fun x hx=>hk x ((L2.perm.trans M1.perm).mem_iff.mp hx)) fun j _ hj=>L2.same j hj⟩
   have R2:Run (arrOf st2) lo n:=run_asc (by rw[M2.size];exact hn2) (M2.keys hk) As2;refine wpS_bind (wpS_get ?_);cases hb:(pendingOf st2).back? with
   | none =>
    exact wpS_bind (wpS_modify (wpS_pure (fin n hn1 hn2 st2 M2 R2)))
   | some t =>
    obtain⟨s1,n1,o1⟩:=t;dsimp only;refine wpS_bind (wpS_mono (wpS_forRange (I:=fun _ c st'=>c=(none,())∧SM a₀ lo st'∧Run (arrOf st') lo n) (Q:=fun c st'=>c=(none,())∧SM a₀ lo st'∧Run (arrOf st') lo n) ?_ (fun _ _ hh=>hh) ⟨rfl,M2,R2⟩) ?_)
    ·rintro x c st3 _ _ ⟨rfl,M3,R3⟩;refine wpS_bind (wpS_get ?_)
     try dsimp only
     by_cases hsz:(pendingOf st3).size > 1
     ·rw[if_pos hsz];obtain⟨⟨u1,u2,u3⟩,eu⟩:∃ t,(pendingOf st3)[(pendingOf st3).size-2]? = some t:=⟨(pendingOf st3)[(pendingOf st3).size-2],by simp⟩;rw[eu];dsimp only;split
      ·exact wpS_pure ⟨rfl,M3,R3⟩
      ·refine wpS_bind (M3.merge hk (by omega) (by omega) fun st4 M4 _ e4=>?_);simp only[Bool.not_true,Bool.false_eq_true,if_false];exact wpS_pure ⟨rfl,M4,R3.keep (by rw[M4.size,M3.size]) (M4.keys hk) fun j h1 _=>e4 j h1⟩
     ·rw[if_neg hsz];exact wpS_pure ⟨rfl,M3,R3⟩
    ·rintro c st3 ⟨rfl,M3,R3⟩;dsimp only;refine wpS_bind (wpS_modify (wpS_bind (wpS_modify (wpS_pure ?_))));exact fin n hn1 hn2 _ ⟨⟨M3.sb.kind,M3.sb.failed⟩,M3.perm,by
      show Tiles (arrOf st3) 0 (tl ((pendingOf st3).modify _ _)) lo;rw[tl_mod];exact M3.tiles⟩ R3
end
end OS
namespace OS
open PySem PyProof.Rows
noncomputable def intKO:KO:=⟨numOf,fun v=>∃ n t,v = .int n t,oneType'⟩
section
variable {prog:Program}{w:World}{A:Around}{E:Value→Shared→Prop}{s:Shared}
theorem intKL:@KL intKO prog w A s:=@KL.mk intKO _ _ _ _ fun {E Q u v} h1 h2 q=>by
 obtain⟨a,t,rfl⟩:=h1;obtain⟨b,r,rfl⟩:=h2;show wpAny _ _ (keyLt' oneType' _ _) _ _ _;rw[keyLt'_oneType];exact oneLt_int q
set_option maxHeartbeats 4000000 in
theorem sort_any {a:Addr}{vs:List Value}{ns:List Int}{n:Nat}{P:PySem.Fin→Shared→Prop} (ho:s.heap.get? a=some (seqObj "list" vs.toArray n)) (hI:IntsAre vs ns) (hz:vs.length≤sizeLine)
  (h:∀ (out:Array Value) (ns':List Int),IntsAre out.toList ns'→ns'.Perm ns→ns'.Pairwise (· ≤ ·)→P (.done (.ret .none)) { s with heap:=sortedHeap s.heap a vs out }):wpAny (model prog w) A (Builtin.«list.sort» ⟨[.ref a],[]⟩) P E s:=by
 by_cases h64:vs.length<64
 ·exact list_sort_tree ho hI h64 h
 rw[list_sort_plain];have ha:a<s.heap.objs.size:=Heap.lt_size ho;refine wpAny_bind (listItems_at ho rfl (wpAny_bind (listUpdate_at ho rfl ?_ (by rw[List.size_toArray];exact hz) (Nat.zero_le _))));obtain⟨e1,ho1⟩:∃ e1,(s.heap.update a (Obj.mapSeq fun _ => #[])).get? a=some (seqObj "list" #[] e1):=⟨_,get?_update_seq ho (fun _ => #[])⟩;refine wpAny_bind (seqEpoch_at ho1 rfl (wpAny_bind (wpAny_newTuple (wpAny_bind (wpAny_newList (wpAny_holding ?_))))));have ho6:(((s.heap.update a (Obj.mapSeq fun _ => #[])).push (seqObj "tuple" vs.toArray 0)).push (seqObj "list" #[] 0)).get? a=some (seqObj "list" #[] e1):=by
  have l1:a≠((s.heap.update a (Obj.mapSeq fun _ => #[])).push (seqObj "tuple" vs.toArray 0)).objs.size:=by rw[size_push',Heap.size_update];exact Nat.ne_of_lt (Nat.lt_succ_of_lt ha)
  have l2:a≠(s.heap.update a (Obj.mapSeq fun _ => #[])).objs.size:=by rw[Heap.size_update];exact Nat.ne_of_lt ha
  rw[Heap.get?_push_ne _ _ _ l1,Heap.get?_push_ne _ _ _ l2];exact ho1
 show wpAny (model prog w) A _ P E { s with heap:=((s.heap.update a (Obj.mapSeq fun _ => #[])).push (seqObj "tuple" vs.toArray 0)).push (seqObj "list" #[] 0) };dsimp only;have h2:¬ vs.toArray.size<2:=by rw[List.size_toArray];omega
 rw[if_neg h2,if_neg h2];obtain⟨v1,v2,rest,rfl⟩:∃ v1 v2 rest,vs=v1 :: v2 :: rest:=by
  match vs,h64 with
  | [],h=>simp at h
  | [_],h=>simp at h
  | v1 :: v2 :: rest,_=>exact⟨v1,v2,rest,rfl⟩
 rw[keyKind_ints hI]
 letI:=intKO
 haveI:KL prog w A ({ s with heap:=((s.heap.update a (Obj.mapSeq fun _ => #[])).push (seqObj "tuple" (v1 :: v2 :: rest).toArray 0)).push (seqObj "list" #[] 0) }:Shared):=intKL
 have hK:∀ x∈pairsOf (v1 :: v2 :: rest),IsK x:=fun x hx=>hI.intKeys x (Array.mem_toList_iff.mpr hx)
 refine wpAny_bind (wpAny_pure (wpAny_bind (wpAny_mono (wpS_runs (a₀:=pairsOf (v1 :: v2 :: rest)) (st:=SortSt.mk' oneType' ((v1 :: v2 :: rest).toArray.zip (v1 :: v2 :: rest).toArray) #[] 7 none)
  (Q:=fun _ st'=>(arrOf st').Perm (pairsOf (v1 :: v2 :: rest))∧failedOf st'=none∧SortedTo (arrOf st') (pairsOf (v1 :: v2 :: rest)).size) hK ⟨rfl,rfl⟩ (Array.Perm.refl _) rfl (by rw[pairsOf_size];omega) fun st' a1 a2 a3=>⟨a1,a2,a3⟩) ?_ fun _ _ e=>e)))
 rintro⟨⟨⟩,st'⟩ s' ⟨rfl,hp,hf,hs⟩;dsimp only;have hfin:((arrOf st').map (·.2)).size≤sizeLine+1:=by rw[Array.size_map,hp.size_eq,pairsOf_size];omega
 refine wpAny_bind (seqEpoch_at ho6 rfl (wpAny_bind (listUpdate_at ho6 rfl ?_ (Nat.zero_le _) hfin)));rw[hf];simp only[bne_self_eq_false,Bool.false_eq_true,if_false];obtain⟨ns',b1,b2,b3⟩:=sorted_out hI hp hs;exact wpAny_pure (h _ ns' b1 b2 b3)
end
end OS
namespace L2
open PySem PySem.Spec PyProof.Rows
noncomputable def Tups (H:Hp):List Addr→List (Int × Int)→Prop:=Paired fun p t=>H p=some (.tup [.int t.1,.int t.2])
theorem Tups.length {H:Hp}{ps:List Addr}{l:List (Int × Int)} (h:Tups H ps l):ps.length=l.length:=Paired.length h
theorem Tups.keep {H H':Hp}{ps:List Addr}{l:List (Int × Int)} (h:Tups H ps l) (k:∀ b xs,H b=some (.tup xs)→H' b=some (.tup xs)):Tups H' ps l:=Paired.mapP h fun p t e=>k p _ e
theorem Tups.at:∀ {H:Hp}{ps:List Addr}{l:List (Int × Int)}{i:Nat}{t:Int × Int},Tups H ps l→l[i]? = some t→∃ p,ps[i]? = some p∧H p=some (.tup [.int t.1,.int t.2])
 | _,_,_,_,_,.nil,e=>by simp at e
 | _,_,_,0,_,.cons r _,e=>by simp at e;subst e;exact⟨_,rfl,r⟩
 | _,_,_,i+1,t,.cons _ q,e=>by
  obtain⟨p,h1,h2⟩:=Tups.at (i:=i) (t:=t) q (by simpa using e);exact⟨p,by simpa using h1,h2⟩
theorem Tups.at' {H:Hp}{ps:List Addr}{l:List (Int × Int)}{i:Nat}{p:Addr} (h:Tups H ps l) (e:ps[i]? = some p):∃ t,l[i]? = some t∧H p=some (.tup [.int t.1,.int t.2]):=by
 have hi:i<l.length:=by
  have:=(List.getElem?_eq_some_iff.mp e).1
  have:=h.length
  omega
 obtain⟨q,h1,h2⟩:=h.at (i:=i) (t:=l[i]) (by simp[hi]);rw[e] at h1;cases h1;exact⟨l[i],by simp[hi],h2⟩
theorem Tups.append:∀ {H:Hp}{ps qs:List Addr}{l m:List (Int × Int)},Tups H ps l→Tups H qs m→Tups H (ps++qs) (l++m)
 | _,_,_,_,_,.nil,s=>s
 | _,_,_,_,_,.cons r t,s=>.cons r (Tups.append t s)
theorem Tups.snoc {H:Hp}{ps:List Addr}{l:List (Int × Int)}{p:Addr}{t:Int × Int} (h:Tups H ps l) (e:H p=some (.tup [.int t.1,.int t.2])):Tups H (ps ++ [p]) (l ++ [t]):=Tups.append h (.cons e .nil)
theorem Tups.set:∀ {H:Hp}{ps:List Addr}{l:List (Int × Int)}{p:Addr}{t:Int × Int} (i:Nat),Tups H ps l→H p=some (.tup [.int t.1,.int t.2])→Tups H (ps.set i p) (l.set i t)
 | _,_,_,_,_,_,.nil,_=>.nil
 | _,_,_,_,_,0,.cons _ t,e=>.cons e t
 | _,_,_,_,_,i+1,.cons q t,e=>.cons q (Tups.set i t e)
noncomputable def TL (K:PySem.W.Frag) (H:Hp) (a:Addr) (l:List (Int × Int)):Prop:=∃ ps:List Addr,SqL K H a (ps.map V.ref)∧Tups H ps l
noncomputable def TLo (H:Hp) (a:Addr) (l:List (Int × Int)):Prop:=∃ ps:List Addr,H a=some (.lst (ps.map V.ref))∧Tups H ps l
theorem TLo.tl {K:PySem.W.Frag}{H:Hp}{a:Addr}{l:List (Int × Int)} (h:TLo H a l):TL K H a l:=let ⟨ps,h1,h2⟩:=h; ⟨ps,.of h1,h2⟩
theorem TLo.keep {H H':Hp}{a:Addr}{l:List (Int × Int)} (h:TLo H a l) (k:Same H H'):TLo H' a l:=let ⟨ps,h1,h2⟩:=h; ⟨ps,k _ _ h1,h2.keep fun b xs e=>k b _ e⟩
noncomputable def SameX (p:Addr) (H H':Hp):Prop:=∀ b o,H b=some o→b≠p→H' b=some o
theorem Same.x {p:Addr}{H H':Hp} (h:Same H H'):SameX p H H':=fun b o e _=>h b o e
theorem SameX.trans {p:Addr}{H H1 H2:Hp} (a:SameX p H H1) (b:SameX p H1 H2):SameX p H H2:=fun c o e n=>b c o (a c o e n) n
theorem SameX.upd {p:Addr}{H:Hp}{o:HO}:SameX p H (upd H p o):=fun c o' e n=>by rw[upd_ne n];exact e
theorem Same.upd {p:Addr}{H:Hp}{o:HO} (h:H p=none):Same H (upd H p o):=fun c o' e=>by rw[upd_ne (ne_of_none e h)];exact e
theorem vals_two {a b:Int}{us:List Value} (r:Vals [.int a,.int b] us):∃ t u,us=[Value.int a t,Value.int b u]:=by
 obtain⟨u,w,rfl,⟨t,rfl⟩,⟨t',rfl⟩⟩:=vals2 r;exact⟨t,t',rfl⟩
section
variable {X:Cx}
theorem call_sortedD (hc:X.calm=true):CallR X (.builtin "sorted") (fun xs H Q=>∃ (a:Addr) (kvs:List (Key × V)) (ks:List Int),xs=[.ref a]∧H a=some (.dK kvs)∧kvs.map (·.1)=ks.map Sum.inl ∧
  ∀ (l:Addr) (ks':List Int),H l=none→ks'.Perm ks→ks'.Pairwise (· ≤ ·)→Q (.ref l) (upd H l (.lst (ks'.map V.int)))):=by
 intro pins s σ H xs us Q I r h;obtain⟨a,kvs,ks,rfl,hH,hks,q⟩:=h;obtain⟨u,rfl,ru⟩:=vals1 r;cases (show u=Value.ref a from ru);obtain⟨z,hd,vs,rel,dd⟩:=dk_of I.hok hH;obtain⟨ep,hat⟩:=dd.dictAt;have hlen:vs.length=ks.length:=by
  have e1:=rel.length;have e2:=congrArg List.length hks;rw[List.length_map,List.length_map] at e2;omega
 refine Calls.call_function_entry kind_sorted plain_sorted entry_sorted (args_sorted1 _) ?_;unfold Builtin.«sorted»;refine wpAny_bind (m:=checkCount "sorted" 1 1 _) (wpAny_pure ?_);refine wpAny_bind (PySem.W.kdu_collect (A:=X.A.in1) (PySem.W.kdl_dict (knd:=mixKind X.prog X.w) (kvs:=vs) (ep:=ep) hd) (I.ok.hd hc) hat (by rw[← rel.length];exact z) fun h' tk acc hk hacc=>?_);have hal:acc.toList.length=vs.length:=by rw[Array.length_toList];exact hacc.1
 have hkeys:vs.map (·.1)=ks.map Sum.inl:=rel.keys.symm.trans hks;have hI:IntsAre acc.toList ks:=by
  refine intsAre_of ?_;have hall:∀ (j:Nat) (v:Value),acc.toList[j]? = some v→∃ k,ks[j]? = some k∧∃ t,v=Value.int k t:=fun j v e=>by
   obtain⟨k,x,hx,hik⟩:=hacc.2 j v (by rw[← Array.getElem?_toList];exact e);have e1:(vs.map (·.1))[j]? = some k:=by rw[List.getElem?_map,hx];rfl
   rw[hkeys,List.getElem?_map] at e1;cases e2:ks[j]? with
   | none=>rw[e2] at e1;cases e1
   | some k' =>
    rw[e2] at e1;have e3:Sum.inl k'=k:=Option.some.inj e1;subst e3;exact⟨k',rfl,Value.isInt_shape hik⟩
  have go:∀ (zs:List Value) (ns:List Int),zs.length=ns.length→(∀ (j:Nat) (v:Value),zs[j]? = some v→∃ k,ns[j]? = some k∧∃ t,v=Value.int k t)→Vals (ns.map V.int) zs:=by
   intro zs;induction zs with
   | nil=>intro ns hl _;cases ns with
    | nil=>exact .nil
    | cons _ _=>simp at hl
   | cons v r ih=>intro ns hl hv;cases ns with
    | nil=>simp at hl
    | cons n ns =>
     obtain⟨k,e1,e2⟩:=hv 0 v rfl;have e3:n=k:=by simpa using e1
     subst e3;exact .cons e2 (ih ns (by simpa using hl) fun j w e=>by simpa using hv (j+1) w (by simpa using e))
  exact go acc.toList ks (by omega) hall
 refine wpAny_bind (wpAny_newList ?_ (by rw[hal,← rel.length];exact z));have hoL:(h'.push (seqObj "list" acc.toList.toArray 0)).get? h'.objs.size=some (seqObj "list" acc.toList.toArray 0):=Heap.get?_push_size _ rfl;show wpAny _ _ _ _ _ { s with heap:=h'.push (seqObj "list" acc.toList.toArray 0),toks:=tk };refine wpAny_bind (wpAny_holding (wpAny_call_entry slot_list_sort ⟨_,hoL,rfl⟩ entry_list_sort (OS.sort_any hoL hI (by rw[hal,← rel.length];exact z) fun out ns' a1 a2 a3=>⟨_,rfl,?_⟩) (args_list_sort _)));have nD:s.heap.get? h'.objs.size=none:=by
  cases e:s.heap.get? h'.objs.size with
  | none=>rfl
  | some o=>exact absurd (Heap.lt_size (hk _ _ e)) (Nat.lt_irrefl _)
 have keep:∀ b o,s.heap.get? b=some o→(sortedHeap (h'.push (seqObj "list" acc.toList.toArray 0)) h'.objs.size acc.toList out).get? b=some o:=fun b o e=>by
  have hlt:=Heap.lt_size (hk _ _ e);rw[sortedHeap_old (Nat.ne_of_lt hlt) (by rw[size_push'];exact Nat.lt_succ_of_lt hlt)];exact Heap.get?_push_of_some _ (hk _ _ e)
 obtain⟨ee,hat'⟩:=sortedHeap_at (out:=out) hoL;have hH0:H h'.objs.size=none:=by
  cases e:H h'.objs.size with
  | none=>rfl
  | some o=>obtain⟨ob,e'⟩:=(I.hok _ _ e).there;rw[nD] at e';cases e'
 have rv:Vals (ns'.map V.int) out.toList:=vals_ints a1;have hnl:ns'.length=ks.length:=a2.length_eq;exact wpAny_pure ⟨_,rfl,⟨.ref h'.objs.size,_,I.laidN (o := .lst (ns'.map V.int)) (t':=tk) keep nD ⟨by rw[List.length_map,hnl,← hlen,← rel.length];exact z,out.toList,ee,rv,by simpa using hat'⟩,rfl,q _ ns' hH0 a2 a3⟩⟩
end
end L2
namespace L2
open PySem PySem.Spec PyProof.Rows
theorem bits_of_weight:∀ (ns:List Int),PySem.W.WData.weightAll (ns.map PySem.W.WData.int)≤2^20→∀ n∈ns,Builtin.Int.intBits n≤2^20
 | [],_,_,h=>by simp at h
 | m :: r,hw,n,hn=>by
  have e:PySem.W.WData.weightAll ((m :: r).map PySem.W.WData.int)=PySem.W.WData.weight (.int m)+1+PySem.W.WData.weightAll (r.map PySem.W.WData.int):=rfl;rw[e] at hw;rcases List.mem_cons.mp hn with z | z
  ·subst z;have e2:PySem.W.WData.weight (.int n)=if n == 0 then 0 else n.natAbs.log2+1:=rfl
   rw[e2] at hw;unfold Builtin.Int.intBits;split at hw <;> split <;> simp_all <;> omega
  ·exact bits_of_weight r (by omega) n z
theorem walk_ofB {l:PySem.W.OpenLaw}{n k:Nat}{q:Program}{loose:List Str}{XP:(Str→Option Value)→Heap→Prop}{YP:World→Heap→Prop}{d:DefRec}{K:Params→PySem.W.Frag}{CX:World→CXT}{sp:World→Sp}{x:Str}
  (hn:l.most=some n) (hn2:n≤sizeLine) (hdf:d.params.defaults=[]) (hr:Room k callerA)
  (hY:∀ (w:World) (h:Heap),YP w h→(K w.params).In h)
  (F:∀ (w:World) (mg:Str→Option Value) (fa:Addr) (h:Heap),(K w.params).In h→h.Ns mainGlobals mg→mg d.name=some (.ref fa) →
   ∃ fd:FuncData,(∀ (s:Shared) (u:Value),BindsTo s fd ⟨[u],[]⟩ [(x,u)]) ∧
    ∀ base:Heap,(K w.params).In base→base.Ns mainGlobals mg→FnOk l.prog w (K w.params) mg base (CX w) k fa fd [x] (sp w))
  (hsp:∀ (w:World) (H:Hp) (a:Addr) (ns:List Int),ns.length≤n→(∀ z∈ns,Builtin.Int.intBits z≤2^20)→Only H→SqL (K w.params) H a (ns.map V.int)→sp w [.ref a] H (fun v _=>v = .bl true) fun _ _ _=>False)
  (hCX:∀ (w:World) (H:Hp) (s:Shared) (e:Value) (s':Shared),CX w [] H s (fun _ _ _=>False) e s'→False) :
  PySem.W.WalkO q loose XP YP l.row.toRowW d [] (fun f vs=>PySem.call f vs):=by
 intro w s₀ s₁ mg mb G Y fa o pm cd doc dV kV ho hd hcd hD hmg hg args vals as hpre hlay hrd hwl hlo;obtain rfl:dV = .none:=PySem.W.Dflts.none hD hdf;obtain rfl:kV = .none:=PySem.W.Dflts.noKw hD;obtain⟨a,vs,ns,rfl,rfl,hobj,hints,hlen⟩:=Att.script_of hn hpre hwl;have hbits:∀ z∈ns,Builtin.Int.intBits z≤2^20:=by
  have h1:(PySem.W.WData.list (ns.map PySem.W.WData.int)).layable=true:=List.all_eq_true.mp hlay _ (by simp);have h2:=of_decide_eq_true (Bool.and_eq_true_iff.mp h1).2;exact bits_of_weight ns h2
 have KX:=hY w _ Y;obtain⟨fd,hb,hF⟩:=F w mg fa _ KX G.T.g hmg;refine PySem.W.enter_call (codeAny_mono (law_call KX G.T.g G.T.b G.T.builtins G.T.nolimit hg hobj hints (Nat.le_trans hlen hn2) hr hF hb (fun H hO hS=>hsp w H a ns hlen hbits hO hS) fun H e s'=>hCX w H s₁ e s') fun r s' hq=>?_);obtain⟨rfl,h2,h3,h4⟩:=hq;exact⟨.inl ⟨.bool true,.bool true,[],rfl,fun _=>rfl,.bool true,Att.post_true l _,fun _=>⟨List.Pairwise.nil,fun _ hm=>(nomatch hm)⟩⟩,h2,h3,h4⟩
noncomputable def encP (p:Int × Int):Key × V:=(Sum.inl p.1,V.int p.2)
theorem valV_enc (k:Int):∀ d:OF.Terms,valV (d.map encP) (Sum.inl k)=(OF.look d k).map V.int
 | []=>rfl
 | p :: r=>by
  rw[List.map_cons,OF.look];by_cases e:p.1=k
  ·rw[valV_pos (show (encP p).1=Sum.inl k by simp[encP,e]),if_pos e];rfl
  ·rw[valV_neg (show ¬ (encP p).1=Sum.inl k by simp[encP,e]),if_neg e];exact valV_enc k r
theorem putK_enc (d:OF.Terms) (k v:Int):putK (d.map encP) (Sum.inl k:Key) (V.int v)=(OF.putI d k v).map encP:=by
 unfold putK OF.putI;rw[valV_any,valV_enc,OF.look_any,Option.isSome_map];split
 ·rw[List.map_map,List.map_map];congr 1
  funext p
  simp only[Function.comp,encP];by_cases e:p.1=k
  ·simp[e]
  ·simp[e]
 ·rw[List.map_append];rfl
theorem keys_enc (d:OF.Terms):(d.map encP).map (·.1)=(d.map (·.1)).map Sum.inl:=by
 rw[List.map_map,List.map_map];rfl
end L2
namespace OF
open PySem
theorem bitOr_pp {x y:Int} (hx:0≤x) (hy:0≤y):Builtin.bitOr x y=((x.toNat ||| y.toNat:Nat):Int):=by
 have n1:¬ 0≤Builtin.bitNot x:=by unfold Builtin.bitNot;omega
 have n2:¬ 0≤Builtin.bitNot y:=by unfold Builtin.bitNot;omega
 have e:∀ z:Int,Builtin.bitNot (Builtin.bitNot z)=z:=fun z=>by unfold Builtin.bitNot;omega
 unfold Builtin.bitOr;rw[PyProof.Rows.bitAnd_nn n1 n2,e,e,e]
theorem add_pow_of_nobit {z i:Nat} (h:z / 2^i % 2=0):z+2^i=z ||| 2^i:=by
 have hb:z % 2^i<2^i:=Nat.mod_lt _ (Nat.two_pow_pos i);have hz:z=2^(i+1) * (z / 2^(i+1))+z % 2^i:=by
  have h1:=Nat.div_add_mod z (2^(i+1));have h2:z % 2^(i+1)=z % 2^i+2^i * (z / 2^i % 2):=Nat.mod_pow_succ;rw[h,Nat.mul_zero,Nat.add_zero] at h2;omega
 generalize z / 2^(i+1)=a at hz;generalize z % 2^i=b at hz hb;have hp:2^i+b<2^(i+1):=by rw[Nat.pow_succ];omega
 have hb':b<2^(i+1):=by omega
 have e1:z+2^i=2^(i+1) * a+(2^i+b):=by omega
 have e2:2^i+b=2^i ||| b:=by
  have:=Nat.two_pow_add_eq_or_of_lt hb 1
  rw[Nat.mul_one] at this;exact this
 rw[e1,hz,Nat.two_pow_add_eq_or_of_lt hp,Nat.two_pow_add_eq_or_of_lt hb',e2,Nat.or_assoc,Nat.or_comm b]
noncomputable def orAll:List (Int × Int)→Nat→Nat
 | [],a=>a
 | t :: r,a=>orAll r (a ||| t.1.toNat)
theorem orAll_snoc:∀ (l:List (Int × Int)) (t:Int × Int) (a:Nat),orAll (l ++ [t]) a=orAll l a ||| t.1.toNat
 | [],_,_=>rfl
 | p :: r,t,a=>orAll_snoc r t _
noncomputable def worthL (l:List (Int × Int)) (g:Int):Int:=((l.filter fun t=>decide (Builtin.bitAnd t.1 g=t.1)).map (·.2)).sum
end OF
namespace L2
open PySem PySem.Spec PyProof.Rows
theorem kit_same {K:PySem.W.Frag}{t:Value}:PySem.W.kitOne K t t=some true:=by
 unfold PySem.W.kitOne;rw[beq_self_eq_true];rfl
theorem iteN {c A B:Prop} [Decidable c] (h:¬ c) (b:B):if c then A else B:=by rw[if_neg h];exact b
theorem iteY {c A B:Prop} [Decidable c] (h:c) (a:A):if c then A else B:=by rw[if_pos h];exact a
theorem CompSc.of {X:Cx}{scope:Scope}{N':List Str}{nT:Nat}{js:List Nat} (sc₀:Scope) (N₀:List Str) (h1:X.env.scope=sc₀) (h2:X.N=N₀) (hk:scope.kind = .function)
  (hall:(scope.names.all fun y=>y.2 != .cell && (y.2 != .local || scope.names.lookup y.1 == some .local) && (y.2 != .free || sc₀.names.lookup y.1 == some .cell))=true)
  (hlen:N'.length=nT+js.length) (hf:(js.map fun j=>N₀[j]?)=(N'.drop nT).map some) (hv:((N'.drop nT).all fun x=>scope.names.lookup x == some .free)=true):CompSc X scope N' nT js:=by
 have hall':=List.all_eq_true.mp hall;refine⟨hk,fun y hy e=>?_,fun y hy e=>?_,hlen,fun k j x e1 e2=>?_,fun y hy e=>?_,fun x hx=>?_⟩
 ·have:=hall' y hy;rw[e] at this;simp at this
 ·have:=hall' y hy;rw[e] at this;simp at this;exact this
 ·have e3:(js.map fun j=>N₀[j]?)[k]? = some (N₀[j]?):=by rw[List.getElem?_map,e1];rfl
  rw[hf,List.getElem?_map,List.getElem?_drop,e2] at e3;rw[h2];exact (Option.some.inj e3).symm
 ·have:=hall' y hy;rw[e] at this;simp at this;rw[h1];exact this
 ·have:=List.all_eq_true.mp hv x hx;simpa using this
end L2
namespace OF
theorem nodup_sub_len:∀ {l B:List Int},l.Nodup→(∀ x∈l,x∈B)→l.length≤B.length
 | [],_,_,_=>Nat.zero_le _
 | a :: r,B,hn,hs=>by
  have h1:=List.nodup_cons.mp hn;have ha:=hs a (by simp);have h2:r.length≤(B.erase a).length:=nodup_sub_len h1.2 fun x hx=>by
   have hne:x≠a:=fun z=>h1.1 (z ▸ hx)
   exact (List.mem_erase_of_ne hne).mpr (hs x (by simp[hx]))
  have h3:=List.length_erase_of_mem ha;have h4:0<B.length:=List.length_pos_of_mem ha;rw[List.length_cons];omega
end OF
namespace L2
open PySem PySem.Spec PyProof.Rows
inductive D where
 | non | bl (b:Bool) | int (n:Int) | str (x:Str) | tup (ds:List D) | lst (ds:List D)
mutual
noncomputable def Is (H:Hp):V→D→Prop
 | v,.non=>v = .non
 | v,.bl b=>v = .bl b
 | v,.int n=>v = .int n
 | v,.str x=>v = .str x
 | v,.tup ds=>∃ a xs,v = .ref a∧H a=some (.tup xs)∧IsDs H xs ds
 | v,.lst ds=>∃ a xs,v = .ref a∧H a=some (.lst xs)∧IsDs H xs ds
noncomputable def IsDs (H:Hp):List V→List D→Prop
 | xs,[]=>xs=[]
 | xs,d :: ds=>∃ x r,xs=x :: r∧Is H x d∧IsDs H r ds
end
theorem IsDs.length {H:Hp}:∀ {xs:List V}{ds:List D},IsDs H xs ds→xs.length=ds.length
 | xs,[],h=>by unfold IsDs at h;rw[h];rfl
 | xs,d :: ds,h=>by
  unfold IsDs at h;obtain⟨x,r,rfl,_,h2⟩:=h;rw[List.length_cons,List.length_cons,IsDs.length h2]
theorem IsDs.at {H:Hp}:∀ {xs:List V}{ds:List D}{i:Nat}{d:D},IsDs H xs ds→ds[i]? = some d→∃ x,xs[i]? = some x∧Is H x d
 | xs,[],i,d,h,e=>by simp at e
 | xs,d' :: ds,0,d,h,e=>by
  unfold IsDs at h;obtain⟨x,r,rfl,h1,h2⟩:=h
  have:d'=d:=by simpa using e
  subst this;exact⟨x,rfl,h1⟩
 | xs,d' :: ds,i+1,d,h,e=>by
  unfold IsDs at h;obtain⟨x,r,rfl,h1,h2⟩:=h;obtain⟨x',e1,e2⟩:=IsDs.at (i:=i) (d:=d) h2 (by simpa using e);exact⟨x',by simpa using e1,e2⟩
noncomputable def b2i (b:Bool):Int:=if b then 1 else 0
mutual
noncomputable def deq:D→D→Bool
 | .non,.non=>true
 | .bl a,.bl b=>a == b
 | .bl a,.int n=>b2i a == n
 | .int n,.bl a=>n == b2i a
 | .int n,.int m=>n == m
 | .str x,.str y=>x == y
 | .tup ds,.tup es=>deqL ds es
 | .lst ds,.lst es=>deqL ds es
 | _,_=>false
noncomputable def deqL:List D→List D→Bool
 | [],[]=>true
 | d :: ds,e :: es=>deq d e && deqL ds es
 | _,_=>false
end
mutual
noncomputable def dep:D→Nat
 | .tup ds=>depL ds+1
 | .lst ds=>depL ds+1
 | _=>0
noncomputable def depL:List D→Nat
 | []=>0
 | d :: ds=>max (dep d) (depL ds)
end
theorem depL_mem:∀ {ds:List D}{j:Nat}{d:D},ds[j]? = some d→dep d≤depL ds
 | [],j,d,e=>by simp at e
 | d' :: ds,0,d,e=>by
  have:d'=d:=by simpa using e
  subst this;unfold depL;omega
 | d' :: ds,j+1,d,e=>by
  have:=depL_mem (ds:=ds) (j:=j) (d:=d) (by simpa using e)
  rw[depL];omega
theorem deq_tup (ds es:List D):deq (.tup ds) (.tup es)=deqL ds es:=rfl
theorem deq_lst (ds es:List D):deq (.lst ds) (.lst es)=deqL ds es:=rfl
theorem deqL_cons (d e:D) (ds es:List D):deqL (d :: ds) (e :: es)=(deq d e && deqL ds es):=rfl
noncomputable def eqJ (ds es:List D) (j:Nat):Bool:=match ds[j]?,es[j]? with
 | some d,some e=>deq d e
 | _,_=>false
theorem deqL_all:∀ (ds es:List D),deqL ds es=((List.range (min ds.length es.length)).all (eqJ ds es) && (ds.length == es.length))
 | [],[]=>rfl
 | [],e :: es=>by show false=_;simp
 | d :: ds,[]=>by show false=_;simp
 | d :: ds,e :: es=>by
  have ih:=deqL_all ds es;rw[deqL_cons,ih,List.length_cons,List.length_cons,Nat.add_min_add_right,List.range_succ_eq_map,List.all_cons,List.all_map];have e1:eqJ (d :: ds) (e :: es) 0=deq d e:=rfl;have e2:(eqJ (d :: ds) (e :: es)) ∘ Nat.succ=eqJ ds es:=by funext j;rfl
  rw[e1,e2,Bool.and_assoc];congr 2;simp
theorem deqL_len {ds es:List D} (h:ds.length≠es.length):deqL ds es=false:=by
 rw[deqL_all]
 have:(ds.length == es.length)=false:=by simpa using h
 rw[this,Bool.and_false]
mutual
theorem deq_self:∀ d:D,deq d d=true
 | .non=>rfl
 | .bl b=>by show (b == b)=true;simp
 | .int n=>by show (n == n)=true;simp
 | .str x=>by show (x == x)=true;simp
 | .tup ds=>deqL_self ds
 | .lst ds=>deqL_self ds
theorem deqL_self:∀ ds:List D,deqL ds ds=true
 | []=>rfl
 | d :: ds=>by rw[deqL_cons,deq_self d,deqL_self ds];rfl
end
mutual
theorem Is.inj {H:Hp}:∀ {v:V}{d e:D},Is H v d→Is H v e→d=e
 | v,.non,e,h,h'=>by
  unfold Is at h;subst h;cases e <;> unfold Is at h' <;> first | rfl | (cases h';done) | (obtain⟨_,_,z,_⟩:=h';cases z)
 | v,.bl b,e,h,h'=>by
  unfold Is at h;subst h;cases e <;> unfold Is at h' <;> first | (cases h';rfl) | (cases h';done) | (obtain⟨_,_,z,_⟩:=h';cases z)
 | v,.int n,e,h,h'=>by
  unfold Is at h;subst h;cases e <;> unfold Is at h' <;> first | (cases h';rfl) | (cases h';done) | (obtain⟨_,_,z,_⟩:=h';cases z)
 | v,.str x,e,h,h'=>by
  unfold Is at h;subst h;cases e <;> unfold Is at h' <;> first | (cases h';rfl) | (cases h';done) | (obtain⟨_,_,z,_⟩:=h';cases z)
 | v,.tup ds,e,h,h'=>by
  unfold Is at h;obtain⟨a,xs,rfl,h1,h2⟩:=h;cases e with
  | tup es =>
   unfold Is at h';obtain⟨b,ys,z,g1,g2⟩:=h';cases z;rw[h1] at g1;cases g1;rw[IsDs.inj h2 g2]
  | lst es =>
   unfold Is at h';obtain⟨b,ys,z,g1,g2⟩:=h';cases z;rw[h1] at g1;cases g1
  | _=>unfold Is at h';cases h'
 | v,.lst ds,e,h,h'=>by
  unfold Is at h;obtain⟨a,xs,rfl,h1,h2⟩:=h;cases e with
  | lst es =>
   unfold Is at h';obtain⟨b,ys,z,g1,g2⟩:=h';cases z;rw[h1] at g1;cases g1;rw[IsDs.inj h2 g2]
  | tup es =>
   unfold Is at h';obtain⟨b,ys,z,g1,g2⟩:=h';cases z;rw[h1] at g1;cases g1
  | _=>unfold Is at h';cases h'
theorem IsDs.inj {H:Hp}:∀ {xs:List V}{ds es:List D},IsDs H xs ds→IsDs H xs es→ds=es
 | xs,[],es,h,h'=>by
  unfold IsDs at h;subst h;cases es with
  | nil=>rfl
  | cons e es=>unfold IsDs at h';obtain⟨_,_,z,_⟩:=h';cases z
 | xs,d :: ds,es,h,h'=>by
  unfold IsDs at h;obtain⟨x,r,rfl,h1,h2⟩:=h;cases es with
  | nil=>unfold IsDs at h';cases h'
  | cons e es =>
   unfold IsDs at h';obtain⟨x',r',z,g1,g2⟩:=h';cases z;rw[Is.inj h1 g1,IsDs.inj h2 g2]
end
section
variable {X:Cx}{pins:List (Addr × Obj)} {σ:St}{H:Hp}{s:Shared}
structure CmpAt (A:Around) (s:Shared) (u w:Value) (b:Bool):Prop where
 rc:SeqAt.RcAt A s u w b
 ne:SeqAt.RcNeAt A s u w (!b)
theorem its_at {xs:List V}{its:List Value}{ds:List D} (r:Vals xs its) (h:IsDs H xs ds) {j:Nat} (hj:j<its.toArray.size):∃ d x,ds[j]? = some d∧Is H x d∧RelV x its.toArray[j]:=by
 have hj':j<its.length:=by simpa using hj
 have l1:=r.length;have l2:=h.length;have ed:ds[j]? = some ds[j]:=by simp[show j<ds.length by omega]
 obtain⟨x,ex,hx⟩:=h.at ed;obtain⟨u,eu,ru⟩:=r.get ex;refine⟨_,x,ed,hx,?_⟩;rw[List.getElem?_eq_getElem hj'] at eu
 have:its.toArray[j]=u:=by simpa using Option.some.inj eu
 rw[this];exact ru
inductive Kd (s:Shared) (H:Hp):Value→D→Prop where
 | none:Kd s H .none .non
 | bool (b:Bool):Kd s H (.bool b) (.bl b)
 | int (n:Int) (t:Tok):Kd s H (.int n t) (.int n)
 | str (x:Str) (t:Tok):Kd s H (.str x t) (.str x)
 | tuple {a:Addr}{xs:List V}{its:List Value}{ds:List D} (h:H a=some (.tup xs)) (r:Vals xs its) (p:s.heap.IsTuple a its.toArray) (q:IsDs H xs ds):Kd s H (.ref a) (.tup ds)
 | list {a:Addr}{xs:List V}{its:List Value}{ds:List D} (h:H a=some (.lst xs)) (r:Vals xs its) (p:s.heap.IsList a its.toArray) (q:IsDs H xs ds):Kd s H (.ref a) (.lst ds)
theorem kd_of (I:Inv X pins σ H s) {v:V}{u:Value}{d:D} (h:Is H v d) (r:RelV v u):Kd s H u d:=by
 cases d with
 | non=>unfold Is at h;subst h;cases (show u=Value.none from r);exact .none
 | bl b=>unfold Is at h;subst h;cases (show u=Value.bool b from r);exact .bool b
 | int n=>unfold Is at h;subst h;obtain⟨t,e⟩:=(show ∃ t,u=Value.int n t from r);cases e;exact .int n t
 | str x=>unfold Is at h;subst h;obtain⟨t,e⟩:=(show ∃ t,u=Value.str x t from r);cases e;exact .str x t
 | tup ds =>
  unfold Is at h;obtain⟨a,xs,rfl,h1,h2⟩:=h;cases (show u=Value.ref a from r);obtain⟨_,its,r1,t1⟩:=(show ObjOk X.prog X.w H s.heap a (.tup xs) from I.hok a _ h1);exact .tuple h1 r1 t1 h2
 | lst ds =>
  unfold Is at h;obtain⟨a,xs,rfl,h1,h2⟩:=h;cases (show u=Value.ref a from r);obtain⟨its,r1,p1,_⟩:=I.list (SqL.of (K:=X.K) h1);exact .list h1 r1 p1.isList h2
noncomputable def Sc:D→Prop
 | .tup _=>False
 | .lst _=>False
 | _=>True
set_option maxHeartbeats 4000000 in
theorem scalD {A:Around}{u u':Value}{d e:D} (hu:A.units<cLine) (k1:Kd s H u d) (hs:Sc d) (k2:Kd s H u' e):CmpAt A s u u' (deq d e)∧SeqAt.EqAt A s u u' (deq d e):=by
 cases k1 with
 | tuple=>exact hs.elim
 | list=>exact hs.elim
 | none  =>
  cases k2 with
  | none  => exact⟨⟨.none_none ,.none_none ⟩,SeqAt.EqAt.same _⟩
  | bool c=>exact⟨⟨.none_bool c,.none_bool c⟩,.none_bool c⟩
  | int k v=>exact⟨⟨.none_int k v,.none_int k v⟩,.none_int k v⟩
  | str y v=>exact⟨⟨.none_str y v,.none_str y v⟩,.none_str y v⟩
  | list h r p q=>exact⟨⟨.none_list  p hu,.none_list  p hu⟩,.none_list  p hu⟩
  | tuple h r p q=>exact⟨⟨.none_tuple  p hu,.none_tuple  p hu⟩,.none_tuple  p hu⟩
 | bool b =>
  cases k2 with
  | none  => exact⟨⟨.bool_none b,.bool_none b⟩,.bool_none b⟩
  | bool c=>exact⟨⟨.bool_bool b c,.bool_bool b c⟩,.bool_bool b c⟩
  | int k v=>exact⟨⟨.bool_int b k v,.bool_int b k v⟩,.bool_int b k v⟩
  | str y v=>exact⟨⟨.bool_str b y v,.bool_str b y v⟩,.bool_str b y v⟩
  | list h r p q=>exact⟨⟨.bool_list b p hu,.bool_list b p hu⟩,.bool_list b p hu⟩
  | tuple h r p q=>exact⟨⟨.bool_tuple b p hu,.bool_tuple b p hu⟩,.bool_tuple b p hu⟩
 | int m t =>
  cases k2 with
  | none  => exact⟨⟨.int_none m t,.int_none m t⟩,.int_none m t⟩
  | bool c=>exact⟨⟨.int_bool m t c,.int_bool m t c⟩,.int_bool m t c⟩
  | int k v=>exact⟨⟨.int_int m t k v,.int_int m t k v⟩,.int_int m t k v⟩
  | str y v=>exact⟨⟨.int_str m t y v,.int_str m t y v⟩,.int_str m t y v⟩
  | list h r p q=>exact⟨⟨.int_list m t p hu,.int_list m t p hu⟩,.int_list m t p hu⟩
  | tuple h r p q=>exact⟨⟨.int_tuple m t p hu,.int_tuple m t p hu⟩,.int_tuple m t p hu⟩
 | str x t =>
  cases k2 with
  | none  => exact⟨⟨.str_none x t,.str_none x t⟩,.str_none x t⟩
  | bool c=>exact⟨⟨.str_bool x t c,.str_bool x t c⟩,.str_bool x t c⟩
  | int k v=>exact⟨⟨.str_int x t k v,.str_int x t k v⟩,.str_int x t k v⟩
  | str y v=>exact⟨⟨.str_str x t y v,.str_str x t y v⟩,.str_str x t y v⟩
  | list h r p q=>exact⟨⟨.str_list x t p hu,.str_list x t p hu⟩,.str_list x t p hu⟩
  | tuple h r p q=>exact⟨⟨.str_tuple x t p hu,.str_tuple x t p hu⟩,.str_tuple x t p hu⟩
set_option maxHeartbeats 4000000 in
theorem cmp_at (I:Inv X pins σ H s):∀ (n:Nat) (d e:D) (A:Around) {u u':Value},dep d≤n→A.units+n<cLine→Kd s H u d→Kd s H u' e→CmpAt A s u u' (deq d e)∧SeqAt.EqAt A s u u' (deq d e):=by
 intro n;induction n with
 | zero =>
  intro d e A u u' hd hu k1 k2;cases k1 with
  | tuple=>unfold dep at hd;omega
  | list=>unfold dep at hd;omega
  | none=>exact scalD (by omega) .none trivial k2
  | bool b=>exact scalD (by omega) (.bool b) trivial k2
  | int m t=>exact scalD (by omega) (.int m t) trivial k2
  | str y t=>exact scalD (by omega) (.str y t) trivial k2
 | succ n ih =>
  intro d e A u u' hd hu k1 k2;have hu0:A.units<cLine:=by omega
  have hu1:A.in1.units+n<cLine:=by show A.units+1+n<cLine;omega
  cases k1 with
  | @tuple a xs its ds h1 r1 p1 q1 =>
   cases k2 with
   | @tuple b ys its2 es h2 r2 p2 q2 =>
    have hdd:depL ds≤n:=by unfold dep at hd;omega
    have n1:its.length=ds.length:=by have:=r1.length;have:=q1.length;omega
    have n2:its2.length=es.length:=by have:=r2.length;have:=q2.length;omega
    have he:∀ j (g1:j<its.toArray.size) (g2:j<its2.toArray.size),SeqAt.EqAt A.in1 s its.toArray[j] its2.toArray[j] (eqJ ds es j):=fun j g1 g2=>by
     obtain⟨d1,x1,e1,i1,v1⟩:=its_at r1 q1 g1;obtain⟨d2,x2,e2,i2,v2⟩:=its_at r2 q2 g2;have e3:eqJ ds es j=deq d1 d2:=by unfold eqJ;rw[e1,e2]
     rw[e3];exact (ih d1 d2 A.in1 (Nat.le_trans (depL_mem e1) hdd) hu1 (kd_of I i1 v1) (kd_of I i2 v2)).2
    have ev:((List.range (min its.toArray.size its2.toArray.size)).all (eqJ ds es) && (its.toArray.size == its2.toArray.size))=deq (.tup ds) (.tup es):=by
     rw[List.size_toArray,List.size_toArray,n1,n2,deq_tup,deqL_all]
    have R1:=SeqAt.RcAt.tuples p1 p2 hu0 he;have R2:=SeqAt.RcNeAt.tuples p1 p2 hu0 he;rw[ev] at R1 R2;refine⟨⟨R1,R2⟩,?_⟩;by_cases hab:a=b
    ·subst hab;rw[h1] at h2;cases h2;rw[IsDs.inj q1 q2,deq_self];exact SeqAt.EqAt.same _
    ·exact SeqAt.EqAt.of_refs hab R1
   | @list b ys its2 es h2 r2 p2 q2=>exact⟨⟨.tuple_list p1 p2 hu0,.tuple_list p1 p2 hu0⟩,.tuple_list p1 p2 hu0⟩
   | none=>exact⟨⟨.tuple_none p1 hu0,.tuple_none p1 hu0⟩,.tuple_none p1 hu0⟩
   | bool b=>exact⟨⟨.tuple_bool b p1 hu0,.tuple_bool b p1 hu0⟩,.tuple_bool b p1 hu0⟩
   | int m t=>exact⟨⟨.tuple_int m t p1 hu0,.tuple_int m t p1 hu0⟩,.tuple_int m t p1 hu0⟩
   | str y t=>exact⟨⟨.tuple_str y t p1 hu0,.tuple_str y t p1 hu0⟩,.tuple_str y t p1 hu0⟩
  | @list a xs its ds h1 r1 p1 q1 =>
   cases k2 with
   | @list b ys its2 es h2 r2 p2 q2 =>
    have hdd:depL ds≤n:=by unfold dep at hd;omega
    have n1:its.length=ds.length:=by have:=r1.length;have:=q1.length;omega
    have n2:its2.length=es.length:=by have:=r2.length;have:=q2.length;omega
    have R:CmpAt A s (.ref a) (.ref b) (deq (.lst ds) (.lst es)):=by
     by_cases hn:ds.length=es.length
     ·have he:∀ j (g1:j<its.toArray.size) (g2:j<its2.toArray.size),SeqAt.EqAt A.in1 s its.toArray[j] its2.toArray[j] (eqJ ds es j):=fun j g1 g2=>by
       obtain⟨d1,x1,e1,i1,v1⟩:=its_at r1 q1 g1;obtain⟨d2,x2,e2,i2,v2⟩:=its_at r2 q2 g2;have e3:eqJ ds es j=deq d1 d2:=by unfold eqJ;rw[e1,e2]
       rw[e3];exact (ih d1 d2 A.in1 (Nat.le_trans (depL_mem e1) hdd) hu1 (kd_of I i1 v1) (kd_of I i2 v2)).2
      have hsz:its.toArray.size=its2.toArray.size:=by simp;omega
      have ev:(List.range its.toArray.size).all (eqJ ds es)=deq (.lst ds) (.lst es):=by
       rw[List.size_toArray,n1,deq_lst,deqL_all,hn,Nat.min_self];simp
      have R1:=SeqAt.RcAt.lists p1 p2 hsz hu0 he;have R2:=SeqAt.RcNeAt.lists p1 p2 hsz hu0 he;rw[ev] at R1 R2;exact⟨R1,R2⟩
     ·have hsz:(its.toArray.size != its2.toArray.size)=true:=by simp;omega
      rw[deq_lst,deqL_len hn];exact⟨SeqAt.RcAt.lists_lengths p1 p2 hsz hu0,SeqAt.RcNeAt.lists_lengths p1 p2 hsz hu0⟩
    refine⟨R,?_⟩;by_cases hab:a=b
    ·subst hab;rw[h1] at h2;cases h2;rw[IsDs.inj q1 q2,deq_self];exact SeqAt.EqAt.same _
    ·exact SeqAt.EqAt.of_refs hab R.rc
   | @tuple b ys its2 es h2 r2 p2 q2=>exact⟨⟨.list_tuple p1 p2 hu0,.list_tuple p1 p2 hu0⟩,.list_tuple p1 p2 hu0⟩
   | none=>exact⟨⟨.list_none p1 hu0,.list_none p1 hu0⟩,.list_none p1 hu0⟩
   | bool b=>exact⟨⟨.list_bool b p1 hu0,.list_bool b p1 hu0⟩,.list_bool b p1 hu0⟩
   | int m t=>exact⟨⟨.list_int m t p1 hu0,.list_int m t p1 hu0⟩,.list_int m t p1 hu0⟩
   | str y t=>exact⟨⟨.list_str y t p1 hu0,.list_str y t p1 hu0⟩,.list_str y t p1 hu0⟩
  | none=>exact scalD hu0 .none trivial k2
  | bool b=>exact scalD hu0 (.bool b) trivial k2
  | int m t=>exact scalD hu0 (.int m t) trivial k2
  | str y t=>exact scalD hu0 (.str y t) trivial k2
noncomputable def rEqD (f:Bool→Bool):R2:=fun x y H Q=>∃ d e,Is H x d∧Is H y e∧dep d≤60∧Q (.bl (f (deq d e))) H
theorem op_eqD (hu:X.A.units+60<cLine):OpR X (compareOp .Eq) (rEqD id):=by
 intro pins s σ H x y v u Q I rx ry h;obtain⟨d,e,h1,h2,h3,q⟩:=h;exact (cmp_at I 60 d e X.A h3 hu (kd_of I h1 rx) (kd_of I h2 ry)).1.rc _ _ _ _ ⟨.bl (deq d e),H,I,rfl,q⟩
theorem op_neD (hu:X.A.units+60<cLine):OpR X (compareOp .NotEq) (rEqD not):=by
 intro pins s σ H x y v u Q I rx ry h;obtain⟨d,e,h1,h2,h3,q⟩:=h;exact (cmp_at I 60 d e X.A h3 hu (kd_of I h1 rx) (kd_of I h2 ry)).1.ne _ _ _ _ ⟨.bl (!(deq d e)),H,I,rfl,q⟩
theorem hu60 {A:Around}{k:Nat} (hr:Room k A):A.units+60<cLine:=Nat.lt_of_le_of_lt (Nat.add_le_add_left (by decide:60≤64) _) hr.units
end
end L2
namespace L2
open PySem PySem.Spec PyProof.Rows
section
variable {X:Cx}{st:Stmt}{sts:List Stmt}{t:TS}{e:Expr}{te:TE}
noncomputable def tCut (t:TS):TS:=fun D σ H=>∃ M:St→Hp→Prop,t { D with nx:=M } σ H∧∀ σ' H',M σ' H'→D.nx σ' H'
theorem ps_cut (h:PS X st t):PS X st (tCut t):=by
 rintro pins s σ H D I ⟨M,q,w⟩;refine thn (h pins s σ H { D with nx:=M } I q) fun r s' z=>?_
 cases r with
 | next=>obtain⟨σ',H',I',m⟩:=z;exact⟨σ',H',I',w _ _ m⟩
 | _=>exact z
end
end L2
namespace L2
open PySem PySem.Spec PyProof.Rows
theorem ix_listK {X:Cx} (K:PySem.W.Frag) (h:X.K=K):IxR X (rIxL K):=by subst h;exact ix_list
theorem call_len_seqK {X:Cx} (K:PySem.W.Frag) (h:X.K=K):CallR X (.builtin "len") (fun xs H Q=>∃ p ys,xs=[.ref p]∧(SqL K H p ys∨SqT K H p ys)∧Q (.int ys.length) H):=by subst h;exact call_len_seq
end L2
namespace My
open PySem L2 OF
theorem small6 {n:Nat} (h:n≤1000000):n<sizeLine:=Nat.lt_of_le_of_lt h (by decide)
theorem mulL {a b:Int} (h1 : -(2^64)<a) (h2:a<2^64):IntMulOk a b:=CMul.ok (.inl ⟨h1,h2⟩)
theorem mulR {a b:Int} (h1 : -(2^64)<b) (h2:b<2^64):IntMulOk a b:=CMul.ok (.inr ⟨h1,h2⟩)
noncomputable def Purse (H:Hp) (p:Addr):Prop:=∃ n:Int,H p=some (.lst [.int n])
noncomputable def spMixed:Sp:=fun vs H Q _=>∃ c k:Int,vs=[.int c,.int k]∧IntMulOk c c∧∀ r,0≤r→r<2147483587→Q (.int r) H
noncomputable def spDraw:Sp:=fun vs H Q _=>∃ (p:Addr) (n m:Int),vs=[.ref p,.int m]∧H p=some (.lst [.int n])∧0<m∧m<2^200∧∀ r n':Int,0≤r→r<m→Q (.int r) (upd H p (.lst [.int n']))
noncomputable def spPurse (K:PySem.W.Frag):Sp:=fun vs H Q _=>∃ (a:Addr) (ns:List Int),vs=[.ref a]∧SqL K H a (ns.map V.int)∧ns.length≤63∧(∀ n∈ns,Builtin.Int.intBits n≤2^20) ∧
 ∀ (p:Addr) (n:Int) (H':Hp),H p=none→H' p=some (.lst [.int n])→Same H H'→Q (.ref p) H'
theorem divG200 {m:Int} (h1:0<m) (h2:m<2^200):CDivG n m:=by
 refine⟨h1,?_⟩;have h3:m.natAbs<2^200:=by omega
 have:=(Nat.log2_lt (by omega:m.natAbs≠0)).mpr h3
 omega
theorem cut_map (ns:List Int) (lo hi:Option Int):∃ ms:List Int,cutV (ns.map V.int) lo hi=ms.map V.int∧ms.length≤ns.length∧∀ m∈ms,m∈ns:=by
 refine⟨(ns.drop (HT.sIx ns.length 0 lo)).take (HT.sIx ns.length ns.length hi-HT.sIx ns.length 0 lo),?_,?_,fun m h=>List.mem_of_mem_drop (List.mem_of_mem_take h)⟩
 ·unfold cutV;rw[List.length_map,← List.map_drop,← List.map_take]
 ·rw[List.length_take,List.length_drop];exact Nat.le_trans (Nat.min_le_right _ _) (Nat.sub_le _ _)
theorem mulOk_bits {c:Int} (h:Builtin.Int.intBits c≤2^20):IntMulOk c c:=PyProof.Rows.mulOk_of_bits h h (by decide)
theorem at_ref {ps:List Addr}{i:Nat}{y:V} (hi:(ps.map V.ref)[i]? = some y):∃ p,ps[i]? = some p∧y=V.ref p:=by
 rw[List.getElem?_map] at hi;cases e:ps[i]? with
 | none=>rw[e] at hi;cases hi
 | some p=>rw[e] at hi;exact⟨p,rfl,(Option.some.inj hi).symm⟩
theorem at_int {ns:List Int}{i:Nat}{y:V} (hi:(ns.map V.int)[i]? = some y):∃ n,ns[i]? = some n∧y=V.int n:=by
 rw[List.getElem?_map] at hi;cases e:ns[i]? with
 | none=>rw[e] at hi;cases hi
 | some p=>rw[e] at hi;exact⟨p,rfl,(Option.some.inj hi).symm⟩
noncomputable def spForm (K:PySem.W.Frag):Sp:=fun vs H Q _=>∃ (a:Addr) (l:Terms),vs=[.ref a]∧TL K H a l∧l.length≤100000 ∧
 ∀ (b:Addr) (f:Terms) (H':Hp),H b=none→TLo H' b f→FormOf f l→f.length≤l.length→Same H H'→Q (.ref b) H'
noncomputable def spFormFrom:Sp:=fun vs H Q _=>∃ (d:Addr) (dd:Terms),vs=[.ref d]∧H d=some (.dK (dd.map encP))∧(dd.map (·.1)).Nodup∧dd.length≤100000 ∧
 ∀ (b:Addr) (ks:List Int) (H':Hp),H b=none→TLo H' b (formOf dd ks)→ks.Perm (dd.map (·.1))→ks.Pairwise (· ≤ ·)→Same H H'→Q (.ref b) H'
noncomputable def spLaw (K:PySem.W.Frag):Sp:=fun vs H Q _=>∃ (a:Addr) (ns:List Int),vs=[.ref a]∧SqL K H a (ns.map V.int)∧ns.length≤63∧(∀ n∈ns,Builtin.Int.intBits n≤2^20)∧∀ H',Q (.bl true) H'
noncomputable def dT (t:Int × Int):D := .tup [.int t.1,.int t.2]
noncomputable def dF (l:Terms):D := .lst (l.map dT)
theorem isL_tups {H:Hp}:∀ {ps:List Addr}{l:Terms},Tups H ps l→IsDs H (ps.map V.ref) (l.map dT)
 | _,_,.nil=>by unfold IsDs;rfl
 | _,_,.cons (a:=p) (b:=t) r q=>by
  rw[List.map_cons,List.map_cons];unfold IsDs;refine⟨_,_,rfl,?_,isL_tups q⟩;unfold dT Is;refine⟨p,_,rfl,r,?_⟩;unfold IsDs;refine⟨_,_,rfl,(by unfold Is;rfl),?_⟩;unfold IsDs;refine⟨_,_,rfl,(by unfold Is;rfl),?_⟩;unfold IsDs;rfl
theorem _root_.L2.TLo.is {H:Hp}{a:Addr}{l:Terms} (h:TLo H a l):Is H (.ref a) (dF l):=by
 obtain⟨ps,h1,h2⟩:=h;unfold dF Is;exact⟨a,_,rfl,h1,isL_tups h2⟩
theorem dep_dT (t:Int × Int):dep (dT t)=1:=rfl
theorem depL_dT:∀ l:Terms,depL (l.map dT)≤1
 | []=>Nat.zero_le _
 | t :: r=>by
  rw[List.map_cons,depL,dep_dT]
  have:=depL_dT r
  omega
theorem dep_dF (l:Terms):dep (dF l)≤2:=by
 unfold dF;rw[dep];have:=depL_dT l;omega
theorem is_lst {H:Hp}{a:Addr}{xs:List V}{ds:List D} (h1:H a=some (.lst xs)) (h2:IsDs H xs ds):Is H (.ref a) (.lst ds):=by
 unfold Is;exact⟨a,xs,rfl,h1,h2⟩
theorem mulOkB {a b:Int}{j k:Nat} (h1:a.natAbs<2^j) (h2:b.natAbs<2^k) (h:j+k≤134217728):IntMulOk a b:=by
 have f:∀ {x:Int}{m:Nat},x.natAbs<2^m→Builtin.Int.intBits x≤m:=fun {x m} hx=>by
  unfold Builtin.Int.intBits;split
  ·exact Nat.zero_le _
  ·rename_i h0;have h0':x.natAbs≠0:=by simpa using h0
   exact (Nat.log2_lt h0').mpr hx
 exact PyProof.Rows.mulOk_of_bits (f h1) (f h2) h
noncomputable def Small (B:Nat) (l:Terms):Prop:=∀ t∈l,t.2.natAbs≤B
theorem coef_small {B:Nat}:∀ {l:Terms},Small B l→∀ k,(coef l k).natAbs≤l.length * B
 | [],_,k=>by simp[coef]
 | t :: r,h,k=>by
  have h1:=h t (by simp);have h2:=coef_small (l:=r) (fun u hu=>h u (by simp[hu])) k;rw[coef,List.length_cons,Nat.add_mul,Nat.one_mul];split <;> omega
theorem coef_mem:∀ {f:Terms},IsForm f→∀ t∈f,coef f t.1=t.2
 | [],_,t,h=>by simp at h
 | p :: r,hf,t,h=>by
  have h1:=List.pairwise_cons.mp hf.rise;rcases List.mem_cons.mp h with e | e
  ·rw[e];exact coef_head h1.1
  ·have hr:IsForm r:=⟨h1.2,fun q hq=>hf.nz q (by simp[hq])⟩
   have:=coef_mem hr t e
   have h2:=h1.1 t e;rw[coef,if_neg (by omega),this];omega
theorem _root_.OF.FormOf.small {f l:Terms}{B:Nat} (h:FormOf f l) (hs:Small B l):Small (l.length * B) f:=fun t ht=>by
 rw[← coef_mem h.toIsForm t ht,h.val];exact coef_small hs t.1
theorem _root_.L2.Same.write {HB H:Hp}{a:Addr}{o:HO} (h:Same HB H) (ha:HB a=none):Same HB (upd H a o):=fun b u e=>by
 rw[upd_ne (ne_of_none e ha)];exact h b u e
theorem TLo.cat {H H':Hp}{a b c:Addr}{l m:Terms}{ps qs:List Addr} (h1:Tups H ps l) (h2:Tups H qs m) (s:Same H H') (hc:H' c=some (.lst (ps.map V.ref++qs.map V.ref))):TLo H' c (l++m) :=
 ⟨ps++qs,by rw[hc,List.map_append],Tups.append (h1.keep fun b xs z=>s b _ z) (h2.keep fun b xs z=>s b _ z)⟩
theorem _root_.L2.TL.seq {K:PySem.W.Frag}{H:Hp}{a:Addr}{l:Terms} (h:TL K H a l):∃ xs,SqL K H a xs:=let ⟨ps,h1,_⟩:=h; ⟨_,h1⟩
theorem comp_pairs {K:PySem.W.Frag}{a:Addr}{l:Terms}{H:Hp}{te:TE}{R:List V→Hp→Addr→Prop} (f:Int × Int→Int × Int) (hT:TL K H a l) (hl:l.length≤1000000) (rest:List (Option V)) {σ:St} (hσ : σ = none :: none :: rest)
  (he:∀ t∈l,∀ (H2:Hp) (R:V→Hp→Prop),Same H H2→(∀ w,H2 w=none→R (.ref w) (upd H2 w (.tup [.int (f t).1,.int (f t).2])))→te (some (.int t.1) :: some (.int t.2) :: rest) H2 R)
  (q:∀ (D:Addr) (ys:List V) (H2:Hp),H D=none→TLo (upd H2 D (.lst ys)) D (l.map f)→Same H (upd H2 D (.lst ys))→R ys H2 D) :
  ∃ W:Nat→Nat→List V→St→Hp→Prop,(∃ m,W 0 m [] σ H)∧∀ i m ys σ H,W i m ys σ H →
   ((Itl K a).stop i H∧∀ D,H D=none→R ys H D) ∨
   ((Itl K a).go i H∧ys.length<sizeLine∧∃ N:List V→St→Hp→Prop,(∀ ys' σ' H',N ys' σ' H'→∃ m',m'<m∧W (i+1) m' ys' σ' H') ∧
    ∀ x H',(Itl K a).yld i H x H'→gTup K 2 (gCons (gName 0) (gCons (gName 1) gNil)) x σ H' fun σ2 H2=>tTrue σ2 H2 fun b H3=>if b=true then te σ2 H3 fun y H4=>N (ys ++ [y]) σ2 H4 else N ys σ2 H3):=by
 obtain⟨ps,hS,hP⟩:=hT;subst hσ;refine comp_list (K:=K) (a:=a) (xs:=ps.map V.ref) (R:=R) (fun i ys σ H2=>∃ (v0 v1:Option V) (qs:List Addr),σ = v0 :: v1 :: rest∧ys=qs.map V.ref∧Tups H2 qs ((l.take i).map f)∧Same H H2)
  ⟨none,none,[],rfl,rfl,.nil,Same.refl _⟩ (fun i ys σ H2 hi ⟨_,_,qs,_,e1,e2,e3⟩=>⟨e3.seq hS,by rw[e1,List.length_map,e2.length,List.length_map,List.length_take];omega⟩) (by rw[List.length_map,hP.length];exact Nat.le_of_lt (small6 hl)) ?_ ?_
 ·rintro i z ys σ H2 hi ⟨v0,v1,qs,rfl,rfl,g2,g4⟩;obtain⟨p,hqi,rfl⟩:=at_ref hi;obtain⟨t,ht1,ht2⟩:=hP.at' hqi;have htk:l.take (i+1)=l.take i ++ [t]:=by rw[List.take_add_one,ht1];rfl
  refine⟨p,_,rfl,SqT.of (g4 _ _ ht2),rfl,_,_,rfl,_,_,rfl,rfl,?_⟩;show te (some (.int t.1) :: some (.int t.2) :: rest) H2 _;refine he t (List.mem_of_getElem? ht1) H2 _ g4 fun w hw=>?_
  have s14:Same H2 (upd H2 w (.tup [.int (f t).1,.int (f t).2])):=Same.upd hw;refine⟨_,_,qs ++ [w],rfl,(by rw[List.map_append];rfl),?_,g4.trans s14⟩;rw[htk,List.map_append];exact Tups.snoc (g2.keep fun b xs z=>s14 b _ z) upd_same
 ·rintro ys σ H2 ⟨v0,v1,qs,rfl,rfl,g2,g4⟩ w hw;have hfull:l.take (ps.map V.ref).length=l:=by rw[List.length_map,hP.length,List.take_length]
  rw[hfull] at g2;have s14:Same H2 (upd H2 w (.lst (qs.map V.ref))):=Same.upd hw;exact q w _ _ (g4.free hw) ⟨qs,upd_same,g2.keep fun b xs z=>s14 b _ z⟩ (g4.trans s14)
theorem ne_of_none' {H:Hp}{a b:Addr}{o:HO} (h:H a=some o) (hb:H b=none):b≠a:=(ne_of_none h hb).symm
end My
namespace OF
open PySem
noncomputable def rowL (t:Int × Int) (m:Terms):Terms:=m.map fun u=>(Builtin.bitOr t.1 u.1,t.2 * u.2)
noncomputable def prodL (l m:Terms):Terms:=l.flatMap fun t=>rowL t m
theorem rowL_len (t:Int × Int) (m:Terms):(rowL t m).length=m.length:=List.length_map _
theorem rowL_snoc (t u:Int × Int) (m:Terms):rowL t (m ++ [u])=rowL t m ++ [(Builtin.bitOr t.1 u.1,t.2 * u.2)]:=by unfold rowL;rw[List.map_append];rfl
theorem prodL_snoc (l m:Terms) (t:Int × Int):prodL (l ++ [t]) m=prodL l m++rowL t m:=by unfold prodL;rw[List.flatMap_append];simp
theorem prodL_len:∀ (l m:Terms),(prodL l m).length=l.length * m.length
 | [],m=>by simp[prodL]
 | t :: l,m=>by
  have:=prodL_len l m
  have e:prodL (t :: l) m=rowL t m++prodL l m:=by unfold prodL;rw[List.flatMap_cons]
  rw[e,List.length_append,rowL_len,this,List.length_cons,Nat.add_mul,Nat.one_mul,Nat.add_comm]
theorem mem_prodL {l m:Terms}{x:Int × Int} (h:x∈prodL l m):∃ t∈l,∃ u∈m,x=(Builtin.bitOr t.1 u.1,t.2 * u.2):=by
 unfold prodL at h;obtain⟨t,ht,h⟩:=List.mem_flatMap.mp h;unfold rowL at h;obtain⟨u,hu,e⟩:=List.mem_map.mp h;exact⟨t,ht,u,hu,e.symm⟩
noncomputable def lin (φ : Int→Int):Terms→Int
 | []=>0
 | t :: r => φ t.1 * t.2+lin φ r
theorem lin_append (φ : Int→Int):∀ a b:Terms,lin φ (a++b)=lin φ a+lin φ b
 | [],b=>by simp[lin]
 | t :: r,b=>by rw[List.cons_append,lin,lin,lin_append φ r b];omega
theorem lin_split (φ : Int→Int) (k:Int):∀ l:Terms,lin φ l = φ k * coef l k+lin φ (l.filter fun t=>decide (t.1≠k))
 | []=>by simp[lin,coef]
 | t :: r=>by
  have ih:=lin_split φ k r;rw[lin,coef,ih];by_cases h:t.1=k
  ·rw[if_pos h,List.filter_cons_of_neg (by simp[h]),h,Int.mul_add];omega
  ·rw[if_neg h,List.filter_cons_of_pos (by simp[h]),lin,Int.zero_add];omega
theorem coef_filter (k j:Int):∀ l:Terms,coef (l.filter fun t=>decide (t.1≠k)) j=if j=k then 0 else coef l j
 | []=>by simp[coef]
 | t :: r=>by
  have ih:=coef_filter k j r;by_cases h:t.1=k
  ·rw[List.filter_cons_of_neg (by simp[h]),ih,coef];by_cases hj:j=k
   ·simp[hj]
   ·rw[if_neg hj,if_neg hj,if_neg (by omega)];omega
  ·rw[List.filter_cons_of_pos (by simp[h]),coef,coef,ih];by_cases hj:j=k
   ·rw[if_pos hj,if_pos hj,if_neg (by omega)];rfl
   ·rw[if_neg hj,if_neg hj]
theorem lin_zero (φ : Int→Int):∀ (n:Nat) (l:Terms),l.length≤n→(∀ k,coef l k=0)→lin φ l=0
 | _,[],_,_=>rfl
 | 0,t :: r,h,_=>by simp at h
 | n+1,t :: r,h,hc=>by
  rw[lin_split φ t.1,hc,Int.mul_zero,Int.zero_add];have e:((t :: r).filter fun u=>decide (u.1≠t.1))=r.filter fun u=>decide (u.1≠t.1):=List.filter_cons_of_neg (by simp)
  rw[e];refine lin_zero φ n _ ?_ fun k=>?_
  ·have:=List.length_filter_le (fun u:Int × Int=>decide (u.1≠t.1)) r
   rw[List.length_cons] at h;omega
  ·rw[← e,coef_filter];split
   ·rfl
   ·exact hc k
theorem lin_neg (φ : Int→Int):∀ l:Terms,lin φ (l.map fun p=>(p.1,-p.2)) = -lin φ l
 | []=>rfl
 | t :: r=>by
  rw[List.map_cons,lin,lin,lin_neg φ r];show φ t.1 * -t.2 + -lin φ r=_;rw[Int.mul_neg];omega
theorem lin_congr (φ : Int→Int) {l m:Terms} (h:∀ k,coef l k=coef m k):lin φ l=lin φ m:=by
 have:=lin_zero φ _ (l++m.map fun p=>(p.1,-p.2)) (Nat.le_refl _) fun k=>by rw[coef_append,coef_neg,h];omega
 rw[lin_append,lin_neg] at this;omega
theorem lin_mulr (φ : Int→Int) (c:Int):∀ l:Terms,lin φ (l.map fun p=>(p.1,p.2 * c))=lin φ l * c
 | []=>by simp[lin]
 | t :: r=>by rw[List.map_cons,lin,lin,lin_mulr φ c r,Int.add_mul,Int.mul_assoc]
noncomputable def phi (g k:Int):Int:=if Builtin.bitAnd k g=k then 1 else 0
theorem worth_lin (g:Int):∀ l:Terms,worthL l g=lin (phi g) l
 | []=>rfl
 | t :: r=>by
  have ih:=worth_lin g r;unfold worthL at ih ⊢;rw[lin,← ih,phi];by_cases h:Builtin.bitAnd t.1 g=t.1
  ·rw[if_pos h,List.filter_cons_of_pos (by simp[h]),List.map_cons,List.sum_cons,Int.one_mul]
  ·rw[if_neg h,List.filter_cons_of_neg (by simp[h]),Int.zero_mul,Int.zero_add]
theorem worth_congr {l m:Terms} (g:Int) (h:∀ k,coef l k=coef m k):worthL l g=worthL m g:=by rw[worth_lin,worth_lin,lin_congr _ h]
theorem lin_prod {φ : Int→Int}:∀ (l m:Terms),(∀ t∈l,∀ u∈m,φ (Builtin.bitOr t.1 u.1) = φ t.1 * φ u.1)→lin φ (prodL l m)=lin φ l * lin φ m
 | [],m,_=>by simp[prodL,lin]
 | t :: l,m,h=>by
  have ih:=lin_prod l m fun t' ht' u hu=>h t' (by simp[ht']) u hu
  have e:prodL (t :: l) m=rowL t m++prodL l m:=by unfold prodL;rw[List.flatMap_cons]
  rw[e,lin_append,ih,lin,Int.add_mul];congr 1;have hr:∀ m':Terms,(∀ u∈m',φ (Builtin.bitOr t.1 u.1) = φ t.1 * φ u.1)→lin φ (rowL t m') = φ t.1 * t.2 * lin φ m':=by
   intro m';induction m' with
   | nil=>intro _;simp[rowL,lin]
   | cons u r ihr =>
    intro hu;have e2:rowL t (u :: r)=(Builtin.bitOr t.1 u.1,t.2 * u.2) :: rowL t r:=rfl;rw[e2,lin,ihr fun v hv=>hu v (by simp[hv]),hu u (by simp),lin,Int.mul_add];congr 1;show φ t.1 * φ u.1 * (t.2 * u.2)=_;rw[Int.mul_assoc,Int.mul_assoc,Int.mul_left_comm (φ u.1)]
  exact hr m fun u hu=>h t (by simp) u hu
theorem nat_or_sub (a b g:Nat):(a ||| b) &&& g=(a ||| b)↔a &&& g=a∧b &&& g=b:=by
 constructor
 ·intro h;constructor
  ·apply Nat.eq_of_testBit_eq;intro j
   have:=congrArg (fun x=>x.testBit j) h
   simp only[Nat.testBit_and,Nat.testBit_or] at this;rw[Nat.testBit_and]
   revert this
   cases a.testBit j <;> cases b.testBit j <;> cases g.testBit j <;> simp
  ·apply Nat.eq_of_testBit_eq;intro j
   have:=congrArg (fun x=>x.testBit j) h
   simp only[Nat.testBit_and,Nat.testBit_or] at this;rw[Nat.testBit_and]
   revert this
   cases a.testBit j <;> cases b.testBit j <;> cases g.testBit j <;> simp
 ·rintro⟨h1,h2⟩;apply Nat.eq_of_testBit_eq;intro j;have e1:=congrArg (fun x=>x.testBit j) h1;have e2:=congrArg (fun x=>x.testBit j) h2;simp only[Nat.testBit_and] at e1 e2;rw[Nat.testBit_and,Nat.testBit_or]
  revert e1 e2
  cases a.testBit j <;> cases b.testBit j <;> cases g.testBit j <;> simp
theorem bitAnd_nat (a b:Nat):Builtin.bitAnd (a:Int) (b:Int)=((a &&& b:Nat):Int):=by
 have:=PyProof.Rows.bitAnd_pp (x:=(a:Int)) (y:=(b:Int)) (Int.natCast_nonneg _) (Int.natCast_nonneg _)
 simpa using this
theorem bitOr_nat (a b:Nat):Builtin.bitOr (a:Int) (b:Int)=((a ||| b:Nat):Int):=by
 have:=bitOr_pp (x:=(a:Int)) (y:=(b:Int)) (Int.natCast_nonneg _) (Int.natCast_nonneg _)
 simpa using this
theorem phi_or {a b g:Int} (ha:0≤a) (hb:0≤b) (hg:0≤g):phi g (Builtin.bitOr a b)=phi g a * phi g b:=by
 obtain⟨a,rfl⟩:=Int.eq_ofNat_of_zero_le ha;obtain⟨b,rfl⟩:=Int.eq_ofNat_of_zero_le hb;obtain⟨g,rfl⟩:=Int.eq_ofNat_of_zero_le hg;unfold phi;rw[bitOr_nat,bitAnd_nat,bitAnd_nat,bitAnd_nat];have h:=nat_or_sub a b g;have c:∀ x:Nat,(((x &&& g:Nat):Int)=(x:Int))↔x &&& g=x:=fun x=>by omega
 simp only[c];by_cases h1:a &&& g=a
 ·by_cases h2:b &&& g=b
  ·rw[if_pos (h.mpr ⟨h1,h2⟩),if_pos h1,if_pos h2];rfl
  ·rw[if_neg (fun z=>h2 (h.mp z).2),if_neg h2,Int.mul_zero]
 ·rw[if_neg (fun z=>h1 (h.mp z).1),if_neg h1,Int.zero_mul]
theorem coef_lin (l:Terms) (k:Int):coef l k=lin (fun j=>if j=k then 1 else 0) l:=by
 induction l with
 | nil=>rfl
 | cons t r ih =>
  rw[coef,lin,ih];split <;> simp_all
end OF
namespace L2
open PySem PySem.Spec PyProof.Rows
theorem Inv.turnedT {X:Cx}{pins:List (Addr × Obj)} {σ:St}{H:Hp}{s:Shared}{h':Heap}{t':Nat}{e it T:Addr}{o:HO} (I:Inv X pins σ H s) (k:∀ b u,b≠e→b≠it→s.heap.get? b=some u→h'.get? b=some u)
  (fe:FpOk X pins H e) (fi:FpOk X pins H it) (hT:s.heap.objs.size≤T) (new:ObjOk X.prog X.w (upd H T o) h' T o):Inv X pins σ (upd H T o) { s with heap:=h',toks:=t' }:=by
 have hn:H T=none:=I.hok.fresh hT;have ne1:∀ b u,H b=some u→b≠e∧b≠it:=fun b u q=>⟨ne_of_none q fe.1,ne_of_none q fi.1⟩
 have nm:∀ b,b ∉ [e,it]→b≠e∧b≠it:=fun b hb=>⟨fun z=>hb (by simp[z]),fun z=>hb (by simp[z])⟩
 have lt:∀ b u,s.heap.get? b=some u→b≠T:=fun b u q=>Nat.ne_of_lt (Nat.lt_of_lt_of_le (Heap.lt_size q) hT)
 refine I.step (g':=s.gens) (d':=s.drawn) (ch:=[e,it]) (fun b hb=>?_) (fun b u _ _ hc q _=>k b u (nm b hc).1 (nm b hc).2 q) (fun b u _ _ hc q _=>⟨u.slots,k b u (nm b hc).1 (nm b hc).2 q⟩) (fun b u _ q n=>by rw[upd_ne (lt b u q)];exact n)
  (fun b u hc q=>⟨u,k b u (nm b hc).1 (nm b hc).2 q⟩) (fun b xs q=>by rw[upd_ne (ne_of_none q hn)];exact q) (fun b u xs q=>by rw[upd_ne (ne_of_none q hn)];exact q) (fun b ps q=>⟨#[],by rw[upd_ne (ne_of_none q hn),q];simp⟩) (fun m hm=>?_) (fun b u q=>?_) I.bare
 ·rcases List.mem_cons.mp hb with z | z
  ·subst z;exact⟨fe.2.2.2.1,fe.2.1,fe.2.2.2.2.1,fe.2.2.2.2.2⟩
  ·have z':b=it:=by simpa using z
   subst z';exact⟨fi.2.2.2.1,fi.2.1,fi.2.2.2.2.1,fi.2.2.2.2.2⟩
 ·obtain⟨u,es,ep,ho,r⟩:=hm;exact⟨u,es,ep,k _ u (Ne.symm fe.2.1) (Ne.symm fi.2.1) ho,r⟩
 ·by_cases hb:b=T
  ·subst hb;rw[upd_same] at q;cases q;exact new
  ·rw[upd_ne hb] at q;refine (I.hok b u q).stay (fun c v hc z=>?_) (fun c z=>by rw[upd_ne (ne_of_none z hn)];exact z) fun c xs z=>by rw[upd_ne (ne_of_none z hn)];exact z
   rcases hc with w | w
   ·rw[w] at z ⊢;exact k b v (ne1 b u q).1 (ne1 b u q).2 z
   ·exact k c v (ne1 c _ w).1 (ne1 c _ w).2 z
noncomputable def Ite (K:PySem.W.Frag) (a:Addr):It :=
 ⟨fun i H=>∃ xs x,SqL K H a xs∧xs[i]? = some x,fun i H y H'=>∃ T x,H T=none∧y = .ref T∧H'=upd H T (.tup [.int (i:Nat),x])∧∀ xs,SqL K H a xs→xs[i]? = some x,fun i H=>∃ xs,SqL K H a xs∧xs.length≤i⟩
theorem turn_enum {P:Program}{w:World}{K:PySem.W.Frag}{elts:List Expr}{x1:Nat}{pos:Pos} (a e it:Addr) (hei:e≠it):Turn P w K (.Tuple elts x1 pos) (Ite K a) [e,it] e (fun i h=>(∃ old,IsEnum h e it i old)∧h.IsListIter it a i) where
 mem:=by simp
 obj:=fun i h st b hb=>by
  obtain⟨⟨old,he⟩,o,ho,c,d⟩:=st;rcases List.mem_cons.mp hb with z | z
  ·subst z;exact⟨_,he,fun v z=>by cases z⟩
  ·have z':b=it:=by simpa using z
   subst z';exact⟨o,ho,fun v z=>by rw[d] at z;cases z⟩
 keep:=fun i h h' st k=>by
  obtain⟨⟨old,he⟩,hit⟩:=st;exact⟨⟨old,k e (by simp) _ he⟩,hit.at fun o q=>k it (by simp) o q⟩
 item:=by
  intro X hP hw hK hc i pins s σ H E I hf st hg;subst hP hw hK;obtain⟨⟨old,he⟩,hit⟩:=st;obtain⟨xs,x,hq,hx⟩:=hg;obtain⟨its,rv,p,hz⟩:=I.list hq;obtain⟨u,hu,ru⟩:=rv.get hx;have fe:=hf e (by simp);have fi:=hf it (by simp);refine wpAny_pyNext_enum_item he hit p.isList (x:=u) (by simpa using hu) hei fun h1 ho hit1 hT hsz k1=>⟨_,rfl,?_⟩
  have helt:e<s.heap.objs.size:=Heap.lt_size he;have hTe:s.heap.objs.size≠e:=Nat.ne_of_gt helt;have hil:it<s.heap.objs.size:=by obtain⟨o,q,_⟩:=hit;exact Heap.lt_size q
  refine wpAny_letOwnedTupleGo_enum ho fun h2 he2 sb=>?_
  have kk:∀ b v,b≠e→b≠it→s.heap.get? b=some v→h2.get? b=some v:=fun b v h1' h2' q=>(sb.2 b h1').trans (k1 b v h1' h2' q)
  have hT2:h2.get? s.heap.objs.size=some { cls := .type "tuple",data := .seq #[.int i s.toks,u] }:=(sb.2 _ hTe).trans hT;refine⟨.ref s.heap.objs.size,upd H s.heap.objs.size (.tup [.int (i:Nat),x]),I.turnedT (t':=s.toks+1) kk fe fi (Nat.le_refl _) ⟨by show 2≤sizeLine;decide,[.int i s.toks,u],.cons ⟨_,rfl⟩ (.cons ru .nil),?_⟩,rfl,⟨_,x,I.hok.fresh (Nat.le_refl _),rfl,rfl,fun ys hy=>by rw[I.list_inj hy hq];exact hx⟩,⟨⟨_,by simpa using he2⟩,?_⟩,fun b hb=>?_⟩
  ·exact⟨_,hT2,rfl,0,rfl⟩
  ·exact hit1.at fun o q=>(sb.2 it hei.symm).trans q
  ·rcases List.mem_cons.mp hb with z | z
   ·subst z;rw[upd_ne (Ne.symm hTe)];exact fe.1
   ·have z':b=it:=by simpa using z
    subst z';rw[upd_ne (Nat.ne_of_lt hil)];exact fi.1
 done:=by
  intro X hP hw hK hc i pins s σ H E I hf st hg;subst hP hw hK;obtain⟨⟨old,he⟩,hit⟩:=st;obtain⟨xs,hq,hx⟩:=hg;obtain⟨its,rv,p,hz⟩:=I.list hq;obtain⟨f0,f1,f2,f3,f4,f5⟩:=hf it (by simp);have hl:=rv.length;exact wpAny_pyNext_enum_end (I.ok.hd hc) he hit p.isList (by simp;omega) fun h' eb=>⟨rfl,I.turned (t':=s.toks) (fun b o hb q=>eb b o hb q) f0 f1 f3 f4 f5⟩
 self:=fun _ _ _ _ _ st h=>by
  obtain⟨⟨old,he⟩,_⟩:=st;exact wpAny_pyIter_enum he h
noncomputable def iEnum (K:PySem.W.Frag) (ta:TA):TI:=fun σ H R=>ta σ H fun vs H1=>∃ a,vs=[.ref a]∧(∃ xs,SqL K H1 a xs)∧R (Ite K a) H1
theorem boot_enum:bootBuiltins "enumerate" = some (.type "enumerate"):=by decide +kernel
theorem pi_enum {X:Cx}{elts:List Expr}{x1:Nat}{p0 p pos:Pos}{a:Expr}{ta:TA} (hg:Gl X "enumerate") (hm:X.mg "enumerate" = none) (ha:PA X [a] ta) (hs:starEach [a] X.env=[(false,eval a X.env)]:=by rfl) :
  PI X (.Tuple elts x1 p0) (.Call (.Name "enumerate" p) [a] [] pos) (iEnum X.K ta):=by
 intro pins s σ H R I h;refine Call_ (ld_blt I hg hm boot_enum (PyProof.Rows.callWith_type1 (thn (ha pos pins s σ H _ I h) fun us s1 ⟨vs,H1,I1,r1,q1⟩=>?_) hs rfl));obtain⟨b,rfl,⟨xs,hq⟩,q⟩:=q1;obtain⟨u,rfl,ru⟩:=vals1 r1;cases (show u=Value.ref b from ru);obtain⟨its,rv,p,hz⟩:=I1.list hq;refine call_enumerate_list p.isList fun h' he hit hsz k=>wpAny_pyIter_enum he ?_
 have I2:Inv X pins σ H1 { s1 with heap:=h' }:=I1.kept (t':=s1.toks) k;have hne:s1.heap.objs.size+1≠s1.heap.objs.size:=Nat.succ_ne_self _;refine⟨s1.heap.objs.size+1,[s1.heap.objs.size+1,s1.heap.objs.size],_,_,H1,rfl,I2,turn_enum b _ _ hne,⟨⟨_,he⟩,hit⟩,fun c hc=>?_,q⟩;have fr:∀ c,s1.heap.objs.size≤c→FpOk X pins H1 c:=fun c hc=>I1.fpOk hc (I1.hok.fresh hc)
 rcases List.mem_cons.mp hc with z | z
 ·subst z;exact fr _ (Nat.le_succ _)
 ·have z':c=s1.heap.objs.size:=by simpa using z
  subst z';exact fr _ (Nat.le_refl _)
theorem comp_enum {K:PySem.W.Frag}{a:Addr}{xs:List V}{g:TG}{tc:TT}{te:TE} {σ:St}{H:Hp}{R:List V→Hp→Addr→Prop} (Pv:Nat→List V→St→Hp→Prop) (h0:Pv 0 [] σ H) (hl:∀ i ys σ H,i≤xs.length→Pv i ys σ H→SqL K H a xs∧ys.length≤i) (hz:xs.length≤sizeLine)
  (hs:∀ i x ys σ H T,xs[i]? = some x→Pv i ys σ H→H T=none→g (.ref T) σ (upd H T (.tup [.int (i:Nat),x])) fun σ2 H2=>tc σ2 H2 fun b H3=>if b=true then te σ2 H3 fun y H4=>Pv (i+1) (ys ++ [y]) σ2 H4 else Pv (i+1) ys σ2 H3)
  (hd:∀ ys σ H,Pv xs.length ys σ H→∀ D,H D=none→R ys H D) :
  ∃ W:Nat→Nat→List V→St→Hp→Prop,(∃ m,W 0 m [] σ H)∧∀ i m ys σ H,W i m ys σ H →
   ((Ite K a).stop i H∧∀ D,H D=none→R ys H D) ∨
   ((Ite K a).go i H∧ys.length<sizeLine∧∃ N:List V→St→Hp→Prop,(∀ ys' σ' H',N ys' σ' H'→∃ m',m'<m∧W (i+1) m' ys' σ' H') ∧
    ∀ x H',(Ite K a).yld i H x H'→g x σ H' fun σ2 H2=>tc σ2 H2 fun b H3=>if b=true then te σ2 H3 fun y H4=>N (ys ++ [y]) σ2 H4 else N ys σ2 H3):=by
 refine⟨fun i m ys σ H=>m=xs.length-i∧i≤xs.length∧Pv i ys σ H,⟨xs.length,by simp,Nat.zero_le _,h0⟩,?_⟩;rintro i m ys σ H ⟨rfl,hi,p⟩;have q:=hl i ys σ H hi p;by_cases hlt:i<xs.length
 ·refine .inr ⟨⟨xs,xs[i],q.1,by simp[hlt]⟩,(by omega),Pv (i+1),fun ys' σ' H' p'=>⟨xs.length-(i+1),by omega,rfl,hlt,p'⟩,fun x H' y=>?_⟩;obtain⟨T,z,hT,rfl,rfl,y⟩:=y;exact hs i z ys σ _ T (y xs q.1) p hT
 ·have e:i=xs.length:=by omega
  subst e;exact .inl ⟨⟨xs,q.1,Nat.le_refl _⟩,hd ys σ H p⟩
end L2
namespace L2
open PySem PySem.Spec PyProof.Rows
theorem lk_list_keys:typeLookup (.type "list") "keys" = pure none:=by rw[typeLookup_type,builtinLookup_eq_fast];kernel_rfl
section
variable {prog:Program}{w:World}{A:Around}{E:Value→Shared→Prop}{s:Shared}{a:Addr}
theorem noKeys {its:Array Value}{n:Nat}{sl:Array (Option Value)}{Q:Option Value→Shared→Prop} (hx:s.heap.get? a=some { cls := .type "list",dict:=none,data := .seq its n,slots:=sl }) (hA:A.handled=none)
  (h:∀ h' tk e,Heap.NewExcOf s.heap h' e "AttributeError" → Q none { s with heap:=h',toks:=tk }):wpAny (model prog w) A (getAttr? (.ref a) "keys") Q E s:=by
 obtain⟨hp,g,d,tk,os⟩:=s;have hT:∀ tk',(⟨hp,g,d,tk',os⟩:Shared).TypeIs (.ref a) "list" := fun _=>⟨_,hx,rfl⟩
 have f1:=sub_AttributeError;have f3:=PySem.F.slot_list_getattribute.lookup;have f4:=PySem.F.slot_list_getattribute.bind (.ref a);have f5:=am_list_getattr_none;unfold getAttr? getAttrBy? getAttrBy;repeat (any_goals (first | assumption | exact hT _ | ((with_reducible show wpAny _ _ (call (Value.builtin "list.__getattribute__") _ _) _ _ _);refine call_meets PySem.F.slot_list_getattribute (hT _) am_entry_list_getattribute (PySem.F.args_list_getattribute_2 _ _) (meets_getattribute_miss_list a its n sl "keys" _ lk_list_keys (by decide +kernel) (by decide +kernel)) ⟨hx,hA,fun h' tk' e hx'=>?_⟩) | wp_step))
 obtain⟨t',u',he⟩:=hx'.there;show wpAny _ _ (getattributeRaised _ _ _ _ _ _ _) _ _ _;unfold getattributeRaised;repeat (any_goals (first | assumption | wp_step))
 exact h _ _ _ hx'.of
end
theorem entry_upd_loop:entryFor table "dict.update.loop" = some Builtin.«dict.update.loop» := entryFor_of_tree (by kernel_rfl)
noncomputable def fillI (d:OF.Terms) (l:OF.Terms):OF.Terms:=l.foldl (fun d t=>OF.putI d t.1 t.2) d
section
variable {X:Cx}{pins:List (Addr × Obj)} {σ:St}{H:Hp}
theorem dict_loop {A:Around}{R:Result→Shared→Prop}{l it d:Addr}{ps:List Addr}{tt:OF.Terms} (hh:A.handled=none) (hS:∀ o,SqL X.K (upd H d o) l (ps.map V.ref)) (hP:∀ o,Tups (upd H d o) ps tt) (hF:∀ o,FpOk X pins (upd H d o) it) (hds:(d == sysModules)=false) :
  ∀ (r i:Nat) (kv:OF.Terms) (s:Shared),i+r=tt.length→kv.length+r<sizeLine→Inv X pins σ (upd H d (.dK (kv.map encP))) s→s.heap.IsListIter it l i →
   (∀ s',Inv X pins σ (upd H d (.dK ((fillI kv (tt.drop i)).map encP))) s'→R (.ok (.ret .none)) s') →
   codeAny (model X.prog X.w) A (.builtin "dict.update.loop" ⟨[.ref d,.ref it,rawInt i,.none],[]⟩) R s:=by
 intro r;induction r with
 | zero =>
  intro i kv s hi hz I st q;obtain⟨its,rv,p,hz2⟩:=I.list (hS _);have hl:=rv.length;have hl2:=(hP (.dK (kv.map encP))).length;rw[List.length_map] at hl;obtain⟨f0,f1,f2,f3,f4,f5⟩:=hF (.dK (kv.map encP));refine codeAny_builtin entry_upd_loop ?_;show wpAny _ _ (pyNext (.ref it) >>= _) _ _ _;refine wpAny_bind (wpAny_pyNext_list_end (A:=A.under _) hh st p.isList (by simp;omega) fun h' eb=>?_);refine wpAny_bind (m:=Builtin.Dict.addKeywords d []) (wpAny_pure (wpAny_pure ?_));have I':Inv X pins σ (upd H d (.dK (kv.map encP))) { s with heap:=h' }:=I.turned (t':=s.toks) (fun b o hb e=>eb b o hb e) f0 f1 f3 f4 f5;refine q _ ?_;rw[List.drop_eq_nil_of_le (by omega)];exact I'
 | succ r ih =>
  intro i kv s hi hz I st q;obtain⟨its,rv,p,hz2⟩:=I.list (hS _);have hl2:=(hP (.dK (kv.map encP))).length;have hil:i<tt.length:=by omega
  obtain⟨pa,hpa,hpt⟩:=(hP (.dK (kv.map encP))).at (i:=i) (t:=tt[i]) (by simp[hil]);obtain⟨u,hu,ru⟩:=rv.get (i:=i) (x:=V.ref pa) (by rw[List.getElem?_map,hpa];rfl);cases (show u=Value.ref pa from ru);obtain⟨f0,f1,f2,f3,f4,f5⟩:=hF (.dK (kv.map encP));refine codeAny_builtin entry_upd_loop ?_;show wpAny _ _ (pyNext (.ref it) >>= _) _ _ _;refine wpAny_bind (wpAny_pyNext_list_item st p.isList (x := .ref pa) (by simpa using hu) fun h1 st1 sb=>?_);have I1:Inv X pins σ (upd H d (.dK (kv.map encP))) { s with heap:=h1 }:=I.turned (t':=s.toks) (fun b o hb e=>(sb.2 b hb).trans e) f0 f1 f3 f4 f5;obtain⟨_,its2,r2,t2⟩:=(show ObjOk X.prog X.w _ h1 pa (.tup _) from I1.hok pa _ hpt);obtain⟨x1,x2,rfl⟩:=vals_two r2;obtain⟨ot,ht1,ht2,nt,ht3⟩:=id t2;dsimp only;refine wpAny_bind (wpAny_holding (wpAny_bind (wpAny_tryCatch ?_)));unfold Builtin.Dict.pairItems;refine wpAny_bind (wpAny_typeOf (T := "tuple") ⟨ot,ht1,ht2⟩ ?_);rw[if_pos (by decide)];refine wpAny_bind (wpAny_seqItems ht1 ht3 (wpAny_pure ?_));show wpAny _ _ (holding [Value.int tt[i].1 x1,Value.int tt[i].2 x2] (dictSet d (Value.int tt[i].1 x1) (Value.int tt[i].2 x2))) _ _ _;refine wpAny_holding ?_;obtain⟨z,hd,vs,rel,dd⟩:=dk_of I1.hok (show upd H d (.dK (kv.map encP)) d=some (.dK (kv.map encP)) from upd_same);have hvl:=rel.length;rw[List.length_map] at hvl;refine wpAny_dictSet_pairs (knd:=mixKind X.prog X.w) (k:=Sum.inl tt[i].1) (mixKind_int _ _ _ _) dd (fun h2 dd2 hs2=>?_) (by omega);have hlp:=OF.length_put kv tt[i].1 tt[i].2;have I2:Inv X pins σ (upd (upd H d (.dK (kv.map encP))) d (.dK ((OF.putI kv tt[i].1 tt[i].2).map encP))) { s with heap:=h2,toks:=s.toks+1 }:=by
   refine d_write (s:={ s with heap:=h1 }) I1 (by rw[upd_same];exact True.intro) hs2 (let ⟨q,_,_,hq,_⟩:=dd2; ⟨q,hq⟩) (dk_new (by rw[List.length_map];omega) hd ?_ dd2);rw[← putK_enc];exact rel.put (Sum.inl tt[i].1) ⟨x2,rfl⟩
  rw[upd_upd] at I2;refine wpAny_pure ⟨Code.quiet_builtin _ (by decide +kernel),?_⟩;have hdi:it≠d:=by
   intro z
   have:=(hF (.dK (kv.map encP))).1
   rw[z,upd_same] at this;cases this
  have st2:h2.IsListIter it l (i+1):=st1.at fun o e=>(hs2.2 it hdi).trans e
  show codeAny _ _ (.builtin "dict.update.loop" ⟨[.ref d,.ref it,rawInt ((i:Int)+1),.none],[]⟩) _ _
  have:=ih (i+1) (OF.putI kv tt[i].1 tt[i].2) _ (by omega) (by omega) I2 st2 fun s' I'=>q s' (by
   have e:tt.drop i=tt[i] :: tt.drop (i+1):=List.drop_eq_getElem_cons hil;rw[e];exact I')
  simpa using this
theorem call_dict_of (hc:X.calm=true):CallR X (.type "dict") (fun xs H Q=>∃ (a:Addr) (l:OF.Terms),xs=[.ref a]∧TL X.K H a l∧l.length≤1000000∧∀ d,H d=none→Q (.ref d) (upd H d (.dK ((fillI [] l).map encP)))):=by
 intro pins s σ H xs us Q I r h;obtain⟨a,l,rfl,⟨ps,hS,hP⟩,hz,q⟩:=h;obtain⟨u,rfl,ru⟩:=vals1 r;cases (show u=Value.ref a from ru);have hA:X.A.handled=none:=I.ok.hd hc;refine callType_codes (Q₁:=fun obj s₁=>obj = .ref s.heap.objs.size∧s₁={ s with heap:=s.heap.push { cls := .type "dict",data := .dict #[] } }) PySem.F.kt_called_dict (PySem.F.kt_typeCall_dict_1 _) PySem.F.entry_dict_init (kt_code_dict_new _ ⟨rfl,rfl⟩) ?_;rintro obj s₁ ⟨rfl,rfl⟩;have hnew:(s.heap.push { cls := .type "dict",data := .dict #[] }).DictOf (mixKind X.prog X.w) s.heap.objs.size []:=Heap.DictOf.new s.heap;have I1:Inv X pins σ (upd H s.heap.objs.size (.dK [])) { s with heap:=s.heap.push { cls := .type "dict",data := .dict #[] } } :=
  I.laid (a:=s.heap.objs.size) (o := .dK []) (t':=s.toks) (fun _ _ q=>Heap.get?_push_of_some _ q) (Nat.le_refl _) (dk_empty s.heap I.big)
 have hn:H s.heap.objs.size=none:=I.hok.fresh (Nat.le_refl _);have hds:(s.heap.objs.size == sysModules)=false:=(dk_of I1.hok upd_same).2.1;have hS1:∀ o,SqL X.K (upd H s.heap.objs.size o) a (ps.map V.ref):=fun o=>(Same.upd hn).seq hS
 have hP1:∀ o,Tups (upd H s.heap.objs.size o) ps l:=fun o=>hP.keep fun b xs z=>Same.upd hn b _ z
 generalize hd0:s.heap.objs.size=d at *;refine⟨hnew.typeIs,PySem.F.args_dict_init_2 _ _,?_⟩;unfold Builtin.«dict.__init__»;refine wpAny_bind ?_;unfold Builtin.Dict.selfAndRest;refine wpAny_bind (wpAny_notOrdered_dict hnew.typeIs ?_);show wpAny _ _ (pure (d,[Value.ref a])) _ _ _;refine wpAny_pure ?_;show wpAny _ _ (Builtin.Dict.updateFrom "dict.__init__" d (.ref a) [] .none) _ _ _;unfold Builtin.Dict.updateFrom;obtain⟨its,rv,p,hz2⟩:=I1.list (hS1 _);obtain⟨ol,nl,hl1,hl2,hl3,hl4⟩:=id p;refine wpAny_bind (wpAny_typeOf (T := "list") ⟨ol,hl1,hl2⟩ ?_);rw[if_pos (by decide)];obtain⟨oc,od,odt,osl⟩:=ol;dsimp only at hl2 hl3 hl4;subst hl2 hl3 hl4;refine wpAny_bind (noKeys hl1 hA fun h2 tk e ne=>?_);have I2:Inv X pins σ (upd H d (.dK [])) { s with heap:=h2,toks:=tk }:=I1.kept (t':=tk) fun b o q=>ne.keeps b o q
 obtain⟨its2,rv2,p2,_⟩:=I2.list (hS1 _);rw[if_pos (by rfl)];refine wpAny_bind (wpAny_rule (wpAny_bind (wpAny_pyIter_list p2.isList ?_)));have I3:Inv X pins σ (upd H d (.dK [])) { s with heap:=h2.push { cls := .type "list_iterator",data := .fields #[.ref a,.int 0 0] },toks:=tk }:=I2.kept (t':=tk) fun b o q=>Heap.get?_push_of_some _ q
 have hfr:(upd H d (.dK [])) h2.objs.size=none:=I2.hok.fresh (Nat.le_refl _);have hid:h2.objs.size≠d:=fun z=>by rw[z,upd_same] at hfr;cases hfr
 refine wpAny_pure ⟨Code.quiet_builtin _ (by decide +kernel),?_⟩;show codeAny _ _ (.builtin "dict.update.loop" ⟨[.ref d,.ref h2.objs.size,rawInt ((0:Nat):Int),.none],[]⟩) _ _;refine dict_loop (A:=X.A.in1) (it:=h2.objs.size) hA hS1 hP1 (fun o=>?_) hds l.length 0 [] _ (by omega) ?_ I3 ⟨_,Heap.get?_push_size _ rfl,rfl,rfl⟩ fun s' I'=>?_
 ·have hH:H h2.objs.size=none:=by rw[upd_ne hid] at hfr;exact hfr
  exact I2.fpOk (s:={ s with heap:=h2,toks:=tk }) (Nat.le_refl _) (by rw[upd_ne hid];exact hH)
 ·have:(1000000:Nat)<sizeLine:=by decide
  simp;omega
 ·rw[List.drop_zero] at I';exact⟨rfl,⟨.ref d,_,I',rfl,q d hn⟩⟩
end
end L2
namespace OF
open PySem
noncomputable def opB (s:Int) (j:Nat) (v:Nat→Int):Nat→Int:=fun g=>v g+if g.testBit j then s * v (g-2^j) else 0
theorem sub_eq_xor {g j:Nat} (h:g.testBit j=true):g-2^j=g ^^^ 2^j:=by
 have h1:(g ^^^ 2^j) / 2^j % 2=0:=by
  have:(g ^^^ 2^j).testBit j=false:=by rw[Nat.testBit_xor,h,Nat.testBit_two_pow_self];rfl
  rw[Nat.testBit_eq_decide_div_mod_eq] at this
  have:=of_decide_eq_false this
  omega
 have h2:=add_pow_of_nobit h1;have h3:(g ^^^ 2^j) ||| 2^j=g:=by
  apply Nat.eq_of_testBit_eq;intro i;rw[Nat.testBit_or,Nat.testBit_xor,Nat.testBit_two_pow];by_cases e:j=i
  ·subst e;simp[h]
  ·simp[e]
 omega
theorem sub_bit {g j:Nat} (h:g.testBit j=true) (i:Nat):(g-2^j).testBit i=(g.testBit i && decide (i≠j)):=by
 rw[sub_eq_xor h,Nat.testBit_xor,Nat.testBit_two_pow];by_cases e:j=i
 ·subst e;simp[h]
 ·have e':¬ i=j:=fun z=>e z.symm
  simp[e,e']
theorem opB_comm (s t:Int) {i j:Nat} (hij:i≠j) (v:Nat→Int):opB s i (opB t j v)=opB t j (opB s i v):=by
 funext g
 unfold opB;by_cases hi:g.testBit i=true <;> by_cases hj:g.testBit j=true
 ·have a1:(g-2^i).testBit j=true:=by rw[sub_bit hi,hj];simp[Ne.symm hij]
  have a2:(g-2^j).testBit i=true:=by rw[sub_bit hj,hi];simp[hij]
  have a3:g-2^i-2^j=g-2^j-2^i:=by omega
  simp only[hi,hj,a1,a2,a3,if_true];generalize v (g-2^j-2^i)=w;rw[Int.mul_add,Int.mul_add,Int.mul_left_comm s t w];omega
 ·have a1:(g-2^i).testBit j=false:=by rw[sub_bit hi];simp[hj]
  simp[hi,hj,a1]
 ·have a2:(g-2^j).testBit i=false:=by rw[sub_bit hj];simp[hi]
  simp[hi,hj,a2]
 ·simp[hi,hj]
theorem opB_inv (j:Nat) (v:Nat→Int):opB 1 j (opB (-1) j v)=v:=by
 funext g
 unfold opB;by_cases hj:g.testBit j=true
 ·have a1:(g-2^j).testBit j=false:=by rw[sub_bit hj];simp
  rw[if_pos hj,if_pos hj,a1];simp;omega
 ·simp[hj]
theorem opB_inv' (j:Nat) (v:Nat→Int):opB (-1) j (opB 1 j v)=v:=by
 funext g
 unfold opB;by_cases hj:g.testBit j=true
 ·have a1:(g-2^j).testBit j=false:=by rw[sub_bit hj];simp
  rw[if_pos hj,if_pos hj,a1];simp;omega
 ·simp[hj]
noncomputable def zet (s:Int) (v:Nat→Int):Nat→Nat→Int
 | 0=>v
 | m+1=>opB s m (zet s v m)
theorem zet_op (s t:Int) (v:Nat→Int):∀ (m j:Nat),m≤j→zet s (opB t j v) m=opB t j (zet s v m)
 | 0,_,_=>rfl
 | m+1,j,h=>by
  show opB s m (zet s (opB t j v) m)=opB t j (opB s m (zet s v m));rw[zet_op s t v m j (by omega),opB_comm s t (by omega)]
theorem zet_zet (s t:Int) (h:∀ j v,opB s j (opB t j v)=v) (v:Nat→Int):∀ m,zet s (zet t v m) m=v
 | 0=>rfl
 | m+1=>by
  show opB s m (zet s (opB t m (zet t v m)) m)=v;rw[zet_op s t _ m m (Nat.le_refl _),zet_zet s t h v m,h]
theorem opB_add (s:Int) (j:Nat) (v w:Nat→Int):opB s j (fun g=>v g+w g)=fun g=>opB s j v g+opB s j w g:=by
 funext g
 show v g+w g+(if g.testBit j then s * (v (g-2^j)+w (g-2^j)) else 0)=(v g+if g.testBit j then s * v (g-2^j) else 0)+(w g+if g.testBit j then s * w (g-2^j) else 0);split
 ·rw[Int.mul_add];omega
 ·omega
theorem zet_add (s:Int) (v w:Nat→Int):∀ m,zet s (fun g=>v g+w g) m=fun g=>zet s v m g+zet s w m g
 | 0=>rfl
 | m+1=>by
  show opB s m (zet s (fun g=>v g+w g) m)=_;rw[zet_add s v w m,opB_add];rfl
theorem zet_zero (s:Int):∀ m,zet s (fun _=>0) m=fun _=>0
 | 0=>rfl
 | m+1=>by
  show opB s m (zet s (fun _=>0) m)=_;rw[zet_zero s m];funext g;unfold opB;split <;> simp
noncomputable def SubJ (a g j:Nat):Prop:=(∀ i,i<j→a.testBit i=true→g.testBit i=true)∧∀ i,j≤i→a.testBit i=g.testBit i
open Classical in
theorem zet_delta (a:Nat) (c:Int):∀ (j g:Nat),zet 1 (fun k=>if k=a then c else 0) j g=if SubJ a g j then c else 0
 | 0,g=>by
  have h:SubJ a g 0↔g=a:=by
   constructor
   ·intro h;apply Nat.eq_of_testBit_eq;intro i;exact (h.2 i (Nat.zero_le _)).symm
   ·intro h;subst h;exact⟨fun i hi=>by omega,fun _ _=>rfl⟩
  show (if g=a then c else 0)=_;by_cases e:g=a
  ·rw[if_pos e,if_pos (h.mpr e)]
  ·rw[if_neg e,if_neg (fun z=>e (h.mp z))]
 | j+1,g=>by
  show opB 1 j (zet 1 (fun k=>if k=a then c else 0) j) g=_;unfold opB;rw[zet_delta a c j g];by_cases hg:g.testBit j=true
  ·rw[if_pos hg,zet_delta a c j (g-2^j),Int.one_mul];by_cases ha:a.testBit j=true
   ·have n2:¬ SubJ a (g-2^j) j:=fun z=>by
     have:=z.2 j (Nat.le_refl _)
     rw[sub_bit hg,ha] at this;simp at this
    have e:SubJ a g j↔SubJ a g (j+1):=by
     constructor
     ·intro z;refine⟨fun i hi h=>?_,fun i hi=>z.2 i (by omega)⟩;by_cases q:i<j
      ·exact z.1 i q h
      ·rw[← z.2 i (by omega)];exact h
     ·intro z;refine⟨fun i hi h=>z.1 i (by omega) h,fun i hi=>?_⟩;by_cases q:i=j
      ·subst q;rw[ha,hg]
      ·exact z.2 i (by omega)
    rw[if_neg n2];by_cases q:SubJ a g j
    ·rw[if_pos q,if_pos (e.mp q)];omega
    ·rw[if_neg q,if_neg (fun z=>q (e.mpr z))];omega
   ·have n1:¬ SubJ a g j:=fun z=>by
     have:=z.2 j (Nat.le_refl _)
     rw[hg] at this;exact ha this
    have e:SubJ a (g-2^j) j↔SubJ a g (j+1):=by
     constructor
     ·intro z;refine⟨fun i hi h=>?_,fun i hi=>?_⟩
      ·by_cases q:i<j
       ·have:=z.1 i q h
        rw[sub_bit hg] at this;simp at this;exact this.1
       ·have:i=j:=by omega
        subst this;exact hg
      ·have:=z.2 i (by omega)
       rw[sub_bit hg] at this;rw[this];simp;omega
     ·intro z;refine⟨fun i hi h=>?_,fun i hi=>?_⟩
      ·rw[sub_bit hg,z.1 i (by omega) h];simp;omega
      ·rw[sub_bit hg];by_cases q:i=j
       ·subst q;simp[ha]
       ·rw[z.2 i (by omega)];simp[q]
    rw[if_neg n1];by_cases q:SubJ a (g-2^j) j
    ·rw[if_pos q,if_pos (e.mp q)];omega
    ·rw[if_neg q,if_neg (fun z=>q (e.mpr z))];omega
  ·rw[if_neg hg,Int.add_zero];have e:SubJ a g j↔SubJ a g (j+1):=by
    constructor
    ·intro z;refine⟨fun i hi h=>?_,fun i hi=>z.2 i (by omega)⟩;by_cases q:i<j
     ·exact z.1 i q h
     ·rw[← z.2 i (by omega)];exact h
    ·intro z;refine⟨fun i hi h=>z.1 i (by omega) h,fun i hi=>?_⟩;by_cases q:i=j
     ·subst q;cases ha:a.testBit i with
      | true=>exact absurd (z.1 i (by omega) ha) hg
      | false=>simpa using hg
     ·exact z.2 i (by omega)
   by_cases q:SubJ a g j
   ·rw[if_pos q,if_pos (e.mp q)]
   ·rw[if_neg q,if_neg (fun z=>q (e.mpr z))]
theorem subJ_and {a g m:Nat} (ha:a<2^m) (hg:g<2^m):SubJ a g m↔a &&& g=a:=by
 have hi:∀ {x:Nat},x<2^m→∀ i,m≤i→x.testBit i=false:=fun hx i h=>Nat.testBit_lt_two_pow (Nat.lt_of_lt_of_le hx (Nat.pow_le_pow_right (by decide) h))
 constructor
 ·intro z;apply Nat.eq_of_testBit_eq;intro i;rw[Nat.testBit_and];by_cases q:i<m
  ·cases h:a.testBit i with
   | true=>rw[z.1 i q h];rfl
   | false=>rfl
  ·rw[hi ha i (by omega),hi hg i (by omega)];rfl
 ·intro z;refine⟨fun i _ h=>?_,fun i h=>by rw[hi ha i h,hi hg i h]⟩
  have:=congrArg (fun x=>x.testBit i) z
  simp only[Nat.testBit_and,h] at this;simpa using this
theorem zet_worth {m:Nat}:∀ {l:Terms},(∀ t∈l,0≤t.1∧t.1<2^m)→∀ g,g<2^m→zet 1 (fun k=>coef l (k:Int)) m g=worthL l (g:Int)
 | [],_,g,_=>by
  show zet 1 (fun _=>0) m g=0;rw[zet_zero]
 | t :: r,h,g,hg=>by
  have ih:=zet_worth (l:=r) (fun u hu=>h u (by simp[hu])) g hg;obtain⟨h0,h1⟩:=h t (by simp);obtain⟨a,ha⟩:=Int.eq_ofNat_of_zero_le h0;have ha2:a<2^m:=by
   rw[ha] at h1;have e:((2^m:Nat):Int)=(2:Int)^m:=by norm_cast
   omega
  have e1:(fun k:Nat=>coef (t :: r) (k:Int))=fun k=>(if k=a then t.2 else 0)+coef r (k:Int):=by
   funext k
   rw[coef,ha];by_cases q:k=a
   ·rw[if_pos q,if_pos (by omega)]
   ·rw[if_neg q,if_neg (by omega)]
  rw[e1,zet_add];show zet 1 (fun k=>if k=a then t.2 else 0) m g+zet 1 (fun k=>coef r (k:Int)) m g=_;rw[zet_delta,ih,worth_lin,worth_lin,lin,phi,ha,bitAnd_nat];have e2:=subJ_and ha2 hg;by_cases q:a &&& g=a
  ·rw[if_pos (e2.mpr q),if_pos (by omega),Int.one_mul]
  ·rw[if_neg (fun z=>q (e2.mp z)),if_neg (by omega),Int.zero_mul]
noncomputable def getN (ns:List Int) (p:Nat):Int:=ns.getD p 0
noncomputable def onceL (s:Int) (j:Nat) (ns:List Int):List Int:=(List.range ns.length).map (opB s j (getN ns))
theorem onceL_len (s:Int) (j:Nat) (ns:List Int):(onceL s j ns).length=ns.length:=by unfold onceL;simp
theorem getN_map {n:Nat} (v:Nat→Int) {p:Nat} (h:p<n):getN ((List.range n).map v) p=v p:=by
 unfold getN;rw[List.getD_eq_getElem?_getD,List.getElem?_map,List.getElem?_range h];rfl
theorem opB_congr {s:Int}{j n:Nat}{v w:Nat→Int} (h:∀ p,p<n→v p=w p) {g:Nat} (hg:g<n):opB s j v g=opB s j w g:=by
 unfold opB;rw[h g hg,h (g-2^j) (Nat.lt_of_le_of_lt (Nat.sub_le _ _) hg)]
theorem onceL_map (s:Int) (j n:Nat) (v:Nat→Int):onceL s j ((List.range n).map v)=(List.range n).map (opB s j v):=by
 unfold onceL;rw[List.length_map,List.length_range];refine List.map_congr_left fun p hp=>?_
 have hp':=List.mem_range.mp hp;exact opB_congr (n:=n) (fun q hq=>getN_map v hq) hp'
theorem list_as_map (ns:List Int):ns=(List.range ns.length).map (getN ns):=by
 refine List.ext_getElem (by simp) fun i h1 h2=>?_
 simp[getN,h1]
noncomputable def zetL (s:Int) (ns:List Int):Nat→List Int
 | 0=>ns
 | j+1=>onceL s j (zetL s ns j)
theorem zetL_map (s:Int) (n:Nat) (v:Nat→Int):∀ j,zetL s ((List.range n).map v) j=(List.range n).map (zet s v j)
 | 0=>rfl
 | j+1=>by rw[zetL,zetL_map s n v j,onceL_map];rfl
theorem zetL_len (s:Int) (ns:List Int):∀ j,(zetL s ns j).length=ns.length
 | 0=>rfl
 | j+1=>by rw[zetL,onceL_len,zetL_len s ns j]
theorem look_fill:∀ (l d:Terms),(l.map (·.1)).Nodup→(∀ t∈l,look d t.1=none)→∀ k,look (L2.fillI d l) k=(look l k).or (look d k)
 | [],d,_,_,k=>by simp[L2.fillI,look]
 | t :: r,d,hn,hd,k=>by
  rw[List.map_cons,List.nodup_cons] at hn;have e:L2.fillI d (t :: r)=L2.fillI (putI d t.1 t.2) r:=rfl;have hne:∀ u∈r,¬ u.1=t.1:=fun u hu z=>hn.1 (List.mem_map.mpr ⟨u,hu,z⟩)
  rw[e,look_fill r _ hn.2 (fun u hu=>by rw[look_put,if_neg (hne u hu)];exact hd u (by simp[hu])),look_put,look];by_cases q:t.1=k
  ·have hr:look r k=none:=by
    cases z:look r k with
    | none=>rfl
    | some x =>
     obtain⟨u,hu,eu⟩:=List.mem_map.mp (look_mem.mp (by rw[z];simp));exact absurd (eu.trans q.symm) (hne u hu)
   rw[hr,if_pos q.symm,if_pos q];rfl
  ·rw[if_neg (fun z=>q z.symm),if_neg q]
theorem look_coef:∀ {l:Terms},(l.map (·.1)).Nodup→∀ k,(look l k).getD 0=coef l k
 | [],_,_=>rfl
 | t :: r,hn,k=>by
  rw[List.map_cons,List.nodup_cons] at hn;have ih:=look_coef hn.2 k;rw[look,coef];by_cases q:t.1=k
  ·have hr:coef r k=0:=coef_none r k fun p hp z=>hn.1 (List.mem_map.mpr ⟨p,hp,z.trans q.symm⟩)
   rw[if_pos q,if_pos q,hr];simp
  ·rw[if_neg q,if_neg q,ih];omega
theorem form_nodup {f:Terms} (h:IsForm f):(f.map (·.1)).Nodup:=by
 rw[List.Nodup,List.pairwise_map];exact h.rise.imp fun h=>by omega
theorem fill_coef {f:Terms} (h:IsForm f) (k:Int):getI (L2.fillI [] f) k=coef f k:=by
 unfold getI;rw[look_fill f [] (form_nodup h) (fun _ _=>rfl),← look_coef (form_nodup h) k];cases look f k <;> rfl
theorem and_pow (i j:Nat):i &&& 2^j=if i.testBit j then 2^j else 0:=by
 apply Nat.eq_of_testBit_eq;intro k;rw[Nat.testBit_and,Nat.testBit_two_pow];by_cases e:j=k
 ·subst e;cases h:i.testBit j <;> simp
 ·cases h:i.testBit j <;> simp[e]
end OF
namespace My
open PySem L2 OF
theorem tt {σ:St}{H:Hp}{F G:Hp→Prop} (h:F H):tTrue σ H fun b H3=>if b=true then F H3 else G H3:=by
 show (if true=true then F H else G H);rw[if_pos rfl];exact h
end My
namespace L2
open PySem OF
noncomputable def enumT (ns:List Int):Terms:=(List.range ns.length).map fun i:Nat=>((i:Int),getN ns i)
theorem coef_run (v:Nat→Int) (k:Int):∀ n:Nat,coef ((List.range n).map fun i:Nat=>((i:Int),v i)) k=if 0≤k∧k<(n:Int) then v k.toNat else 0
 | 0=>by
  rw[if_neg (by omega)];rfl
 | n+1=>by
  rw[List.range_succ,List.map_append];show coef (_ ++ [((n:Int),v n)]) k=_;rw[coef_snoc,coef_run v k n];by_cases h:(n:Int)=k
  ·rw[if_neg (by omega),if_pos h,if_pos (by omega),← h];simp
  ·by_cases h2:0≤k∧k<(n:Int)
   ·rw[if_pos h2,if_neg h,if_pos (by omega)];simp
   ·rw[if_neg h2,if_neg h,if_neg (by omega)];rfl
theorem enumT_map (n:Nat) (v:Nat→Int):enumT ((List.range n).map v)=(List.range n).map fun i:Nat=>((i:Int),v i):=by
 unfold enumT;rw[List.length_map,List.length_range];exact List.map_congr_left fun i hi=>by rw[getN_map v (List.mem_range.mp hi)]
theorem form_worths {m:Nat}{f l:Terms} (hl:∀ t∈l,0≤t.1∧t.1<2^m) {ns:List Int} (hn:ns=(List.range (2^m)).map fun g:Nat=>worthL l (g:Int)) (h:FormOf f (enumT (zetL (-1) ns m))) (k:Int):coef f k=coef l k:=by
 have e1:ns=(List.range (2^m)).map (zet 1 (fun k=>coef l (k:Int)) m):=by
  rw[hn];exact List.map_congr_left fun g hg=>(zet_worth hl g (List.mem_range.mp hg)).symm
 rw[h.val k,e1,zetL_map,zet_zet (-1) 1 opB_inv' _ m,enumT_map,coef_run];have pw:((2^m:Nat):Int)=(2:Int)^m:=by norm_cast
 split
 ·rename_i z;rw[Int.toNat_of_nonneg z.1]
 ·rename_i z;refine (coef_none l k fun p hp e=>z ?_).symm
  have:=hl p hp
  rw[← e,pw];exact this
theorem form_table {m:Nat}{f:Terms}{ns:List Int} (hn:ns.length=2^m) (h:FormOf f (enumT (zetL (-1) ns m))):(∀ t∈f,0≤t.1∧t.1<2^m)∧(ns=(List.range (2^m)).map fun g:Nat=>worthL f (g:Int))∧zetL 1 ((List.range (2^m)).map fun k:Nat=>coef f (k:Int)) m=ns:=by
 have e0:ns=(List.range (2^m)).map (getN ns):=by rw[← hn];exact list_as_map ns
 have pw:((2^m:Nat):Int)=(2:Int)^m:=by norm_cast
 have e1:zetL (-1) ns m=(List.range (2^m)).map (zet (-1) (getN ns) m):=by
  conv=>lhs;rw[e0]
  rw[zetL_map]
 have kb:∀ t∈f,0≤t.1∧t.1<2^m:=fun t ht=>by
  have z:=h.src t ht;rw[e1,enumT_map] at z;obtain⟨u,hu,e⟩:=List.mem_map.mp z;obtain⟨i,hi,e'⟩:=List.mem_map.mp hu;rw[← e,← e']
  have:=List.mem_range.mp hi
  show (0:Int)≤(i:Int)∧(i:Int)<2^m;omega
 have cf:(List.range (2^m)).map (fun k:Nat=>coef f (k:Int))=(List.range (2^m)).map (zet (-1) (getN ns) m):=List.map_congr_left fun k hk=>by
  have hk':=List.mem_range.mp hk;rw[h.val,e1,enumT_map,coef_run,if_pos (by omega)];simp
 have e3:zetL 1 ((List.range (2^m)).map fun k:Nat=>coef f (k:Int)) m=ns:=by
  rw[cf,zetL_map,zet_zet 1 (-1) opB_inv _ m,← e0]
 refine⟨kb,?_,e3⟩;rw[zetL_map] at e3;rw[← e3];exact List.map_congr_left fun g hg=>zet_worth kb g (List.mem_range.mp hg)
theorem table_worths {m:Nat}{f:Terms} (hf:∀ t∈f,0≤t.1∧t.1<2^m):zetL 1 ((List.range (2^m)).map fun k:Nat=>coef f (k:Int)) m=(List.range (2^m)).map fun g:Nat=>worthL f (g:Int):=by
 rw[zetL_map];exact List.map_congr_left fun g hg=>zet_worth hf g (List.mem_range.mp hg)
theorem worth_plus (f o:Terms) (g:Int):worthL (f++o) g=worthL f g+worthL o g:=by rw[worth_lin,worth_lin,worth_lin,lin_append]
theorem worth_times {f o:Terms}{g:Int} (hf:∀ t∈f,0≤t.1) (ho:∀ t∈o,0≤t.1) (hg:0≤g):worthL (prodL f o) g=worthL f g * worthL o g:=by
 rw[worth_lin,worth_lin,worth_lin];exact lin_prod f o fun t ht u hu=>phi_or (hf t ht) (ho u hu) hg
end L2
set_option maxHeartbeats 1000000
namespace My
open PySem L2 OF
theorem comp_flt {K:PySem.W.Frag}{a:Addr}{l:Terms}{H:Hp}{tc:TT}{te:TE}{R:List V→Hp→Addr→Prop} (p:Int × Int→Bool) (f:Int × Int→Int × Int) (hT:TL K H a l) (hl:l.length≤1000000) (rest:List (Option V)) {σ:St} (hσ : σ = none :: none :: rest)
  (hc:∀ t∈l,∀ (H2:Hp) (R:Bool→Hp→Prop),Same H H2→R (p t) H2→tc (some (.int t.1) :: some (.int t.2) :: rest) H2 R)
  (he:∀ t∈l,p t=true→∀ (H2:Hp) (R:V→Hp→Prop),Same H H2→(∀ w,H2 w=none→R (.ref w) (upd H2 w (.tup [.int (f t).1,.int (f t).2])))→te (some (.int t.1) :: some (.int t.2) :: rest) H2 R)
  (q:∀ (D:Addr) (ys:List V) (H2:Hp),H D=none→TLo (upd H2 D (.lst ys)) D ((l.filter p).map f)→Same H (upd H2 D (.lst ys))→R ys H2 D) :
  ∃ W:Nat→Nat→List V→St→Hp→Prop,(∃ m,W 0 m [] σ H)∧∀ i m ys σ H,W i m ys σ H →
   ((Itl K a).stop i H∧∀ D,H D=none→R ys H D) ∨
   ((Itl K a).go i H∧ys.length<sizeLine∧∃ N:List V→St→Hp→Prop,(∀ ys' σ' H',N ys' σ' H'→∃ m',m'<m∧W (i+1) m' ys' σ' H') ∧
    ∀ x H',(Itl K a).yld i H x H'→gTup K 2 (gCons (gName 0) (gCons (gName 1) gNil)) x σ H' fun σ2 H2=>tc σ2 H2 fun b H3=>if b=true then te σ2 H3 fun y H4=>N (ys ++ [y]) σ2 H4 else N ys σ2 H3):=by
 obtain⟨ps,hS,hP⟩:=hT;subst hσ;refine comp_list (K:=K) (a:=a) (xs:=ps.map V.ref) (R:=R) (fun i ys σ H2=>∃ (v0 v1:Option V) (qs:List Addr),σ = v0 :: v1 :: rest∧ys=qs.map V.ref∧Tups H2 qs (((l.take i).filter p).map f)∧Same H H2)
  ⟨none,none,[],rfl,rfl,.nil,Same.refl _⟩ (fun i ys σ H2 hi ⟨_,_,qs,_,e1,e2,e3⟩=>⟨e3.seq hS,by
   rw[e1,List.length_map,e2.length,List.length_map];exact Nat.le_trans (List.length_filter_le _ _) (by rw[List.length_take];omega)⟩) (by rw[List.length_map,hP.length];exact Nat.le_of_lt (small6 hl)) ?_ ?_
 ·rintro i z ys σ H2 hi ⟨v0,v1,qs,rfl,rfl,g2,g4⟩;obtain⟨b,hqi,rfl⟩:=at_ref hi;obtain⟨t,ht1,ht2⟩:=hP.at' hqi;have htm:=List.mem_of_getElem? ht1;have htk:l.take (i+1)=l.take i ++ [t]:=by rw[List.take_add_one,ht1];rfl
  refine⟨b,_,rfl,SqT.of (g4 _ _ ht2),rfl,_,_,rfl,_,_,rfl,rfl,?_⟩;show tc (some (.int t.1) :: some (.int t.2) :: rest) H2 _;refine hc t htm H2 _ g4 ?_;by_cases hp:p t=true
  ·rw[hp];refine iteY rfl ?_;refine he t htm hp H2 _ g4 fun w hw=>?_
   have s14:Same H2 (upd H2 w (.tup [.int (f t).1,.int (f t).2])):=Same.upd hw;refine⟨_,_,qs ++ [w],rfl,(by rw[List.map_append];rfl),?_,g4.trans s14⟩;rw[htk,List.filter_append,List.map_append];simp only[List.filter_cons,hp,List.filter_nil,if_true,List.map_cons,List.map_nil];exact Tups.snoc (g2.keep fun b xs z=>s14 b _ z) upd_same
  ·refine iteN hp ⟨_,_,qs,rfl,rfl,?_,g4⟩;rw[htk,List.filter_append,List.map_append];simp only[List.filter_cons,hp,List.filter_nil,List.map_nil,List.append_nil];simpa using g2
 ·rintro ys σ H2 ⟨v0,v1,qs,rfl,rfl,g2,g4⟩ w hw;have hfull:l.take (ps.map V.ref).length=l:=by rw[List.length_map,hP.length,List.take_length]
  rw[hfull] at g2;have s14:Same H2 (upd H2 w (.lst (qs.map V.ref))):=Same.upd hw;exact q w _ _ (g4.free hw) ⟨qs,upd_same,g2.keep fun b xs z=>s14 b _ z⟩ (g4.trans s14)
noncomputable def hasB (k:Nat) (t:Int × Int):Bool:=t.1.toNat.testBit k
noncomputable def outL (k:Nat) (l:Terms):Terms:=l.filter fun t => !hasB k t
noncomputable def offL (k:Nat) (l:Terms):Terms:=(l.filter fun t=>hasB k t).map fun t=>(t.1-2^k,t.2)
theorem outL_len (k:Nat) (l:Terms):(outL k l).length≤l.length:=List.length_filter_le _ _
theorem offL_len (k:Nat) (l:Terms):(offL k l).length≤l.length:=by unfold offL;rw[List.length_map];exact List.length_filter_le _ _
theorem out_off_len (k:Nat):∀ l:Terms,(outL k l).length+(offL k l).length=l.length
 | []=>rfl
 | t :: l=>by
  have ih:=out_off_len k l;unfold outL offL at *;by_cases h:hasB k t=true <;> simp_all <;> omega
theorem hasB_and {t:Int × Int} (h:0≤t.1) (k:Nat):Builtin.bitAnd t.1 (2^k)=if hasB k t then 2^k else 0:=by
 have e:((t.1.toNat:Nat):Int)=t.1:=Int.toNat_of_nonneg h;have pw:((2:Int)^k)=((2^k:Nat):Int):=by norm_cast
 unfold hasB;rw[← e,pw,bitAnd_nat,and_pow,Int.toNat_natCast];split <;> rfl
theorem pow_ne (k:Nat):(2:Int)^k≠0:=by
 have pw:((2:Int)^k)=((2^k:Nat):Int):=by norm_cast
 have:=Nat.two_pow_pos k
 omega
theorem hasB_and0 {t:Int × Int} (h:0≤t.1) (k:Nat):decide (V.int (Builtin.bitAnd t.1 (2^k))=V.int 0) = !hasB k t:=by
 rw[hasB_and h];cases hasB k t
 ·simp
 ·have:=pow_ne k
  simp[this]
theorem hasB_ge {t:Int × Int} (h:0≤t.1) {k:Nat} (hb:hasB k t=true):2^k≤t.1:=by
 have e:((t.1.toNat:Nat):Int)=t.1:=Int.toNat_of_nonneg h;have pw:((2:Int)^k)=((2^k:Nat):Int):=by norm_cast
 have:=Nat.ge_two_pow_of_testBit hb
 omega
noncomputable def setB (g k:Nat) (b:Bool):Nat:=if b then (if g.testBit k then g else g+2^k) else (if g.testBit k then g-2^k else g)
theorem setB_bit (g k:Nat) (b:Bool) (i:Nat):(setB g k b).testBit i=if i=k then b else g.testBit i:=by
 unfold setB;by_cases h:g.testBit k=true
 ·cases b
  ·simp only[h,if_true,Bool.false_eq_true,if_false];rw[sub_bit h];by_cases e:i=k <;> simp[e]
  ·simp only[h,if_true];by_cases e:i=k <;> simp[e,h]
 ·have h':g.testBit k=false:=by simpa using h
  cases b
  ·simp only[h',Bool.false_eq_true,if_false];by_cases e:i=k <;> simp[e,h']
  ·simp only[h',if_true,Bool.false_eq_true,if_false];have hd:g / 2^k % 2=0:=by
    rw[Nat.testBit_eq_decide_div_mod_eq] at h'
    have:=of_decide_eq_false h'
    omega
   rw[add_pow_of_nobit hd,Nat.testBit_or,Nat.testBit_two_pow];by_cases e:i=k
   ·simp[e]
   ·have:¬ k=i:=fun z=>e z.symm
    simp[e,this]
theorem sub_iff (a g:Nat):a &&& g=a↔∀ i,a.testBit i=true→g.testBit i=true:=by
 constructor
 ·intro h i hi;rw[← h,Nat.testBit_and] at hi;exact (Bool.and_eq_true _ _ ▸ hi).2
 ·intro h;refine Nat.eq_of_testBit_eq fun i=>?_
  rw[Nat.testBit_and];cases e:a.testBit i
  ·rfl
  ·rw[h i e];rfl
theorem set_and (a g k:Nat) (b:Bool):(a &&& setB g k b=a)↔(if a.testBit k then b=true∧(a-2^k) &&& g=a-2^k else a &&& g=a):=by
 rw[sub_iff];by_cases h:a.testBit k=true
 ·rw[if_pos h,sub_iff];constructor
  ·intro H;refine⟨by have:=H k h;rw[setB_bit,if_pos rfl] at this;exact this,fun i hi=>?_⟩;rw[sub_bit h] at hi;have hi':a.testBit i=true∧i≠k:=by simpa using hi
   have:=H i hi'.1
   rw[setB_bit,if_neg hi'.2] at this;exact this
  ·rintro⟨hb,H⟩ i hi;rw[setB_bit];by_cases e:i=k
   ·rw[if_pos e];exact hb
   ·rw[if_neg e];exact H i (by rw[sub_bit h];simp[hi,e])
 ·rw[if_neg h,sub_iff];constructor
  ·intro H i hi;have e:i≠k:=fun z=>h (z ▸ hi)
   have:=H i hi
   rw[setB_bit,if_neg e] at this;exact this
  ·intro H i hi;have e:i≠k:=fun z=>h (z ▸ hi)
   rw[setB_bit,if_neg e];exact H i hi
theorem phi_nat {g a:Nat}:phi (g:Int) (a:Int)=if a &&& g=a then 1 else 0:=by
 unfold phi;rw[bitAnd_nat];by_cases h:a &&& g=a
 ·rw[if_pos h,if_pos (by rw[h])]
 ·rw[if_neg h,if_neg (by intro z;exact h (by exact_mod_cast z))]
theorem phi_set {t:Int × Int} (h:0≤t.1) (g k:Nat) (b:Bool):phi ((setB g k b:Nat):Int) t.1=if hasB k t then (if b then phi (g:Int) (t.1-2^k) else 0) else phi (g:Int) t.1:=by
 have e:((t.1.toNat:Nat):Int)=t.1:=Int.toNat_of_nonneg h;have pw:((2:Int)^k)=((2^k:Nat):Int):=by norm_cast
 have hs:=set_and t.1.toNat g k b;by_cases hb:hasB k t=true
 ·have hge:=Nat.ge_two_pow_of_testBit hb;have hb':t.1.toNat.testBit k=true:=hb;rw[if_pos hb'] at hs;rw[if_pos hb,← e,pw,phi_nat,show ((t.1.toNat:Nat):Int)-((2^k:Nat):Int)=((t.1.toNat-2^k:Nat):Int) by omega,phi_nat];cases b
  ·rw[if_neg (by rw[hs];simp)];rfl
  ·by_cases h2:(t.1.toNat-2^k) &&& g=t.1.toNat-2^k
   ·rw[if_pos (hs.mpr ⟨rfl,h2⟩),if_pos rfl,if_pos h2]
   ·rw[if_neg (fun z=>h2 (hs.mp z).2),if_pos rfl,if_neg h2]
 ·have hb':¬ t.1.toNat.testBit k=true:=hb;rw[if_neg hb'] at hs;rw[if_neg hb,← e,phi_nat,phi_nat];by_cases h2:t.1.toNat &&& g=t.1.toNat
  ·rw[if_pos (hs.mpr h2),if_pos h2]
  ·rw[if_neg (fun z=>h2 (hs.mp z)),if_neg h2]
theorem lin_set (g k:Nat) (b:Bool):∀ {l:Terms},(∀ t∈l,0≤t.1)→lin (phi ((setB g k b:Nat):Int)) l=lin (phi (g:Int)) (outL k l)+if b then lin (phi (g:Int)) (offL k l) else 0
 | [],_=>by unfold outL offL;cases b <;> rfl
 | t :: l,h=>by
  have ih:=lin_set g k b (l:=l) fun t ht=>h t (List.mem_cons_of_mem _ ht)
  have h0:=phi_set (h t (List.mem_cons_self ..)) g k b;unfold outL offL at *;rw[lin,h0,ih];by_cases hb:hasB k t=true <;> cases b <;> simp[hb,lin] <;> omega
theorem _root_.OF.FormOf.keys {m:Nat}{f l:Terms} (h:FormOf f l) (hl:∀ t∈l,0≤t.1∧t.1<2^m):∀ t∈f,0≤t.1∧t.1<2^m:=fun t ht=>by
 obtain⟨u,hu,e⟩:=List.mem_map.mp (h.src t ht);rw[← e];exact hl u hu
end My
namespace My
open PySem L2 OF
theorem key_lt {m:Nat}{t:Int × Int} (h:0≤t.1∧t.1<2^m):t.1.toNat<2^m:=by
 have pw:((2:Int)^m)=((2^m:Nat):Int):=by norm_cast
 omega
end My
namespace L2
open PySem PySem.Spec PyProof.Rows
section
variable {X:Cx}
noncomputable def rBitLen:V→List V→Hp→VK→Prop:=fun x vs H Q=>∃ n:Int,x = .int n∧vs=[]∧Q (.int (Builtin.Int.intBits n)) H
theorem mt_bit_length:MtM X "int.bit_length" rBitLen:=by
 intro pins s σ H x xs v us Q I rx rv h;obtain⟨n,rfl,rfl,q⟩:=h;obtain⟨t,rfl⟩:=rx;obtain rfl:=rv.zero;exact call_int_bit_length ⟨.int _,H,I.tok _,⟨_,rfl⟩,q⟩
end
end L2
namespace My
open PySem L2 OF
theorem intBits_nat (n:Nat):Builtin.Int.intBits (n:Int)=if n=0 then 0 else n.log2+1:=by
 unfold Builtin.Int.intBits;by_cases h:n=0
 ·subst h;rfl
 ·rw[if_neg h,if_neg (by simp;omega)];rfl
theorem lt_intBits (n:Nat):n<2^Builtin.Int.intBits (n:Int):=by
 rw[intBits_nat];by_cases h:n=0
 ·subst h;decide
 ·rw[if_neg h];exact Nat.lt_log2_self
theorem intBits_lt {n m:Nat} (h:n<2^m):Builtin.Int.intBits (n:Int)≤m:=by
 rw[intBits_nat];by_cases h0:n=0
 ·subst h0;simp
 ·rw[if_neg h0];exact (Nat.log2_lt h0).mpr h
theorem intBits_pow (m:Nat):Builtin.Int.intBits ((2^m:Nat):Int)=m+1:=by
 rw[intBits_nat,if_neg (by have:=Nat.two_pow_pos m;omega),Nat.log2_two_pow]
theorem orAll_bit:∀ (l:Terms) (s j:Nat),(orAll l s).testBit j=true↔s.testBit j=true∨∃ t∈l,t.1.toNat.testBit j=true
 | [],s,j=>by simp[orAll]
 | t :: l,s,j=>by
  rw[orAll,orAll_bit l,Nat.testBit_or,Bool.or_eq_true];constructor
  ·rintro ((h | h) | ⟨u,h1,h2⟩)
   ·exact .inl h
   ·exact .inr ⟨t,List.mem_cons_self ..,h⟩
   ·exact .inr ⟨u,List.mem_cons_of_mem _ h1,h2⟩
  ·rintro (h | ⟨u,h1,h2⟩)
   ·exact .inl (.inl h)
   ·rcases List.mem_cons.mp h1 with z | z
    ·subst z;exact .inl (.inr h2)
    ·exact .inr ⟨u,z,h2⟩
theorem orAll_lt {l:Terms}{m:Nat} (h:∀ t∈l,0≤t.1∧t.1<2^m):orAll l 0<2^m:=by
 refine Nat.lt_pow_two_of_testBit _ fun j hj=>?_
 cases e:(orAll l 0).testBit j
 ·rfl
 ·rcases (orAll_bit l 0 j).mp e with z | ⟨t,h1,h2⟩
  ·simp at z
  ·have:=h t h1
   have pw:((2:Int)^m)=((2^m:Nat):Int):=by norm_cast
   have h3:t.1.toNat<2^j:=Nat.lt_of_lt_of_le (by omega:t.1.toNat<2^m) (Nat.pow_le_pow_right (by decide) hj);rw[Nat.testBit_lt_two_pow h3] at h2;cases h2
end My
namespace L2
open PySem PySem.Spec PyProof.Rows
theorem Inv.turnedN {X:Cx}{pins:List (Addr × Obj)} {σ:St}{H:Hp}{s:Shared}{h':Heap}{t':Nat} (ch:List Addr) (I:Inv X pins σ H s) (k:∀ b u,b ∉ ch→s.heap.get? b=some u→h'.get? b=some u)
  (f:∀ b∈ch,FpOk X pins H b):Inv X pins σ H { s with heap:=h',toks:=t' }:=by
 have out:∀ b u,H b=some u→b ∉ ch:=fun b u q z=>by rw[(f b z).1] at q;cases q
 refine I.step (g':=s.gens) (d':=s.drawn) (ch:=ch) (fun b hb=>⟨(f b hb).2.2.2.1,(f b hb).2.1,(f b hb).2.2.2.2.1,(f b hb).2.2.2.2.2⟩) (fun b u _ _ hc q _=>k b u hc q) (fun b u _ _ hc q _=>⟨u.slots,k b u hc q⟩) (fun _ _ _ _ n=>n)
  (fun b u hc q=>⟨u,k b u hc q⟩) (fun _ _ e=>e) (fun _ _ _ e=>e) (fun b ps e=>⟨#[],by rw[e];simp⟩) (fun m hm=>?_) (fun b u e=>?_) I.bare
 ·obtain⟨u,es,ep,ho,r⟩:=hm;exact⟨u,es,ep,k _ u (fun z=>(f _ z).2.1 rfl) ho,r⟩
 ·refine (I.hok b u e).stay (fun c v hc q=>k c v ?_ q) (fun _ q=>q) fun _ _ q=>q
  rcases hc with z | z
  ·rw[z];exact out b u e
  ·exact out c _ z
theorem Inv.turnedL {X:Cx}{pins:List (Addr × Obj)} {σ:St}{H:Hp}{s:Shared}{h':Heap}{t':Nat}{T:Addr}{o:HO} (ch:List Addr) (I:Inv X pins σ H s) (k:∀ b u,b ∉ ch→s.heap.get? b=some u→h'.get? b=some u)
  (f:∀ b∈ch,FpOk X pins H b) (hT:s.heap.objs.size≤T) (new:ObjOk X.prog X.w (upd H T o) h' T o):Inv X pins σ (upd H T o) { s with heap:=h',toks:=t' }:=by
 have hn:H T=none:=I.hok.fresh hT;have out:∀ b u,H b=some u→b ∉ ch:=fun b u q z=>by rw[(f b z).1] at q;cases q
 have lt:∀ b u,s.heap.get? b=some u→b≠T:=fun b u q=>Nat.ne_of_lt (Nat.lt_of_lt_of_le (Heap.lt_size q) hT)
 have up:∀ {b:Addr}{u:HO},H b=some u→upd H T o b=some u:=fun q=>by rw[upd_ne (ne_of_none q hn)];exact q
 refine I.step (g':=s.gens) (d':=s.drawn) (ch:=ch) (fun b hb=>⟨(f b hb).2.2.2.1,(f b hb).2.1,(f b hb).2.2.2.2.1,(f b hb).2.2.2.2.2⟩) (fun b u _ _ hc q _=>k b u hc q) (fun b u _ _ hc q _=>⟨u.slots,k b u hc q⟩) (fun b u _ q n=>by rw[upd_ne (lt b u q)];exact n)
  (fun b u hc q=>⟨u,k b u hc q⟩) (fun b xs q=>up q) (fun b u xs q=>up q) (fun b ps q=>⟨#[],by rw[up q];simp⟩) (fun m hm=>?_) (fun b u q=>?_) I.bare
 ·obtain⟨u,es,ep,ho,r⟩:=hm;exact⟨u,es,ep,k _ u (fun z=>(f _ z).2.1 rfl) ho,r⟩
 ·by_cases hb:b=T
  ·subst hb;rw[upd_same] at q;cases q;exact new
  ·rw[upd_ne hb] at q;refine (I.hok b u q).stay (fun c v hc z=>?_) (fun c z=>up z) fun c xs z=>up z
   rcases hc with w | w
   ·rw[w] at z ⊢;exact k b v (out b u q) z
   ·exact k c v (out c _ w) z
noncomputable def Itz (K:PySem.W.Frag) (a b:Addr):It :=
 ⟨fun i H=>∃ xs ys x y,SqL K H a xs∧SqL K H b ys∧xs[i]? = some x∧ys[i]? = some y,fun i H v H'=>∃ T x y,H T=none∧v = .ref T∧H'=upd H T (.tup [x,y])∧(∀ xs,SqL K H a xs→xs[i]? = some x)∧∀ ys,SqL K H b ys→ys[i]? = some y,
  fun i H=>∃ xs ys,SqL K H a xs∧SqL K H b ys∧(xs.length≤i∨ys.length≤i)⟩
theorem turn_zip {P:Program}{w:World}{K:PySem.W.Frag}{elts:List Expr}{x1:Nat}{pos:Pos} (a b z TI TO i1 i2:Addr) (D:ZipApart z TI TO i1 i2 a b) :
  Turn P w K (.Tuple elts x1 pos) (Itz K a b) [z,TI,TO,i1,i2] z (fun i h=>IsZip h z TI TO .none∧IsPair h TI (.ref i1) (.ref i2)∧(∃ u v,IsPair h TO u v)∧h.IsListIter i1 a i∧h.IsListIter i2 b i) where
 mem:=by simp
 obj:=fun i h st c hc=>by
  obtain⟨hz,hTI,⟨u,v,hTO⟩,⟨o1,e1,c1,d1⟩,⟨o2,e2,c2,d2⟩⟩:=st;simp only[List.mem_cons,List.not_mem_nil,or_false] at hc;rcases hc with rfl | rfl | rfl | rfl | rfl
  ·exact⟨_,hz,fun v z=>by cases z⟩
  ·exact⟨_,hTI,fun v z=>by cases z⟩
  ·exact⟨_,hTO,fun v z=>by cases z⟩
  ·exact⟨o1,e1,fun v z=>by rw[d1] at z;cases z⟩
  ·exact⟨o2,e2,fun v z=>by rw[d2] at z;cases z⟩
 keep:=fun i h h' st k=>by
  obtain⟨hz,hTI,⟨u,v,hTO⟩,h1,h2⟩:=st;exact⟨k z (by simp) _ hz,k TI (by simp) _ hTI,⟨u,v,k TO (by simp) _ hTO⟩,h1.at fun o q=>k i1 (by simp) o q,h2.at fun o q=>k i2 (by simp) o q⟩
 item:=by
  intro X hP hw hK hc i pins s σ H E I hf st hg;subst hP hw hK;obtain⟨hz,hTI,⟨u,v,hTO⟩,h1,h2⟩:=st;obtain⟨xs,ys,x,y,hq,hq',hx,hy⟩:=hg;obtain⟨its,rv,p,hsz⟩:=I.list hq;obtain⟨its',rv',p',hsz'⟩:=I.list hq';obtain⟨ux,hu,ru⟩:=rv.get hx;obtain⟨uy,hu',ru'⟩:=rv'.get hy;refine wpAny_pyNext_zip_item D hz hTI hTO h1 h2 p.isList p'.isList (x:=ux) (y:=uy) (by simpa using hu) (by simpa using hu') fun h1' hz1 hTO1 hi1 hi2 hT hs1 k1=>⟨_,rfl,?_⟩
  refine wpAny_letOwnedTupleGo_zip hz1 fun h2' hz2 sb=>?_
  have lz:z<s.heap.objs.size:=Heap.lt_size hz;have hTz:s.heap.objs.size≠z:=Nat.ne_of_gt lz;have kk:∀ c o,c ∉ [z,TI,TO,i1,i2]→s.heap.get? c=some o→h2'.get? c=some o:=fun c o hc q=>by
   simp only[List.mem_cons,List.not_mem_nil,or_false,not_or] at hc;exact (sb.2 c hc.1).trans (k1 c o hc.1 hc.2.2.1 hc.2.2.2.1 hc.2.2.2.2 q)
  have hT2:IsPair h2' s.heap.objs.size ux uy:=(sb.2 _ hTz).trans hT;have hTI2:IsPair h2' TI (.ref i1) (.ref i2):=(sb.2 _ D.TIz).trans (k1 _ _ D.TIz D.TITO D.TIi1 D.TIi2 hTI);refine⟨.ref s.heap.objs.size,upd H s.heap.objs.size (.tup [x,y]),I.turnedL (t':=s.toks) _ kk hf (Nat.le_refl _) ⟨by show 2≤sizeLine;decide,[ux,uy],.cons ru (.cons ru' .nil),?_⟩,rfl,⟨_,x,y,I.hok.fresh (Nat.le_refl _),rfl,rfl,fun zs h=>by rw[I.list_inj h hq];exact hx,fun zs h=>by rw[I.list_inj h hq'];exact hy⟩,⟨hz2,hTI2,⟨ux,uy,(sb.2 _ D.TOz).trans hTO1⟩,?_,?_⟩,fun c hc=>?_⟩
  ·exact⟨_,hT2,rfl,0,rfl⟩
  ·exact hi1.at fun o q=>(sb.2 _ D.i1z).trans q
  ·exact hi2.at fun o q=>(sb.2 _ D.i2z).trans q
  ·have hcl:c<s.heap.objs.size:=by
    simp only[List.mem_cons,List.not_mem_nil,or_false] at hc;rcases hc with rfl | rfl | rfl | rfl | rfl
    ·exact lz
    ·exact Heap.lt_size hTI
    ·exact Heap.lt_size hTO
    ·obtain⟨o,q,_⟩:=h1;exact Heap.lt_size q
    ·obtain⟨o,q,_⟩:=h2;exact Heap.lt_size q
   rw[upd_ne (Nat.ne_of_lt hcl)];exact (hf c hc).1
 done:=by
  intro X hP hw hK hc i pins s σ H E I hf st hg;subst hP hw hK;obtain⟨hz,hTI,⟨u,v,hTO⟩,h1,h2⟩:=st;obtain⟨xs,ys,hq,hq',hx⟩:=hg;obtain⟨its,rv,p,hsz⟩:=I.list hq;obtain⟨its',rv',p',hsz'⟩:=I.list hq';have hl:=rv.length;have hl':=rv'.length;refine wpAny_pyNext_zip_end (I.ok.hd hc) D hz hTI hTO h1 h2 p.isList p'.isList ?_ fun h' kk=>⟨rfl,I.turnedN (t':=s.toks) [z,TI,TO,i1,i2] (fun c o hc q=>?_) hf⟩
  ·rcases hx with z | z
   ·left;simp;omega
   ·right;simp;omega
  ·simp only[List.mem_cons,List.not_mem_nil,or_false,not_or] at hc;exact kk c o hc.1 hc.2.2.1 hc.2.2.2.1 hc.2.2.2.2 q
 self:=fun _ _ _ _ _ st h=>wpAny_pyIter_zip st.1 h
noncomputable def iZip (K:PySem.W.Frag) (ta:TA):TI:=fun σ H R=>ta σ H fun vs H1=>∃ a b,vs=[.ref a,.ref b]∧(∃ xs,SqL K H1 a xs)∧(∃ ys,SqL K H1 b ys)∧R (Itz K a b) H1
theorem boot_zip:bootBuiltins "zip" = some (.type "zip"):=by decide +kernel
theorem pi_zip {X:Cx}{elts:List Expr}{x1:Nat}{p0 p pos:Pos}{a b:Expr}{ta:TA} (hg:Gl X "zip") (hm:X.mg "zip" = none) (ha:PA X [a,b] ta) (hs:starEach [a,b] X.env=(false,eval a X.env) :: starEach [b] X.env:=by rfl) (hs2:(backTo pos (starEach [b] X.env)).any (·.1)=false:=by rfl) :
  PI X (.Tuple elts x1 p0) (.Call (.Name "zip" p) [a,b] [] pos) (iZip X.K ta):=by
 intro pins s σ H R I h;refine Call_ (ld_blt I hg hm boot_zip (PyProof.Rows.callWith_type1 (thn (ha pos pins s σ H _ I h) fun us s1 ⟨vs,H1,I1,r1,q1⟩=>?_) hs hs2));obtain⟨l1,l2,rfl,⟨xs,hq⟩,⟨ys,hq'⟩,q⟩:=q1;obtain⟨u,v,rfl,ru,rv⟩:=vals2 r1;cases (show u=Value.ref l1 from ru);cases (show v=Value.ref l2 from rv);obtain⟨its,rx,p,hz⟩:=I1.list hq;obtain⟨its',rx',p',hz'⟩:=I1.list hq';have n1:l1<s1.heap.objs.size:=by obtain⟨o,q,_⟩:=p.isList;exact Heap.lt_size q
 have n2:l2<s1.heap.objs.size:=by obtain⟨o,q,_⟩:=p'.isList;exact Heap.lt_size q
 refine call_zip_2 p.isList p'.isList fun h' hz hTI hTO h1 h2 hsz k=>wpAny_pyIter_zip hz ?_
 have I2:Inv X pins σ H1 { s1 with heap:=h' }:=I1.kept (t':=s1.toks) k;refine⟨_,_,_,_,H1,rfl,I2,turn_zip l1 l2 _ _ _ _ _ (zipApart_new n1 n2),⟨hz,hTI,⟨_,_,hTO⟩,h1,h2⟩,fun c hc=>?_,q⟩;have fr:∀ c,s1.heap.objs.size≤c→FpOk X pins H1 c:=fun c hc=>I1.fpOk hc (I1.hok.fresh hc)
 simp only[List.mem_cons,List.not_mem_nil,or_false] at hc;rcases hc with rfl | rfl | rfl | rfl | rfl <;> exact fr _ (by omega)
theorem comp_zip {K:PySem.W.Frag}{a b:Addr}{xs ys:List V}{g:TG}{tc:TT}{te:TE} {σ:St}{H:Hp}{R:List V→Hp→Addr→Prop} (hxy:xs.length=ys.length) (Pv:Nat→List V→St→Hp→Prop) (h0:Pv 0 [] σ H)
  (hl:∀ i zs σ H,i≤xs.length→Pv i zs σ H→SqL K H a xs∧SqL K H b ys∧zs.length≤i) (hz:xs.length≤sizeLine)
  (hs:∀ i x y zs σ H T,xs[i]? = some x→ys[i]? = some y→Pv i zs σ H→H T=none→g (.ref T) σ (upd H T (.tup [x,y])) fun σ2 H2=>tc σ2 H2 fun b H3=>if b=true then te σ2 H3 fun y H4=>Pv (i+1) (zs ++ [y]) σ2 H4 else Pv (i+1) zs σ2 H3)
  (hd:∀ zs σ H,Pv xs.length zs σ H→∀ D,H D=none→R zs H D) :
  ∃ W:Nat→Nat→List V→St→Hp→Prop,(∃ m,W 0 m [] σ H)∧∀ i m zs σ H,W i m zs σ H →
   ((Itz K a b).stop i H∧∀ D,H D=none→R zs H D) ∨
   ((Itz K a b).go i H∧zs.length<sizeLine∧∃ N:List V→St→Hp→Prop,(∀ zs' σ' H',N zs' σ' H'→∃ m',m'<m∧W (i+1) m' zs' σ' H') ∧
    ∀ x H',(Itz K a b).yld i H x H'→g x σ H' fun σ2 H2=>tc σ2 H2 fun b H3=>if b=true then te σ2 H3 fun y H4=>N (zs ++ [y]) σ2 H4 else N zs σ2 H3):=by
 refine⟨fun i m zs σ H=>m=xs.length-i∧i≤xs.length∧Pv i zs σ H,⟨xs.length,by simp,Nat.zero_le _,h0⟩,?_⟩;rintro i m zs σ H ⟨rfl,hi,p⟩;obtain⟨q1,q2,q3⟩:=hl i zs σ H hi p;by_cases hlt:i<xs.length
 ·have hlt':i<ys.length:=by omega
  refine .inr ⟨⟨xs,ys,xs[i],ys[i],q1,q2,by simp[hlt],by simp[hlt']⟩,(by omega),Pv (i+1),fun ys' σ' H' p'=>⟨xs.length-(i+1),by omega,rfl,hlt,p'⟩,fun x H' y=>?_⟩;obtain⟨T,u,v,hT,rfl,rfl,y1,y2⟩:=y;exact hs i u v zs σ _ T (y1 xs q1) (y2 ys q2) p hT
 ·have e:i=xs.length:=by omega
  subst e;exact .inl ⟨⟨xs,ys,q1,q2,.inl (Nat.le_refl _)⟩,hd zs σ H p⟩
end L2
namespace L2
open PySem PySem.Spec PyProof.Rows
theorem typeCall_range_3 (a b c:Value):checkTypeCall "range" ⟨[a,b,c],[]⟩=pure ():=by kernel_rfl
theorem newCall_range_3 (a b c:Value):checkBuiltinCall "range.__new__" ⟨[.type "range",a,b,c],[]⟩=pure ():=by kernel_rfl
theorem initArgs_range_3 (obj a b c:Value):argsOk "object.__init__" ⟨[obj,a,b,c],[]⟩:=by
 unfold argsOk;rw[signature?_of (id := "object.__init__") (n:=['_','_','t','i','n','i','_','_']) (o:=['t','c','e','j','b','o']) (by kernel_rfl) PySem.F.owner_object];kernel_rfl
section
variable {prog:Program}{w:World}{A:Around}{E:Value→Shared→Prop}{s:Shared}
theorem call_range_3 {a b c:Int}{t u v:Tok}{Q:Value→Shared→Prop} (hc:c≠0) (hd:Builtin.divisionGoesByPylong (b-a) c=false)
  (h:Q (.ref s.heap.objs.size) { s with heap:=s.heap.push { cls := .type "range",data := .fields #[.int a t,.int b u,.int c v] } }) :
  wpAny (model prog w) A (call (.type "range") [.int a t,.int b u,.int c v]) Q E s :=
 callType_new PySem.F.called_range (by decide) (typeCall_range_3 _ _ _) (newCall_range_3 _ _ _) (fun obj=>initArgs_range_3 obj _ _ _) PySem.F.entry_range_new
  (AutoRange.range___new___type_int_int_int_1 a b c t u v PySem.F.called_range.sub (by simp[hc])) ⟨hd,⟨_,Heap.get?_push_size _ rfl,rfl⟩,h⟩
end
noncomputable def Its (lo c:Int) (n:Nat):It:=⟨fun i _=>i<n,fun i H x H'=>H'=H∧x = .int (lo+i * c),fun i _=>n≤i⟩
theorem turn_step {P:Program}{w:World}{K:PySem.W.Frag}{tg:Expr} (it:Addr) (lo c:Int) (n:Nat):Turn P w K tg (Its lo c n) [it] it (fun i h=>IsRangeIter h it (lo+(i:Nat) * c) ((n:Int)-(i:Nat)) c) where
 mem:=by simp
 obj:=fun i h st b hb=>by
  have e:b=it:=by simpa using hb
  subst e;exact⟨_,st,fun v z=>by
   have z':Data.fields _=Data.cell v:=z;cases z'⟩
 keep:=fun i h h' st k=>k it (by simp) _ st
 item:=by
  intro X hP hw hK hc i pins s σ H E I hf st hg;subst hP hw hK;obtain⟨f0,f1,f2,f3,f4,f5⟩:=hf it (by simp);have W:=Walks.range (prog:=X.prog) (w:=X.w) (I.ok.hd hc) it lo c n;refine W.item i s _ _ hg st fun v h' tk hv st' kk=>?_
  obtain⟨t,rfl⟩:=hv;have I1:Inv X pins σ H { s with heap:=h',toks:=tk }:=I.turned (fun b o hb e=>kk b o (by simpa using hb) e) f0 f1 f3 f4 f5;exact⟨_,rfl,go_of (s:={ s with heap:=h',toks:=tk }) (n := "range_iterator") st' rfl rfl (by decide) ⟨.int (lo+i * c),H,I1,⟨t,rfl⟩,⟨rfl,rfl⟩,st',fun b hb=>(hf b hb).1⟩⟩
 done:=by
  intro X hP hw hK hc i pins s σ H E I hf st hg;subst hP hw hK;obtain⟨f0,f1,f2,f3,f4,f5⟩:=hf it (by simp);exact wpAny_pyNext_range_end (I.ok.hd hc) st (by have:n≤i:=hg;omega) fun h' eb=>⟨rfl,I.turned (t':=s.toks) (fun b o hb e=>eb b o hb e) f0 f1 f3 f4 f5⟩
 self:=fun _ _ _ _ _ st h=>wpAny_pyIter_rangeiter st h
section
variable {X:Cx}{tg:Expr}
theorem step_it {pins:List (Addr × Obj)} {σ:St}{H:Hp}{s:Shared}{R:It→Hp→Prop}{E:Value→Shared→Prop}{lo hi c:Int}{n:Nat}{t u v:Tok} (I:Inv X pins σ H s) (hs:Builtin.Range.small lo hi c=true) (hn:Builtin.Range.rangeSize lo hi c=(n:Int))
  (q:R (Its lo c n) H):wpAny (model X.prog X.w) X.A (pyIter (.ref s.heap.objs.size)) (PIE X pins σ tg R) E { s with heap:=s.heap.push { cls := .type "range",data := .fields #[.int lo t,.int hi u,.int c v] } }:=by
 refine wpAny_pyIter_range (IsRange.new ..) hs ?_;have I1:Inv X pins σ H { s with heap:=s.heap.push { cls := .type "range",data := .fields #[.int lo t,.int hi u,.int c v] } }:=I.kept (t':=s.toks) fun b o e=>Heap.get?_push_of_some _ e
 refine⟨(s.heap.push { cls := .type "range",data := .fields #[.int lo t,.int hi u,.int c v] }).objs.size,[(s.heap.push { cls := .type "range",data := .fields #[.int lo t,.int hi u,.int c v] }).objs.size],_,_,H,rfl,
  I1.kept (t':=s.toks) fun b o e=>Heap.get?_push_of_some _ e,turn_step _ lo c n,?_,fun b hb=>?_,q⟩
 ·have e1:lo+((0:Nat):Int) * c=lo:=by simp
  have e2:(n:Int)-((0:Nat):Int)=Builtin.Range.rangeSize lo hi c:=by rw[hn];simp
  show IsRangeIter _ _ (lo+((0:Nat):Int) * c) ((n:Int)-((0:Nat):Int)) c;rw[e1,e2];exact Heap.get?_push_size _ rfl
 ·have e:b=(s.heap.push { cls := .type "range",data := .fields #[.int lo t,.int hi u,.int c v] }).objs.size:=by simpa using hb
  subst e;exact I1.fpOk (Nat.le_refl _) (I1.hok.fresh (Nat.le_refl _))
noncomputable def iRng3 (ta:TA):TI:=fun σ H R=>ta σ H fun vs H1=>∃ (i j c:Int) (n:Nat),vs=[.int i,.int j,.int c]∧c≠0∧Builtin.divisionGoesByPylong (j-i) c=false∧Builtin.Range.small i j c=true∧Builtin.Range.rangeSize i j c=(n:Int)∧R (Its i c n) H1
theorem pi_range3 {a b c:Expr}{ta:TA}{p pos:Pos} (hg:Gl X "range") (hm:X.mg "range" = none) (ha:PA X [a,b,c] ta) (hs:starEach [a,b,c] X.env=[(false,eval a X.env),(false,eval b X.env),(false,eval c X.env)]:=by rfl) (hs2:starEach [b,c] X.env=[(false,eval b X.env),(false,eval c X.env)]:=by rfl) :
  PI X tg (.Call (.Name "range" p) [a,b,c] [] pos) (iRng3 ta):=by
 intro pins s σ H R I h;refine Call_ (ld_blt I hg hm boot_range (PyProof.Rows.callWith_type1 (thn (ha pos pins s σ H _ I h) fun us s1 ⟨vs,H1,I1,r1,q1⟩=>?_) (by rw[hs,hs2]) (by rw[hs2];rfl)));obtain⟨i,j,c,n,e,q1,q0,q2,q3,q⟩:=q1;subst e;cases r1 with
 | cons r rr =>
  cases rr with
  | cons r' rr =>
   cases rr with
   | cons r'' rr =>
    cases rr;obtain⟨t,rfl⟩:=r;obtain⟨t',rfl⟩:=r';obtain⟨t'',rfl⟩:=r'';exact call_range_3 q1 q0 (step_it I1 q2 q3 q)
end
theorem for_step {lo c:Int}{n:Nat}{g:TG}{tb:TS}{D:Ends} {σ:St}{H:Hp} (Pv:Nat→St→Hp→Prop) (h0:Pv 0 σ H)
  (hs:∀ i σ H,i<n→Pv i σ H→g (.int (lo+i * c)) σ H fun σ2 H2=>tb { D with nx:=Pv (i+1),ct:=Pv (i+1),bk:=D.nx } σ2 H2) (hd:∀ σ H,Pv n σ H→D.nx σ H) :
  ∃ W:Nat→Nat→St→Hp→Prop,(∃ m,W 0 m σ H)∧∀ i m σ H,W i m σ H →
   ((Its lo c n).stop i H∧D.nx σ H)∨((Its lo c n).go i H∧∃ N:St→Hp→Prop,(∀ σ' H',N σ' H'→∃ m',m'<m∧W (i+1) m' σ' H')∧∀ x H',(Its lo c n).yld i H x H'→g x σ H' fun σ2 H2=>tb { D with nx:=N,ct:=N,bk:=D.nx } σ2 H2):=by
 refine⟨fun i m σ H=>m=n-i∧i≤n∧Pv i σ H,⟨n,by simp,Nat.zero_le _,h0⟩,?_⟩;rintro i m σ H ⟨rfl,hi,p⟩;by_cases hlt:i<n
 ·refine .inr ⟨hlt,Pv (i+1),fun σ' H' p'=>⟨n-(i+1),by omega,rfl,hlt,p'⟩,fun x H' y=>?_⟩;obtain⟨e,y⟩:=y;subst e y;exact hs i σ _ hlt p
 ·have:i=n:=by omega
  subst this;exact .inl ⟨Nat.le_refl _,hd _ _ p⟩
end L2
namespace L2
open PySem PySem.Spec PyProof.Rows
theorem comp_tup {K:PySem.W.Frag}{a:Addr}{xs:List V}{g:TG}{tc:TT}{te:TE} {σ:St}{H:Hp}{R:List V→Hp→Addr→Prop} (Pv:Nat→List V→St→Hp→Prop) (h0:Pv 0 [] σ H) (hl:∀ i ys σ H,i≤xs.length→Pv i ys σ H→SqT K H a xs∧ys.length≤i) (hz:xs.length≤sizeLine)
  (hs:∀ i x ys σ H,xs[i]? = some x→Pv i ys σ H→g x σ H fun σ2 H2=>tc σ2 H2 fun b H3=>if b=true then te σ2 H3 fun y H4=>Pv (i+1) (ys ++ [y]) σ2 H4 else Pv (i+1) ys σ2 H3)
  (hd:∀ ys σ H,Pv xs.length ys σ H→∀ D,H D=none→R ys H D) :
  ∃ W:Nat→Nat→List V→St→Hp→Prop,(∃ m,W 0 m [] σ H)∧∀ i m ys σ H,W i m ys σ H →
   ((Itt K a).stop i H∧∀ D,H D=none→R ys H D) ∨
   ((Itt K a).go i H∧ys.length<sizeLine∧∃ N:List V→St→Hp→Prop,(∀ ys' σ' H',N ys' σ' H'→∃ m',m'<m∧W (i+1) m' ys' σ' H') ∧
    ∀ x H',(Itt K a).yld i H x H'→g x σ H' fun σ2 H2=>tc σ2 H2 fun b H3=>if b=true then te σ2 H3 fun y H4=>N (ys ++ [y]) σ2 H4 else N ys σ2 H3):=by
 refine⟨fun i m ys σ H=>m=xs.length-i∧i≤xs.length∧Pv i ys σ H,⟨xs.length,by simp,Nat.zero_le _,h0⟩,?_⟩;rintro i m ys σ H ⟨rfl,hi,p⟩;have q:=hl i ys σ H hi p;by_cases hlt:i<xs.length
 ·refine .inr ⟨⟨xs,xs[i],q.1,by simp[hlt]⟩,(by omega),Pv (i+1),fun ys' σ' H' p'=>⟨xs.length-(i+1),by omega,rfl,hlt,p'⟩,fun x H' y=>?_⟩;obtain⟨e,y⟩:=y;subst e;exact hs i x ys σ _ (y xs q.1) p
 ·have e:i=xs.length:=by omega
  subst e;exact .inl ⟨⟨xs,q.1,Nat.le_refl _⟩,hd ys σ H p⟩
end L2
namespace My
open PySem L2 OF
inductive Gate where
 | fix (b:Int) | no (a:Nat) | two (w a b:Nat)
noncomputable def wd:Nat→Str
 | 0 => "and"
 | 1 => "or"
 | _ => "xor"
noncomputable def rowV:Gate→List V
 | .fix b=>[.str "fix",.int b]
 | .no a=>[.str "not",.int (a:Int)]
 | .two w a b=>[.str (wd w),.int (a:Int),.int (b:Int)]
noncomputable def GOk (n:Nat):Gate→Prop
 | .fix b=>b=0∨b=1
 | .no a=>a<n
 | .two w a b=>w<3∧a<n∧b<n
noncomputable def Rws (H:Hp):List Addr→List Gate→Prop:=Paired fun p g=>H p=some (.tup (rowV g))
theorem Rws.length {H:Hp}{ps:List Addr}{l:List Gate} (h:Rws H ps l):ps.length=l.length:=Paired.length h
theorem Rws.keep {H H':Hp}{ps:List Addr}{l:List Gate} (h:Rws H ps l) (k:∀ b xs,H b=some (.tup xs)→H' b=some (.tup xs)):Rws H' ps l:=Paired.mapP h fun p t e=>k p _ e
theorem Rws.at:∀ {H:Hp}{ps:List Addr}{l:List Gate}{i:Nat}{p:Addr},Rws H ps l→ps[i]? = some p→∃ t,l[i]? = some t∧H p=some (.tup (rowV t))
 | _,_,_,0,_,.cons e _,h=>by cases h;exact⟨_,rfl,e⟩
 | _,_,_,i+1,_,.cons _ r,h=>by
  obtain⟨t,h1,h2⟩:=Rws.at (i:=i) r (by simpa using h);exact⟨t,by simpa using h1,h2⟩
theorem Rws.snoc:∀ {H:Hp}{ps:List Addr}{l:List Gate}{p:Addr}{t:Gate},Rws H ps l→H p=some (.tup (rowV t))→Rws H (ps ++ [p]) (l ++ [t])
 | _,_,_,_,_,.nil,e=>.cons e .nil
 | _,_,_,_,_,.cons x r,e=>.cons x (Rws.snoc r e)
noncomputable def RLo (H:Hp) (a:Addr) (l:List Gate):Prop:=∃ ps:List Addr,H a=some (.lst (ps.map V.ref))∧Rws H ps l
theorem RLo.keep {H H':Hp}{a:Addr}{l:List Gate} (h:RLo H a l) (k:Same H H'):RLo H' a l:=let ⟨ps,h1,h2⟩:=h; ⟨ps,k _ _ h1,h2.keep fun b xs e=>k b _ e⟩
noncomputable def say (w:Nat) (x y:Int):Int:=if w=0 then x * y else if w=1 then (if y > x then y else x) else (x+y) % 2
noncomputable def gbit (bs:List Int):Gate→Int
 | .fix b=>b
 | .no a=>1-getN bs a
 | .two w a b=>say w (getN bs a) (getN bs b)
noncomputable def Bit (x:Int):Prop:=x=0∨x=1
theorem say_bit {w:Nat}{x y:Int} (hx:Bit x) (hy:Bit y):Bit (say w x y):=by
 unfold say Bit at *;rcases hx with rfl | rfl <;> rcases hy with rfl | rfl <;> (split; · decide) <;> (split <;> decide)
noncomputable def runG (bs:List Int) (gs:List Gate):List Int:=gs.foldl (fun bs g=>bs ++ [gbit bs g]) bs
theorem runG_snoc (bs:List Int) (gs:List Gate) (g:Gate):runG bs (gs ++ [g])=runG bs gs ++ [gbit (runG bs gs) g]:=by unfold runG;rw[List.foldl_append];rfl
noncomputable def RowsOk (n:Nat) (gs:List Gate):Prop:=∀ i g,gs[i]? = some g→GOk (n+i) g
theorem getN_bit {bs:List Int} (h:∀ x∈bs,Bit x) (i:Nat):Bit (getN bs i):=by
 unfold getN;rw[List.getD_eq_getElem?_getD];cases e:bs[i]? with
 | none=>exact .inl rfl
 | some x=>exact h x (List.mem_of_getElem? e)
theorem gbit_bit {bs:List Int} (h:∀ x∈bs,Bit x) {n:Nat}{g:Gate} (hg:GOk n g):Bit (gbit bs g):=by
 cases g with
 | fix b=>exact hg
 | no a =>
  show Bit (1-getN bs a);rcases getN_bit h a with z | z <;> rw[z]
  ·exact .inr rfl
  ·exact .inl rfl
 | two w a b=>exact say_bit (getN_bit h a) (getN_bit h b)
noncomputable def bitsL (g n:Nat):List Int:=(List.range n).map fun i:Nat=>((g / 2^i % 2:Nat):Int)
theorem bitsL_bit (g n:Nat):∀ x∈bitsL g n,Bit x:=by
 intro x hx;obtain⟨i,_,rfl⟩:=List.mem_map.mp hx
 have:=Nat.mod_lt (g / 2^i) (by decide:2 > 0)
 unfold Bit;omega
theorem bitsL_len (g n:Nat):(bitsL g n).length=n:=by unfold bitsL;simp
theorem runG_ok {n:Nat}{bs:List Int} (hb:∀ x∈bs,Bit x) (hl:bs.length=n) {gs:List Gate} (h:RowsOk n gs):∀ i,i≤gs.length→(runG bs (gs.take i)).length=n+i∧∀ x∈runG bs (gs.take i),Bit x
 | 0,_=>⟨by simpa [runG] using hl,by simpa [runG] using hb⟩
 | i+1,hi=>by
  obtain⟨h1,h2⟩:=runG_ok hb hl h i (by omega);have e:gs[i]? = some gs[i]:=by simp[show i<gs.length by omega]
  have htk:gs.take (i+1)=gs.take i ++ [gs[i]]:=by rw[List.take_add_one,e];rfl
  rw[htk,runG_snoc];refine⟨by rw[List.length_append,h1];rfl,fun x hx=>?_⟩;rcases List.mem_append.mp hx with z | z
  ·exact h2 x z
  ·have e':x=gbit (runG bs (gs.take i)) gs[i]:=by simpa using z
   subst e';exact gbit_bit h2 (h i _ e)
end My
namespace L2
open PySem PySem.Spec PyProof.Rows
section
variable {X:Cx}{e st lo:Expr}{te:TE}{tl to:TO}{p2 pos:Pos}
noncomputable def pickL {α : Type} (c n:Nat) (xs:List α):List α := (List.range n).filterMap fun k=>xs[c+2 * k]?
theorem vals_pick {xs:List V}{us:List Value} (r:Vals xs us) (f:Nat→Nat):∀ ks:List Nat,Vals (ks.filterMap fun k=>xs[f k]?) (ks.filterMap fun k=>us[f k]?)
 | []=>.nil
 | k :: ks=>by
  have ih:=vals_pick r f ks;have hl:=r.length;cases h:xs[f k]? with
  | none =>
   have h2:us[f k]? = none:=by rw[List.getElem?_eq_none_iff] at h ⊢;omega
   rw[List.filterMap_cons_none (f:=fun k=>xs[f k]?) h,List.filterMap_cons_none (f:=fun k=>us[f k]?) h2];exact ih
  | some x =>
   obtain⟨u,hu,ru⟩:=r.get h;rw[List.filterMap_cons_some (f:=fun k=>xs[f k]?) h,List.filterMap_cons_some (f:=fun k=>us[f k]?) hu];exact .cons ru ih
theorem range_two (c n:Nat) (hc:c≤n):sliceRange (c:Int) (n:Int) 2=(List.range ((n-c+1) / 2)).map fun k=>c+2 * k:=by
 unfold sliceRange;have e:(if (2:Int) > 0 then (if (c:Int)<(n:Int) then ((n:Int)-(c:Int)+2-1) / 2 else 0) else (if (c:Int) > (n:Int) then ((c:Int)-(n:Int)-2-1) / (-2) else 0)).toNat=(n-c+1) / 2:=by
  rw[if_pos (by decide)];split <;> omega
 simp only[e];exact List.map_congr_left fun k _=>by omega
theorem pick_two (items:Array Value) (c:Nat) (hc:c≤items.size):slicePick items (some (c:Int)) none (some 2)=(pickL c ((items.size-c+1) / 2) items.toList).toArray:=by
 unfold slicePick;have e:sliceBounds (some (c:Int)) none (some 2) items.size=((c:Int),(items.size:Int),2):=by
  show ((if (2:Int) > 0 then max 0 (min (if (c:Int)<0 then (c:Int)+items.size else (c:Int)) items.size) else _),(if (2:Int) > 0 then (items.size:Int) else -1),(2:Int))=_;have h1:max 0 (min (if (c:Int)<0 then (c:Int)+items.size else (c:Int)) items.size)=(c:Int):=by
   rw[if_neg (by omega)];omega
  rw[h1];rfl
 rw[e,range_two c items.size hc,List.filterMap_map];congr 1;unfold pickL;congr 1
 funext k
 simp
noncomputable def tTwo (K:PySem.W.Frag) (te:TE) (tl to:TO):TE:=fun σ H Q=>te σ H fun x H1=>tl σ H1 fun o1 H2=>to σ H2 fun o H3=>o=some 2∧∃ (c:Nat) (a:Addr) (xs:List V),o1=some (c:Int)∧x = .ref a∧SqL K H3 a xs∧c≤xs.length ∧
 ∀ p,H3 p=none→Q (.ref p) (upd H3 p (.lst (pickL c ((xs.length-c+1) / 2) xs)))
theorem pe_two (he:PE X e te) (hlo:PO X (some lo) tl) (hst:PO X (some st) to):PE X (.Subscript e (.Slice (some lo) none (some st) p2) pos) (tTwo X.K te tl to):=by
 intro pins s σ H Q I h;refine Subscript_ (thn (he pins s σ H _ I h) fun v s1 ⟨x,H1,I1,r1,q1⟩=>?_);refine wpAny_Slice (thn (hlo pins s1 σ H1 _ I1 q1) fun vl s2 ⟨o1,H2,I2,pl,q2⟩=>?_);rw[evalPart_none];refine wpAny_pure (thn (hst pins s2 σ H2 _ I2 q2) fun vk s3 ⟨o,H3,I3,pk,q3⟩=>?_);obtain⟨rfl,c,a,xs,rfl,rfl,hx,hc,q⟩:=q3;cases r1;have I4:Inv X pins σ H3 { s3 with heap:=s3.heap.push { cls := .type "slice",data := .fields #[vl,.none,vk] } }:=I3.kept (t':=s3.toks) fun b ob q=>Heap.get?_push_of_some _ q
 obtain⟨its,r,ht,hz⟩:=I4.list hx;have hlen:=r.length;show wpAny (model X.prog X.w) X.A (subscriptTail e (.Slice (some lo) none (some st) p2) (.ref a) (.ref s3.heap.objs.size)) (EP X pins σ Q) X.xe { s3 with heap:=s3.heap.push { cls := .type "slice",data := .fields #[vl,.none,vk] } };refine tail_any (ops:=[.ref a,.ref s3.heap.objs.size]) ht.isList.typeIs slot_list_getitem.lookup ?_ (by with_unfolding_all rfl);refine wpAny_getItem_list_slice ht.isList (Heap.IsSliceOf.new ..) pl .none pk (by simp) ?_ (by rw[List.size_toArray];omega);rw[pick_two _ c (by rw[List.size_toArray];omega)];refine⟨.ref _,_,I4.laid (o := .lst (pickL c ((xs.length-c+1) / 2) xs)) (t':=s3.toks) (fun b ob q=>Heap.get?_push_of_some _ q) (Nat.le_refl _) ?_,rfl,q _ (I4.hok.fresh (Nat.le_refl _))⟩;refine⟨?_,pickL c ((xs.length-c+1) / 2) its,0,vals_pick r (fun k=>c+2 * k) _,?_⟩
 ·unfold pickL;refine Nat.le_trans (List.length_filterMap_le _ _) ?_;rw[List.length_range];exact Nat.le_trans ((show ∀ n c:Nat,(n-c+1) / 2≤n by omega) _ _) hz
 ·rw[Heap.get?_push_size _ rfl,List.size_toArray,← hlen]
end
end L2
namespace My
open PySem L2 OF
theorem pick_ints (c n:Nat) (ns:List Int) (h:ns.length=2 * n) (hc:c<2):pickL c n (ns.map V.int)=((List.range n).map fun k=>getN ns (2 * k+c)).map V.int:=by
 unfold pickL;rw[List.map_map];have key:∀ ks:List Nat,(∀ k∈ks,k<n)→(ks.filterMap fun k=>(ns.map V.int)[c+2 * k]?)=ks.map (V.int ∘ fun k=>getN ns (2 * k+c)):=fun ks=>by
  induction ks with
  | nil=>intro _;rfl
  | cons k ks ih =>
   intro hk;have hkn:=hk k (List.mem_cons_self ..);have e:(fun k=>(ns.map V.int)[c+2 * k]?) k=some (V.int (getN ns (2 * k+c))):=by
    show (ns.map V.int)[c+2 * k]? = _;rw[List.getElem?_map,List.getElem?_eq_getElem (by omega:c+2 * k<ns.length)];show some (V.int _)=some (V.int _);unfold getN;rw[List.getD_eq_getElem?_getD,show 2 * k+c=c+2 * k by omega,List.getElem?_eq_getElem (by omega:c+2 * k<ns.length)];rfl
   rw[List.filterMap_cons_some (f:=fun k=>(ns.map V.int)[c+2 * k]?) e,ih fun j hj=>hk j (List.mem_cons_of_mem _ hj)];rfl
 exact key _ fun k hk=>List.mem_range.mp hk
noncomputable def stepG (s:Int) (n:Nat) (ns:List Int):List Int:=(List.range n).map (fun k=>getN ns (2 * k))++(List.range n).map fun k=>getN ns (2 * k+1)+s * getN ns (2 * k)
theorem stepG_len (s:Int) (n:Nat) (ns:List Int):(stepG s n ns).length=2 * n:=by unfold stepG;simp;omega
theorem stepG_lo {s:Int}{n g:Nat}{ns:List Int} (h:g<n):getN (stepG s n ns) g=getN ns (2 * g):=by
 unfold getN stepG;rw[List.getD_eq_getElem?_getD,List.getElem?_append_left (by simpa using h),List.getElem?_map,List.getElem?_range h];rfl
theorem stepG_hi {s:Int}{n g:Nat}{ns:List Int} (h:g<n):getN (stepG s n ns) (g+n)=getN ns (2 * g+1)+s * getN ns (2 * g):=by
 conv=>lhs;unfold getN stepG
 rw[List.getD_eq_getElem?_getD,List.getElem?_append_right (by simp),List.length_map,List.length_range,Nat.add_sub_cancel,List.getElem?_map,List.getElem?_range h];rfl
noncomputable def Turned (s:Int) (v:Nat→Int) (m i:Nat) (ns:List Int):Prop:=ns.length=2^m∧∀ a b,a<2^(m-i)→b<2^i→getN ns (a+2^(m-i) * b)=zet s v i (2^i * a+b)
theorem Turned.start (s:Int) (m:Nat) (ns:List Int) (h:ns.length=2^m):Turned s (getN ns) m 0 ns:=by
 refine⟨h,fun a b ha hb=>?_⟩
 have:b=0:=by simpa using hb
 subst this;simp[zet]
theorem bit_top {i a b:Nat} (hb:b<2^i):(2^(i+1) * a+b).testBit i=false∧(2^(i+1) * a+(b+2^i)).testBit i=true:=by
 have p:=Nat.two_pow_pos i;have e:2^(i+1) * a=2^i * (2 * a):=by rw[Nat.pow_succ,Nat.mul_assoc]
 constructor
 ·rw[Nat.testBit_eq_decide_div_mod_eq,e,Nat.mul_add_div p,Nat.div_eq_of_lt hb];simp
 ·rw[Nat.testBit_eq_decide_div_mod_eq,e,Nat.mul_add_div p,show b+2^i=2^i * 1+b by omega,Nat.mul_add_div p,Nat.div_eq_of_lt hb];simp
theorem Turned.next {s:Int}{v:Nat→Int}{m i:Nat}{ns:List Int} (h:Turned s v m i ns) (hi:i<m):Turned s v m (i+1) (stepG s (2^(m-1)) ns):=by
 obtain⟨hl,hv⟩:=h;have em:2^m=2 * 2^(m-1):=by rw[← Nat.pow_succ'];congr 1;omega
 refine⟨by rw[stepG_len,em],fun a b ha hb=>?_⟩;have e1:2^(m-i)=2 * 2^(m-(i+1)):=by rw[← Nat.pow_succ'];congr 1;omega
 have e2:2^(m-1)=2^(m-(i+1)) * 2^i:=by rw[← Nat.pow_add];congr 1;omega
 have e3:2^(i+1)=2 * 2^i:=by rw[Nat.pow_succ']
 have p0:=Nat.two_pow_pos i;generalize hA:2^(m-(i+1))=A at *;generalize hB:2^i=B at *;have hopB:∀ g,zet s v (i+1) g=zet s v i g+if g.testBit i then s * zet s v i (g-2^i) else 0:=fun g=>rfl
 have low:∀ b',b'<B→a+A * b'<2^(m-1):=fun b' h'=>by
  rw[e2]
  have:A * b'+A≤A * B:=by rw[← Nat.mul_succ];exact Nat.mul_le_mul_left _ h'
  omega
 have twice:∀ b',2 * (a+A * b')=2 * a+2^(m-i) * b':=fun b'=>by rw[e1,Nat.mul_add,Nat.mul_assoc]
 rcases Nat.lt_or_ge b B with hb' | hb'
 ·rw[stepG_lo (low b hb'),twice,hv (2 * a) b (by rw[e1];omega) hb',hopB];have ht:=(bit_top (i:=i) (a:=a) (b:=b) (by rw[hB];exact hb')).1;rw[e3,Nat.mul_assoc,Nat.mul_left_comm] at *;rw[show 2 * (B * a)=B * (2 * a) by rw[Nat.mul_left_comm]] at *;simp only[ht,Bool.false_eq_true,if_false,Int.add_zero]
 ·obtain⟨c,rfl⟩:∃ c,b=c+B:=⟨b-B,by omega⟩;have hc:c<B:=by omega
  have pl:a+A * (c+B)=(a+A * c)+2^(m-1):=by rw[e2,Nat.mul_add,Nat.add_assoc]
  rw[pl,stepG_hi (low c hc),twice,show 2 * a+2^(m-i) * c+1=(2 * a+1)+2^(m-i) * c by omega,
   hv (2 * a+1) c (by rw[e1];omega) hc,hv (2 * a) c (by rw[e1];omega) hc,hopB]
  have ht:=(bit_top (i:=i) (a:=a) (b:=c) (by rw[hB];exact hc)).2;rw[e3,hB] at ht;have x1:2 * B * a=B * (2 * a):=by rw[Nat.mul_comm 2 B,Nat.mul_assoc]
  have x2:B * (2 * a+1)+c=2 * B * a+(c+B):=by rw[Nat.mul_add,Nat.mul_one,x1];omega
  have x3:2 * B * a+(c+B)-2^i=B * (2 * a)+c:=by rw[hB,x1];omega
  rw[e3,if_pos ht,x3,x2]
theorem Turned.all {s:Int}{m:Nat}{ns ms:List Int} (h:Turned s (getN ns) m m ms) (hn:ns.length=2^m):ms=zetL s ns m:=by
 obtain⟨hl,hv⟩:=h;have e0:ns=(List.range (2^m)).map (getN ns):=by rw[← hn];exact list_as_map ns
 conv=>rhs;rw[e0]
 rw[zetL_map]
 conv=>lhs;rw[list_as_map ms,hl]
 refine List.map_congr_left fun g hg=>?_
 have:=hv 0 g (by simp) (List.mem_range.mp hg)
 simpa using this
noncomputable def nzL (ns:List Int):Terms:=(enumT ns).filter fun t=>decide (t.2≠0)
theorem enumT_rise (ns:List Int):(enumT ns).Pairwise fun a b=>a.1<b.1:=by
 unfold enumT;rw[List.pairwise_map];exact List.pairwise_lt_range.imp fun {a b} h=>by show (a:Int)<(b:Int);omega
theorem coef_filter_nz (k:Int):∀ l:Terms,coef (l.filter fun t=>decide (t.2≠0)) k=coef l k
 | []=>rfl
 | t :: l=>by
  have ih:=coef_filter_nz k l;rw[List.filter_cons];by_cases h:t.2=0
  ·rw[if_neg (by simp[h]),ih];simp[coef,h]
  ·rw[if_pos (by simp[h])];simp only[coef];rw[ih]
theorem nzL_form (ns:List Int):FormOf (nzL ns) (enumT ns):=by
 refine⟨⟨(enumT_rise ns).filter _,fun t ht=>?_⟩,fun k=>coef_filter_nz k _,fun t ht=>List.mem_map.mpr ⟨t,(List.mem_filter.mp ht).1,rfl⟩⟩;simpa using (List.mem_filter.mp ht).2
theorem nzL_len (ns:List Int):(nzL ns).length≤ns.length:=by
 unfold nzL enumT;refine Nat.le_trans (List.length_filter_le _ _) (by simp)
end My
namespace My
open PySem L2 OF
theorem zet_small {s:Int} (hs:s=1∨s = -1) {v:Nat→Int}{B:Nat} (h:∀ g,(v g).natAbs≤B):∀ i g,(zet s v i g).natAbs≤2^i * B
 | 0,g=>by show (v g).natAbs≤2^0 * B;have:=h g;omega
 | i+1,g=>by
  have h1:=zet_small hs h i g;have h2:=zet_small hs h i (g-2^i);show (opB s i (zet s v i) g).natAbs≤_;unfold opB;have e:2^(i+1) * B=2^i * B+2^i * B:=by rw[Nat.pow_succ];rw[Nat.mul_two,Nat.add_mul]
  rw[e];split
  ·rcases hs with rfl | rfl <;> omega
  ·omega
theorem nz_small {bs:List Int}{m B:Nat} (hl:bs.length=2^m) (h:∀ x∈bs,x.natAbs≤B):Small (2^m * B) (nzL (zetL (-1) bs m)):=by
 intro t ht;have h1:=(List.mem_filter.mp ht).1;have e0:bs=(List.range (2^m)).map (getN bs):=by rw[← hl];exact list_as_map bs
 rw[e0,zetL_map,enumT_map] at h1;obtain⟨i,hi,rfl⟩:=List.mem_map.mp h1;refine zet_small (.inr rfl) (fun g=>?_) m i;unfold getN;rw[List.getD_eq_getElem?_getD];cases e:bs[g]? with
 | none=>simp
 | some x=>exact h x (List.mem_of_getElem? e)
noncomputable def putL (k:Nat) (o l:Terms):Terms:=outL k l++prodL (offL k l) o
theorem offL_mem {k:Nat}{l:Terms}{t:Int × Int} (h0:∀ t∈l,0≤t.1) (h:t∈offL k l):0≤t.1∧∃ u∈l,t.2=u.2∧t.1=u.1-2^k∧hasB k u=true:=by
 obtain⟨u,hu,rfl⟩:=List.mem_map.mp h;obtain⟨h1,h2⟩:=List.mem_filter.mp hu
 have:=hasB_ge (h0 u h1) h2
 exact⟨by show 0≤u.1-2^k;omega,u,h1,rfl,rfl,h2⟩
theorem outL_mem {k:Nat}{l:Terms}{t:Int × Int} (h:t∈outL k l):t∈l∧hasB k t=false:=by
 obtain⟨h1,h2⟩:=List.mem_filter.mp h;exact⟨h1,by simpa using h2⟩
theorem worth_put {g k:Nat}{b:Bool}{l o:Terms} (h:∀ t∈l,0≤t.1) (ho:∀ t∈o,0≤t.1) (hb:worthL o (g:Int)=if b then 1 else 0):worthL (putL k o l) (g:Int)=worthL l ((setB g k b:Nat):Int):=by
 unfold putL;rw[worth_plus,worth_times (fun t ht=>(offL_mem h ht).1) ho (Int.natCast_nonneg _),hb,worth_lin,worth_lin,worth_lin _ l,lin_set g k b h];cases b <;> simp
theorem worth_low {m g:Nat}:∀ {l:Terms},(∀ t∈l,0≤t.1∧t.1<2^m)→worthL l (g:Int)=worthL l ((g % 2^m:Nat):Int)
 | [],_=>rfl
 | t :: l,h=>by
  have ih:=worth_low (g:=g) (l:=l) fun t ht=>h t (List.mem_cons_of_mem _ ht)
  have ht:=h t (List.mem_cons_self ..);have pw:((2:Int)^m)=((2^m:Nat):Int):=by norm_cast
  have e:((t.1.toNat:Nat):Int)=t.1:=Int.toNat_of_nonneg ht.1;rw[worth_lin,worth_lin] at *;rw[lin,lin,ih];congr 1;have e1:phi (g:Int) t.1=phi ((g % 2^m:Nat):Int) t.1:=by
   rw[← e,phi_nat,phi_nat];have hs:t.1.toNat &&& g=t.1.toNat↔t.1.toNat &&& (g % 2^m)=t.1.toNat:=by
    rw[sub_iff,sub_iff];refine forall_congr' fun i=>?_
    constructor
    ·intro H hi;rw[Nat.testBit_mod_two_pow,H hi]
     have:i<m:=by
      rcases Nat.lt_or_ge i m with z | z
      ·exact z
      ·rw[Nat.testBit_lt_two_pow (Nat.lt_of_lt_of_le (by omega:t.1.toNat<2^m) (Nat.pow_le_pow_right (by decide) z))] at hi;cases hi
     simp[this]
    ·intro H hi
     have:=H hi
     rw[Nat.testBit_mod_two_pow] at this;simp at this;exact this.2
   by_cases hc:t.1.toNat &&& g=t.1.toNat
   ·rw[if_pos hc,if_pos (hs.mp hc)]
   ·rw[if_neg hc,if_neg (fun z=>hc (hs.mpr z))]
  rw[e1]
end My
namespace My
open PySem L2 OF
noncomputable def restL (m:Int) (f:Terms):Terms:=f.filter fun t=>decide (t.2 % m≠0)
theorem nat_sub_le {a g:Nat} (h:a &&& g=a):a≤g:=by
 rw[← h];exact Nat.and_le_right
theorem phi_le {a g:Int} (ha:0≤a) (hg:0≤g) (h:g<a):phi g a=0:=by
 obtain⟨x,rfl⟩:=Int.eq_ofNat_of_zero_le ha;obtain⟨y,rfl⟩:=Int.eq_ofNat_of_zero_le hg;rw[phi_nat,if_neg];intro z
 have:=nat_sub_le z
 omega
theorem phi_self {a:Int} (ha:0≤a):phi a a=1:=by
 obtain⟨x,rfl⟩:=Int.eq_ofNat_of_zero_le ha;rw[phi_nat,if_pos (Nat.and_self x)]
theorem lin_rest0 (m g:Int):∀ {l:Terms},(∀ t∈l,t.2 % m=0∨phi g t.1=0)→lin (phi g) l % m=0
 | [],_=>by simp[lin]
 | t :: l,h=>by
  have ih:=lin_rest0 m g (l:=l) fun t ht=>h t (List.mem_cons_of_mem _ ht)
  have h1:=h t (List.mem_cons_self ..);rw[lin,Int.add_emod,ih];rcases h1 with z | z
  ·rw[Int.mul_emod,z];simp
  ·rw[z];simp
theorem rest_mem {m:Int}{f:Terms}{t:Int × Int} (h:t∈f) (hn:t.2 % m≠0):t∈restL m f:=List.mem_filter.mpr ⟨h,by simpa using hn⟩
theorem rest_none {m:Int}{f:Terms} (h:restL m f=[]) (g:Int):worthL f g % m=0:=by
 rw[worth_lin];refine lin_rest0 m g fun t ht=>.inl ?_
 by_cases hz:t.2 % m=0
 ·exact hz
 ·have:=rest_mem ht hz
  rw[h] at this;cases this
theorem rest_first {m:Int}{f:Terms} (hf:IsForm f) (hk:∀ t∈f,0≤t.1) {t:Int × Int}{r:Terms} (h:restL m f=t :: r) :
  t∈f∧t.2 % m≠0∧(∀ u∈f,u.2 % m=0∨t.1≤u.1):=by
 have ht:t∈restL m f:=by rw[h];exact List.mem_cons_self ..
 obtain⟨h1,h2⟩:=List.mem_filter.mp ht;refine⟨h1,by simpa using h2,fun u hu=>?_⟩;by_cases hz:u.2 % m=0
 ·exact .inl hz
 ·right;have hu':=rest_mem hu hz;have hp:(restL m f).Pairwise fun a b=>a.1<b.1:=hf.rise.filter _
  rw[h] at hu' hp;rcases List.mem_cons.mp hu' with z | z
  ·rw[z];exact Int.le_refl _
  ·exact Int.le_of_lt ((List.pairwise_cons.mp hp).1 u z)
theorem rest_below {m:Int}{f:Terms} (hf:IsForm f) (hk:∀ t∈f,0≤t.1) {t:Int × Int}{r:Terms} (h:restL m f=t :: r) {g:Int} (h0:0≤g) (hg:g<t.1):worthL f g % m=0:=by
 obtain⟨h1,h2,h3⟩:=rest_first hf hk h;rw[worth_lin];refine lin_rest0 m g fun u hu=>?_
 rcases h3 u hu with z | z
 ·exact .inl z
 ·exact .inr (phi_le (hk u hu) h0 (by omega))
theorem lin_pick {φ : Int→Int}{k c:Int}:∀ {f:Terms},IsForm f→(k,c)∈f→lin φ f = φ k * c+lin φ (f.filter fun t=>decide (t.1≠k)):=by
 intro f hf hm;have h1:=lin_split φ k f;have h2:=coef_mem hf (k,c) hm;rw[h1,h2]
theorem rest_at {m:Int}{f:Terms} (hf:IsForm f) (hk:∀ t∈f,0≤t.1) {t:Int × Int}{r:Terms} (h:restL m f=t :: r):worthL f t.1 % m≠0:=by
 obtain⟨h1,h2,h3⟩:=rest_first hf hk h;rw[worth_lin,lin_pick (k:=t.1) (c:=t.2) hf h1,phi_self (hk t h1),Int.one_mul,Int.add_emod];rw[lin_rest0 m t.1 (l:=f.filter fun u=>decide (u.1≠t.1)) fun u hu=>?_]
 ·rw[Int.add_zero,Int.emod_emod_of_dvd _ (Int.dvd_refl m)];exact h2
 ·obtain⟨hu1,hu2⟩:=List.mem_filter.mp hu;have hne:u.1≠t.1:=by simpa using hu2
  rcases h3 u hu1 with z | z
  ·exact .inl z
  ·exact .inr (phi_le (hk u hu1) (hk t h1) (by omega))
end My
namespace My
open PySem L2 OF
theorem forms_eq {M:Nat}{F G:Terms} (hF:IsForm F) (hG:IsForm G) (kF:∀ t∈F,0≤t.1∧t.1<2^M) (kG:∀ t∈G,0≤t.1∧t.1<2^M) (hw:∀ g:Nat,worthL F (g:Int)=worthL G (g:Int)):F=G:=by
 have e:((List.range (2^M)).map fun g:Nat=>worthL F (g:Int))=(List.range (2^M)).map fun g:Nat=>worthL G (g:Int):=List.map_congr_left fun g _=>hw g
 refine form_ext hF hG fun k=>?_
 rw[← form_worths kF rfl (nzL_form _) k,← form_worths kG e (nzL_form _) k]
theorem or_keys {M:Nat}{f g:Terms} (hf:∀ t∈f,0≤t.1∧t.1<2^M) (hg:∀ t∈g,0≤t.1∧t.1<2^M):∀ t∈prodL f g,0≤t.1∧t.1<2^M:=fun t ht=>by
 obtain⟨u,hu,v,hv,rfl⟩:=mem_prodL ht;have h1:=hf u hu;have h2:=hg v hv;have pw:((2:Int)^M)=((2^M:Nat):Int):=by norm_cast
 show 0≤Builtin.bitOr u.1 v.1∧Builtin.bitOr u.1 v.1<2^M;rw[bitOr_pp h1.1 h2.1]
 have:=Nat.or_lt_two_pow (n:=M) (x:=u.1.toNat) (y:=v.1.toNat) (by omega) (by omega)
 omega
theorem one_worth (c:Int) (g:Nat):worthL [((0:Int),c)] (g:Int)=c:=by
 rw[worth_lin];simp only[lin]
 have:phi (g:Int) 0=1:=by rw[show (0:Int)=((0:Nat):Int) from rfl,phi_nat];simp
 rw[this];omega
end My
namespace My
open PySem L2 OF
noncomputable def Fms (H:Hp):List Addr→List Terms→Prop:=Paired fun p f=>TLo H p f
theorem Fms.length {H:Hp}{ps:List Addr}{l:List Terms} (h:Fms H ps l):ps.length=l.length:=Paired.length h
theorem Fms.keep {H H':Hp}{ps:List Addr}{l:List Terms} (h:Fms H ps l) (k:Same H H'):Fms H' ps l:=Paired.mapP h fun p t e=>e.keep k
theorem Fms.at:∀ {H:Hp}{ps:List Addr}{l:List Terms}{i:Nat}{f:Terms},Fms H ps l→l[i]? = some f→∃ p,ps[i]? = some p∧TLo H p f
 | _,_,_,0,_,.cons e _,h=>by cases h;exact⟨_,rfl,e⟩
 | _,_,_,i+1,_,.cons _ r,h=>by
  obtain⟨t,h1,h2⟩:=Fms.at (i:=i) r (by simpa using h);exact⟨t,by simpa using h1,h2⟩
theorem Fms.snoc:∀ {H:Hp}{ps:List Addr}{l:List Terms}{p:Addr}{t:Terms},Fms H ps l→TLo H p t→Fms H (ps ++ [p]) (l ++ [t])
 | _,_,_,_,_,.nil,e=>.cons e .nil
 | _,_,_,_,_,.cons x r,e=>.cons x (Fms.snoc r e)
noncomputable def FLo (H:Hp) (a:Addr) (l:List Terms):Prop:=∃ ps:List Addr,H a=some (.lst (ps.map V.ref))∧Fms H ps l
theorem FLo.keep {H H':Hp}{a:Addr}{l:List Terms} (h:FLo H a l) (k:Same H H'):FLo H' a l:=let ⟨ps,h1,h2⟩:=h; ⟨ps,k _ _ h1,h2.keep k⟩
theorem comp_each {K:PySem.W.Frag}{a b:Addr}{ws:List Nat} (φ : Nat→V) {H:Hp}{te:TE}{R:List V→Hp→Addr→Prop} (hT:SqT K H a (ws.map fun x:Nat=>V.int (x:Int))) (hz:ws.length≤1000) {σ:St} (hσ : σ = [none,some (.ref b)])
  (he:∀ x∈ws,∀ (R':V→Hp→Prop),R' (φ x) H→te [some (.int (x:Int)),some (.ref b)] H R') (q:∀ D,H D=none→R (ws.map φ) H D) :
  ∃ W:Nat→Nat→List V→St→Hp→Prop,(∃ m,W 0 m [] σ H)∧∀ i m ys σ H,W i m ys σ H →
   ((Itt K a).stop i H∧∀ D,H D=none→R ys H D) ∨
   ((Itt K a).go i H∧ys.length<sizeLine∧∃ N:List V→St→Hp→Prop,(∀ ys' σ' H',N ys' σ' H'→∃ m',m'<m∧W (i+1) m' ys' σ' H') ∧
    ∀ x H',(Itt K a).yld i H x H'→gName 0 x σ H' fun σ2 H2=>tTrue σ2 H2 fun b H3=>if b=true then te σ2 H3 fun y H4=>N (ys ++ [y]) σ2 H4 else N ys σ2 H3):=by
 subst hσ;refine comp_tup (K:=K) (a:=a) (xs:=ws.map fun x:Nat=>V.int (x:Int)) (R:=R) (fun i ys σ H2=>∃ v0:Option V,σ = [v0,some (.ref b)]∧ys=(ws.take i).map φ ∧ H2=H)
  ⟨none,rfl,rfl,rfl⟩ (fun i ys σ H2 hi ⟨_,_,e1,e2⟩=>⟨by rw[e2];exact hT,by rw[e1,List.length_map,List.length_take];omega⟩) (by rw[List.length_map];exact Nat.le_of_lt (small6 (by omega))) ?_ ?_
 ·rintro i x ys σ H2 hi ⟨v0,rfl,rfl,rfl⟩;rw[List.getElem?_map] at hi;obtain⟨w,hw,rfl⟩:=Option.map_eq_some_iff.mp hi;have htk:ws.take (i+1)=ws.take i ++ [w]:=by rw[List.take_add_one,hw];rfl
  unfold gName;refine tt ?_;refine he w (List.mem_of_getElem? hw) _ ⟨_,rfl,?_,rfl⟩;rw[htk,List.map_append];rfl
 ·rintro ys σ H2 ⟨v0,rfl,rfl,rfl⟩ D hD;rw[List.length_map,List.take_length];exact q D hD
noncomputable def wordL (w:Nat) (l o:Terms):Terms:=if w=0 then prodL l o else (l++o)++(prodL l o).map fun t=>(t.1,t.2 * (if w=1 then -1 else -2))
noncomputable def notL (l:Terms):Terms:=[(0,1)]++l.map fun t=>(t.1,-t.2)
theorem worth_not (l:Terms) (g:Nat):worthL (notL l) (g:Int)=1-worthL l (g:Int):=by
 unfold notL;rw[worth_plus,one_worth,worth_lin,worth_lin,lin_neg];omega
theorem worth_word {w:Nat} (hw:w<3) {l o:Terms} (hl:∀ t∈l,0≤t.1) (ho:∀ t∈o,0≤t.1) {g:Nat} (h1:Bit (worthL l (g:Int))) (h2:Bit (worthL o (g:Int))):worthL (wordL w l o) (g:Int)=say w (worthL l (g:Int)) (worthL o (g:Int)):=by
 unfold wordL;have hp:=worth_times hl ho (Int.natCast_nonneg g);by_cases h0:w=0
 ·subst h0;rw[if_pos rfl,hp];rfl
 ·rw[if_neg h0,worth_plus,worth_plus,worth_lin _ ((prodL l o).map _),lin_mulr,← worth_lin,hp];obtain rfl | rfl:w=1∨w=2:=by omega
  ·rcases h1 with z | z <;> rcases h2 with y | y <;> rw[z,y] <;> decide
  ·rcases h1 with z | z <;> rcases h2 with y | y <;> rw[z,y] <;> decide
noncomputable def wireL (a:Nat):Terms:=[((2:Int)^a,1)]
noncomputable def gateL:Gate→Terms
 | .fix b=>[(0,b)]
 | .no a=>notL (wireL a)
 | .two w a b=>wordL w (wireL a) (wireL b)
theorem worth_wire (a g:Nat):worthL (wireL a) (g:Int)=if g.testBit a then 1 else 0:=by
 rw[worth_lin];unfold wireL;simp only[lin];have e:((2:Int)^a)=((2^a:Nat):Int):=by norm_cast
 rw[e,phi_nat];have h:2^a &&& g=2^a↔g.testBit a=true:=by
  rw[Nat.and_comm,and_pow]
  have:=Nat.two_pow_pos a
  by_cases hb:g.testBit a=true
  ·simp[hb]
  ·simp[hb];omega
 by_cases hb:g.testBit a=true
 ·rw[if_pos (h.mpr hb),if_pos hb];rfl
 ·rw[if_neg (fun z=>hb (h.mp z)),if_neg hb];rfl
theorem wire_keys (a:Nat):∀ t∈wireL a,0≤t.1∧t.1<2^(a+1):=fun t ht=>by
 have e:t=((2:Int)^a,1):=by simpa [wireL] using ht
 rw[e];have pw:((2:Int)^a)=((2^a:Nat):Int):=by norm_cast
 have:=Nat.two_pow_pos a
 show 0≤(2:Int)^a∧(2:Int)^a<2^(a+1);rw[Int.pow_succ];omega
theorem keys_up {m n:Nat} (h:m≤n) {l:Terms} (hl:∀ t∈l,0≤t.1∧t.1<2^m):∀ t∈l,0≤t.1∧t.1<2^n:=fun t ht=>by
 have h1:=hl t ht;have e1:((2:Int)^m)=((2^m:Nat):Int):=by norm_cast
 have e2:((2:Int)^n)=((2^n:Nat):Int):=by norm_cast
 have:=Nat.pow_le_pow_right (n:=2) (by decide) h
 omega
theorem word_keys {M w:Nat}{l o:Terms} (hl:∀ t∈l,0≤t.1∧t.1<2^M) (ho:∀ t∈o,0≤t.1∧t.1<2^M):∀ t∈wordL w l o,0≤t.1∧t.1<2^M:=fun t ht=>by
 unfold wordL at ht;split at ht
 ·exact or_keys hl ho t ht
 ·rcases List.mem_append.mp ht with z | z
  ·rcases List.mem_append.mp z with y | y
   ·exact hl t y
   ·exact ho t y
  ·obtain⟨u,hu,rfl⟩:=List.mem_map.mp z;exact or_keys hl ho u hu
theorem not_keys {M:Nat}{l:Terms} (hl:∀ t∈l,0≤t.1∧t.1<2^M):∀ t∈notL l,0≤t.1∧t.1<2^M:=fun t ht=>by
 unfold notL at ht;rcases List.mem_append.mp ht with z | z
 ·have e:t=(0,1):=by simpa using z
  rw[e];have pw:((2:Int)^M)=((2^M:Nat):Int):=by norm_cast
  have:=Nat.two_pow_pos M
  exact⟨Int.le_refl _,by show (0:Int)<2^M;omega⟩
 ·obtain⟨u,hu,rfl⟩:=List.mem_map.mp z;exact hl u hu
theorem gate_keys {n:Nat}{t:Gate} (h:GOk n t):∀ u∈gateL t,0≤u.1∧u.1<2^n:=by
 cases t with
 | fix b =>
  intro u hu;have e:u=(0,b):=by simpa [gateL] using hu
  rw[e];have pw:((2:Int)^n)=((2^n:Nat):Int):=by norm_cast
  have:=Nat.two_pow_pos n
  exact⟨Int.le_refl _,by show (0:Int)<2^n;omega⟩
 | no a =>
  have h':a<n:=h;exact not_keys (keys_up h' (wire_keys a))
 | two w a b =>
  obtain⟨_,h1,h2⟩:w<3∧a<n∧b<n:=h;exact word_keys (keys_up h1 (wire_keys a)) (keys_up h2 (wire_keys b))
theorem worth_gate {n g:Nat}{bs:List Int}{t:Gate} (h:GOk n t) (hb:∀ k,k<n→(if g.testBit k then (1:Int) else 0)=getN bs k):worthL (gateL t) (g:Int)=gbit bs t:=by
 have bw:∀ a:Nat,Bit (worthL (wireL a) (g:Int)):=fun a=>by rw[worth_wire];unfold Bit;split <;> simp
 cases t with
 | fix b=>exact one_worth b g
 | no a =>
  have h':a<n:=h;show worthL (notL (wireL a)) (g:Int)=1-getN bs a;rw[worth_not,worth_wire,hb a h']
 | two w a b =>
  obtain⟨h0,h1,h2⟩:w<3∧a<n∧b<n:=h;show worthL (wordL w (wireL a) (wireL b)) (g:Int)=say w (getN bs a) (getN bs b);rw[worth_word h0 (fun t ht=>(wire_keys a t ht).1) (fun t ht=>(wire_keys b t ht).1) (bw a) (bw b),worth_wire,worth_wire,hb a h1,hb b h2]
theorem setB_self (g k:Nat):setB g k (g.testBit k)=g:=by
 unfold setB;cases h:g.testBit k <;> simp
noncomputable def packN (b:Nat→Bool):Nat→Nat
 | 0=>0
 | i+1=>packN b i+if b i then 2^i else 0
theorem packN_lt (b:Nat→Bool):∀ i,packN b i<2^i
 | 0=>by rw[packN];decide
 | i+1=>by
  have ih:=packN_lt b i;have:2^(i+1)=2^i+2^i:=by rw[Nat.pow_succ];omega
  rw[packN];split <;> omega
theorem packN_bit (b:Nat→Bool):∀ i j,(packN b i).testBit j=(decide (j<i) && b j)
 | 0,j=>by simp[packN]
 | i+1,j=>by
  have ih:=packN_bit b i j;have hlt:=packN_lt b i;rw[packN];have hd:j≠i→decide (j<i+1)=decide (j<i):=fun h=>by simp;omega
  cases hb:b i
  ·simp only[Bool.false_eq_true,if_false,Nat.add_zero];rw[ih];by_cases e:j=i
   ·subst e;simp[hb]
   ·rw[hd e]
  ·simp only[if_true];have h0:packN b i / 2^i % 2=0:=by rw[Nat.div_eq_of_lt hlt]
   rw[add_pow_of_nobit h0,Nat.testBit_or,ih,Nat.testBit_two_pow];by_cases e:j=i
   ·subst e;simp[hb]
   ·have h1:¬ i=j:=fun z=>e z.symm
    rw[hd e];simp[h1]
noncomputable def numB (bs:List Int) (m:Nat):Nat:=packN (fun k=>decide (getN bs k=1)) m
theorem num_bit {bs:List Int} (h:∀ x∈bs,Bit x) {m k:Nat} (hk:k<m):(if (numB bs m).testBit k then (1:Int) else 0)=getN bs k:=by
 unfold numB;rw[packN_bit];rcases getN_bit h k with z | z <;> simp[z,hk]
theorem put_keys {k:Nat}{l G:Terms} (hl:∀ t∈l,0≤t.1∧t.1<2^(k+1)) (hG:∀ t∈G,0≤t.1∧t.1<2^k) : ∀ t∈putL k G l,0≤t.1∧t.1<2^k:=fun t ht=>by
  have pw:((2:Int)^k)=((2^k:Nat) : Int):=by norm_cast
  have pw1:((2:Int)^(k+1))=2 * 2^k:=by rw [Int.pow_succ,Int.mul_comm]
  unfold putL at ht;rcases List.mem_append.mp ht with z | z
  · obtain ⟨h1,h2⟩:=outL_mem z;have h3:=hl t h1;refine ⟨h3.1,?_⟩
    have h4 : t.1.toNat < 2 ^ (k + 1) := by have : ((2 : Int) ^ (k + 1)) = ((2 ^ (k + 1) : Nat) : Int) := by norm_cast
                                            omega
    have h5:t.1.toNat / 2^k % 2=0:=by
      have h6:t.1.toNat.testBit k=false:=h2;rw [Nat.testBit_eq_decide_div_mod_eq] at h6
      have:=of_decide_eq_false h6
      omega
    have h7:t.1.toNat / 2^k<2:=by rw [Nat.div_lt_iff_lt_mul (Nat.two_pow_pos k)];rw [Nat.pow_succ] at h4;omega
    have h8:t.1.toNat / 2^k=0:=by
      generalize t.1.toNat / 2^k=x at h5 h7 ⊢;omega
    have h9:t.1.toNat<2^k:=by
      rcases Nat.lt_or_ge t.1.toNat (2^k) with w | w
      · exact w
      · have:=Nat.div_pos w (Nat.two_pow_pos k);omega
    omega
  · refine or_keys (fun u hu => ?_) hG t z;obtain ⟨v,hv,rfl⟩:=List.mem_map.mp hu;obtain ⟨h1,h2⟩:=List.mem_filter.mp hv;have h3:=hl v h1;have h4:=hasB_ge h3.1 h2;show 0≤v.1-2^k∧v.1-2^k<2^k;omega
theorem form_few {M:Nat}{f:Terms} (hf:IsForm f) (hk:∀ t∈f,0≤t.1∧t.1<2^M):f.length≤2^M:=by
 have pw:((2:Int)^M)=((2^M:Nat):Int):=by norm_cast
 have h1:=nodup_sub_len (form_nodup hf) (B:=(List.range (2^M)).map fun k:Nat=>(k:Int)) fun x hx=>by
  obtain⟨t,ht,rfl⟩:=List.mem_map.mp hx
  have:=hk t ht
  exact List.mem_map.mpr ⟨t.1.toNat,List.mem_range.mpr (by omega),Int.toNat_of_nonneg this.1⟩
 simpa using h1
theorem back_div (x:Int):Builtin.divisionGoesByPylong x (-1)=false:=by
 simp only[Builtin.divisionGoesByPylong];rw[show (decide ((if ((-1:Int) == 0)=true then 0 else (-1:Int).natAbs.log2 / 30+1) > 300))=false by decide];rfl
theorem back_size (n:Nat):Builtin.Range.rangeSize ((n:Int)-1) (-1) (-1)=(n:Int):=by
 unfold Builtin.Range.rangeSize;rw[if_neg (by decide),show (- -1:Int)=1 from rfl,Int.ediv_one];by_cases z:((n:Int)-1) > -1
 ·rw[if_pos z];omega
 ·rw[if_neg z];omega
theorem back_small {n:Nat} (h:n≤1000):Builtin.Range.small ((n:Int)-1) (-1) (-1)=true:=by
 unfold Builtin.Range.small;rw[back_size,if_neg (by decide:¬ (-1:Int) > 0)];simp only[Builtin.Range.rangeFitsLong,Bool.and_eq_true,Bool.or_eq_true,decide_eq_true_eq,beq_iff_eq];omega
theorem at_last {α : Type}{xs:List α}{i:Nat}{x : α} (hl:xs.length=i+1) (h:xs[i]? = some x):atI xs (-1)=some x:=by
 unfold atI ixN;rw[if_neg (by decide),if_pos (by omega)];have e:((-1:Int)+(xs.length:Int)).toNat=i:=by omega
 rw[e];exact h
theorem gate_small {n:Nat}{t:Gate} (h:GOk n t):Small 2 (gateL t)∧(gateL t).length≤3:=by
 cases t with
 | fix b =>
  have h':b=0∨b=1:=h;refine⟨fun u hu=>?_,by show 1≤3;decide⟩;have e:u=(0,b):=by simpa [gateL] using hu
  rw[e];rcases h' with rfl | rfl <;> decide
 | no a =>
  refine⟨fun u hu=>?_,by show 2≤3;decide⟩;have e:u=(0,1)∨u=((2:Int)^a,-1):=by simpa [gateL,notL,wireL] using hu
  rcases e with rfl | rfl
  ·decide
  ·show (-1:Int).natAbs≤2;decide
 | two w a b =>
  obtain⟨h0,_,_⟩:w<3∧a<n∧b<n:=h;obtain rfl | rfl | rfl:w=0∨w=1∨w=2:=by omega
  ·refine⟨fun u hu=>?_,by show 1≤3;decide⟩;have e:u=(Builtin.bitOr (2^a) (2^b),1):=by simpa [gateL,wordL,wireL,prodL,rowL] using hu
   rw[e];show (1:Int).natAbs≤2;decide
  ·refine⟨fun u hu=>?_,by show 3≤3;decide⟩;have e:u=((2:Int)^a,1)∨u=((2:Int)^b,1)∨u=(Builtin.bitOr (2^a) (2^b),-1):=by simpa [gateL,wordL,wireL,prodL,rowL] using hu
   rcases e with rfl | rfl | rfl
   ·show (1:Int).natAbs≤2;decide
   ·show (1:Int).natAbs≤2;decide
   ·show (-1:Int).natAbs≤2;decide
  ·refine⟨fun u hu=>?_,by show 3≤3;decide⟩;have e:u=((2:Int)^a,1)∨u=((2:Int)^b,1)∨u=(Builtin.bitOr (2^a) (2^b),-2):=by simpa [gateL,wordL,wireL,prodL,rowL] using hu
   rcases e with rfl | rfl | rfl
   ·show (1:Int).natAbs≤2;decide
   ·show (1:Int).natAbs≤2;decide
   ·show (-2:Int).natAbs≤2;decide
theorem GOk.up {m n:Nat} (h:m≤n) {t:Gate} (ht:GOk m t):GOk n t:=by
 cases t with
 | fix b=>exact ht
 | no a=>exact Nat.lt_of_lt_of_le ht h
 | two w a b =>
  obtain⟨h0,h1,h2⟩:w<3∧a<m∧b<m:=ht;exact⟨h0,Nat.lt_of_lt_of_le h1 h,Nat.lt_of_lt_of_le h2 h⟩
theorem Fms.keepU {H:Hp}{D:Addr}{xs:List V}{o:HO} (hD:H D=some (.lst xs)):∀ {ps:List Addr}{l:List Terms},Fms H ps l→D ∉ ps→Fms (upd H D o) ps l
 | _,_,.nil,_=>.nil
 | _,_,.cons e r,h=>by
  refine .cons ?_ (Fms.keepU hD r fun z=>h (List.mem_cons_of_mem _ z));obtain⟨qs,h1,h2⟩:=e;exact⟨qs,by rw[upd_ne (fun z=>h (by rw[z];exact List.mem_cons_self ..))];exact h1,h2.keep fun b zs z=>by rw[upd_ne (ne_of z hD (by intro w;cases w))];exact z⟩
theorem runG_more:∀ (gs:List Gate) (bs:List Int),∃ y,runG bs gs=bs++y
 | [],bs=>⟨[],(List.append_nil _).symm⟩
 | g :: gs,bs=>by
  obtain⟨y,hy⟩:=runG_more gs (bs ++ [gbit bs g]);exact⟨gbit bs g :: y,by show runG (bs ++ [gbit bs g]) gs=_;rw[hy,List.append_assoc];rfl⟩
theorem runG_append (bs:List Int) (a b:List Gate):runG bs (a++b)=runG (runG bs a) b:=by unfold runG;rw[List.foldl_append]
theorem getN_left {x y:List Int}{i:Nat} (h:i<x.length):getN (x++y) i=getN x i:=by
 unfold getN;rw[List.getD_eq_getElem?_getD,List.getD_eq_getElem?_getD,List.getElem?_append_left h]
theorem run_wire {n:Nat}{bs:List Int} (hb:∀ x∈bs,Bit x) (hl:bs.length=n) {gs:List Gate} (h:RowsOk n gs) {j:Nat}{t:Gate} (ht:gs[j]? = some t) :
  (∀ i,i<n+j→getN (runG bs gs) i=getN (runG bs (gs.take j)) i)∧getN (runG bs gs) (n+j)=gbit (runG bs (gs.take j)) t:=by
 have hj:j<gs.length:=(List.getElem?_eq_some_iff.mp ht).1;have htk:gs.take (j+1)=gs.take j ++ [t]:=by rw[List.take_add_one,ht];rfl
 have e:gs=gs.take (j+1)++gs.drop (j+1):=(List.take_append_drop _ _).symm;obtain⟨h1,_⟩:=runG_ok hb hl h j (by omega);obtain⟨y,hy⟩:=runG_more (gs.drop (j+1)) (runG bs (gs.take (j+1)));have e2:runG bs gs=runG bs (gs.take j)++(gbit (runG bs (gs.take j)) t :: y):=by
  conv=>lhs;rw[e]
  rw[runG_append,hy,htk,runG_snoc,List.append_assoc];rfl
 rw[e2];refine⟨fun i hi=>getN_left (by omega),?_⟩;unfold getN;rw[List.getD_eq_getElem?_getD,List.getElem?_append_right (by omega),h1];simp
theorem gbit_left {n:Nat}{x y:List Int} (h:∀ i,i<n→getN x i=getN y i) {t:Gate} (ht:GOk n t):gbit x t=gbit y t:=by
 cases t with
 | fix b=>rfl
 | no a=>show 1-getN x a=1-getN y a;rw[h a ht]
 | two w a b =>
  obtain⟨_,h1,h2⟩:w<3∧a<n∧b<n:=ht;show say w (getN x a) (getN x b)=say w (getN y a) (getN y b);rw[h a h1,h b h2]
theorem away_worth {n g:Nat}{gs:List Gate} (hok:RowsOk n gs) {j:Nat}{t:Gate} (ht:gs[j]? = some t) {l G h:Terms} (hl:∀ t∈l,0≤t.1) (hG:FormOf G (gateL t)) (hh:FormOf h (putL (n+j) G l)) :
  worthL h ((numB (runG (bitsL g n) gs) (runG (bitsL g n) gs).length:Nat):Int)=worthL l ((numB (runG (bitsL g n) gs) (runG (bitsL g n) gs).length:Nat):Int):=by
 have hj:j<gs.length:=(List.getElem?_eq_some_iff.mp ht).1;obtain⟨hlen,hbit⟩:=runG_ok (bitsL_bit g n) (bitsL_len g n) hok gs.length (Nat.le_refl _);rw[List.take_length] at hlen hbit;obtain⟨r1,r2⟩:=run_wire (bitsL_bit g n) (bitsL_len g n) hok ht;have hgk:=hok j t ht;generalize runG (bitsL g n) gs=bs at *;have nb:∀ i,i<bs.length→(if (numB bs bs.length).testBit i then (1:Int) else 0)=getN bs i:=fun i hi=>num_bit hbit hi
 generalize numB bs bs.length=B at *;have hw:worthL G (B:Int)=if B.testBit (n+j) then 1 else 0:=by
  rw[worth_congr _ hG.val,worth_gate hgk (bs:=bs) (fun i hi=>nb i (by omega)),nb (n+j) (by omega),r2];exact gbit_left (fun i hi=>r1 i hi) hgk
 have kG:=hG.keys (gate_keys hgk);rw[worth_congr _ hh.val,worth_put (b:=B.testBit (n+j)) hl (fun t ht=>(kG t ht).1) hw,setB_self]
end My
namespace My
open PySem L2 OF
theorem keys_many {l:Terms}{U:Nat} (h0:∀ t∈l,0≤t.1) (hU:∀ j,(orAll l 0).testBit j=true→U.testBit j=true):∀ t∈l,0≤t.1∧t.1<2^Builtin.Int.intBits (U:Int):=fun t ht=>by
 refine⟨h0 t ht,?_⟩;have h1:t.1.toNat<2^Builtin.Int.intBits (U:Int):=by
  refine Nat.lt_pow_two_of_testBit _ fun j hj=>?_
  cases e:t.1.toNat.testBit j
  ·rfl
  ·have h2:=hU j ((orAll_bit l 0 j).mpr (.inr ⟨t,ht,e⟩));rw[Nat.testBit_lt_two_pow (Nat.lt_of_lt_of_le (lt_intBits U) (Nat.pow_le_pow_right (by decide) hj))] at h2;cases h2
 have pw:((2:Int)^Builtin.Int.intBits (U:Int))=((2^Builtin.Int.intBits (U:Int):Nat):Int):=by norm_cast
 have:=h0 t ht
 omega
noncomputable def dFL (fl:List Terms):D := .lst (fl.map dF)
theorem isDs_forms {H:Hp}:∀ {ps:List Addr}{l:List Terms},Fms H ps l→IsDs H (ps.map V.ref) (l.map dF)
 | _,_,.nil=>rfl
 | _,_,.cons e r=>⟨_,_,rfl,e.is,isDs_forms r⟩
theorem FLo.is {H:Hp}{a:Addr}{l:List Terms} (h:FLo H a l):Is H (.ref a) (dFL l):=by
 obtain⟨ps,h1,h2⟩:=h;exact is_lst h1 (isDs_forms h2)
theorem depL_forms:∀ l:List Terms,depL (l.map dF)≤2
 | []=>by decide
 | f :: l=>by
  have h1:=dep_dF f;have h2:=depL_forms l;rw[List.map_cons,depL];omega
theorem dep_forms (l:List Terms):dep (dFL l)≤60:=by
 have:=depL_forms l
 unfold dFL;rw[dep];omega
end My
namespace My
open PySem L2 OF
noncomputable def natL (ls:List Nat):List V:=ls.map fun y:Nat=>V.int (y:Int)
theorem pow_cast (K:Nat):((2:Int)^K)=((2^K:Nat):Int):=by norm_cast
theorem key_nat {x:Int} (h:0≤x):((x.toNat:Nat):Int)=x:=Int.toNat_of_nonneg h
noncomputable def negL (l:Terms):Terms:=l.map fun t=>(t.1,-t.2)
theorem worth_neg (g:Int) (l:Terms):worthL (negL l) g = - worthL l g:=by
 rw[worth_lin,worth_lin];induction l with
 | nil=>rfl
 | cons t r ih =>
  show phi g t.1 * -t.2+lin (phi g) (negL r) = -(phi g t.1 * t.2+lin (phi g) r);rw[ih,Int.mul_neg];omega
theorem worth_cat (g:Int) (l m:Terms):worthL (l++m) g=worthL l g+worthL m g:=by
 unfold worthL;rw[List.filter_append,List.map_append,List.sum_append]
end My
namespace My
open PySem L2 OF
theorem form_uniq {f g l:Terms} (hf:FormOf f l) (hg:FormOf g l):f=g:=form_ext hf.toIsForm hg.toIsForm fun k=>by rw[hf.val,hg.val]
end My
set_option maxHeartbeats 4000000
namespace My
open PySem L2 OF
theorem dict_ex:∀ (r l d:Terms),DictOf d l→∃ d',DictOf d' (l++r)
 | [],l,d,h=>⟨d,by rw[List.append_nil];exact h⟩
 | p :: r,l,d,h=>by
  have:=dict_ex r (l ++ [p]) _ (h.snoc p)
  rw[List.append_assoc] at this;exact this
theorem form_ex (l:Terms):∃ f,FormOf f l:=by
 obtain⟨d,hd⟩:=dict_ex l [] [] dictOf_nil;refine⟨_,formOf_ok (ks:=(d.map (·.1)).mergeSort fun a b=>decide (a≤b)) hd (List.mergeSort_perm _ _) ?_⟩
 have:=List.pairwise_mergeSort (le:=fun a b:Int=>decide (a≤b)) (fun a b c h1 h2=>by simp at *;omega) (fun a b=>by simp;omega) (d.map (·.1))
 exact this.imp fun h=>by simpa using h
end My
namespace My
open PySem L2 OF
inductive Fm where
 | num (n:Int) | word (ws:List Nat) (bl:Bool) | bin (w:Nat) (f g:Fm)
noncomputable def opn:Nat→Str
 | 0 => "plus"
 | 1 => "less"
 | _ => "times"
theorem opn_ne {w:Nat}:(opn w ≠ "number")∧(opn w ≠ "word"):=by
 match w with
 | 0=>decide
 | 1=>decide
 | n+2=>show ("times" : Str) ≠ "number" ∧ ("times" : Str) ≠ "word";decide
noncomputable def Fm.lv:Fm→Nat
 | .num _=>1
 | .word _ _=>1
 | .bin _ f g=>f.lv+g.lv
theorem Fm.lv_pos:∀ f:Fm,0<f.lv
 | .num _=>by unfold Fm.lv;decide
 | .word _ _=>by unfold Fm.lv;decide
 | .bin _ f g=>by have:=Fm.lv_pos f;unfold Fm.lv;omega
noncomputable def Fm.lb:Fm→Nat
 | .num _=>1
 | .word ws _=>ws.length+1
 | .bin w f g=>if w<2 then f.lb+g.lb else f.lb * g.lb
theorem Fm.lb_pos:∀ f:Fm,0<f.lb
 | .num _=>by unfold Fm.lb;decide
 | .word _ _=>by unfold Fm.lb;omega
 | .bin w f g=>by
  have h1:=Fm.lb_pos f;have h2:=Fm.lb_pos g;unfold Fm.lb;split
  ·omega
  ·exact Nat.mul_pos h1 h2
noncomputable def Fm.ok (M:Nat):Fm→Prop
 | .num n=>0≤n∧n≤2^40
 | .word ws _=>ws.length≤16∧∀ x∈ws,x<M
 | .bin w f g=>w<3∧f.ok M∧g.ok M
noncomputable def bt (g x:Nat):Int:=if g.testBit x=true then 1 else 0
noncomputable def wsumN (ws:List Nat) (g:Nat):Nat→Int
 | 0=>0
 | i+1=>wsumN ws g i+bt g (ws.getD i 0) * 2^i
noncomputable def wordAt (ws:List Nat) (bl:Bool) (g:Nat):Int:=wsumN ws g ws.length-(if bl=true∧0<ws.length then bt g (ws.getD (ws.length-1) 0) * 2^ws.length else 0)
noncomputable def doOp (w:Nat) (x y:Int):Int:=if w=0 then x+y else if w=1 then x-y else x * y
noncomputable def Fm.at (g:Nat):Fm→Int
 | .num n=>n
 | .word ws bl=>wordAt ws bl g
 | .bin w f h=>doOp w (f.at g) (h.at g)
noncomputable def IsF (m:List Addr) (H:Hp):V→Fm→Prop
 | v,.num n=>∃ t,v = .ref t∧t ∉ m∧H t=some (.tup [.str "number",.int n])
 | v,.word ws bl=>∃ t a,v = .ref t∧t ∉ m∧a ∉ m∧H t=some (.tup [.str "word",.ref a,.bl bl])∧H a=some (.lst (natL ws))
 | v,.bin w f g=>∃ t x y,v = .ref t∧t ∉ m∧H t=some (.tup [.str (opn w),x,y])∧IsF m H x f∧IsF m H y g
theorem IsF.keepX {m:List Addr}{H H':Hp} (k:∀ b o,H b=some o→b ∉ m→H' b=some o):∀ {F:Fm}{v:V},IsF m H v F→IsF m H' v F
 | .num n,v,h=>by obtain⟨t,e,h1,h2⟩:=h;exact⟨t,e,h1,k _ _ h2 h1⟩
 | .word ws bl,v,h=>by obtain⟨t,a,e,h1,h2,h3,h4⟩:=h;exact⟨t,a,e,h1,h2,k _ _ h3 h1,k _ _ h4 h2⟩
 | .bin w f g,v,h=>by obtain⟨t,x,y,e,h1,h2,h3,h4⟩:=h;exact⟨t,x,y,e,h1,k _ _ h2 h1,IsF.keepX k h3,IsF.keepX k h4⟩
theorem IsF.keep {m:List Addr}{H H':Hp} (k:Same H H') {F:Fm}{v:V} (h:IsF m H v F):IsF m H' v F:=h.keepX fun b o e _=>k b o e
theorem mulOkN {a b:Int}{x y:Nat} (h1:a.natAbs≤2^x) (h2:b.natAbs≤2^y) (h:x+y≤100000):IntMulOk a b:=mulOkB (j:=x+1) (k:=y+1) (Nat.lt_of_le_of_lt h1 (Nat.pow_lt_pow_right (by decide) (by omega))) (Nat.lt_of_le_of_lt h2 (Nat.pow_lt_pow_right (by decide) (by omega))) (by omega)
theorem worth_abs {B:Nat}{g:Int}:∀ {l:Terms},Small B l→(worthL l g).natAbs≤l.length * B
 | [],_=>by simp[worthL]
 | t :: r,h=>by
  have h1:=h t (by simp);have h2:=worth_abs (g:=g) (l:=r) fun u hu=>h u (by simp[hu])
  rw[worth_lin] at *;show (phi g t.1 * t.2+lin (phi g) r).natAbs≤_;rw[List.length_cons,Nat.add_mul,Nat.one_mul];unfold phi;split
  ·rw[Int.one_mul];unfold phi at h2;omega
  ·rw[Int.zero_mul];unfold phi at h2;omega
noncomputable def twL (ws:List Nat) (j:Nat):Terms:=(List.range j).map fun i=>((2:Int)^(ws.getD i 0),(2:Int)^i)
theorem tw_snoc (ws:List Nat) (j:Nat):twL ws (j+1)=twL ws j ++ [((2:Int)^(ws.getD j 0),(2:Int)^j)]:=by unfold twL;rw[List.range_succ,List.map_append];rfl
theorem tw_len (ws:List Nat) (j:Nat):(twL ws j).length=j:=by unfold twL;simp
noncomputable def wordT (ws:List Nat) (bl:Bool):Terms:=if bl=true∧0<ws.length then twL ws (ws.length-1) ++ [((2:Int)^(ws.getD (ws.length-1) 0),-(2:Int)^(ws.length-1))] else twL ws ws.length
theorem phi_pow (g x:Nat):phi (g:Int) ((2:Int)^x)=bt g x:=by
 rw[pow_cast,phi_nat];unfold bt
 have:(2^x &&& g=2^x)↔g.testBit x=true:=by
  rw[Nat.and_comm,and_pow];by_cases h:g.testBit x=true
  ·simp[h]
  ·simp[h];exact fun z=>absurd z.symm (Nat.ne_of_gt (Nat.two_pow_pos x))
 by_cases h:g.testBit x=true
 ·rw[if_pos h,if_pos (this.mpr h)]
 ·rw[if_neg h,if_neg (fun z=>h (this.mp z))]
theorem worth_one (g x:Nat) (c:Int):worthL [((2:Int)^x,c)] (g:Int)=bt g x * c:=by
 rw[worth_lin];show phi (g:Int) ((2:Int)^x) * c+0=_;rw[phi_pow,Int.add_zero]
theorem worth_tw (ws:List Nat) (g:Nat):∀ j,worthL (twL ws j) (g:Int)=wsumN ws g j
 | 0=>rfl
 | j+1=>by rw[tw_snoc,worth_cat,worth_tw ws g j,worth_one];rfl
theorem worth_word' (ws:List Nat) (bl:Bool) (g:Nat):worthL (wordT ws bl) (g:Int)=wordAt ws bl g:=by
 unfold wordT wordAt;by_cases h:bl=true∧0<ws.length
 ·rw[if_pos h,if_pos h,worth_cat,worth_tw,worth_one];obtain⟨n,hn⟩:∃ n,ws.length=n+1:=⟨ws.length-1,by omega⟩;rw[hn,Nat.add_sub_cancel,wsumN,Int.pow_succ];unfold bt;split <;> simp <;> omega
 ·rw[if_neg h,if_neg h,worth_tw,Int.sub_zero]
theorem word_small {ws:List Nat}{bl:Bool} (hl:ws.length≤16):Small (2^16) (wordT ws bl):=by
 have hp:∀ i,i≤16→((2:Int)^i).natAbs≤2^16:=fun i hi=>by
  rw[pow_cast,Int.natAbs_natCast];exact Nat.pow_le_pow_right (show 2 > 0 by decide) hi
 have ht:∀ j,j≤16→Small (2^16) (twL ws j):=fun j hj t ht=>by
  unfold twL at ht;obtain⟨i,hi,rfl⟩:=List.mem_map.mp ht;exact hp i (by have:=List.mem_range.mp hi;omega)
 intro t htm;unfold wordT at htm;split at htm
 ·rcases List.mem_append.mp htm with z | z
  ·exact ht _ (by omega) t z
  ·have e:t=((2:Int)^(ws.getD (ws.length-1) 0),-(2:Int)^(ws.length-1)):=by simpa using z
   rw[e];show (-(2:Int)^(ws.length-1)).natAbs≤_;rw[Int.natAbs_neg];exact hp _ (by omega)
 ·exact ht _ hl t htm
theorem word_keys' {ws:List Nat}{bl:Bool}{M:Nat} (h:∀ x∈ws,x<M):∀ t∈wordT ws bl,0≤t.1∧t.1<2^M:=by
 have hx:∀ i,i<ws.length→(0:Int)≤2^(ws.getD i 0)∧((2:Int)^(ws.getD i 0))<2^M:=fun i hi=>by
  have e:ws.getD i 0=ws[i]:=by rw[List.getD_eq_getElem?_getD,List.getElem?_eq_getElem hi];rfl
  have:=h _ (List.getElem_mem hi)
  rw[e,pow_cast,pow_cast]
  have:=Nat.pow_lt_pow_right (show 1<2 by decide) this
  exact⟨Int.natCast_nonneg _,by exact_mod_cast this⟩
 have ht:∀ j,j≤ws.length→∀ t∈twL ws j,0≤t.1∧t.1<2^M:=fun j hj t ht=>by
  unfold twL at ht;obtain⟨i,hi,rfl⟩:=List.mem_map.mp ht;exact hx i (by have:=List.mem_range.mp hi;omega)
 intro t htm;unfold wordT at htm;split at htm
 ·rename_i hc;rcases List.mem_append.mp htm with z | z
  ·exact ht _ (by omega) t z
  ·have e:t=((2:Int)^(ws.getD (ws.length-1) 0),-(2:Int)^(ws.length-1)):=by simpa using z
   rw[e];exact hx _ (by omega)
 ·exact ht _ (Nat.le_refl _) t htm
theorem word_len (ws:List Nat) (bl:Bool):(wordT ws bl).length=ws.length:=by
 unfold wordT;split
 ·rw[List.length_append,tw_len];show _+1=_;omega
 ·rw[tw_len]
structure FF (M L E:Nat) (f:Terms):Prop where
 form:IsForm f
 keys:∀ t∈f,0≤t.1∧t.1<2^M
 len:f.length≤L
 small:Small (2^E) f
end My
namespace My
open PySem L2 OF
theorem pow_two_le {a b:Nat} (h:a≤b):2^a≤2^b:=Nat.pow_le_pow_right (by decide) h
theorem FF.up {M L L' E E':Nat}{f:Terms} (h:FF M L E f) (h1:L≤L') (h2:E≤E'):FF M L' E' f:=⟨h.form,h.keys,Nat.le_trans h.len h1,fun t ht=>Nat.le_trans (h.small t ht) (pow_two_le h2)⟩
theorem FF.few {M L E:Nat}{f:Terms} (h:FF M L E f) (hM:M≤8):f.length≤256:=Nat.le_trans (form_few h.form h.keys) (pow_two_le (b:=8) hM)
theorem ff_of {M:Nat}{f l:Terms}{n E:Nat} (hf:IsForm f) (hv:∀ k,coef f k=coef l k) (hk:∀ t∈l,0≤t.1∧t.1<2^M) (hs:Small (2^E) l) (hn:l.length≤2^n) (L:Nat) (hl:f.length≤L):FF M L (E+n) f:=by
 refine⟨hf,fun t ht=>?_,hl,fun t ht=>?_⟩
 ·have h1:=coef_mem hf t ht;have h2:=hf.nz t ht;rw[hv] at h1;by_cases z:∃ u∈l,u.1=t.1
  ·obtain⟨u,hu,e⟩:=z;rw[← e];exact hk u hu
  ·exact absurd (h1.symm.trans (coef_none l t.1 fun p hp e=>z ⟨p,hp,e⟩)) h2
 ·have h1:=coef_mem hf t ht;rw[hv] at h1;have h2:=coef_small hs t.1;rw[h1] at h2;rw[Nat.pow_add,Nat.mul_comm];exact Nat.le_trans h2 (Nat.mul_le_mul_right _ hn)
theorem small_cat {B:Nat}{l m:Terms} (h1:Small B l) (h2:Small B m):Small B (l++m):=fun t ht=>by
 rcases List.mem_append.mp ht with z | z
 ·exact h1 t z
 ·exact h2 t z
theorem small_neg {B:Nat}{l:Terms} (h:Small B l):Small B (negL l):=fun t ht=>by
 obtain⟨u,hu,rfl⟩:=List.mem_map.mp ht;show (-u.2).natAbs≤B;rw[Int.natAbs_neg];exact h u hu
theorem keys_cat {M:Nat}{l m:Terms} (h1:∀ t∈l,0≤t.1∧t.1<2^M) (h2:∀ t∈m,0≤t.1∧t.1<2^M):∀ t∈l++m,0≤t.1∧t.1<2^M:=fun t ht=>by
 rcases List.mem_append.mp ht with z | z
 ·exact h1 t z
 ·exact h2 t z
theorem keys_neg {M:Nat}{l:Terms} (h:∀ t∈l,0≤t.1∧t.1<2^M):∀ t∈negL l,0≤t.1∧t.1<2^M:=fun t ht=>by
 obtain⟨u,hu,rfl⟩:=List.mem_map.mp ht;exact h u hu
theorem FF.plus {M L1 L2 E1 E2:Nat}{l o f:Terms} (hl:FF M L1 E1 l) (ho:FF M L2 E2 o) (b1:L1≤300) (b2:L2≤300) (c1:20≤E1) (c2:20≤E2) (hf:IsForm f) (hv:∀ k,coef f k=coef (l++o) k) (hn:f.length≤l.length+o.length):FF M (L1+L2) (E1+E2) f∧∀ g:Nat,worthL f (g:Int)=worthL l (g:Int)+worthL o (g:Int):=by
 have e1:=hl.len;have e2:=ho.len;have hs:Small (2^(max E1 E2)) (l++o):=small_cat (fun t ht=>Nat.le_trans (hl.small t ht) (pow_two_le (by omega))) (fun t ht=>Nat.le_trans (ho.small t ht) (pow_two_le (by omega)))
 have:=ff_of (n:=10) hf hv (keys_cat hl.keys ho.keys) hs (by rw[List.length_append];show _≤1024;omega) (L1+L2) (by omega)
 exact⟨this.up (Nat.le_refl _) (by omega),fun g=>by rw[worth_congr _ hv,worth_cat]⟩
theorem FF.less {M L1 L2 E1 E2:Nat}{l o f:Terms} (hl:FF M L1 E1 l) (ho:FF M L2 E2 o) (b1:L1≤300) (b2:L2≤300) (c1:20≤E1) (c2:20≤E2) (hf:IsForm f) (hv:∀ k,coef f k=coef l k-coef o k) (hn:f.length≤l.length+o.length):FF M (L1+L2) (E1+E2) f∧∀ g:Nat,worthL f (g:Int)=worthL l (g:Int)-worthL o (g:Int):=by
 have e1:=hl.len;have e2:=ho.len;have hv':∀ k,coef f k=coef (l++negL o) k:=fun k=>by rw[hv,coef_append];unfold negL;rw[coef_neg];omega
 have hs:Small (2^(max E1 E2)) (l++negL o):=small_cat (fun t ht=>Nat.le_trans (hl.small t ht) (pow_two_le (by omega))) (small_neg fun t ht=>Nat.le_trans (ho.small t ht) (pow_two_le (by omega)))
 have:=ff_of (n:=10) hf hv' (keys_cat hl.keys (keys_neg ho.keys)) hs (by rw[List.length_append];unfold negL;rw[List.length_map];show _≤1024;omega) (L1+L2) (by omega)
 exact⟨this.up (Nat.le_refl _) (by omega),fun g=>by rw[worth_congr _ hv',worth_cat,worth_neg];omega⟩
theorem prod_mem {l o:Terms}{t:Int × Int} (h:t∈prodL l o):∃ u∈l,∃ v∈o,t=(Builtin.bitOr u.1 v.1,u.2 * v.2):=by
 induction l with
 | nil=>cases h
 | cons a r ih =>
  rw[show prodL (a :: r) o=rowL a o++prodL r o from rfl] at h;rcases List.mem_append.mp h with z | z
  ·unfold rowL at z;obtain⟨v,hv,e⟩:=List.mem_map.mp z;exact⟨a,by simp,v,hv,e.symm⟩
  ·obtain⟨u,hu,v,hv,e⟩:=ih z;exact⟨u,by simp[hu],v,hv,e⟩
theorem FF.times {M L1 L2 E1 E2:Nat}{l o f:Terms} (hl:FF M L1 E1 l) (ho:FF M L2 E2 o) (b1:L1≤300) (b2:L2≤300) (hf:FormOf f (prodL l o)) (hn:f.length≤l.length * o.length):FF M (L1 * L2) (E1+E2+40) f∧∀ g:Nat,worthL f (g:Int)=worthL l (g:Int) * worthL o (g:Int):=by
 have e1:=hl.len;have e2:=ho.len;have e3:l.length * o.length≤300 * 300:=Nat.mul_le_mul (by omega) (by omega);have hk:∀ t∈prodL l o,0≤t.1∧t.1<2^M:=fun t ht=>by
  obtain⟨u,hu,v,hv,rfl⟩:=prod_mem ht;have k1:=hl.keys u hu;have k2:=ho.keys v hv;show 0≤Builtin.bitOr u.1 v.1∧Builtin.bitOr u.1 v.1<2^M;rw[← key_nat k1.1,← key_nat k2.1,bitOr_nat]
  have:=Nat.or_lt_two_pow (key_lt k1) (key_lt k2)
  rw[pow_cast];exact⟨Int.natCast_nonneg _,by exact_mod_cast this⟩
 have hs:Small (2^(E1+E2)) (prodL l o):=fun t ht=>by
  obtain⟨u,hu,v,hv,rfl⟩:=prod_mem ht;show (u.2 * v.2).natAbs≤_;rw[Int.natAbs_mul,Nat.pow_add];exact Nat.mul_le_mul (hl.small u hu) (ho.small v hv)
 have:=ff_of (n:=40) hf.toIsForm hf.val hk hs (by rw[prodL_len];exact Nat.le_trans e3 (by decide)) (L1 * L2) (Nat.le_trans hn (Nat.mul_le_mul e1 e2))
 exact⟨this,fun g=>by rw[worth_congr _ hf.val,worth_times (fun t ht=>(hl.keys t ht).1) (fun t ht=>(ho.keys t ht).1) (Int.natCast_nonneg g)]⟩
theorem FF.table {M L1 L2 E1 E2 m:Nat}{l o f:Terms} (hl:FF M L1 E1 l) (ho:FF M L2 E2 o) (b1:L1≤300) (b2:L2≤300) (hM:M≤16) (hm:m≤M) (kl:∀ t∈l,0≤t.1∧t.1<2^m) (ko:∀ t∈o,0≤t.1∧t.1<2^m) (hmm:2^m≤l.length * o.length) {ns:List Int} (hn:ns=(List.range (2^m)).map fun g:Nat=>worthL l (g:Int) * worthL o (g:Int)) (hf:FormOf f (enumT (zetL (-1) ns m))) :
  FF M (L1 * L2) (E1+E2+40) f∧∀ g:Nat,worthL f (g:Int)=worthL l (g:Int) * worthL o (g:Int):=by
 have e1:=hl.len;have e2:=ho.len;have hlen:ns.length=2^m:=by rw[hn];simp
 obtain⟨kf,wf,_⟩:=form_table hlen hf;have low:∀ g:Nat,g<2^m→worthL f (g:Int)=worthL l (g:Int) * worthL o (g:Int):=fun g hg=>by
  have h1:=getN_map (n:=2^m) (fun g:Nat=>worthL f (g:Int)) hg;have h2:=getN_map (n:=2^m) (fun g:Nat=>worthL l (g:Int) * worthL o (g:Int)) hg;rw[← wf] at h1;rw[← hn] at h2;rw[← h1,h2]
 have e:∀ g:Nat,worthL f (g:Int)=worthL l (g:Int) * worthL o (g:Int):=fun g=>by
  rw[worth_low kf,worth_low (g:=g) kl,worth_low (g:=g) ko];exact low _ (Nat.mod_lt _ (Nat.two_pow_pos m))
 have hx:∀ x∈ns,x.natAbs≤2^(E1+E2+20):=fun x hx=>by
  rw[hn] at hx;obtain⟨g,_,rfl⟩:=List.mem_map.mp hx;have w1:=worth_abs (g:=(g:Int)) hl.small;have w2:=worth_abs (g:=(g:Int)) ho.small;show (worthL l (g:Int) * worthL o (g:Int)).natAbs≤_;rw[Int.natAbs_mul];refine Nat.le_trans (Nat.mul_le_mul w1 w2) ?_;have w3:l.length * 2^E1≤2^10 * 2^E1:=Nat.mul_le_mul_right _ (by show _≤1024;omega);have w4:o.length * 2^E2≤2^10 * 2^E2:=Nat.mul_le_mul_right _ (by show _≤1024;omega);refine Nat.le_trans (Nat.mul_le_mul w3 w4) ?_;rw[← Nat.pow_add,← Nat.pow_add,← Nat.pow_add];exact pow_two_le (by omega)
 have hsm:=nz_small (B:=2^(E1+E2+20)) hlen hx;have ef:nzL (zetL (-1) ns m)=f:=form_uniq (nzL_form _) hf;rw[ef,← Nat.pow_add] at hsm;refine⟨⟨hf.toIsForm,keys_up hm kf,?_,fun t ht=>Nat.le_trans (hsm t ht) (pow_two_le (by omega))⟩,e⟩;exact Nat.le_trans (form_few hf.toIsForm kf) (Nat.le_trans hmm (Nat.mul_le_mul e1 e2))
end My
namespace My
open PySem L2 OF
theorem sx_wr {p c:Addr}{H G:Hp}{o:HO} (h:SameX p H G) (hc:H c=none):SameX p H (upd G c o):=fun b ob e hb=>by rw[upd_ne (ne_of_none e hc)];exact h b ob e hb
end My
set_option maxHeartbeats 1000000
namespace OS
open PySem PyProof.Rows
section
variable {prog:Program}{w:World}{A:Around}{R:Result→Shared→Prop}{I B:Addr}{fp wr:List Addr}{n:Nat}{P:Nat→Value→Prop}{St:Nat→Heap→Prop}{kw:List (Str × Value)}{bt:Nat→Nat→Bool}
theorem mx_on (W:Walks prog w A.in1 I fp wr n P St) (hc:CmpOf prog w A.in1 .Gt P bt) (hB:B ∉ fp) (m:Nat):∀ (i:Nat) (s:Shared) (x:Value) (e:Nat),n=i+1+m→St (i+1) s.heap→P (argBest bt i) x →
  s.heap.get? B=some { cls := .type "list",dict:=none,data := .seq #[x,x] e,slots := #[] } →
  (∀ v h1 t1,P (argBest bt (n-1)) v→(∀ b o,b ∉ wr→b≠B→s.heap.get? b=some o→h1.get? b=some o)→R (.ok (.ret v)) { s with heap:=h1,toks:=t1 }) →
  codeAny (model prog w) A (.builtin "max.loop" ⟨[.ref I,.none,.ref B],kw⟩) R s:=by
 have hBw:B ∉ wr:=fun z=>hB (W.sub _ z)
 have nm:(toString "max" ++ toString ".loop" : String) = "max.loop" := by decide
 induction m with
 | zero =>
  intro i s x e hn hs hx ho q;have hn':i+1=n:=by omega
  refine codeAny_builtin F.entry_max_loop ?_;rw[Around.under_plainId F.plain_max_loop _];refine wpAny_bind (m:=seqItems? (.ref B)) (wpAny_seqItems ho rfl (wpAny_bind (m:=tryCatch (pyNext (.ref I)) _) (wpAny_tryCatch (W.done s _ _ (hn' ▸ hs) fun h1 t1 k1=>?_))));refine wpAny_bind (m:=updateSeq B (fun _ => #[])) (wpAny_updateSeq (k1 B _ hBw ho) rfl (wpAny_bind (wpAny_letGo (wpAny_pure ?_))));refine q x _ t1 (by rw[← hn'];exact hx) fun b o z1 z2 z3=>?_
  rw[Heap.get?_update_other _ _ (Ne.symm z2)];exact k1 b o z1 z3
 | succ m ih =>
  intro i s x e hn hs hx ho q;refine codeAny_builtin F.entry_max_loop ?_;rw[Around.under_plainId F.plain_max_loop _];refine wpAny_bind (m:=seqItems? (.ref B)) (wpAny_seqItems ho rfl (wpAny_bind (m:=tryCatch (pyNext (.ref I)) _) (wpAny_tryCatch (W.item (i+1) s _ _ (by omega) hs fun y h1 t1 hy hs1 k1=>?_))));have ho1:=k1 B _ hBw ho;refine wpAny_bind (m:=tryCatch (holding [y,y] (richCompare .Gt y x >>= _)) _) (wpAny_tryCatch (wpAny_holding (wpAny_bind (hc (i+1) (argBest bt i) y x _ _ _ hy hx (wpAny_bind (wpAny_holding (wpAny_truthy_bool (wpAny_bind (wpAny_letGo (wpAny_pure ?_))))))))));have eb:argBest bt (i+1)=if bt (i+1) (argBest bt i) then i+1 else argBest bt i:=rfl
  cases hb:bt (i+1) (argBest bt i)
  ·simp only[Bool.false_eq_true,if_false];refine wpAny_bind (wpAny_letGo ?_);rw[nm];refine wpAny_pure ⟨plainId_quiet F.plain_max_loop _,ih (i+1) _ x e (by omega) hs1 (by rw[eb,hb];exact hx) ho1 fun v h2 t2 hv k2=>q v h2 t2 hv fun b o z1 z2 z3=>k2 b o z1 z2 (k1 b o z1 z3)⟩
  ·simp only[if_true];refine wpAny_bind (wpAny_updateSeq ho1 rfl (wpAny_bind (wpAny_letGo ?_)));rw[nm];have fr:∀ b o,b≠B→h1.get? b=some o→(h1.update B (Obj.mapSeq fun _ => #[y,y])).get? b=some o:=fun b o z e=>by rw[Heap.get?_update_other _ _ (Ne.symm z)];exact e
   refine wpAny_pure ⟨plainId_quiet F.plain_max_loop _,ih (i+1) _ y _ (by omega) (W.frame _ _ _ hs1 fun b hb' o e=>fr b o (fun z=>hB (z ▸ hb')) e) (by rw[eb,hb];exact hy) (Heap.get?_update_self _ ho1 rfl) fun v h2 t2 hv k2=>q v h2 t2 hv fun b o z1 z2 z3=>k2 b o z1 z2 (fr b o z2 (k1 b o z1 z3))⟩
end
end OS
namespace OS
open PySem PyProof.Rows
section
variable {prog:Program}{w:World}{A:Around}{E:Value→Shared→Prop}{s:Shared}{l:Addr}{xs:Array (Int × Tok)}
theorem args_mxd (a d:Value):argsOk "max" ⟨[a],[("default",d)]⟩:=by unfold argsOk;kernel_rfl
theorem max_def {dv:Value}{Q:Value→Shared→Prop} (hh:A.handled=none) (hl:s.heap.IsList l (intItems xs))
  (h1:0<xs.size→∀ v h' tk,(intItems xs)[argBest (fun i j=>decide (numAt xs i > numAt xs j)) (xs.size-1)]? = some v→(∀ b o,s.heap.get? b=some o→h'.get? b=some o)→Q v { s with heap:=h',toks:=tk })
  (h0:xs.size=0→∀ h' tk,(∀ b o,s.heap.get? b=some o→h'.get? b=some o)→Q dv { s with heap:=h',toks:=tk }):wpAny (model prog w) A (call (.builtin "max") [.ref l] [("default",dv)]) Q E s:=by
 have nm:(toString "max" ++ toString ".loop" : String) = "max.loop" := by decide
 refine PyProof.Rows.kmk_tree PySem.F.kind_max PySem.F.plain_max PySem.F.entry_max (args_mxd _ _) ?_;show wpAny _ A.in1 (Builtin.Builtins.bindParams "max" ["key", "default"] 0 ⟨[],[("default",dv)]⟩ >>= _) _ _ s;refine wpAny_bind (wpAny_of_eq (show Builtin.Builtins.bindParams "max" ["key", "default"] 0 ⟨[],[("default",dv)]⟩=pure [none,some dv] from rfl) (wpAny_bind (wpAny_pure (wpAny_bind (iter_intList hl fun s2 e st hfp hlI=>?_)))));subst e;generalize hI:s.heap.objs.size=I at st hfp hlI ⊢;have W:=Walks.list (prog:=prog) (w:=w) (A:=A.in1) hh I l hlI (intItems xs);refine wpAny_bind (wpAny_newObj_type ?_);rw[nm];refine wpAny_pure ⟨plainId_quiet F.plain_max_loop _,?_⟩;generalize hS:(s.heap.push { cls := .type "list_iterator",data := .fields #[.ref l,.int 0 0] })=hp at st hfp ⊢;have hold:∀ b o,s.heap.get? b=some o→hp.get? b=some o:=fun b o e=>by rw[← hS];exact Heap.get?_push_of_some _ e
 have hIb:∀ b o,s.heap.get? b=some o→b ∉ [I]:=fun b o e z=>by rw[List.mem_singleton.mp z,← hI] at e;exact Nat.lt_irrefl _ (Heap.lt_size e)
 have hSf:hp.objs.size ∉ [I,l]:=fun hm=>Nat.lt_irrefl _ (hfp _ hm)
 have gS:(hp.push { cls := .type "list",data := .seq #[] 0 }).get? hp.objs.size=some { cls := .type "list",data := .seq #[] 0 }:=Heap.get?_push_size _ rfl;have st1:=W.frame _ _ (hp.push { cls := .type "list",data := .seq #[] 0 }) st fun b _ o e=>Heap.get?_push_of_some _ e
 have hSw:hp.objs.size ∉ [I]:=fun z=>hSf (List.mem_cons.mpr (.inl (List.mem_singleton.mp z)))
 have hne:∀ b o,s.heap.get? b=some o→b≠hp.objs.size:=fun b o e=>Nat.ne_of_lt (Heap.lt_size (hold b o e))
 refine codeAny_builtin F.entry_max_loop ?_;rw[Around.under_plainId F.plain_max_loop _];refine wpAny_bind (m:=seqItems? (.ref hp.objs.size)) (wpAny_seqItems gS rfl (wpAny_bind (m:=tryCatch (pyNext (.ref I)) _) (wpAny_tryCatch ?_)));rcases Nat.eq_zero_or_pos xs.size with z | z
 ·refine W.done _ _ _ (by rw[show (intItems xs).size=0 by simpa [intItems] using z];exact st1) fun h2 t2 k2=>?_
  refine wpAny_bind (m:=rule _) (wpAny_rule (wpAny_pure ?_));exact h0 z h2 t2 fun b o e=>k2 b o (hIb b o e) (Heap.get?_push_of_some _ (hold b o e))
 ·refine W.item 0 _ _ _ (by simpa [intItems] using z) st1 fun y h2 t2 hy hs2 k2=>?_
  have ho2:=k2 _ _ hSw gS;refine wpAny_bind (m:=updateSeq hp.objs.size (fun _ => #[y,y])) (wpAny_updateSeq ho2 rfl ?_);rw[nm];have fr:∀ b o,b≠hp.objs.size→h2.get? b=some o→(h2.update hp.objs.size (Obj.mapSeq fun _ => #[y,y])).get? b=some o:=fun b o z e=>by rw[Heap.get?_update_other _ _ (Ne.symm z)];exact e
  have hz:(intItems xs).size=xs.size:=by simp[intItems]
  refine wpAny_pure ⟨plainId_quiet F.plain_max_loop _,mx_on W (CmpOf.ints_gt (numAt xs) (fun _ _=>intItems_at)) hSf ((intItems xs).size-1) 0 _ y _ (by omega) (W.frame _ _ _ hs2 fun b hb o e=>fr b o (fun z=>hSf (z ▸ hb)) e) hy (Heap.get?_update_self _ ho2 rfl) fun v h3 t3 hv k3=>?_⟩;exact h1 z v h3 t3 (by simpa [intItems] using hv) fun b o e=>k3 b o (hIb b o e) (hne b o e) (fr b o (hne b o e) (k2 b o (hIb b o e) (Heap.get?_push_of_some _ (hold b o e))))
end
end OS
namespace L2
open PySem PySem.Spec PyProof.Rows
section
variable {X:Cx}
noncomputable def MaxD (m k:Int) (ns:List Int):Prop:=(ns=[]∧m=k)∨(m∈ns∧∀ n∈ns,n≤m)
noncomputable def tMaxD (ta:TA) (td:TE):TE:=fun σ H Q=>ta σ H fun vs H1=>td σ H1 fun v H2=>∃ (a:Addr) (ns:List Int) (k:Int),vs=[.ref a]∧SqL X.K H2 a (ns.map V.int)∧v = .int k∧∀ m,MaxD m k ns→Q (.int m) H2
theorem maxd_of {us:List Value}{ns:List Int}{xs:Array (Int × Tok)}{v:Value} (hi:IntsAre us ns) (hzs:us.toArray=intItems xs) (hne:0<xs.size) (hP:(intItems xs)[argBest (fun i j=>decide (numAt xs i > numAt xs j)) (xs.size-1)]? = some v) :
  ∃ m t,v = .int m t∧m∈ns∧∀ n∈ns,n≤m:=by
 obtain⟨t,rfl⟩:=intItems_at hP;have hs:xs.toList.map (·.1)=ns:=by
  rw[← nums_intItems,← hzs];exact (show numsOf us.toArray.toList=ns from hi.numsOf)
 obtain⟨b1,b2⟩:=argBest_gt (numAt xs) (xs.size-1);have hat:∀ j,j<xs.size→ns[j]? = some (numAt xs j):=fun j hj=>by
  rw[← hs,List.getElem?_map];unfold numAt;rw[Array.getElem?_toList,Array.getElem?_eq_getElem hj];rfl
 refine⟨_,t,rfl,List.mem_of_getElem? (hat _ (by omega)),fun n hn=>?_⟩;obtain⟨j,hj⟩:=List.getElem?_of_mem hn;have hjl:j<xs.size:=by
  have:=(List.getElem?_eq_some_iff.mp hj).1
  rw[← hs,List.length_map,Array.length_toList] at this;exact this
 rw[hat j hjl] at hj;cases hj;exact b2 j (by omega)
theorem pe_maxD {e d:Expr}{ta:TA}{td:TE}{p pos kp:Pos} (hc:X.calm=true) (hg:Gl X "max") (hm:X.mg "max" = none) (ha:PA X [e] ta) (hd:PE X d td) (he:starEach [e] X.env=[(false,eval e X.env)]:=by rfl) :
  PE X (.Call (.Name "max" p) [e] [⟨some "default",d,kp⟩] pos) (tMaxD (X:=X) ta td):=by
 intro pins s σ H Q I h;refine wpAny_Call_Name_kw (ld_blt I hg hm PyProof.Rows.boot_max ?_ (by decide) (by decide));refine callWith_kw (thn (ha pos pins s σ H _ I h) fun us s1 ⟨vs,H1,I1,r1,q1⟩=>kws_cons (thn (hd pins s1 σ H1 _ I1 q1) fun dv s2 ⟨v,H2,I2,r2,q2⟩=>kws_nil ?_)) (by rw[he];rfl) (by rw[he];rfl);obtain⟨a,ns,k,rfl,hq,rfl,q⟩:=q2;obtain⟨u,rfl,ru⟩:=vals1 r1;cases (show u=Value.ref a from ru);obtain⟨its,rv,pl,hz⟩:=I2.list hq;have hi:=intsAre_of rv;obtain⟨zs,hzs⟩:=hi.allInts.items;have hlen:ns.length=zs.size:=by
  have h1:=rv.length;rw[List.length_map] at h1;have h2:its.toArray.size=zs.size:=by rw[hzs];simp[intItems]
  rw[List.size_toArray] at h2;omega
 refine OS.max_def (I2.ok.hd hc) (hzs ▸ pl.isList) (fun hne v h' tk hP hk=>?_) (fun h0 h' tk hk=>?_)
 ·obtain⟨m,t,rfl,hm⟩:=maxd_of hi hzs hne hP;exact⟨.int m,H2,I2.kept (t':=tk) hk,⟨t,rfl⟩,q m (.inr hm)⟩
 ·exact⟨.int k,H2,I2.kept (t':=tk) hk,r2,q k (.inl ⟨List.eq_nil_of_length_eq_zero (by omega),rfl⟩)⟩
end
end L2
namespace My
open PySem L2 OF
noncomputable def Sz (N m:Nat) (W:Nat→Int):Prop:=∃ P:Terms,(∀ t∈P,0≤t.1∧t.1<2^N)∧P.length≤m∧∀ g:Nat,worthL P (g:Int)=W g
theorem bt_bit (g x:Nat):bt g x=0∨bt g x=1:=by unfold bt;split <;> simp
theorem bt_set (g i:Nat) (b:Bool) (j:Nat):bt (setB g i b) j=if j=i then (if b=true then 1 else 0) else bt g j:=by
 unfold bt;rw[setB_bit];by_cases h:j=i
 ·rw[if_pos h,if_pos h]
 ·rw[if_neg h,if_neg h]
theorem set_low {N i:Nat} (h:N≤i) (g:Nat) (b:Bool):setB g i b % 2^N=g % 2^N:=by
 apply Nat.eq_of_testBit_eq;intro j;rw[Nat.testBit_mod_two_pow,Nat.testBit_mod_two_pow,setB_bit];by_cases z:j<N
 ·rw[if_neg (by omega)]
 ·rw[decide_eq_false z,Bool.false_and,Bool.false_and]
theorem Sz.low {N m i:Nat}{W:Nat→Int} (h:Sz N m W) (hi:N≤i) (g:Nat) (b:Bool):W (setB g i b)=W g:=by
 obtain⟨P,h1,_,h3⟩:=h;rw[← h3,← h3,worth_low h1,set_low hi,← worth_low h1]
theorem Sz.up {N M m k:Nat}{W:Nat→Int} (h:Sz N m W) (h1:N≤M) (h2:m≤k):Sz M k W:=by
 obtain⟨P,p1,p2,p3⟩:=h;exact⟨P,keys_up h1 p1,Nat.le_trans p2 h2,p3⟩
theorem Sz.add {N a b:Nat}{V W:Nat→Int} (h:Sz N a V) (k:Sz N b W):Sz N (a+b) (fun g=>V g+W g):=by
 obtain⟨P,p1,p2,p3⟩:=h;obtain⟨R,r1,r2,r3⟩:=k;refine⟨P++R,fun t ht=>(List.mem_append.mp ht).elim (p1 t) (r1 t),by rw[List.length_append];omega,fun g=>?_⟩;rw[worth_plus,p3,r3]
theorem worth_scale (l:Terms) (c:Int) (g:Int):worthL (l.map fun t=>(t.1,t.2 * c)) g=worthL l g * c:=by
 rw[worth_lin,worth_lin];induction l with
 | nil=>rw[List.map_nil];show (0:Int)=0 * c;omega
 | cons t r ih =>
  rw[List.map_cons];unfold lin;rw[ih,Int.add_mul,Int.mul_assoc]
theorem Sz.mul {N a:Nat}{W:Nat→Int} (h:Sz N a W) (c:Int):Sz N a (fun g=>W g * c):=by
 obtain⟨P,p1,p2,p3⟩:=h;refine⟨P.map fun t=>(t.1,t.2 * c),fun t ht=>?_,by rw[List.length_map];exact p2,fun g=>?_⟩
 ·obtain⟨u,hu,rfl⟩:=List.mem_map.mp ht;exact p1 u hu
 ·rw[worth_scale,p3]
theorem Sz.bit {N a i:Nat}{W:Nat→Int} (h:Sz N a W) (hi:i<N):Sz N a (fun g=>W g * bt g i):=by
 obtain⟨P,p1,p2,p3⟩:=h;have k:=keys_up (show i+1≤N by omega) (wire_keys i);refine⟨prodL P (wireL i),word_keys (w:=0) p1 k,?_,fun g=>?_⟩
 ·rw[prodL_len];show P.length * 1≤a;omega
 ·rw[worth_times (fun t ht=>(p1 t ht).1) (fun t ht=>(k t ht).1) (Int.natCast_nonneg _),p3,worth_wire];rfl
theorem Sz.const (N:Nat) (c:Int):Sz N 1 (fun _=>c):=⟨[(0,c)],fun t ht=>by
 rw[List.mem_singleton.mp ht];exact⟨Int.le_refl _,by rw[pow_cast];have:=Nat.two_pow_pos N;show (0:Int)<_;omega⟩,Nat.le_refl _,fun g=>one_worth c g⟩
theorem Sz.wire {N i:Nat} (hi:i<N) (c:Int):Sz N 1 (fun g=>c * bt g i):=(Sz.const N c).bit hi
theorem nodup_sub {α : Type} [DecidableEq α]:∀ {l B:List α},l.Nodup→(∀ x∈l,x∈B)→l.length≤B.length
 | [],_,_,_=>Nat.zero_le _
 | a :: r,B,hn,hs=>by
  obtain⟨h1,h1'⟩:=List.nodup_cons.mp hn;have ha:=hs a (List.mem_cons_self ..);have h2:=nodup_sub (l:=r) (B:=B.erase a) h1' fun x hx=>(List.mem_erase_of_ne (fun z:x=a=>h1 (z ▸ hx))).mpr (hs x (List.mem_cons_of_mem _ hx))
  have h4:0<B.length:=List.length_pos_of_mem ha;rw[List.length_erase_of_mem ha] at h2;rw[List.length_cons];omega
theorem Sz.len {N m:Nat}{f:Terms} (hf:IsForm f) (hk:∀ t∈f,0≤t.1∧t.1<2^N) (h:Sz N m fun g=>worthL f (g:Int)):f.length≤m:=by
 obtain⟨P,p1,p2,p3⟩:=h;obtain⟨F,hF⟩:=form_ex P;have e:F=f:=forms_eq hF.toIsForm hf (hF.keys p1) hk fun g=>by rw[worth_congr _ hF.val,p3]
 subst e;refine Nat.le_trans ?_ p2;have h1:(F.map (·.1)).Nodup:=by
  rw[List.Nodup,List.pairwise_map];exact hf.rise.imp fun z e=>by omega
 have h2:=nodup_sub h1 (B:=P.map (·.1)) fun x hx=>by
  obtain⟨t,ht,rfl⟩:=List.mem_map.mp hx;exact hF.src t ht
 rw[List.length_map,List.length_map] at h2;exact h2
noncomputable def gval (g:Nat):Gate→Int
 | .fix b=>b
 | .no a=>1-bt g a
 | .two w a b=>say w (bt g a) (bt g b)
noncomputable def gvB (t:Gate) (g:Nat):Bool:=decide (gval g t=1)
noncomputable def Gd (n B:Nat):List Gate→(Nat→Int)→Prop
 | [],W=>Sz n B W
 | t :: r,W=>Sz (n+r.length+1) B W∧Gd n B r (fun g=>W (setB g (n+r.length) (gvB t g)))
theorem gval_worth {n g:Nat}{t:Gate} (h:GOk n t):worthL (gateL t) (g:Int)=gval g t:=by
 have e:=worth_gate (g:=g) (bs:=(List.range n).map fun k=>bt g k) h fun k hk=>by
  unfold getN;rw[List.getD_eq_getElem?_getD,List.getElem?_map,List.getElem?_range hk];rfl
 rw[e];have e2:∀ k,k<n→getN ((List.range n).map fun k=>bt g k) k=bt g k:=fun k hk=>by
  unfold getN;rw[List.getD_eq_getElem?_getD,List.getElem?_map,List.getElem?_range hk];rfl
 cases t with
 | fix b=>rfl
 | no a=>show 1-getN _ a=1-bt g a;rw[e2 a h]
 | two w a b =>
  obtain⟨_,h1,h2⟩:w<3∧a<n∧b<n:=h;show say w (getN _ a) (getN _ b)=say w (bt g a) (bt g b);rw[e2 a h1,e2 b h2]
theorem gval_bit {n g:Nat}{t:Gate} (h:GOk n t):Bit (gval g t):=by
 cases t with
 | fix b=>exact h
 | no a=>show Bit (1-bt g a);rcases bt_bit g a with z | z <;> rw[z] <;> simp[Bit]
 | two w a b=>exact say_bit (bt_bit g a) (bt_bit g b)
theorem gvB_val {n g:Nat}{t:Gate} (h:GOk n t):(if gvB t g=true then (1:Int) else 0)=gval g t:=by
 unfold gvB;rcases gval_bit (g:=g) h with z | z <;> rw[z] <;> simp
theorem Gd.here {n B:Nat}{r:List Gate}{W:Nat→Int} (h:Gd n B r W):Sz (n+r.length) B W:=by
 cases r with
 | nil=>exact h
 | cons t r=>exact h.1
theorem Gd.next {n B:Nat}{t:Gate}{r:List Gate}{f G h:Terms} (hd:Gd n B (t :: r) fun g=>worthL f (g:Int)) (hok:GOk (n+r.length) t) (hf:∀ t∈f,0≤t.1) (hG:FormOf G (gateL t)) (hh:FormOf h (putL (n+r.length) G f)) :
  Gd n B r fun g=>worthL h (g:Int):=by
 have e:(fun g:Nat=>worthL h (g:Int))=fun g:Nat=>worthL f ((setB g (n+r.length) (gvB t g):Nat):Int):=by
  funext g
  have kG:=hG.keys (gate_keys hok);rw[worth_congr _ hh.val,worth_put (b:=gvB t g) hf (fun t ht=>(kG t ht).1) (by rw[worth_congr _ hG.val,gval_worth hok,gvB_val hok])]
 rw[e];exact hd.2
theorem Sz.and {i m x y:Nat}{W:Nat→Int} (h:Sz (i+1) m W) (hx:x<i) (hy:y<i):Sz i m (fun g=>W (setB g i (gvB (.two 0 x y) g))):=by
 obtain⟨P,p1,p2,p3⟩:=h;have hok:GOk i (.two 0 x y):=⟨by decide,hx,hy⟩;have hk:=gate_keys hok;refine⟨putL i (gateL (.two 0 x y)) P,put_keys p1 hk,?_,fun g=>?_⟩
 ·unfold putL;have e:(gateL (.two 0 x y)).length=1:=rfl;rw[List.length_append,prodL_len,e,Nat.mul_one,out_off_len];exact p2
 ·rw[worth_put (b:=gvB (.two 0 x y) g) (fun t ht=>(p1 t ht).1) (fun t ht=>(hk t ht).1) (by rw[gval_worth hok,gvB_val hok]),p3]
theorem Gd.ands {n B:Nat}:∀ {r:List Gate}{W:Nat→Int},(∀ (k:Nat) (t:Gate),r[k]? = some t→∃ x y,t = .two 0 x y∧x<n+(r.length-1-k)∧y<n+(r.length-1-k))→Sz (n+r.length) B W→Gd n B r W
 | [],W,_,h=>h
 | t :: r,W,hr,h=>by
  obtain⟨x,y,rfl,hx,hy⟩:=hr 0 t rfl;refine⟨h,Gd.ands (fun k u hu=>?_) (Sz.and h (by simpa using hx) (by simpa using hy))⟩;obtain⟨x',y',e,h1,h2⟩:=hr (k+1) u (by simpa using hu);exact⟨x',y',e,by rw[List.length_cons] at h1;omega,by rw[List.length_cons] at h2;omega⟩
noncomputable def Ws (s:Nat→Int):List Nat→Nat→Int
 | [],_=>0
 | x :: r,g=>s 0 * bt g x+Ws (fun j=>s (j+1)) r g
theorem Ws_snoc (g x:Nat):∀ (r:List Nat) (s:Nat→Int),Ws s (r ++ [x]) g=Ws s r g+s r.length * bt g x
 | [],s=>by show s 0 * bt g x+0=0+s 0 * bt g x;omega
 | y :: r,s=>by
  show s 0 * bt g y+Ws (fun j=>s (j+1)) (r ++ [x]) g=s 0 * bt g y+Ws (fun j=>s (j+1)) r g+s (r.length+1) * bt g x;rw[Ws_snoc g x r];omega
theorem Ws_sz {N:Nat}:∀ (r:List Nat) (s:Nat→Int),(∀ x∈r,x<N)→Sz N r.length (Ws s r)
 | [],s,_=>⟨[],(fun t h=>by cases h),Nat.le_refl _,fun g=>rfl⟩
 | x :: r,s,h=>by
  have h1:=(Sz.wire (h x (List.mem_cons_self ..)) (s 0)).add (Ws_sz r (fun j=>s (j+1)) fun y hy=>h y (List.mem_cons_of_mem _ hy));exact h1.up (Nat.le_refl _) (by rw[List.length_cons];omega)
theorem Ws_set {i:Nat} (g:Nat) (b:Bool):∀ (r:List Nat) (s:Nat→Int),(∀ x∈r,x<i)→Ws s r (setB g i b)=Ws s r g:=fun r s h=>(Ws_sz r s h).low (Nat.le_refl _) g b
theorem wsum_take (ws:List Nat) (g:Nat):∀ i,i≤ws.length→wsumN ws g i=Ws (fun j=>2^j) (ws.take i) g
 | 0,_=>by rw[List.take_zero];rfl
 | i+1,h=>by
  have hi:i<ws.length:=by omega
  have e:ws.take (i+1)=ws.take i ++ [ws.getD i 0]:=by
   rw[List.take_add_one,List.getElem?_eq_getElem hi,List.getD_eq_getElem?_getD,List.getElem?_eq_getElem hi];rfl
  rw[e,Ws_snoc,← wsum_take ws g i (by omega),List.length_take,Nat.min_eq_left (by omega)];show wsumN ws g i+bt g (ws.getD i 0) * 2^i=_;rw[Int.mul_comm]
theorem wordAt_false (ws:List Nat) (g:Nat):wordAt ws false g=Ws (fun j=>2^j) ws g:=by
 unfold wordAt;rw[if_neg (by simp),wsum_take ws g ws.length (Nat.le_refl _),List.take_length];omega
inductive Ad (n0:Nat):List Gate→List Nat→Option Nat→List (List Nat)→Prop
 | nil:Ad n0 [] [] none []
 | one {rs os ps x} (h:Ad n0 rs os none ps) (hx:x<n0):Ad n0 rs (os ++ [x]) none (ps ++ [[x]])
 | two {rs os ps x y} (h:Ad n0 rs os none ps) (hx:x<n0) (hy:y<n0):Ad n0 (rs ++ [.two 2 y x,.two 0 y x]) (os ++ [n0+rs.length]) (some (n0+rs.length+1)) (ps ++ [[x,y]])
 | twoC {rs os ps c x} (h:Ad n0 rs os (some c) ps) (hx:x<n0):Ad n0 (rs ++ [.two 2 c x,.two 0 c x]) (os ++ [n0+rs.length]) (some (n0+rs.length+1)) (ps ++ [[x]])
 | three {rs os ps c x y} (h:Ad n0 rs os (some c) ps) (hx:x<n0) (hy:y<n0) :
  Ad n0 (rs ++ [.two 2 c y,.two 0 c y,.two 2 (n0+rs.length) x,.two 0 (n0+rs.length) x,.two 1 (n0+rs.length+3) (n0+rs.length+1)]) (os ++ [n0+rs.length+2]) (some (n0+rs.length+4)) (ps ++ [[x,y]])
noncomputable def cbt (g:Nat):Option Nat→Int
 | none=>0
 | some c=>bt g c
structure AdF (n0:Nat) (rs:List Gate) (os:List Nat) (c:Option Nat) (ps:List (List Nat)):Prop where
 rows:RowsOk n0 rs
 outs:∀ o∈os,o<n0+rs.length
 car:∀ x,c=some x→x<n0+rs.length
 len:rs.length≤5 * os.length
 pl:os.length=ps.length
theorem RowsOk.app1 {n:Nat}{gs:List Gate}{g:Gate} (h:RowsOk n gs) (hg:GOk (n+gs.length) g):RowsOk n (gs ++ [g]):=fun i x hx=>by
 rcases Nat.lt_or_ge i gs.length with z | z
 ·rw[List.getElem?_append_left z] at hx;exact h i x hx
 ·rw[List.getElem?_append_right z] at hx;rcases Nat.eq_zero_or_pos (i-gs.length) with w | w
  ·rw[w] at hx;have e:x=g:=by simpa using hx.symm
   rw[e,show i=gs.length by omega];exact hg
  ·rw[List.getElem?_eq_none (by rw[List.length_singleton];exact w)] at hx;cases hx
theorem Ad.fact {n0:Nat}{rs:List Gate}{os:List Nat}{c:Option Nat}{ps:List (List Nat)} (h:Ad n0 rs os c ps):AdF n0 rs os c ps:=by
 have snoc:∀ {os:List Nat}{a b x:Nat},(∀ o∈os,o<a)→a≤b→x<b→∀ o∈os ++ [x],o<b:=fun {os a b x} h1 h2 h3 o ho=>by
  rcases List.mem_append.mp ho with z | z
  ·have:=h1 o z;omega
  ·rw[List.mem_singleton.mp z];exact h3
 induction h with
 | nil=>exact⟨(fun i g h=>by simp at h),(fun o h=>by cases h),(fun x h=>by cases h),Nat.zero_le _,rfl⟩
 | one h hx ih=>exact⟨ih.rows,snoc ih.outs (Nat.le_refl _) (by omega),(fun x h=>by cases h),(by rw[List.length_append];have:=ih.len;omega),by rw[List.length_append,List.length_append,ih.pl];rfl⟩
 | @two rs os ps x y h hx hy ih =>
  have e:rs ++ [Gate.two 2 y x,.two 0 y x]=(rs ++ [.two 2 y x]) ++ [.two 0 y x]:=by rw[List.append_assoc];rfl
  have l:(rs ++ [Gate.two 2 y x,.two 0 y x]).length=rs.length+2:=by rw[List.length_append];rfl
  refine⟨by
   rw[e];refine RowsOk.app1 (RowsOk.app1 ih.rows ?_) ?_
   all_goals try simp only[List.length_append,List.length_singleton]
   all_goals exact⟨by decide,by omega,by omega⟩,by rw[l];exact snoc ih.outs (by omega) (by omega),(fun z hz=>by cases hz;rw[l];omega),by rw[l,List.length_append];have:=ih.len;show _≤5 * (os.length+1);omega,by rw[List.length_append,List.length_append,ih.pl];rfl⟩
 | @twoC rs os ps c x h hx ih =>
  have e:rs ++ [Gate.two 2 c x,.two 0 c x]=(rs ++ [.two 2 c x]) ++ [.two 0 c x]:=by rw[List.append_assoc];rfl
  have l:(rs ++ [Gate.two 2 c x,.two 0 c x]).length=rs.length+2:=by rw[List.length_append];rfl
  have hc:=ih.car c rfl;refine⟨by
   rw[e];refine RowsOk.app1 (RowsOk.app1 ih.rows ?_) ?_
   all_goals try simp only[List.length_append,List.length_singleton]
   all_goals exact⟨by decide,by omega,by omega⟩,by rw[l];exact snoc ih.outs (by omega) (by omega),(fun z hz=>by cases hz;rw[l];omega),by rw[l,List.length_append];have:=ih.len;show _≤5 * (os.length+1);omega,by rw[List.length_append,List.length_append,ih.pl];rfl⟩
 | @three rs os ps c x y h hx hy ih =>
  have e:rs ++ [Gate.two 2 c y,.two 0 c y,.two 2 (n0+rs.length) x,.two 0 (n0+rs.length) x,.two 1 (n0+rs.length+3) (n0+rs.length+1)]=((((rs ++ [.two 2 c y]) ++ [.two 0 c y]) ++ [.two 2 (n0+rs.length) x]) ++ [.two 0 (n0+rs.length) x]) ++ [.two 1 (n0+rs.length+3) (n0+rs.length+1)]:=by simp[List.append_assoc]
  have l:(rs ++ [Gate.two 2 c y,.two 0 c y,.two 2 (n0+rs.length) x,.two 0 (n0+rs.length) x,.two 1 (n0+rs.length+3) (n0+rs.length+1)]).length=rs.length+5:=by rw[List.length_append];rfl
  have hc:=ih.car c rfl;refine⟨by
   rw[e];refine RowsOk.app1 (RowsOk.app1 (RowsOk.app1 (RowsOk.app1 (ih.rows.app1 ⟨by decide,by omega,by omega⟩) ?_) ?_) ?_) ?_
   all_goals simp only[List.length_append,List.length_singleton];exact⟨by decide,by omega,by omega⟩,by rw[l];exact snoc ih.outs (by omega) (by omega),(fun z hz=>by cases hz;rw[l];omega),by rw[l,List.length_append];have:=ih.len;show _≤5 * (os.length+1);omega,by rw[List.length_append,List.length_append,ih.pl];rfl⟩
theorem Ad.some_len {n0:Nat}{rs:List Gate}{os:List Nat}{c:Nat}{ps:List (List Nat)} (h:Ad n0 rs os (some c) ps):1≤os.length:=by
 cases h <;> (rw[List.length_append,List.length_singleton];omega)
theorem bt_gate {n g i:Nat}{t:Gate} (h:GOk n t):bt (setB g i (gvB t g)) i=gval g t:=by rw[bt_set,if_pos rfl,gvB_val h]
theorem bt_other {g i j:Nat}{b:Bool} (h:j≠i):bt (setB g i b) j=bt g j:=by rw[bt_set,if_neg h]
theorem gv_and (g a b:Nat):gval g (.two 0 a b)=bt g a * bt g b:=rfl
theorem gv_xor (g a b:Nat):gval g (.two 2 a b)=bt g a+bt g b-2 * (bt g a * bt g b):=by
 show (bt g a+bt g b) % 2=_;rcases bt_bit g a with z | z <;> rcases bt_bit g b with w | w <;> rw[z,w] <;> decide
theorem gv_or (g a b:Nat):gval g (.two 1 a b)=bt g a+bt g b-bt g a * bt g b:=by
 show (if bt g b > bt g a then bt g b else bt g a)=_;rcases bt_bit g a with z | z <;> rcases bt_bit g b with w | w <;> rw[z,w] <;> decide
theorem pw3 (k:Nat):3^(k+1)=3 * 3^k:=by rw[Nat.pow_succ,Nat.mul_comm]
theorem Sz.congr {N m:Nat}{V W:Nat→Int} (h:Sz N m V) (e:∀ g,V g=W g):Sz N m W:=by
 obtain⟨P,p1,p2,p3⟩:=h;exact⟨P,p1,p2,fun g=>by rw[p3,e]⟩
theorem Gd.congr {n B:Nat}{r:List Gate}{V W:Nat→Int} (h:Gd n B r V) (e:∀ g,V g=W g):Gd n B r W:=by
 have:V=W:=funext e
 rw[← this];exact h
theorem Ad.gd {n0:Nat}{rs:List Gate}{os:List Nat}{c:Option Nat}{ps:List (List Nat)} (h:Ad n0 rs os c ps):∀ (n:Nat) (r0:List Gate) (A B:Nat→Int) (a b Bd:Nat) (s:Nat→Int),n+r0.length=n0→Sz n0 a A→Sz n0 b B →
  2 * a+(b+2) * (3^os.length-1)+4 * os.length≤2 * Bd→(∀ W,Sz n0 Bd W→Gd n Bd r0 W)→Gd n Bd (rs.reverse++r0) (fun g=>A g+B g * cbt g c+Ws s os g):=by
 induction h with
 | nil =>
  intro n r0 A B a b Bd s hn hA hB hb k;refine k _ ((hA.up (Nat.le_refl _) (by simp at hb;omega)).congr fun g=>?_);show A g=A g+B g * 0+0;omega
 | @one rs os ps x h hx ih =>
  intro n r0 A B a b Bd s hn hA hB hb k;rw[List.length_append,List.length_singleton,pw3] at hb;have h3:1≤3^os.length:=Nat.pow_pos (by decide);have hm:(b+2) * (3^os.length-1)≤(b+2) * (3 * 3^os.length-1):=Nat.mul_le_mul_left _ (by omega);refine (ih n r0 (fun g=>A g+s os.length * bt g x) B (a+1) b Bd s hn (hA.add (Sz.wire hx _)) hB (by omega) k).congr fun g=>?_
  show A g+s os.length * bt g x+B g * 0+Ws s os g=A g+B g * 0+Ws s (os ++ [x]) g;rw[Ws_snoc];omega
 | @two rs os ps x y h hx hy ih =>
  intro n r0 A B a b Bd s hn hA hB hb k;have F:=h.fact;obtain⟨M,hM⟩:∃ M,n0+rs.length=M:=⟨_,rfl⟩;have hMl:n+(rs.reverse++r0).length=M:=by rw[List.length_append,List.length_reverse];omega
  have hos:∀ o∈os,o<M:=fun o ho=>by have:=F.outs o ho;omega
  rw[hM];rw[List.length_append,List.length_singleton,pw3] at hb;obtain⟨K,hK⟩:∃ K,3^os.length=K+1:=⟨3^os.length-1,by have:0<3^os.length:=Nat.pow_pos (by decide);omega⟩;rw[hK] at hb;have hmm:(b+2) * (3 * (K+1)-1)=(b+2) * K+2 * ((b+2) * K)+2 * (b+2):=by
   rw[show 3 * (K+1)-1=K+(2 * K+2) by omega,Nat.mul_add,Nat.mul_add,Nat.mul_left_comm,Nat.mul_comm 2 (b+2)];omega
  rw[hmm] at hb;rw[List.reverse_append];show Gd n Bd (.two 0 y x :: .two 2 y x :: (rs.reverse++r0)) _;have w1:=Ws_sz os s hos;have A1:Sz (M+2) a A:=hA.up (by omega) (Nat.le_refl _);have B1:Sz (M+2) b B:=hB.up (by omega) (Nat.le_refl _);have A2:Sz (M+1) a A:=hA.up (by omega) (Nat.le_refl _);have B2:Sz (M+1) b B:=hB.up (by omega) (Nat.le_refl _);have g1:GOk (M+1) (.two 0 y x):=⟨by decide,by omega,by omega⟩;have g2:GOk M (.two 2 y x):=⟨by decide,by omega,by omega⟩;refine⟨?_,?_,?_⟩
  ·rw[List.length_cons,← Nat.add_assoc,hMl];refine (((A1.add (B1.bit (i:=M+1) (by omega))).add ((w1.up (show M≤M+2 by omega) (Nat.le_refl _)).add (Sz.wire (show M<M+2 by omega) (s os.length)))).up (Nat.le_refl _) (by omega)).congr fun g=>?_
   show A g+B g * bt g (M+1)+(Ws s os g+s os.length * bt g M)=A g+B g * bt g (M+1)+Ws s (os ++ [M]) g;rw[Ws_snoc]
  ·rw[hMl];refine (((A2.add ((B2.bit (i:=y) (by omega)).bit (i:=x) (by omega))).add ((w1.up (show M≤M+1 by omega) (Nat.le_refl _)).add (Sz.wire (show M<M+1 by omega) (s os.length)))).up (Nat.le_refl _) (by omega)).congr fun g=>?_
   rw[List.length_cons,← Nat.add_assoc,hMl];show _=A (setB g (M+1) _)+B (setB g (M+1) _) * bt (setB g (M+1) _) (M+1)+Ws s (os ++ [M]) (setB g (M+1) _);rw[hA.low (by omega),hB.low (by omega),bt_gate g1,gv_and,Ws_snoc,Ws_set _ _ _ _ (fun o ho=>by have:=hos o ho;omega),bt_other (by omega),Int.mul_assoc]
  ·refine (ih n r0 (fun g=>A g+(B g * bt g y * bt g x+(s os.length * bt g y+(s os.length * bt g x+(-2 * s os.length) * bt g y * bt g x)))) B (a+(b+(1+(1+1)))) b Bd s hn (hA.add (((hB.bit hy).bit hx).add ((Sz.wire hy _).add ((Sz.wire hx _).add ((Sz.wire hy _).bit hx))))) hB (by rw[hK,Nat.add_sub_cancel];omega) k).congr fun g=>?_
   rw[List.length_cons,← Nat.add_assoc,hMl];show A g+(B g * bt g y * bt g x+(s os.length * bt g y+(s os.length * bt g x+(-2 * s os.length) * bt g y * bt g x)))+B g * 0+Ws s os g=A (setB (setB g M _) (M+1) _)+B (setB (setB g M _) (M+1) _) * bt (setB (setB g M _) (M+1) _) (M+1)+Ws s (os ++ [M]) (setB (setB g M _) (M+1) _);rw[hA.low (by omega),hA.low (by omega),hB.low (by omega),hB.low (by omega),bt_gate g1,gv_and,Ws_snoc,Ws_set _ _ _ _ (fun o ho=>by have:=hos o ho;omega),Ws_set _ _ _ _ hos,bt_other (by omega),bt_other (by omega),bt_other (j:=M) (by omega),bt_gate g2,gv_xor];generalize B g = β,s os.length = σ;rcases bt_bit g x with z | z <;> rcases bt_bit g y with w | w <;> rw[z,w] <;> omega
 | @twoC rs os ps c x h hx ih =>
  intro n r0 A B a b Bd s hn hA hB hb k;have F:=h.fact;obtain⟨M,hM⟩:∃ M,n0+rs.length=M:=⟨_,rfl⟩;have hMl:n+(rs.reverse++r0).length=M:=by rw[List.length_append,List.length_reverse];omega
  have hos:∀ o∈os,o<M:=fun o ho=>by have:=F.outs o ho;omega
  have hc:c<M:=by have:=F.car c rfl;omega
  rw[hM];rw[List.length_append,List.length_singleton,pw3] at hb;obtain⟨K,hK⟩:∃ K,3^os.length=K+1:=⟨3^os.length-1,by have:0<3^os.length:=Nat.pow_pos (by decide);omega⟩;rw[hK] at hb;have hmm:(b+2) * (3 * (K+1)-1)=(b+2) * K+2 * ((b+2) * K)+2 * (b+2):=by
   rw[show 3 * (K+1)-1=K+(2 * K+2) by omega,Nat.mul_add,Nat.mul_add,Nat.mul_left_comm,Nat.mul_comm 2 (b+2)];omega
  rw[hmm] at hb;rw[List.reverse_append];have w1:=Ws_sz os s hos;show Gd n Bd (.two 0 c x :: .two 2 c x :: (rs.reverse++r0)) _;have A1:Sz (M+2) a A:=hA.up (by omega) (Nat.le_refl _);have B1:Sz (M+2) b B:=hB.up (by omega) (Nat.le_refl _);have A2:Sz (M+1) a A:=hA.up (by omega) (Nat.le_refl _);have B2:Sz (M+1) b B:=hB.up (by omega) (Nat.le_refl _);have g1:GOk (M+1) (.two 0 c x):=⟨by decide,by omega,by omega⟩;have g2:GOk M (.two 2 c x):=⟨by decide,by omega,by omega⟩;have e4:(b+4) * K=(b+2) * K+2 * K:=by rw[show b+4=(b+2)+2 by omega,Nat.add_mul]
  have e5:2 * K≤(b+2) * K:=Nat.mul_le_mul_right _ (by omega);refine⟨?_,?_,?_⟩
  ·rw[List.length_cons,← Nat.add_assoc,hMl];refine (((A1.add (B1.bit (i:=M+1) (by omega))).add ((w1.up (show M≤M+2 by omega) (Nat.le_refl _)).add (Sz.wire (show M<M+2 by omega) (s os.length)))).up (Nat.le_refl _) (by omega)).congr fun g=>?_
   show A g+B g * bt g (M+1)+(Ws s os g+s os.length * bt g M)=A g+B g * bt g (M+1)+Ws s (os ++ [M]) g;rw[Ws_snoc]
  ·rw[hMl];refine (((A2.add ((B2.bit (i:=c) (by omega)).bit (i:=x) (by omega))).add ((w1.up (show M≤M+1 by omega) (Nat.le_refl _)).add (Sz.wire (show M<M+1 by omega) (s os.length)))).up (Nat.le_refl _) (by omega)).congr fun g=>?_
   rw[List.length_cons,← Nat.add_assoc,hMl];show _=A (setB g (M+1) _)+B (setB g (M+1) _) * bt (setB g (M+1) _) (M+1)+Ws s (os ++ [M]) (setB g (M+1) _);rw[hA.low (by omega),hB.low (by omega),bt_gate g1,gv_and,Ws_snoc,Ws_set _ _ _ _ (fun o ho=>by have:=hos o ho;omega),bt_other (by omega),Int.mul_assoc]
  ·refine (ih n r0 (fun g=>A g+s os.length * bt g x) (fun g=>B g * bt g x+(s os.length+(-2 * s os.length) * bt g x)) (a+1) (b+(1+1)) Bd s hn (hA.add (Sz.wire hx _)) ((hB.bit hx).add ((Sz.const _ _).add (Sz.wire hx _))) (by rw[hK,Nat.add_sub_cancel,show b+(1+1)+2=b+4 by omega];omega) k).congr fun g=>?_
   rw[List.length_cons,← Nat.add_assoc,hMl];show A g+s os.length * bt g x+(B g * bt g x+(s os.length+(-2 * s os.length) * bt g x)) * bt g c+Ws s os g=A (setB (setB g M _) (M+1) _)+B (setB (setB g M _) (M+1) _) * bt (setB (setB g M _) (M+1) _) (M+1)+Ws s (os ++ [M]) (setB (setB g M _) (M+1) _);rw[hA.low (by omega),hA.low (by omega),hB.low (by omega),hB.low (by omega),bt_gate g1,gv_and,Ws_snoc,Ws_set _ _ _ _ (fun o ho=>by have:=hos o ho;omega),Ws_set _ _ _ _ hos,bt_other (by omega),bt_other (by omega),bt_other (j:=M) (by omega),bt_gate g2,gv_xor];generalize B g = β,s os.length = σ;rcases bt_bit g x with z | z <;> rcases bt_bit g c with w | w <;> rw[z,w] <;> omega
 | @three rs os ps c x y h hx hy ih =>
  intro n r0 A B a b Bd s hn hA hB hb k;have F:=h.fact;obtain⟨M,hM⟩:∃ M,n0+rs.length=M:=⟨_,rfl⟩;have hMl:n+(rs.reverse++r0).length=M:=by rw[List.length_append,List.length_reverse];omega
  have hos:∀ o∈os,o<M:=fun o ho=>by have:=F.outs o ho;omega
  have hc:c<M:=by have:=F.car c rfl;omega
  rw[hM];rw[List.length_append,List.length_singleton,pw3] at hb;obtain⟨K,hK⟩:∃ K,3^os.length=K+1:=⟨3^os.length-1,by have:0<3^os.length:=Nat.pow_pos (by decide);omega⟩;rw[hK] at hb;have hmm:(b+2) * (3 * (K+1)-1)=(b+2) * K+2 * ((b+2) * K)+2 * (b+2):=by
   rw[show 3 * (K+1)-1=K+(2 * K+2) by omega,Nat.mul_add,Nat.mul_add,Nat.mul_left_comm,Nat.mul_comm 2 (b+2)];omega
  rw[hmm] at hb;rw[List.reverse_append];have w1:=Ws_sz os s hos;have hol:1≤os.length:=h.some_len;have hKb:2 * (b+2)≤(b+2) * K:=by
   have h9:3^1≤3^os.length:=Nat.pow_le_pow_right (by decide) hol;rw[Nat.mul_comm];exact Nat.mul_le_mul_left _ (by omega)
  show Gd n Bd (.two 1 (M+3) (M+1) :: .two 0 M x :: .two 2 M x :: .two 0 c y :: .two 2 c y :: (rs.reverse++r0)) _;have AA:∀ N,n0≤N→Sz N a A:=fun N hN=>hA.up hN (Nat.le_refl _)
  have BB:∀ N,n0≤N→Sz N b B:=fun N hN=>hB.up hN (Nat.le_refl _)
  have WW:∀ N,M≤N→Sz N os.length (Ws s os):=fun N hN=>w1.up hN (Nat.le_refl _)
  have Al:∀ g i v,n0≤i→A (setB g i v)=A g:=fun g i v hi=>hA.low hi g v
  have Bl:∀ g i v,n0≤i→B (setB g i v)=B g:=fun g i v hi=>hB.low hi g v
  have Wl:∀ g i v,M≤i→Ws s os (setB g i v)=Ws s os g:=fun g i v hi=>Ws_set _ _ _ _ fun o ho=>by have:=hos o ho;omega
  have g1:∀ g,bt (setB g (M+4) (gvB (.two 1 (M+3) (M+1)) g)) (M+4)=bt g (M+3)+bt g (M+1)-bt g (M+3) * bt g (M+1):=fun g=>by rw[bt_gate (n:=M+4) (t := .two 1 (M+3) (M+1)) ⟨by decide,by omega,by omega⟩,gv_or]
  have g2:∀ g,bt (setB g (M+3) (gvB (.two 0 M x) g)) (M+3)=bt g M * bt g x:=fun g=>by rw[bt_gate (n:=M+3) (t := .two 0 M x) ⟨by decide,by omega,by omega⟩,gv_and]
  have g3:∀ g,bt (setB g (M+2) (gvB (.two 2 M x) g)) (M+2)=bt g M+bt g x-2 * (bt g M * bt g x):=fun g=>by rw[bt_gate (n:=M+2) (t := .two 2 M x) ⟨by decide,by omega,by omega⟩,gv_xor]
  have g4:∀ g,bt (setB g (M+1) (gvB (.two 0 c y) g)) (M+1)=bt g c * bt g y:=fun g=>by rw[bt_gate (n:=M+1) (t := .two 0 c y) ⟨by decide,by omega,by omega⟩,gv_and]
  have g5:∀ g,bt (setB g M (gvB (.two 2 c y) g)) M=bt g c+bt g y-2 * (bt g c * bt g y):=fun g=>by rw[bt_gate (n:=M) (t := .two 2 c y) ⟨by decide,by omega,by omega⟩,gv_xor]
  have l1:∀ g,A g+B g * bt g (M+4)+Ws s (os ++ [M+2]) g=A g+B g * bt g (M+4)+(Ws s os g+s os.length * bt g (M+2)):=fun g=>by rw[Ws_snoc]
  refine Gd.congr (V:=fun g=>A g+B g * bt g (M+4)+(Ws s os g+s os.length * bt g (M+2))) ?_ fun g=>(l1 g).symm
  have z1:n+(Gate.two 0 M x :: .two 2 M x :: .two 0 c y :: .two 2 c y :: (rs.reverse++r0)).length=M+4:=by simp only[List.length_cons];omega
  have z2:n+(Gate.two 2 M x :: .two 0 c y :: .two 2 c y :: (rs.reverse++r0)).length=M+3:=by simp only[List.length_cons];omega
  have z3:n+(Gate.two 0 c y :: .two 2 c y :: (rs.reverse++r0)).length=M+2:=by simp only[List.length_cons];omega
  have z4:n+(Gate.two 2 c y :: (rs.reverse++r0)).length=M+1:=by simp only[List.length_cons];omega
  refine⟨?_,?_⟩
  ·rw[z1];exact (((AA _ (by omega)).add ((BB _ (by omega)).bit (by omega))).add ((WW _ (by omega)).add (Sz.wire (by omega) _))).up (Nat.le_refl _) (by omega)
  refine Gd.congr (V:=fun g=>A g+(B g * bt g (M+3)+(B g * bt g (M+1)+B g * bt g (M+3) * bt g (M+1) * (-1)))+(Ws s os g+s os.length * bt g (M+2))) ?_ fun g=>?_
  rotate_left
  ·dsimp only;rw[z1,Al _ _ _ (by omega),Bl _ _ _ (by omega),Wl _ _ _ (by omega),g1,bt_other (by omega)];generalize B g = β;rcases bt_bit g (M+3) with z | z <;> rcases bt_bit g (M+1) with w | w <;> rw[z,w] <;> omega
  refine⟨?_,?_⟩
  ·rw[z2];exact (((AA _ (by omega)).add (((BB _ (by omega)).bit (by omega)).add (((BB _ (by omega)).bit (by omega)).add ((((BB _ (by omega)).bit (by omega)).bit (by omega)).mul _)))).add ((WW _ (by omega)).add (Sz.wire (by omega) _))).up (Nat.le_refl _) (by omega)
  refine Gd.congr (V:=fun g=>A g+(B g * bt g x * bt g M+(B g * bt g (M+1)+B g * bt g x * bt g M * bt g (M+1) * (-1)))+(Ws s os g+s os.length * bt g (M+2))) ?_ fun g=>?_
  rotate_left
  ·dsimp only;rw[z2,Al _ _ _ (by omega),Bl _ _ _ (by omega),Wl _ _ _ (by omega),g2,bt_other (by omega),bt_other (by omega)];generalize B g = β;rcases bt_bit g M with z | z <;> rcases bt_bit g x with w | w <;> rcases bt_bit g (M+1) with u | u <;> rw[z,w,u] <;> omega
  refine⟨?_,?_⟩
  ·rw[z3];exact (((AA _ (by omega)).add ((((BB _ (by omega)).bit (by omega)).bit (by omega)).add (((BB _ (by omega)).bit (by omega)).add (((((BB _ (by omega)).bit (by omega)).bit (by omega)).bit (by omega)).mul _)))).add ((WW _ (by omega)).add (Sz.wire (by omega) _))).up (Nat.le_refl _) (by omega)
  refine Gd.congr (V:=fun g=>A g+(B g * bt g x * bt g M+(B g * bt g (M+1)+B g * bt g x * bt g M * bt g (M+1) * (-1)))+(Ws s os g+(s os.length * bt g M+(s os.length * bt g x+(-2 * s os.length) * bt g M * bt g x)))) ?_ fun g=>?_
  rotate_left
  ·dsimp only;rw[z3,Al _ _ _ (by omega),Bl _ _ _ (by omega),Wl _ _ _ (by omega),g3,bt_other (by omega),bt_other (by omega),bt_other (by omega)];generalize s os.length = σ;rcases bt_bit g M with z | z <;> rcases bt_bit g x with w | w <;> rw[z,w] <;> omega
  refine⟨?_,?_⟩
  ·rw[z4];exact (((AA _ (by omega)).add ((((BB _ (by omega)).bit (by omega)).bit (by omega)).add (((BB _ (by omega)).bit (by omega)).add (((((BB _ (by omega)).bit (by omega)).bit (by omega)).bit (by omega)).mul _)))).add ((WW _ (by omega)).add ((Sz.wire (by omega) _).add ((Sz.wire (by omega) _).add ((Sz.wire (by omega) _).bit (by omega)))))).up (Nat.le_refl _) (by omega)
  refine Gd.congr (V:=fun g=>A g+(B g * bt g x * bt g M+(B g * bt g y * bt g c+B g * bt g x * bt g M * bt g y * bt g c * (-1)))+(Ws s os g+(s os.length * bt g M+(s os.length * bt g x+(-2 * s os.length) * bt g M * bt g x)))) ?_ fun g=>?_
  rotate_left
  ·dsimp only;rw[z4,Al _ _ _ (by omega),Bl _ _ _ (by omega),Wl _ _ _ (by omega),g4,bt_other (by omega),bt_other (by omega)];generalize B g * bt g x = β;generalize B g = β';rcases bt_bit g M with z | z <;> rcases bt_bit g y with w | w <;> rcases bt_bit g c with u | u <;> rw[z,w,u] <;> omega
  refine⟨?_,?_⟩
  ·rw[hMl];exact (((AA _ (by omega)).add ((((BB _ (by omega)).bit (by omega)).bit (by omega)).add ((((BB _ (by omega)).bit (by omega)).bit (by omega)).add ((((((BB _ (by omega)).bit (by omega)).bit (by omega)).bit (by omega)).bit (by omega)).mul _)))).add ((WW _ (by omega)).add ((Sz.wire (by omega) _).add ((Sz.wire (by omega) _).add ((Sz.wire (by omega) _).bit (by omega)))))).up (Nat.le_refl _) (by omega)
  refine (ih n r0 (fun g=>A g+(B g * bt g x * bt g y+(s os.length * bt g x+(s os.length * bt g y+(-2 * s os.length) * bt g x * bt g y))))
   (fun g=>(B g * bt g x+(B g * bt g y+B g * bt g x * bt g y * (-2)))+(s os.length+((-2 * s os.length) * bt g x+((-2 * s os.length) * bt g y+(4 * s os.length) * bt g x * bt g y)))) (a+(b+(1+(1+1)))) (b+(b+b)+(1+(1+(1+1)))) Bd s hn
   (hA.add (((hB.bit hx).bit hy).add ((Sz.wire hx _).add ((Sz.wire hy _).add ((Sz.wire hx _).bit hy)))))
   (((hB.bit hx).add ((hB.bit hy).add (((hB.bit hx).bit hy).mul _))).add ((Sz.const _ _).add ((Sz.wire hx _).add ((Sz.wire hy _).add ((Sz.wire hx _).bit hy))))) (by
    rw[hK,Nat.add_sub_cancel,show b+(b+b)+(1+(1+(1+1)))+2=(b+2)+2 * (b+2) by omega,Nat.add_mul,Nat.mul_assoc];omega) k).congr fun g=>?_
  rw[hMl];show _=A (setB g M _)+(B (setB g M _) * bt (setB g M _) x * bt (setB g M _) M+(B (setB g M _) * bt (setB g M _) y * bt (setB g M _) c+B (setB g M _) * bt (setB g M _) x * bt (setB g M _) M * bt (setB g M _) y * bt (setB g M _) c * (-1)))+(Ws s os (setB g M _)+(s os.length * bt (setB g M _) M+(s os.length * bt (setB g M _) x+(-2 * s os.length) * bt (setB g M _) M * bt (setB g M _) x)));rw[Al _ _ _ (by omega),Bl _ _ _ (by omega),Wl _ _ _ (by omega),g5,bt_other (j:=x) (by omega),bt_other (j:=y) (by omega),bt_other (j:=c) (by omega)];show A g+(B g * bt g x * bt g y+(s os.length * bt g x+(s os.length * bt g y+(-2 * s os.length) * bt g x * bt g y)))+((B g * bt g x+(B g * bt g y+B g * bt g x * bt g y * (-2)))+(s os.length+((-2 * s os.length) * bt g x+((-2 * s os.length) * bt g y+(4 * s os.length) * bt g x * bt g y)))) * bt g c+Ws s os g=_;generalize B g = β,s os.length = σ;rcases bt_bit g x with z | z <;> rcases bt_bit g y with w | w <;> rcases bt_bit g c with u | u <;> rw[z,w,u] <;> omega
noncomputable def Bs (g:Nat):List Nat→Int
 | []=>0
 | x :: r=>bt g x+Bs g r
noncomputable def Psm (s:Nat→Int):List (List Nat)→Nat→Int
 | [],_=>0
 | x :: r,g=>s 0 * Bs g x+Psm (fun j=>s (j+1)) r g
theorem Psm_snoc (g:Nat) (x:List Nat):∀ (r:List (List Nat)) (s:Nat→Int),Psm s (r ++ [x]) g=Psm s r g+s r.length * Bs g x
 | [],s=>by show s 0 * Bs g x+0=0+s 0 * Bs g x;omega
 | y :: r,s=>by
  show s 0 * Bs g y+Psm (fun j=>s (j+1)) (r ++ [x]) g=s 0 * Bs g y+Psm (fun j=>s (j+1)) r g+s (r.length+1) * Bs g x;rw[Psm_snoc g x r];omega
noncomputable def p2 (j:Nat):Int:=2^j
theorem p2_succ (j:Nat):p2 (j+1)=2 * p2 j:=by unfold p2;rw[Int.pow_succ];omega
theorem Ad.val {n0:Nat}{rs:List Gate}{os:List Nat}{c:Option Nat}{ps:List (List Nat)} (h:Ad n0 rs os c ps) (G:Nat):(∀ i t,rs[i]? = some t→bt G (n0+i)=gval G t)→Ws p2 os G+p2 os.length * cbt G c=Psm p2 ps G:=by
 have at_:∀ {rs l:List Gate},(∀ i t,(rs++l)[i]? = some t→bt G (n0+i)=gval G t)→(∀ i t,rs[i]? = some t→bt G (n0+i)=gval G t)∧∀ k t,l[k]? = some t→bt G (n0+rs.length+k)=gval G t:=fun {rs l} h=>⟨fun i t hi=>h i t (by rw[List.getElem?_append_left (List.getElem?_eq_some_iff.mp hi).1];exact hi),fun k t hk=>by
  rw[Nat.add_assoc];exact h (rs.length+k) t (by rw[List.getElem?_append_right (by omega),Nat.add_sub_cancel_left];exact hk)⟩
 induction h with
 | nil=>intro _;rfl
 | @one rs os ps x h hx ih =>
  intro hG;have i:=ih hG;have hl:=h.fact.pl;rw[Ws_snoc,Psm_snoc,← hl,← i];show Ws p2 os G+p2 os.length * bt G x+p2 (os ++ [x]).length * 0=Ws p2 os G+p2 os.length * 0+p2 os.length * (bt G x+0);rw[Int.add_zero,Int.mul_zero,Int.mul_zero];omega
 | @two rs os ps x y h hx hy ih =>
  intro hG;obtain⟨q1,q2⟩:=at_ hG;have i:=ih q1;have hl:=h.fact.pl;have e0:=q2 0 _ rfl;have e1:=q2 1 _ rfl;rw[Nat.add_zero,gv_xor] at e0;rw[gv_and] at e1;rw[Ws_snoc,Psm_snoc,← hl,← i,List.length_append,List.length_singleton,p2_succ];show Ws p2 os G+p2 os.length * bt G (n0+rs.length)+2 * p2 os.length * bt G (n0+rs.length+1)=Ws p2 os G+p2 os.length * 0+p2 os.length * (bt G x+(bt G y+0));rw[e0,e1];generalize p2 os.length = σ;rcases bt_bit G x with z | z <;> rcases bt_bit G y with w | w <;> rw[z,w] <;> omega
 | @twoC rs os ps c x h hx ih =>
  intro hG;obtain⟨q1,q2⟩:=at_ hG;have i:=ih q1;have hl:=h.fact.pl;have e0:=q2 0 _ rfl;have e1:=q2 1 _ rfl;rw[Nat.add_zero,gv_xor] at e0;rw[gv_and] at e1;rw[Ws_snoc,Psm_snoc,← hl,← i,List.length_append,List.length_singleton,p2_succ];show Ws p2 os G+p2 os.length * bt G (n0+rs.length)+2 * p2 os.length * bt G (n0+rs.length+1)=Ws p2 os G+p2 os.length * bt G c+p2 os.length * (bt G x+0);rw[e0,e1];generalize p2 os.length = σ;rcases bt_bit G x with z | z <;> rcases bt_bit G c with w | w <;> rw[z,w] <;> omega
 | @three rs os ps c x y h hx hy ih =>
  intro hG;obtain⟨q1,q2⟩:=at_ hG;have i:=ih q1;have hl:=h.fact.pl;have e0:=q2 0 _ rfl;have e1:=q2 1 _ rfl;have e2:=q2 2 _ rfl;have e3:=q2 3 _ rfl;have e4:=q2 4 _ rfl;rw[Nat.add_zero,gv_xor] at e0;rw[gv_and] at e1 e3;rw[gv_xor] at e2;rw[gv_or,e1,e3] at e4;rw[e0] at e2 e4;rw[Ws_snoc,Psm_snoc,← hl,← i,List.length_append,List.length_singleton,p2_succ];show Ws p2 os G+p2 os.length * bt G (n0+rs.length+2)+2 * p2 os.length * bt G (n0+rs.length+4)=Ws p2 os G+p2 os.length * bt G c+p2 os.length * (bt G x+(bt G y+0));rw[e2,e4];generalize p2 os.length = σ;rcases bt_bit G x with z | z <;> rcases bt_bit G y with w | w <;> rcases bt_bit G c with u | u <;> rw[z,w,u] <;> omega
noncomputable def prW (xs ys:List Nat) (k:Nat):List Nat:=(xs[k]?).toList++(ys[k]?).toList
theorem prW_sum (xs ys:List Nat) (G:Nat):∀ K,Psm p2 ((List.range K).map (prW xs ys)) G=Ws p2 (xs.take K) G+Ws p2 (ys.take K) G
 | 0=>by rw[List.take_zero,List.take_zero];rfl
 | K+1=>by
  have ht:∀ zs:List Nat,Ws p2 (zs.take (K+1)) G=Ws p2 (zs.take K) G+p2 K * Bs G (zs[K]?).toList:=fun zs=>by
   rw[List.take_add_one];rcases Nat.lt_or_ge K zs.length with z | z
   ·rw[List.getElem?_eq_getElem z];show Ws p2 (zs.take K ++ [zs[K]]) G=_+p2 K * (bt G zs[K]+0);rw[Ws_snoc,List.length_take,Nat.min_eq_left (by omega),Int.add_zero]
   ·rw[List.getElem?_eq_none z];show Ws p2 (zs.take K ++ []) G=_+p2 K * 0;rw[List.append_nil];omega
  have hb:∀ a b:List Nat,Bs G (a++b)=Bs G a+Bs G b:=fun a b=>by
   induction a with
   | nil=>show Bs G b=0+Bs G b;omega
   | cons x r ih=>show bt G x+Bs G (r++b)=bt G x+Bs G r+Bs G b;rw[ih];omega
  rw[List.range_succ,List.map_append];show Psm p2 (_ ++ [prW xs ys K]) G=_;rw[Psm_snoc,prW_sum xs ys G K,List.length_map,List.length_range,ht,ht];unfold prW;rw[hb,Int.mul_add];omega
theorem Ws_take (g:Nat):∀ (l:List Nat) (m:Nat) (s:Nat→Int),Ws s (l.take m) g=Ws (fun j=>if j<m then s j else 0) l g
 | [],m,s=>by rw[List.take_nil];rfl
 | x :: r,0,s=>by
  rw[List.take_zero];show (0:Int)=(if 0<0 then s 0 else 0) * bt g x+Ws (fun j=>if j+1<0 then s (j+1) else 0) r g;have e:(fun j=>if j+1<0 then s (j+1) else 0)=fun j=>if j<0 then s j else 0:=by funext j;simp
  rw[e,← Ws_take g r 0 s,List.take_zero];show (0:Int)=0 * bt g x+0;omega
 | x :: r,m+1,s=>by
  show s 0 * bt g x+Ws (fun j=>s (j+1)) (r.take m) g=(if 0<m+1 then s 0 else 0) * bt g x+Ws (fun j=>if j+1<m+1 then s (j+1) else 0) r g;rw[Ws_take g r m,if_pos (by omega)];congr 2
  funext j
  by_cases h:j<m
  ·rw[if_pos h,if_pos (by omega)]
  ·rw[if_neg h,if_neg (by omega)]
theorem Ws_mul (g:Nat) (c:Int):∀ (l:List Nat) (s:Nat→Int),Ws (fun j=>c * s j) l g=c * Ws s l g
 | [],s=>by show (0:Int)=c * 0;omega
 | x :: r,s=>by
  show c * s 0 * bt g x+Ws (fun j=>c * s (j+1)) r g=c * (s 0 * bt g x+Ws (fun j=>s (j+1)) r g);rw[Ws_mul g c r fun j=>s (j+1),Int.mul_add,Int.mul_assoc]
theorem Ws_opt (s:Nat→Int) (l:List Nat) (c:Option Nat) (g:Nat):Ws s (l++c.toList) g=s l.length * cbt g c+Ws s l g:=by
 cases c with
 | none=>rw[Option.toList_none,List.append_nil];show _=s l.length * 0+_;omega
 | some c=>rw[Option.toList_some,Ws_snoc];show _=s l.length * bt g c+_;omega
noncomputable def cut2 (m:Nat) (j:Nat):Int:=if j<m then p2 j else 0
theorem pw8 {k:Nat} (h:k≤8):3^k-1≤6560:=by
 have:3^k≤3^8:=Nat.pow_le_pow_right (by decide) h;have e:(3:Nat)^8=6561:=by decide
 omega
theorem Ad.word {n0 n:Nat}{rs r0:List Gate}{os:List Nat}{c:Option Nat}{ps:List (List Nat)} (h:Ad n0 rs os c ps) {A:Nat→Int}{a:Nat} (s:Nat→Int) (hn:n+r0.length=n0) (hA:Sz n0 a A) (ha:a≤60) (hk:os.length≤8) (k:∀ W,Sz n0 20000 W→Gd n 20000 r0 W) :
  Gd n 20000 (rs.reverse++r0) (fun g=>A g+Ws s (os++c.toList) g):=by
 have hp:=pw8 hk;have hm:(1+2) * (3^os.length-1)≤(1+2) * 6560:=Nat.mul_le_mul_left _ hp;refine (h.gd n r0 A (fun _=>s os.length) a 1 20000 s hn hA (Sz.const _ _) (by omega) k).congr fun g=>?_
 rw[Ws_opt];omega
noncomputable def partW (a k:Nat):List Nat:=(List.range k).map (a + ·)
theorem partW_len (a k:Nat):(partW a k).length=k:=by unfold partW;rw[List.length_map,List.length_range]
theorem partW_lt (a k:Nat):∀ w∈partW a k,a≤w∧w<a+k:=fun w hw=>by
 obtain⟨i,hi,rfl⟩:=List.mem_map.mp hw
 have:=List.mem_range.mp hi
 omega
theorem partW_succ (a k:Nat):partW a (k+1)=partW a k ++ [a+k]:=by unfold partW;rw[List.range_succ,List.map_append];rfl
theorem partW_at {a k i:Nat} (h:i<k):(partW a k)[i]? = some (a+i):=by unfold partW;rw[List.getElem?_map,List.getElem?_range h];rfl
noncomputable def andsW (os:List Nat) (b:Nat):List Gate:=os.map fun x=>.two 0 x b
theorem part_val {G a b:Nat} (s:Nat→Int):∀ (os:List Nat),(∀ i x,os[i]? = some x→bt G (a+i)=bt G x * bt G b)→Ws s (partW a os.length) G=Ws s os G * bt G b:=by
 intro os
 suffices H:∀ k,k≤os.length→(∀ i x,os[i]? = some x→bt G (a+i)=bt G x * bt G b)→Ws s (partW a k) G=Ws s (os.take k) G * bt G b by
  intro h
  have:=H os.length (Nat.le_refl _) h
  rw[List.take_length] at this;exact this
 intro k;induction k with
 | zero=>intro _ _;rw[List.take_zero];show (0:Int)=0 * bt G b;omega
 | succ k ih =>
  intro hk h;have hk':k<os.length:=by omega
  have e:os.take (k+1)=os.take k ++ [os[k]]:=by rw[List.take_add_one,List.getElem?_eq_getElem hk'];rfl
  rw[partW_succ,Ws_snoc,e,Ws_snoc,ih (by omega) h,partW_len,List.length_take,Nat.min_eq_left (by omega),h k os[k] (List.getElem?_eq_getElem hk'),Int.add_mul,Int.mul_assoc]
theorem Ad.single {n0:Nat}{rs:List Gate}{os:List Nat}{c:Option Nat}{ps:List (List Nat)} (h:Ad n0 rs os c ps):(∀ p∈ps,p.length=1)→c=none∧rs=[]∧os=ps.flatten:=by
 have two:∀ {ps:List (List Nat)}{x y:Nat},(∀ p∈ps ++ [[x,y]],p.length=1)→False:=fun {ps x y} h=>by
  have:=h [x,y] (List.mem_append_right _ (List.mem_singleton.mpr rfl))
  simp at this
 induction h with
 | nil=>intro _;exact⟨rfl,rfl,rfl⟩
 | one h hx ih =>
  intro hp;obtain⟨h1,h2,h3⟩:=ih fun p hpp=>hp p (by simp[hpp])
  exact⟨rfl,h2,by rw[h3];simp⟩
 | two h hx hy ih=>intro hp;exact (two hp).elim
 | twoC h hx ih =>
  intro hp
  have:=(ih fun p hpp=>hp p (by simp[hpp])).1
  cases this
 | three h hx hy ih=>intro hp;exact (two hp).elim
theorem flat_pr (ys:List Nat):∀ K,((List.range K).map (prW [] ys)).flatten=ys.take K
 | 0=>by rw[List.take_zero];rfl
 | K+1=>by
  rw[List.range_succ,List.map_append,List.flatten_append,flat_pr ys K,List.take_add_one];show _++(prW [] ys K ++ [])=_;unfold prW;rw[List.append_nil];rfl
end My
namespace OH
open PySem PySem.W PyProof.Rows
noncomputable def runT (tb:String→Option Builtin) (p:Program) (w:World) (n₀:Nat) (ann:Option Value):Nat→SharedT→Thread→Option SharedT
 | 0,_,_=>none
 | n+1,s,t=>match through t with
  | true=>some s
  | false=>match stepOk n₀ ann t with
   | false=>none
   | true=>match stepT (denote tb) p w s t with
    | some x=>runT tb p w n₀ ann n x.1 x.2
    | none=>none
theorem runT_abs {tb:String→Option Builtin}{p:Program}{w:World}{n₀:Nat}{ann:Option Value}{n:Nat}:∀ {s r:SharedT}{t:Thread},runT tb p w n₀ ann n s t=some r→topRun tb p w n₀ ann n s.abs t=some r.abs:=by
 induction n with
 | zero=>intro s r t h;cases h
 | succ n ih =>
  intro s r t h;unfold runT at h;unfold topRun;cases a:through t with
  | true=>rw[a] at h;cases h;rfl
  | false =>
   rw[a] at h;cases b:stepOk n₀ ann t with
   | false=>rw[b] at h;cases h
   | true =>
    rw[b] at h;cases c:stepT (denote tb) p w s t with
    | none=>rw[c] at h;cases h
    | some x=>rw[c] at h;rw[stepT_spec c];exact ih h
noncomputable def runF (p:Program) (w:World) (n₀:Nat) (ann:Option Value):Nat→SharedT→Thread→Option SharedT
 | 0,_,_=>none
 | n+1,s,t=>match through t with
  | true=>some s
  | false=>match PySem.W.Fast.tw6613529449190102663 n₀ ann t with
   | false=>none
   | true=>match PySem.W.Fast.tw10156331382660048174 (PySem.W.Fast.tw11892475500146522536 PySem.W.Fast.tw14364793385576792824) p w s t with
    | some x=>runF p w n₀ ann n x.1 x.2
    | none=>none
theorem runF_eq {p:Program}{w:World}{n₀:Nat}{ann:Option Value}{n:Nat}:∀ {s:SharedT}{t:Thread},runF p w n₀ ann n s t=runT treeTable p w n₀ ann n s t:=by
 induction n with
 | zero=>intro s t;rfl
 | succ n ih =>
  intro s t;unfold runF runT;rw[← PySem.W.Fast.te6613529449190102663,← PySem.W.Fast.te10156331382660048174,← PySem.W.Fast.te11892475500146522536,← PySem.W.Fast.te14364793385576792824];cases through t <;> cases stepOk n₀ ann t <;> try rfl
  cases stepT (denote treeTable) p w s t with
  | none=>rfl
  | some x=>exact ih
noncomputable def bootT (P:Params):BT :=
 .node (boot_o_0 P)
  (.node (boot_o_1 P) (.node (boot_o_3 P) (.node (boot_o_7 P) .nil .nil) .nil) (.node (boot_o_5 P) (.node (boot_o_9 P) .nil .nil) .nil))
  (.node (boot_o_2 P) (.node (boot_o_4 P) (.node (boot_o_8 P) .nil .nil) .nil) (.node (boot_o_6 P) (.node (boot_o_10 P) .nil .nil) .nil))
theorem boot_is (P:Params):boot_heap P=absHeap (bootT P) 11 (boot_heap P).life:=by kernel_rfl
theorem boot_size (w:World):((boot_heap w.params).isNs mainGlobals,(boot_heap w.params).objs.size,(boot_heap w.params).nsMap mainGlobals "__annotations__")=(true,11,some (.ref 6)):=by kernel_rfl
noncomputable abbrev bootS (P:Params) (os:OsState):SharedT:=⟨bootT P,11,(boot_heap P).life,#[],boot_drawn,boot_toks,os⟩
theorem left {p q:Program}{loose:List Str}{Xt:Shared→Bool} {α : Type}{Yf:Shared → α}{Ya:World → α}{N:Nat}
  (e:opening p=plainProg p.main.scope.names) (hN:Nat.ble 600 N=true) (f:∀ s,fenceModules? p s=some s)
  (run:∀ w:World,(fun os=>(runF p w 11 (some (.ref 6)) N (bootS w.params os) (topStub p)).map fun s =>
    (staticsOk (importedModules p.main.body) (boot_heap w.params) s.abs.heap && namesBound p s.abs.heap && gensDone s.abs && laidKept (boot_heap w.params) s.abs.heap,
     PySem.W.Fast.tw4187177175401517315 q loose (importedModules p.main.body) Xt true s.abs,Yf s.abs))=fun _=>some (true,openGood q loose,Ya w)):LeftO p q loose Xt Yf Ya N:=fun w=>by
 obtain⟨⟨h,gs,d,k,os⟩,x,x'⟩:=Option.map_eq_some_iff.mp (boot_open e hN f w);obtain⟨rfl,rfl,rfl,rfl⟩:h=boot_heap w.params∧gs=Array.mk []∧d=boot_drawn∧k=boot_toks:=by simpa using x'
 obtain⟨z1,z2,z3⟩:_∧_∧_:=by simpa only [Prod.mk.injEq] using boot_size w
 obtain⟨s,r,l⟩:=Option.map_eq_some_iff.mp (congrFun (run w) os);rw[← PySem.W.Fast.te4187177175401517315] at l;obtain⟨l1,l2,l3⟩:_∧_∧_:=by simpa only [Prod.mk.injEq] using l
 have t:=runT_abs (runF_eq.symm.trans r);have b:(bootS w.params os).abs=⟨boot_heap w.params,Array.mk [],boot_drawn,boot_toks,os⟩:=by
  show (⟨absHeap (bootT w.params) 11 (boot_heap w.params).life,_,_,_,_⟩:Shared)=_;rw[← boot_is]
 rw[b] at t;have y:topFrom treeTable p w N ⟨boot_heap w.params,Array.mk [],boot_drawn,boot_toks,os⟩=some s.abs:=by
  unfold topFrom;dsimp only;rw[z1,z2,z3,t];show (match staticsOk (importedModules p.main.body) (boot_heap w.params) s.abs.heap && namesBound p s.abs.heap && gensDone s.abs && laidKept (boot_heap w.params) s.abs.heap with | true=>_ | false=>_)=_;rw[l1]
 unfold openEnds;rw[x];show (topFrom treeTable p w N _).map _=_;rw[y];exact congrArg some (Prod.ext l2 l3)
end OH
set_option maxHeartbeats 4000000
namespace My
open PySem L2 OF
noncomputable def hdS:List Stmt→Stmt
 | x :: _=>x
 | []=>.Pass ⟨0,0,0,0⟩
noncomputable def tlS:List Stmt→List Stmt
 | _ :: r=>r
 | []=>[]
noncomputable def bd0 : List Stmt := PySem.Challenge.pw_onceform_k91_whole_words_added_and_multi.main.body
noncomputable def bd1:List Stmt:=tlS bd0
noncomputable def bd2:List Stmt:=tlS bd1
noncomputable def bd3:List Stmt:=tlS bd2
noncomputable def bd4:List Stmt:=tlS bd3
noncomputable def bd5:List Stmt:=tlS bd4
noncomputable def bd6:List Stmt:=tlS bd5
noncomputable def bd7:List Stmt:=tlS bd6
noncomputable def bd8:List Stmt:=tlS bd7
noncomputable def bd9:List Stmt:=tlS bd8
noncomputable def bd10:List Stmt:=tlS bd9
noncomputable def bd11:List Stmt:=tlS bd10
noncomputable def bd12:List Stmt:=tlS bd11
noncomputable def bd13:List Stmt:=tlS bd12
noncomputable def bd14:List Stmt:=tlS bd13
noncomputable def bd15:List Stmt:=tlS bd14
noncomputable def bd16:List Stmt:=tlS bd15
noncomputable def bd17:List Stmt:=tlS bd16
noncomputable def bd18:List Stmt:=tlS bd17
noncomputable def bd19:List Stmt:=tlS bd18
noncomputable def bd20:List Stmt:=tlS bd19
noncomputable def bd21:List Stmt:=tlS bd20
noncomputable def bd22:List Stmt:=tlS bd21
noncomputable def bd23:List Stmt:=tlS bd22
noncomputable def bd24:List Stmt:=tlS bd23
noncomputable def bd25:List Stmt:=tlS bd24
noncomputable def bd26:List Stmt:=tlS bd25
noncomputable def bd27:List Stmt:=tlS bd26
noncomputable def bd28:List Stmt:=tlS bd27
noncomputable def bd29:List Stmt:=tlS bd28
noncomputable def bd30:List Stmt:=tlS bd29
noncomputable def bd31:List Stmt:=tlS bd30
noncomputable def bd32:List Stmt:=tlS bd31
noncomputable def bd33:List Stmt:=tlS bd32
noncomputable def bd34:List Stmt:=tlS bd33
noncomputable def bd35:List Stmt:=tlS bd34
noncomputable def bd36:List Stmt:=tlS bd35
noncomputable def bd37:List Stmt:=tlS bd36
noncomputable def bd38:List Stmt:=tlS bd37
noncomputable def bd39:List Stmt:=tlS bd38
noncomputable def bd40:List Stmt:=tlS bd39
noncomputable def bd41:List Stmt:=tlS bd40
noncomputable def bd42:List Stmt:=tlS bd41
noncomputable def bd43:List Stmt:=tlS bd42
noncomputable def bd44:List Stmt:=tlS bd43
noncomputable def bd45:List Stmt:=tlS bd44
noncomputable def bd46:List Stmt:=tlS bd45
noncomputable def bd47:List Stmt:=tlS bd46
noncomputable def bd48:List Stmt:=tlS bd47
noncomputable def bd49:List Stmt:=tlS bd48
noncomputable def bd50:List Stmt:=tlS bd49
noncomputable def bd51:List Stmt:=tlS bd50
noncomputable def bd52:List Stmt:=tlS bd51
noncomputable abbrev s_Z4:Stmt:=hdS bd1
noncomputable abbrev s_Z8:Stmt:=hdS bd5
noncomputable abbrev s_Z26:Stmt:=hdS bd6
noncomputable abbrev s_Z28:Stmt:=hdS bd7
noncomputable abbrev s_Z25:Stmt:=hdS bd8
noncomputable abbrev s_Z36:Stmt:=hdS bd9
noncomputable abbrev s_Z32:Stmt:=hdS bd10
noncomputable abbrev s_Z37:Stmt:=hdS bd12
noncomputable abbrev s_Z39:Stmt:=hdS bd14
noncomputable abbrev s_Z12:Stmt:=hdS bd15
noncomputable abbrev s_Z30:Stmt:=hdS bd16
noncomputable abbrev s_Z6:Stmt:=hdS bd17
noncomputable abbrev s_Z14:Stmt:=hdS bd19
noncomputable abbrev s_Z35:Stmt:=hdS bd20
noncomputable abbrev s_Z27:Stmt:=hdS bd21
noncomputable abbrev s_Z9:Stmt:=hdS bd22
noncomputable abbrev s_Z11:Stmt:=hdS bd25
noncomputable abbrev s_Z17:Stmt:=hdS bd26
noncomputable abbrev s_Z33:Stmt:=hdS bd29
noncomputable abbrev s_Z13:Stmt:=hdS bd30
noncomputable abbrev s_Z31:Stmt:=hdS bd31
noncomputable abbrev s_Z34:Stmt:=hdS bd32
noncomputable abbrev s_Z10:Stmt:=hdS bd35
noncomputable abbrev s_Z40:Stmt:=hdS bd36
noncomputable abbrev s_Z29:Stmt:=hdS bd37
noncomputable abbrev s_Z18:Stmt:=hdS bd39
noncomputable abbrev s_Z3:Stmt:=hdS bd40
noncomputable abbrev s_Z5:Stmt:=hdS bd41
noncomputable abbrev s_Z16:Stmt:=hdS bd42
noncomputable abbrev s_Z7:Stmt:=hdS bd43
noncomputable abbrev s_Z38:Stmt:=hdS bd44
noncomputable abbrev s_Z21:Stmt:=hdS bd46
noncomputable abbrev s_Z23:Stmt:=hdS bd47
noncomputable abbrev s_Z20:Stmt:=hdS bd48
noncomputable abbrev s_Z19:Stmt:=hdS bd49
noncomputable abbrev s_Z22:Stmt:=hdS bd50
noncomputable abbrev s_Z24:Stmt:=hdS bd51
noncomputable abbrev s_law:Stmt:=hdS bd52
set_option genInjectivity false
structure Def (K:PySem.W.Frag) (mg:Str→Option Value) (x:Str) (st:Stmt) (ps:List Str) (f:Addr) (fd:FuncData):Prop where
 F:Fun K x x st f fd
 m:mg x=some (.ref f)
 b:Binds K fd ps []
structure Txt (K:PySem.W.Frag) (mg:Str→Option Value) where
 a_Z21:Addr
 fd_Z21:FuncData
 d_Z21:Def K mg "_law_mixed" s_Z21 ["_law_cell", "_law_k"] a_Z21 fd_Z21
 a_Z23:Addr
 fd_Z23:FuncData
 d_Z23:Def K mg "_law_purse" s_Z23 ["_law_script"] a_Z23 fd_Z23
 a_Z8:Addr
 fd_Z8:FuncData
 d_Z8:Def K mg "form_from" s_Z8 ["numbers"] a_Z8 fd_Z8
 a_Z26:Addr
 fd_Z26:FuncData
 d_Z26:Def K mg "made" s_Z26 ["some"] a_Z26 fd_Z26
 a_Z28:Addr
 fd_Z28:FuncData
 d_Z28:Def K mg "plus" s_Z28 ["one", "other"] a_Z28 fd_Z28
 a_Z32:Addr
 fd_Z32:FuncData
 d_Z32:Def K mg "scaled" s_Z32 ["form", "number"] a_Z32 fd_Z32
 a_Z25:Addr
 fd_Z25:FuncData
 d_Z25:Def K mg "less" s_Z25 ["one", "other"] a_Z25 fd_Z25
 a_Z4:Addr
 fd_Z4:FuncData
 d_Z4:Def K mg "doubled" s_Z4 ["many"] a_Z4 fd_Z4
 a_Z40:Addr
 fd_Z40:FuncData
 d_Z40:Def K mg "word_form" s_Z40 ["wires", "below"] a_Z40 fd_Z40
 a_Z14:Addr
 fd_Z14:FuncData
 d_Z14:Def K mg "gathered" s_Z14 ["numbers", "sign"] a_Z14 fd_Z14
 a_Z35:Addr
 fd_Z35:FuncData
 d_Z35:Def K mg "table_of" s_Z35 ["form", "many"] a_Z35 fd_Z35
 a_Z37:Addr
 fd_Z37:FuncData
 d_Z37:Def K mg "unknowns" s_Z37 ["form"] a_Z37 fd_Z37
 a_Z27:Addr
 fd_Z27:FuncData
 d_Z27:Def K mg "paired_tables" s_Z27 ["one", "other"] a_Z27 fd_Z27
 a_Z9:Addr
 fd_Z9:FuncData
 d_Z9:Def K mg "form_of" s_Z9 ["table"] a_Z9 fd_Z9
 a_Z36:Addr
 fd_Z36:FuncData
 d_Z36:Def K mg "times" s_Z36 ["one", "other"] a_Z36 fd_Z36
 a_Z29:Addr
 fd_Z29:FuncData
 d_Z29:Def K mg "product" s_Z29 ["one", "other"] a_Z29 fd_Z29
 a_Z10:Addr
 fd_Z10:FuncData
 d_Z10:Def K mg "form_of_formula" s_Z10 ["formula"] a_Z10 fd_Z10
 a_Z3:Addr
 fd_Z3:FuncData
 d_Z3:Def K mg "claim_form" s_Z3 ["claim"] a_Z3 fd_Z3
 a_Z33:Addr
 fd_Z33:FuncData
 d_Z33:Def K mg "single_wires" s_Z33 ["many"] a_Z33 fd_Z33
 a_Z17:Addr
 fd_Z17:FuncData
 d_Z17:Def K mg "joined" s_Z17 ["word", "one", "other"] a_Z17 fd_Z17
 a_Z11:Addr
 fd_Z11:FuncData
 d_Z11:Def K mg "form_of_word" s_Z11 ["word", "parts"] a_Z11 fd_Z11
 a_Z13:Addr
 fd_Z13:FuncData
 d_Z13:Def K mg "gate_form" s_Z13 ["row", "forms"] a_Z13 fd_Z13
 a_Z39:Addr
 fd_Z39:FuncData
 d_Z39:Def K mg "without" s_Z39 ["form", "bit"] a_Z39 fd_Z39
 a_Z12:Addr
 fd_Z12:FuncData
 d_Z12:Def K mg "freed" s_Z12 ["form", "bit"] a_Z12 fd_Z12
 a_Z30:Addr
 fd_Z30:FuncData
 d_Z30:Def K mg "put_in" s_Z30 ["form", "k", "other"] a_Z30 fd_Z30
 a_Z34:Addr
 fd_Z34:FuncData
 d_Z34:Def K mg "steps_within" s_Z34 ["ins", "rows", "form", "most"] a_Z34 fd_Z34
 a_Z6:Addr
 fd_Z6:FuncData
 d_Z6:Def K mg "first_set" s_Z6 ["form"] a_Z6 fd_Z6
 a_Z16:Addr
 fd_Z16:FuncData
 d_Z16:Def K mg "is_nought" s_Z16 ["number", "rest"] a_Z16 fd_Z16
 a_Z5:Addr
 fd_Z5:FuncData
 d_Z5:Def K mg "first_left" s_Z5 ["form", "rest"] a_Z5 fd_Z5
 a_Z7:Addr
 fd_Z7:FuncData
 d_Z7:Def K mg "first_wrong" s_Z7 ["ins", "rows", "claim"] a_Z7 fd_Z7
 a_Z31:Addr
 fd_Z31:FuncData
 d_Z31:Def K mg "read_back" s_Z31 ["ins", "rows", "form"] a_Z31 fd_Z31
 a_Z18:Addr
 fd_Z18:FuncData
 d_Z18:Def K mg "judged" s_Z18 ["ins", "rows", "claim"] a_Z18 fd_Z18
 a_Z20:Addr
 fd_Z20:FuncData
 d_Z20:Def K mg "_law_draw" s_Z20 ["_law_purse_here", "_law_out_of"] a_Z20 fd_Z20
 a_Z19:Addr
 fd_Z19:FuncData
 d_Z19:Def K mg "_law_added" s_Z19 ["_law_ones", "_law_others", "_law_ins", "_law_rows"] a_Z19 fd_Z19
 a_Z22:Addr
 fd_Z22:FuncData
 d_Z22:Def K mg "_law_product" s_Z22 ["_law_ones", "_law_others", "_law_ins", "_law_rows"] a_Z22 fd_Z22
 a_Z38:Addr
 fd_Z38:FuncData
 d_Z38:Def K mg "walks" s_Z38 ["ins", "rows", "claim", "steps"] a_Z38 fd_Z38
 a_Z24:Addr
 fd_Z24:FuncData
 d_Z24:Def K mg "_law_right" s_Z24 ["_law_ins", "_law_rows", "_law_claim"] a_Z24 fd_Z24
 n_dict:mg "dict" = none
 n_enumerate:mg "enumerate" = none
 n_isinstance:mg "isinstance" = none
 n_len:mg "len" = none
 n_list:mg "list" = none
 n_max:mg "max" = none
 n_range:mg "range" = none
 n_sorted:mg "sorted" = none
 n_tuple:mg "tuple" = none
 n_zip:mg "zip" = none
 t_VERY_MANY:Tok
 g_VERY_MANY:mg "VERY_MANY" = some (.int 20000 t_VERY_MANY)
set_option genInjectivity true
theorem ps_dead {X:Cx}{st:Stmt}:PS X st (fun _ _ _=>False):=fun _ _ _ _ _ _ h=>h.elim
noncomputable def spOr (a b:Sp):Sp:=fun vs H Q E=>a vs H Q E∨b vs H Q E
structure Steps (n:Nat) (gs:List Gate) (f:Terms) (fl:List Terms):Prop where
 first:fl[0]? = some f
 form:∀ (k:Nat) (g:Terms),fl[k]? = some g→IsForm g∧(∀ t∈g,0≤t.1∧t.1<2^(n+gs.length-k))∧g.length≤80000
 next:∀ (k:Nat) (g h:Terms),fl[k]? = some g→fl[k+1]? = some h→∃ (t:Gate) (G:Terms),gs[gs.length-1-k]? = some t∧FormOf G (gateL t)∧FormOf h (putL (n+(gs.length-1-k)) G g)
theorem Steps.same {n:Nat}{gs:List Gate}{f:Terms}{fl fm:List Terms} (a:Steps n gs f fl) (b:Steps n gs f fm):∀ k,k<fl.length→k<fm.length→fl[k]? = fm[k]?
 | 0,_,_=>by rw[a.first,b.first]
 | k+1,h1,h2=>by
  have ih:=Steps.same a b k (by omega) (by omega);obtain⟨g,hg⟩:∃ g,fl[k]? = some g:=⟨_,List.getElem?_eq_getElem (by omega)⟩;obtain⟨h,hh⟩:∃ h,fl[k+1]? = some h:=⟨_,List.getElem?_eq_getElem h1⟩;obtain⟨h',hh'⟩:∃ h,fm[k+1]? = some h:=⟨_,List.getElem?_eq_getElem h2⟩;obtain⟨t,G,e1,e2,e3⟩:=a.next k g h hg hh;obtain⟨t',G',e1',e2',e3'⟩:=b.next k g h' (ih ▸ hg) hh';rw[e1] at e1';cases e1';have eG:G=G':=FormOf.unique e2 e2' fun _=>rfl
  subst eG;rw[hh,hh',FormOf.unique e3 e3' fun _=>rfl]
theorem natL_len (l:List Nat):(natL l).length=l.length:=by unfold natL;rw[List.length_map]
theorem natL_app (l m:List Nat):natL (l++m)=natL l++natL m:=by unfold natL;rw[List.map_append]
noncomputable def nought (x r:Int):Bool:=if r=0 then decide (x=0) else decide (x % r=0)
noncomputable def leftL (r:Int) (l:Terms):Terms:=l.filter fun t => !nought t.2 r
theorem natL_pop (q:List Nat) (a:Nat):(natL (q ++ [a]))[(natL (q ++ [a])).length-1]? = some (V.int (a:Int))∧(natL (q ++ [a])).dropLast=natL q:=by
 rw[natL_app];show (natL q ++ [V.int (a:Int)])[(natL q ++ [V.int (a:Int)]).length-1]? = _∧(natL q ++ [V.int (a:Int)]).dropLast=_;constructor
 ·rw[List.length_append,List.length_singleton,Nat.add_sub_cancel,List.getElem?_append_right (Nat.le_refl _),Nat.sub_self];rfl
 ·exact List.dropLast_concat
theorem row_push {G:Hp}{r t:Addr}{ps:List Addr}{gs:List Gate}{g:Gate}{xs:List V} (e:rowV g=xs) (h1:G r=some (.lst (ps.map V.ref))) (h2:Rws G ps gs) (ht:G t=none) :
  RLo (upd (upd G t (.tup xs)) r (.lst (ps.map V.ref ++ [.ref t]))) r (gs ++ [g])∧SameX r G (upd (upd G t (.tup xs)) r (.lst (ps.map V.ref ++ [.ref t]))):=by
 have hrt:r≠t:=ne_of_none h1 ht;have sx:SameX r G (upd (upd G t (.tup xs)) r (.lst (ps.map V.ref ++ [.ref t]))):=fun b o e hb=>by rw[upd_ne hb,upd_ne (ne_of_none e ht)];exact e
 exact⟨⟨ps ++ [t],by rw[upd_same,List.map_append];rfl,Rws.snoc (h2.keep fun b xs z=>sx b _ z (ne_of z h1 (by intro z;cases z))) (by rw[upd_ne hrt.symm,upd_same,e])⟩,sx⟩
theorem RLo.wr {G:Hp}{r c:Addr}{gs:List Gate}{xs:List V}{o:HO} (h:RLo G r gs) (hc:G c=some (.lst xs)) (hrc:r≠c):RLo (upd G c o) r gs:=by
 obtain⟨ps,h1,h2⟩:=h;exact⟨ps,by rw[upd_ne hrc];exact h1,h2.keep fun b ys z=>by rw[upd_ne (ne_of z hc (by intro z;cases z))];exact z⟩
noncomputable def allG (n:Nat) (gs:List Gate) (g:Nat):Nat:=numB (runG (bitsL g n) gs) (runG (bitsL g n) gs).length
theorem all_low {n:Nat}{gs:List Gate} (hok:RowsOk n gs) (g:Nat):allG n gs g % 2^n=g % 2^n:=by
 obtain⟨hrl,hbit⟩:=runG_ok (bitsL_bit g n) (bitsL_len g n) hok gs.length (Nat.le_refl _);rw[List.take_length] at hrl hbit;apply Nat.eq_of_testBit_eq;intro i;rw[Nat.testBit_mod_two_pow,Nat.testBit_mod_two_pow];by_cases hi:i<n
 ·rw[decide_eq_true hi,Bool.true_and,Bool.true_and];have h1:=num_bit hbit (m:=(runG (bitsL g n) gs).length) (k:=i) (by omega);obtain⟨y,hy⟩:=runG_more gs (bitsL g n);have h2:getN (runG (bitsL g n) gs) i=((g / 2^i % 2:Nat):Int):=by
   unfold getN;rw[hy,List.getD_eq_getElem?_getD,List.getElem?_append_left (by rw[bitsL_len];exact hi)];unfold bitsL;rw[List.getElem?_map,List.getElem?_range hi];rfl
  have h3:(allG n gs g).testBit i=true↔g / 2^i % 2=1:=by
   show (numB (runG (bitsL g n) gs) (runG (bitsL g n) gs).length).testBit i=true↔_;rw[h2] at h1;constructor
   ·intro z;rw[if_pos z] at h1;omega
   ·intro z;cases e:(numB (runG (bitsL g n) gs) (runG (bitsL g n) gs).length).testBit i
    ·rw[e] at h1
     have:(0:Int)=((g / 2^i % 2:Nat):Int):=h1
     omega
    ·rfl
  rw[Nat.testBit_eq_decide_div_mod_eq (x:=g)];by_cases z:g / 2^i % 2=1
  ·rw[decide_eq_true z];exact h3.mpr z
  ·rw[decide_eq_false z];cases e:(allG n gs g).testBit i
   ·rfl
   ·exact absurd (h3.mp e) z
 ·rw[decide_eq_false hi,Bool.false_and,Bool.false_and]
theorem all_worth {n:Nat}{gs:List Gate} (hok:RowsOk n gs) {f:Terms} (hk:∀ t∈f,0≤t.1∧t.1<2^n) (g:Nat):worthL f ((allG n gs g:Nat):Int)=worthL f (g:Int):=by
 rw[worth_low hk,worth_low (g:=g) hk,all_low hok]
theorem all_bit {n:Nat}{gs:List Gate} (hok:RowsOk n gs) {k:Nat} (hk:k<n+gs.length) (g:Nat):bt (allG n gs g) k=getN (runG (bitsL g n) gs) k:=by
 obtain⟨hrl,hbit⟩:=runG_ok (bitsL_bit g n) (bitsL_len g n) hok gs.length (Nat.le_refl _);rw[List.take_length] at hrl hbit;exact num_bit hbit (by omega)
seal L2.PS L2.PSs L2.PE L2.PT L2.PA L2.PI L2.PG L2.PW L2.PO L2.PTs
section
variable {P:Program}{w:World}{K:PySem.W.Frag}{mg:Str→Option Value}{base:Heap}
theorem sc_Z21:FnScope ["_law_cell", "_law_k", "_law_number"] ["_law_cell", "_law_k"] (defScope s_Z21):=⟨rfl,rfl,rfl,by decide +kernel,rfl,by decide +kernel,by decide +kernel⟩
theorem ok_Z21 (T:Txt K mg):FnOk P w K mg base CX0 1 T.a_Z21 T.fd_Z21 ["_law_cell", "_law_k"] spMixed:=by
 refine T.d_Z21.F.ok sc_Z21 (fun vs H Q E h=>?_) (fun cdv A outer s H vs Q E hr h=>?_)
 ·obtain⟨c,k,rfl,hm,q⟩:=h;rfl
 ·obtain⟨c,k,rfl,hm,q⟩:=h;have hu:=hu_of hr;refine⟨_,(pss_cons (ps_set (i:=2) sc_Z21.nd rfl (Or.inl rfl) (pe_op op_mod (pe_op op_mulO (pe_op op_add (pe_op op_add (pe_op op_add (pe_op op_mulO (pv 0) (pv 0)) (pe_op op_mulO pe_int (pv 0))) (pe_op op_mulO pe_int (pv 1))) pe_int) pe_int) pe_int))
   (pss_one (ps_ret (pe_op op_mod (pe_op op_add (pe_op op_mulO (pv 2) (pv 2)) pe_int) pe_int)))),?_⟩
  refine⟨_,rfl,_,rfl,_,_,rfl,rfl,hm,_,rfl,_,_,rfl,rfl,mulL (by decide) (by decide),_,_,rfl,rfl,_,rfl,_,_,rfl,rfl,mulL (by decide) (by decide),_,_,rfl,rfl,_,_,rfl,rfl,_,_,rfl,rfl,mulR (by decide) (by decide),_,_,rfl,rfl,(by show (0:Int)<2147483629;decide),?_⟩;generalize hz:(c * c+3 * c+7919 * k+1) * 48271 % 2147483629=z;have z1:0≤z:=by rw[← hz];exact Int.emod_nonneg _ (by decide)
  have z2:z<2147483629:=by rw[← hz];exact Int.emod_lt_of_pos _ (by decide)
  refine⟨_,rfl,_,rfl,_,_,rfl,rfl,mulL (by omega) (by omega),_,_,rfl,rfl,_,_,rfl,rfl,(by show (0:Int)<2147483587;decide),?_⟩;exact q _ (Int.emod_nonneg _ (by decide)) (Int.emod_lt_of_pos _ (by decide))
theorem sc_Z23:FnScope ["_law_script", "_law_cells", "_law_number", "_law_k"] ["_law_script"] (defScope s_Z23):=⟨rfl,rfl,rfl,by decide +kernel,rfl,by decide +kernel,by decide +kernel⟩
theorem ok_Z23 (T:Txt K mg):FnOk P w K mg base CX0 2 T.a_Z23 T.fd_Z23 ["_law_script"] (spPurse K):=by
 refine T.d_Z23.F.ok sc_Z23 (fun vs H Q E h=>?_) (fun cdv A outer s H vs Q E hr h=>?_)
 ·obtain⟨a,ns,rfl,hS,hlen,hbits,q⟩:=h;rfl
 ·obtain⟨a,ns,rfl,hS,hlen,hbits,q⟩:=h;have hu:=hu_of hr;refine⟨_,(pss_cons (ps_set (i:=1) sc_Z23.nd rfl (Or.inl rfl) (pe_op op_cat (pe_slice sl_list (pv 0) po_none (po_some pe_int)) (pe_lst (pa_cons pe_int pa_nil))))
   (pss_cons (ps_if (pt_cmpR op_eq (pe_op op_mod (pe_ix ix_list (pv 1) pe_int (fun _ _=>rfl)) pe_int) pe_int (nomark _)) (pss_one (ps_ret (pe_lst (pa_cons (pe_op op_fdivG (pe_ix ix_list (pv 1) pe_int (fun _ _=>rfl)) pe_int) pa_nil)))) pss_nil)
   (pss_cons (ps_set (i:=2) sc_Z23.nd rfl (Or.inl rfl) pe_int)
   (pss_cons (ps_for PassesOwn.never rfl (pi_range1 rfl T.n_range (pa_cons pe_int pa_nil)) (pg_name (i:=3) sc_Z23.nd rfl (Or.inl rfl))
    (pss_one (ps_set (i:=2) sc_Z23.nd rfl (Or.inl rfl) (pe_op op_add (pe_op op_mulO (pv 2) pe_int) (pe_call (ok_Z21 (P:=P) (w:=w) (base:=base) T) hr (by rfl) T.d_Z21.m T.d_Z21.F.kp T.d_Z21.b .nil pass0 (pa_cons (pe_ix ix_list (pv 1) (pe_op op_mod (pv 3) (pe_callB call_len_seq (by rfl) T.n_len PySem.boot_len (pa_cons (pv 1) pa_nil))) (fun _ _=>rfl)) (pa_cons (pv 3) pa_nil)))))))
   (pss_one (ps_ret (pe_lst (pa_cons (pv 2) pa_nil)))))))),?_⟩
  obtain⟨ms,ecut,hml,hmm⟩:=cut_map ns none (some 63);refine⟨_,rfl,_,rfl,a,_,rfl,hS,fun b hb=>⟨by show 1≤sizeLine;decide,fun c hc=>?_⟩⟩;have hcb:b≠c:=by intro z;subst z;rw[upd_same] at hc;cases hc
  refine⟨b,c,_,_,rfl,rfl,(by rw[upd_ne hcb,upd_same]),upd_same,?_,fun e he=>?_⟩
  ·rw[ecut,List.length_map];show ms.length+1≤sizeLine;have:64≤sizeLine:=by decide
   omega
  have hHe:H e=none:=by
   have h1:e≠c:=by intro z;subst z;rw[upd_same] at he;cases he
   rw[upd_ne h1] at he;have h2:e≠b:=by intro z;subst z;rw[upd_same] at he;cases he
   rw[upd_ne h2] at he;exact he
  have hHc:H c=none:=by
   have:=hc;rw[upd_ne hcb.symm] at this;exact this
  have same:∀ o,Same H (upd (upd (upd H b (.lst (cutV (ns.map V.int) none (some 63)))) c (.lst [.int 0])) e o):=fun o x y z=>by
   rw[upd_ne (ne_of_none z hHe),upd_ne (ne_of_none z hHc),upd_ne (ne_of_none z hb)];exact z
  generalize hH1:upd (upd (upd H b (.lst (cutV (ns.map V.int) none (some 63)))) c (.lst [.int 0])) e (.lst (cutV (ns.map V.int) none (some 63) ++ [.int 0]))=H1;have hce:H1 e=some (.lst ((ms ++ [0]).map V.int)):=by rw[← hH1,upd_same,ecut,List.map_append];rfl
  have sm:Same H H1:=by rw[← hH1];exact same _
  obtain⟨c0,hc0⟩:∃ c0,(ms ++ [0])[0]? = some c0:=by
   cases ms with
   | nil=>exact⟨0,rfl⟩
   | cons x r=>exact⟨x,rfl⟩
  have hat:atI ((ms ++ [0]).map V.int) 0=some (.int c0):=atI_nat (j:=0) (by rw[List.getElem?_map,hc0];rfl);have fin:∀ (n:Int) (H2:Hp),Same H H2→(1≤sizeLine∧∀ p,H2 p=none→Q (.ref p) (upd H2 p (.lst [.int n]))):=fun n H2 sm2 =>
   ⟨by decide,fun p hp=>q p n _ (sm2.free hp) upd_same (sm2.trans (Same.upd hp))⟩
  refine⟨_,rfl,e,_,_,_,rfl,rfl,SqL.of hce,hat,_,_,rfl,rfl,(by show (0:Int)<2;decide),rfl,_,rfl,?_⟩;refine ite2 (fun _=>?_) (fun _=>?_)
  ·exact⟨_,rfl,e,_,_,_,rfl,rfl,SqL.of hce,hat,_,_,rfl,rfl,⟨by decide,by decide⟩,fin _ H1 sm⟩
  ·refine⟨150,rfl,by decide,by decide,for_range (n:=150) (fun i σ H2=>∃ (n:Int) (v:Option V),σ = [some (.ref a),some (.ref e),some (.int n),v]∧H2=H1) ⟨1,none,rfl,rfl⟩ ?_ ?_⟩
   ·rintro i σ H2 hi ⟨n,v,rfl,rfl⟩;have hlen2:((ms ++ [0]).map V.int).length=ms.length+1:=by simp
    obtain⟨j,hj⟩:∃ j:Nat,(0+(i:Int)) % (((ms ++ [0]).map V.int).length:Int)=(j:Int)∧j<(ms ++ [0]).length:=by
     refine⟨i % (ms ++ [0]).length,?_,Nat.mod_lt _ (by simp)⟩;rw[Int.zero_add,List.length_map];norm_cast
    obtain⟨x,hx⟩:∃ x,(ms ++ [0])[j]? = some x:=⟨_,List.getElem?_eq_getElem hj.2⟩;have hxb:Builtin.Int.intBits x≤2^20:=by
     rcases List.mem_append.mp (List.mem_of_getElem? hx) with z | z
     ·exact hbits x (hmm x z)
     ·have:x=0:=by simpa using z
      subst this;decide
    refine⟨_,rfl,_,_,rfl,rfl,mulR (by decide) (by decide),_,rfl,_,rfl,_,rfl,e,_,rfl,.inl (SqL.of hce),_,_,rfl,rfl,?_,e,_,_,_,rfl,rfl,SqL.of hce,?_,_,rfl,x,_,rfl,mulOk_bits hxb,fun r _ _=>⟨_,_,rfl,rfl,⟨_,_,rfl,rfl⟩⟩⟩
    ·show (0:Int)<(((ms ++ [0]).map V.int).length:Int);rw[hlen2];omega
    ·rw[hj.1];exact atI_nat (by rw[List.getElem?_map,hx];rfl)
   ·rintro σ H2 ⟨n,v,rfl,rfl⟩;exact⟨_,rfl,fin n _ sm⟩
theorem sc_Z8:FnScope ["numbers"] ["numbers"] (defScope s_Z8):=⟨rfl,rfl,rfl,by decide +kernel,rfl,by decide +kernel,by decide +kernel⟩
theorem nd_Z8_1:(["members", "numbers"]:List Str).Nodup:=by decide +kernel
theorem ok_Z8 (T:Txt K mg):FnOk P w K mg base CX0 1 T.a_Z8 T.fd_Z8 ["numbers"] spFormFrom:=by
 refine T.d_Z8.F.ok sc_Z8 (fun vs H Q E h=>?_) (fun cdv A outer s H vs Q E hr h=>?_)
 ·obtain⟨d,dd,rfl,hd,hnd,hlen,q⟩:=h;rfl
 ·obtain⟨d,dd,rfl,hd,hnd,hlen,q⟩:=h;have hu:=hu_of hr;refine⟨_,(pss_one (ps_ret (pe_comp (g:=(gName 0)) ["members", "numbers"] 1 [0] rfl (by exact CompSc.of (defScope s_Z8) ["numbers"] rfl rfl rfl (by decide +kernel) rfl (by decide +kernel) (by decide +kernel)) (pi_list (pe_callB (call_sortedD rfl) (by rfl) T.n_sorted PyProof.Rows.boot_sorted (pa_cons (pv 0) pa_nil)))
    (fun cl C s₀ H₀ fp=>(pg_name (i:=0) nd_Z8_1 rfl (Or.inl rfl) (Or.inr rfl))) (fun cl C s₀ H₀ fp=>(pts_one (pt_cmpR op_ne (pe_dget hu (pv 1) (pv 0) (fun _ _=>rfl)) pe_int (nomark _)))) (fun cl C s₀ H₀ fp=>(pe_tup (pa_cons (pv 0) (pa_cons (pe_dget hu (pv 1) (pv 0) (fun _ _=>rfl)) pa_nil))))))),?_⟩
  refine⟨_,rfl,d,_,dd.map (·.1),rfl,hd,keys_enc dd,fun e ks he hperm hsort=>?_⟩;have hed:d≠e:=ne_of_none hd he;refine⟨e,rfl,⟨_,SqL.of upd_same⟩,?_⟩;have hkl:ks.length≤100000:=by have:=hperm.length_eq;rw[List.length_map] at this;omega
  refine comp_list (K:=K) (a:=e) (xs:=ks.map V.int) (fun i ys σ H2=>∃ (v0:Option V) (qs:List Addr),σ = [v0,some (.ref d)]∧ys=qs.map V.ref∧Tups H2 qs (formOf dd (ks.take i))∧H2 d=some (.dK (dd.map encP))∧H2 e=some (.lst (ks.map V.int))∧Same H H2)
   ⟨none,[],rfl,rfl,.nil,(by rw[upd_ne hed];exact hd),upd_same,Same.upd he⟩ (fun i ys σ H2 hi ⟨_,qs,_,e1,e2,_,e4,_⟩=>⟨SqL.of e4,by
    rw[e1,List.length_map,e2.length]
    have:=formOf_length dd (ks.take i)
    rw[List.length_take] at this;omega⟩) (by rw[List.length_map];exact Nat.le_of_lt (small6 (by omega))) ?_ ?_
  ·rintro i y ys σ H2 hi ⟨v0,qs,rfl,rfl,g2,g3,g4,g5⟩;obtain⟨k,hki,rfl⟩:=at_int hi;have hkm:k∈dd.map (·.1):=hperm.mem_iff.mp (List.mem_of_getElem? hki);obtain⟨v,hv⟩:∃ v,look dd k=some v:=by
    cases e:look dd k with
    | none=>exact absurd e (look_mem.mpr hkm)
    | some v=>exact⟨v,rfl⟩
   have hgv:getI dd k=v:=by unfold getI;rw[hv];rfl
   have htk:ks.take (i+1)=ks.take i ++ [k]:=by rw[List.take_add_one,hki];rfl
   have hget:∀ {H3:Hp},H3 d=some (.dK (dd.map encP))→DGet H3 d (.int k) (some (.int v)):=fun {H3} z=>by
    have:=DGet.k (k:=Sum.inl k) z
    rw[valV_enc,hv] at this;exact this
   refine⟨_,rfl,_,rfl,d,_,rfl,hget g3,rfl,_,rfl,?_⟩;by_cases hv0:v=0
   ·subst hv0;refine iteNS rfl ⟨_,qs,rfl,rfl,?_,g3,g4,g5⟩
    have:formOf dd (ks.take (i+1))=formOf dd (ks.take i):=by
     rw[htk];unfold formOf;rw[List.filter_append,List.map_append];simp[hgv]
    rw[this];exact g2
   ·have hne:¬ (V.int v=V.int 0):=fun z=>hv0 (by injection z)
    rw[decide_eq_false hne];refine iteT ?_;refine⟨_,rfl,_,rfl,_,rfl,d,_,rfl,hget g3,(by show 2≤sizeLine;decide),fun t ht=>?_⟩;have s3:Same H2 (upd H2 t (.tup [.int k,.int v])):=Same.upd ht;refine⟨_,qs ++ [t],rfl,(by rw[List.map_append];rfl),?_,s3 _ _ g3,s3 _ _ g4,g5.trans s3⟩
    have:formOf dd (ks.take (i+1))=formOf dd (ks.take i) ++ [(k,v)]:=by
     rw[htk];unfold formOf;rw[List.filter_append,List.map_append];simp[hgv,hv0]
    rw[this];exact Tups.snoc (g2.keep fun b xs z=>s3 b _ z) upd_same
  ·rintro ys σ H2 ⟨v0,qs,rfl,rfl,g2,g3,g4,g5⟩ D hD;rw[List.length_map,List.take_length] at g2;have s3:Same H2 (upd H2 D (.lst (qs.map V.ref))):=Same.upd hD;exact q D ks _ (g5.free hD) ⟨qs,upd_same,g2.keep fun b xs z=>s3 b _ z⟩ hperm hsort (g5.trans s3)
theorem sc_Z26:FnScope ["some", "numbers", "members", "number"] ["some"] (defScope s_Z26):=⟨rfl,rfl,rfl,by decide +kernel,rfl,by decide +kernel,by decide +kernel⟩
theorem ok_Z26 (T:Txt K mg):FnOk P w K mg base CX0 2 T.a_Z26 T.fd_Z26 ["some"] (spForm K):=by
 refine T.d_Z26.F.ok sc_Z26 (fun vs H Q E h=>?_) (fun cdv A outer s H vs Q E hr h=>?_)
 ·obtain⟨a,l,rfl,⟨ps,hS,hT⟩,hlen,q⟩:=h;rfl
 ·obtain⟨a,l,rfl,⟨ps,hS,hT⟩,hlen,q⟩:=h;have hu:=hu_of hr;refine⟨_,(pss_cons (ps_set (i:=1) sc_Z26.nd rfl (Or.inl rfl) pe_dnewK)
   (pss_cons (ps_for PassesOwn.never rfl (pi_list (pv 0)) (pg_tup (n:=2) rfl (pgs_cons (pg_name (i:=2) sc_Z26.nd rfl (Or.inl rfl)) (pgs_cons (pg_name (i:=3) sc_Z26.nd rfl (Or.inl rfl)) pgs_nil)))
    (pss_one (ps_dput hu (pv 1) (pv 2) (pe_op op_add (pe_dget2 hu (pv 1) (pv 2) pe_int ⟨rfl,rfl,rfl,rfl⟩) (pv 3)) rfl)))
   (pss_one (ps_ret (pe_call (ok_Z8 (P:=P) (w:=w) (base:=base) T) hr (by rfl) T.d_Z8.m T.d_Z8.F.kp T.d_Z8.b .nil pass0 (pa_cons (pv 1) pa_nil)))))),?_⟩
  intro d hd;have s0:Same H (upd H d (.dK [])):=Same.upd hd;refine⟨_,rfl,a,rfl,⟨_,s0.seq hS⟩,?_⟩;refine for_list (K:=K) (a:=a) (xs:=ps.map V.ref) (fun i σ H2=>∃ (dd:Terms) (v2 v3:Option V),σ = [some (.ref a),some (.ref d),v2,v3]∧H2=upd H d (.dK (dd.map encP))∧DictOf dd (l.take i))
   ⟨[],none,none,rfl,rfl,dictOf_nil⟩ (fun i σ H2 _ ⟨_,_,_,_,e,_⟩=>by rw[e];exact (Same.upd hd).seq hS) ?_ ?_
  ·rintro i y σ H2 hi ⟨dd,v2,v3,rfl,rfl,hdd⟩;obtain⟨p,hpi,rfl⟩:=at_ref hi;obtain⟨t,ht1,ht2⟩:=hT.at' hpi;have htk:l.take (i+1)=l.take i ++ [t]:=by rw[List.take_add_one,ht1];rfl
   have hil:i<l.length:=(List.getElem?_eq_some_iff.mp ht1).1;have hdl:dd.length≤i:=Nat.le_trans hdd.len (by rw[List.length_take];omega);have hdd2:=hdd.snoc t;rw[← htk] at hdd2;refine⟨p,_,rfl,SqT.of ((Same.upd hd) _ _ ht2),rfl,_,_,rfl,_,_,rfl,rfl,?_⟩;refine⟨_,rfl,d,rfl,.inl ⟨_,.inl upd_same⟩,_,rfl,_,DGet.k (k:=Sum.inl t.1) upd_same,?_⟩;rw[valV_enc];have eg:((look dd t.1).map V.int).getD (V.int 0)=V.int (getI dd t.1):=by
    unfold getI;cases look dd t.1 <;> rfl
   rw[eg];refine⟨_,rfl,_,_,rfl,rfl,_,rfl,_,rfl,d,_,rfl,DPut.k (k:=Sum.inl t.1) upd_same ?_,putI dd t.1 (getI dd t.1+t.2),_,_,rfl,?_,hdd2⟩
   ·rw[List.length_map];exact small6 (by omega)
   ·rw[upd_upd,putK_enc]
  ·rintro σ H2 ⟨dd,v2,v3,rfl,rfl,hdd⟩;have hl0:l.take (ps.map V.ref).length=l:=by rw[List.length_map,hT.length,List.take_length]
   rw[hl0] at hdd;refine⟨_,rfl,d,dd,rfl,upd_same,hdd.nd,Nat.le_trans hdd.len hlen,fun b ks H3 hb hT3 hperm hsort s3=>?_⟩;have hbd:b≠d:=by intro z;subst z;rw[upd_same] at hb;cases hb
   have hHb:H b=none:=by have:=hb;rw[upd_ne hbd] at this;exact this
   refine q b (formOf dd ks) H3 hHb hT3 (formOf_ok hdd hperm hsort) ?_ ((Same.upd hd).trans s3);have h1:=formOf_length dd ks;have h2:=hperm.length_eq;rw[List.length_map] at h2;have h3:=hdd.len;omega
noncomputable def spPlus:Sp:=fun vs H Q _=>∃ (a b:Addr) (l m:Terms),vs=[.ref a,.ref b]∧TLo H a l∧TLo H b m∧l.length+m.length≤100000 ∧
 ∀ (c:Addr) (f:Terms) (H':Hp),H c=none→TLo H' c f→FormOf f (l++m)→f.length≤l.length+m.length→Same H H'→Q (.ref c) H'
theorem sc_Z28:FnScope ["one", "other"] ["one", "other"] (defScope s_Z28):=⟨rfl,rfl,rfl,by decide +kernel,rfl,by decide +kernel,by decide +kernel⟩
theorem ok_Z28 (T:Txt K mg):FnOk P w K mg base CX0 3 T.a_Z28 T.fd_Z28 ["one", "other"] spPlus:=by
 refine T.d_Z28.F.ok sc_Z28 (fun vs H Q E h=>?_) (fun cdv A outer s H vs Q E hr h=>?_)
 ·obtain⟨a,b,l,m,rfl,hTa,hTb,hlen,q⟩:=h;rfl
 ·obtain⟨a,b,l,m,rfl,hTa,hTb,hlen,q⟩:=h;have hu:=hu_of hr;refine⟨_,(pss_one (ps_ret (pe_call (ok_Z26 (P:=P) (w:=w) (base:=base) T) hr (by rfl) T.d_Z26.m T.d_Z26.F.kp T.d_Z26.b .nil pass0 (pa_cons (pe_op op_cat (pv 0) (pv 1)) pa_nil)))),?_⟩;obtain⟨ps,ha,hp⟩:=id hTa;obtain⟨qs,hb,hq⟩:=id hTb;have n1:=hp.length;have n2:=hq.length;refine⟨_,rfl,_,rfl,a,b,_,_,rfl,rfl,ha,hb,(by rw[List.length_map,List.length_map];exact Nat.le_of_lt (small6 (by omega))),fun c hc=>?_⟩;have s1:Same H (upd H c (.lst (ps.map V.ref++qs.map V.ref))):=Same.upd hc;refine⟨c,l++m,rfl,(TLo.cat (a:=a) (b:=b) hp hq s1 upd_same).tl,(by rw[List.length_append];exact hlen),fun d f H' hd hT hF hl s2=>?_⟩;rw[List.length_append] at hl;exact q d f H' (s1.free hd) hT hF hl (s1.trans s2)
noncomputable def spScaled (K:PySem.W.Frag):Sp:=fun vs H Q _=>∃ (a:Addr) (l:Terms) (n:Int),vs=[.ref a,.int n]∧TL K H a l∧l.length≤100000∧(∀ t∈l,IntMulOk t.2 n) ∧
 ∀ (b:Addr) (f:Terms) (H':Hp),H b=none→TLo H' b f→FormOf f (l.map fun t=>(t.1,t.2 * n))→f.length≤l.length→Same H H'→Q (.ref b) H'
theorem sc_Z32:FnScope ["form", "number"] ["form", "number"] (defScope s_Z32):=⟨rfl,rfl,rfl,by decide +kernel,rfl,by decide +kernel,by decide +kernel⟩
theorem nd_Z32_1:(["members", "own", "number"]:List Str).Nodup:=by decide +kernel
theorem ok_Z32 (T:Txt K mg):FnOk P w K mg base CX0 3 T.a_Z32 T.fd_Z32 ["form", "number"] (spScaled K):=by
 refine T.d_Z32.F.ok sc_Z32 (fun vs H Q E h=>?_) (fun cdv A outer s H vs Q E hr h=>?_)
 ·obtain⟨a,l,n,rfl,hT,hlen,hmul,q⟩:=h;rfl
 ·obtain⟨a,l,n,rfl,hT,hlen,hmul,q⟩:=h;have hu:=hu_of hr;refine⟨_,(pss_one (ps_ret (pe_call (ok_Z26 (P:=P) (w:=w) (base:=base) T) hr (by rfl) T.d_Z26.m T.d_Z26.F.kp T.d_Z26.b .nil pass0 (pa_cons (pe_comp (g:=(gTup K 2 (gCons (gName 0) (gCons (gName 1) gNil)))) ["members", "own", "number"] 2 [1] rfl (by exact CompSc.of (defScope s_Z32) ["form", "number"] rfl rfl rfl (by decide +kernel) rfl (by decide +kernel) (by decide +kernel)) (pi_list (pv 0))
    (fun cl C s₀ H₀ fp=>(pg_tup (n:=2) rfl (pgs_cons (pg_name (i:=0) nd_Z32_1 rfl (Or.inl rfl) (Or.inr rfl)) (pgs_cons (pg_name (i:=1) nd_Z32_1 rfl (Or.inl rfl) (Or.inr rfl)) pgs_nil)))) (fun cl C s₀ H₀ fp=>pts_nil) (fun cl C s₀ H₀ fp=>(pe_tup (pa_cons (pv 0) (pa_cons (pe_op op_mulO (pv 1) (pv 2)) pa_nil))))) pa_nil)))),?_⟩
  refine⟨_,rfl,a,rfl,hT.seq,?_⟩;refine comp_pairs (fun t=>(t.1,t.2 * n)) hT (by omega) [some (.int n)] rfl (fun t ht H2 R s2 k=>?_) fun D ys H2 hD hT1 s1=>?_
  ·exact⟨_,rfl,_,rfl,_,rfl,_,_,rfl,rfl,hmul t ht,(by show 2≤sizeLine;decide),k⟩
  ·refine⟨D,_,rfl,hT1.tl,(by rw[List.length_map];exact hlen),fun b f H' hb hT' hF hl s'=>?_⟩;rw[List.length_map] at hl;exact q b f H' (s1.free hb) hT' hF hl (s1.trans s')
noncomputable def spLess:Sp:=fun vs H Q _=>∃ (a b:Addr) (l m:Terms),vs=[.ref a,.ref b]∧TLo H a l∧TLo H b m∧l.length+m.length≤100000 ∧
 ∀ (c:Addr) (f:Terms) (H':Hp),H c=none→TLo H' c f→IsForm f→(∀ k,coef f k=coef l k-coef m k)→f.length≤l.length+m.length→Same H H'→Q (.ref c) H'
theorem sc_Z25:FnScope ["one", "other"] ["one", "other"] (defScope s_Z25):=⟨rfl,rfl,rfl,by decide +kernel,rfl,by decide +kernel,by decide +kernel⟩
theorem ok_Z25 (T:Txt K mg):FnOk P w K mg base CX0 4 T.a_Z25 T.fd_Z25 ["one", "other"] spLess:=by
 refine T.d_Z25.F.ok sc_Z25 (fun vs H Q E h=>?_) (fun cdv A outer s H vs Q E hr h=>?_)
 ·obtain⟨a,b,l,m,rfl,hTa,hTb,hlen,q⟩:=h;rfl
 ·obtain⟨a,b,l,m,rfl,hTa,hTb,hlen,q⟩:=h;have hu:=hu_of hr;refine⟨_,(pss_one (ps_ret (pe_call (ok_Z28 (P:=P) (w:=w) (base:=base) T) hr (by rfl) T.d_Z28.m T.d_Z28.F.kp T.d_Z28.b .nil pass0 (pa_cons (pv 0) (pa_cons (pe_call (ok_Z32 (P:=P) (w:=w) (base:=base) T) hr (by rfl) T.d_Z32.m T.d_Z32.F.kp T.d_Z32.b .nil pass0 (pa_cons (pv 1) (pa_cons (pe_un un_neg pe_int) pa_nil))) pa_nil))))),?_⟩;refine⟨_,rfl,_,rfl,_,rfl,b,m,-1,rfl,hTb.tl,by omega,fun t _=>mulR (by decide) (by decide),fun d g H1 hd hT1 hF1 hl1 s1=>?_⟩;refine⟨a,d,l,g,rfl,hTa.keep s1,hT1,by omega,fun c f H2 hc hT2 hF2 hl2 s2=>?_⟩;refine q c f H2 (s1.free hc) hT2 hF2.toIsForm (fun k=>?_) (by omega) (s1.trans s2);rw[hF2.val,coef_append,hF1.val];have e:(m.map fun t=>(t.1,t.2 * -1))=m.map fun t=>(t.1,-t.2):=List.map_congr_left fun t _=>by rw[show t.2 * -1 = -t.2 by omega]
  rw[e,coef_neg];omega
noncomputable def spDoubled:Sp:=fun vs H Q _=>∃ m:Nat,vs=[.int (m:Int)]∧m≤100∧Q (.int (2^m)) H
theorem sc_Z4:FnScope ["many", "size", "turn"] ["many"] (defScope s_Z4):=⟨rfl,rfl,rfl,by decide +kernel,rfl,by decide +kernel,by decide +kernel⟩
theorem ok_Z4 (T:Txt K mg):FnOk P w K mg base CX0 1 T.a_Z4 T.fd_Z4 ["many"] spDoubled:=by
 refine T.d_Z4.F.ok sc_Z4 (fun vs H Q E h=>?_) (fun cdv A outer s H vs Q E hr h=>?_)
 ·obtain⟨m,rfl,hm,q⟩:=h;rfl
 ·obtain⟨m,rfl,hm,q⟩:=h;have hu:=hu_of hr;refine⟨_,(pss_cons (ps_set (i:=1) sc_Z4.nd rfl (Or.inl rfl) pe_int)
   (pss_cons (ps_for PassesOwn.never rfl (pi_range1 rfl T.n_range (pa_cons (pv 0) pa_nil)) (pg_name (i:=2) sc_Z4.nd rfl (Or.inl rfl))
    (pss_one (ps_set (i:=1) sc_Z4.nd rfl (Or.inl rfl) (pe_op op_mulO (pv 1) pe_int))))
   (pss_one (ps_ret (pv 1))))),?_⟩
  refine⟨_,rfl,(m:Int),rfl,by omega,by omega,for_range (n:=m) (fun i σ H2=>∃ v2:Option V,σ = [some (.int (m:Int)),some (.int (2^i)),v2]∧H2=H) ⟨none,rfl,rfl⟩ ?_ ?_⟩
  ·rintro i σ H2 hi ⟨v2,rfl,rfl⟩;refine⟨_,rfl,_,_,rfl,rfl,mulR (by decide) (by decide),some (.int (0+(i:Int))),?_,rfl⟩;rw[Int.pow_succ];rfl
  ·rintro σ H2 ⟨v2,rfl,rfl⟩;exact⟨_,rfl,q⟩
noncomputable def spWordForm (K:PySem.W.Frag):Sp:=fun vs H Q _=>∃ (a:Addr) (ws:List Nat) (bl:Bool),vs=[.ref a,.bl bl]∧H a=some (.lst (natL ws))∧ws.length≤16∧(∀ x∈ws,x≤99) ∧
 ∀ (b:Addr) (f:Terms) (H':Hp),H b=none→TLo H' b f→FormOf f (wordT ws bl)→f.length≤ws.length→Same H H'→Q (.ref b) H'
theorem sc_Z40:FnScope ["wires", "below", "told"] ["wires", "below"] (defScope s_Z40):=⟨rfl,rfl,rfl,by decide +kernel,rfl,by decide +kernel,by decide +kernel⟩
theorem nd_Z40_1:(["place", "wire"]:List Str).Nodup:=by decide +kernel
theorem ok_Z40 (T:Txt K mg):FnOk P w K mg base CX0 3 T.a_Z40 T.fd_Z40 ["wires", "below"] (spWordForm K):=by
 refine T.d_Z40.F.ok sc_Z40 (fun vs H Q E h=>?_) (fun cdv A outer s H vs Q E hr h=>?_)
 ·obtain⟨a,ws,bl,rfl,hL,hl16,hx,q⟩:=h;rfl
 ·obtain⟨a,ws,bl,rfl,hL,hl16,hx,q⟩:=h;have hu:=hu_of hr;refine⟨_,(pss_cons (ps_setC (i:=2) (g:=(gTup K 2 (gCons (gName 0) (gCons (gName 1) gNil)))) ["place", "wire"] 2 [] sc_Z40.nd rfl (Or.inl rfl) rfl (by exact CompSc.of (defScope s_Z40) ["wires", "below", "told"] rfl rfl rfl (by decide +kernel) rfl (by decide +kernel) (by decide +kernel)) (pi_enum rfl T.n_enumerate (pa_cons (pv 0) pa_nil))
    (fun cl C s₀ H₀ fp=>(pg_tup (n:=2) rfl (pgs_cons (pg_name (i:=0) nd_Z40_1 rfl (Or.inl rfl) (Or.inr rfl)) (pgs_cons (pg_name (i:=1) nd_Z40_1 rfl (Or.inl rfl) (Or.inr rfl)) pgs_nil)))) (fun cl C s₀ H₀ fp=>pts_nil) (fun cl C s₀ H₀ fp=>(pe_tup (pa_cons (pe_call (ok_Z4 (P:=P) (w:=w) (base:=base) T) (hr.mono (by decide)) (by rfl) T.d_Z4.m T.d_Z4.F.kp T.d_Z4.b .nil pass0 (pa_cons (pv 1) pa_nil)) (pa_cons (pe_call (ok_Z4 (P:=P) (w:=w) (base:=base) T) (hr.mono (by decide)) (by rfl) T.d_Z4.m T.d_Z4.F.kp T.d_Z4.b .nil pass0 (pa_cons (pv 0) pa_nil)) pa_nil)))))
   (pss_cons (ps_cut (ps_if (PW.pt (pw_and (pt_val (pv 1) (fun _=>rfl)) (pw_and1 (pt_truth (pv 2) (fun _=>rfl))))) (pss_one (ps_asg (pe_tup (pa_cons (pe_ix ix_tup (pe_ix ix_list (pv 2) (pe_un un_neg pe_int) (fun _ _=>rfl)) pe_int (fun _ _=>rfl)) (pa_cons (pe_un un_neg (pe_ix ix_tup (pe_ix ix_list (pv 2) (pe_un un_neg pe_int) (fun _ _=>rfl)) pe_int (fun _ _=>rfl))) pa_nil))) (pg_sub (pv 2) (pe_un un_neg pe_int) set_list))) pss_nil))
   (pss_one (ps_ret (pe_call (ok_Z26 (P:=P) (w:=w) (base:=base) T) hr (by rfl) T.d_Z26.m T.d_Z26.F.kp T.d_Z26.b .nil pass0 (pa_cons (pv 2) pa_nil)))))),?_⟩
  have hlx:(natL ws).length=ws.length:=by unfold natL;rw[List.length_map]
  refine⟨_,rfl,a,rfl,⟨_,SqL.of hL⟩,?_⟩;refine comp_enum (K:=K) (a:=a) (xs:=natL ws) (fun j ys σ H2=>∃ (v0 v1:Option V) (qs:List Addr),σ = [v0,v1]∧ys=qs.map V.ref∧Tups H2 qs (twL ws j)∧Same H H2)
   ⟨none,none,[],rfl,rfl,.nil,Same.refl _⟩ (fun j ys σ H2 hj ⟨_,_,qs,_,e1,e2,e3⟩=>⟨SqL.of (e3 _ _ hL),by rw[e1,List.length_map,e2.length,tw_len];exact Nat.le_refl _⟩) (by rw[hlx];exact Nat.le_of_lt (small6 (by omega))) ?_ ?_
  ·rintro j x ys σ H2 W hi ⟨v0,v1,qs,rfl,rfl,g1,g2⟩ hW;have hj:j<ws.length:=by have:=(List.getElem?_eq_some_iff.mp hi).1;rw[hlx] at this;exact this
   have ex:x=V.int ((ws[j]:Nat):Int):=by
    unfold natL at hi;rw[List.getElem?_map,List.getElem?_eq_getElem hj] at hi;exact (Option.some.inj hi).symm
   subst ex;have eg:ws.getD j 0=ws[j]:=by rw[List.getD_eq_getElem?_getD,List.getElem?_eq_getElem hj];rfl
   have hxm:=hx _ (List.getElem_mem hj);have s3:Same H2 (upd H2 W (.tup [.int (j:Nat),.int ((ws[j]:Nat):Int)])):=Same.upd hW;refine⟨W,_,rfl,SqT.of upd_same,rfl,_,_,rfl,_,_,rfl,rfl,?_⟩;refine tt ?_;refine⟨_,rfl,ws[j],rfl,by omega,_,rfl,j,rfl,by omega,(by show 2≤sizeLine;decide),fun t ht=>?_⟩;have s4:Same (upd H2 W (.tup [.int (j:Nat),.int ((ws[j]:Nat):Int)])) (upd (upd H2 W (.tup [.int (j:Nat),.int ((ws[j]:Nat):Int)])) t (.tup [.int (2^ws[j]),.int (2^j)])):=Same.upd ht;refine⟨_,_,qs ++ [t],rfl,(by rw[List.map_append];rfl),?_,g2.trans (s3.trans s4)⟩;rw[tw_snoc,eg];exact Tups.snoc (g1.keep fun b xs z=>(s3.trans s4) b _ z) upd_same
  rintro ys σ H2 ⟨v0,v1,qs,rfl,rfl,g1,g2⟩ D hD;rw[hlx] at g1;have hql:=g1.length;rw[tw_len] at hql;have s3:Same H2 (upd H2 D (.lst (qs.map V.ref))):=Same.upd hD;have w3:upd H2 D (.lst (qs.map V.ref)) D=some (.lst (qs.map V.ref)):=upd_same;have g1':Tups (upd H2 D (.lst (qs.map V.ref))) qs (twL ws ws.length):=g1.keep fun b xs z=>s3 b _ z
  have hDn:H D=none:=g2.free hD;have S3:=g2.trans s3;generalize upd H2 D (.lst (qs.map V.ref))=H3 at s3 w3 g1' S3;refine⟨fun σ G => σ = [some (.ref a),some (.bl bl),some (.ref D)]∧TLo G D (wordT ws bl)∧Same H G,?_,?_⟩
  ·refine⟨_,rfl,bl,rfl,?_⟩;cases hbl:bl with
   | false =>
    refine iteF (iteF ⟨rfl,?_,S3⟩);unfold wordT;rw[if_neg (by simp)];exact⟨qs,w3,g1'⟩
   | true =>
    refine iteT ?_;by_cases h0:ws.length=0
    ·have eq:qs=[]:=List.eq_nil_of_length_eq_zero (by omega);subst eq;refine⟨_,rfl,false,.inl ⟨_,SqL.of w3,rfl⟩,iteF ⟨rfl,?_,S3⟩⟩;unfold wordT;rw[if_neg (by omega)];exact⟨[],w3,g1'⟩
    ·obtain⟨n,hn⟩:∃ n,ws.length=n+1:=⟨ws.length-1,by omega⟩;have hn2:qs.length=n+1:=by omega
     obtain⟨q0,qr,hqs⟩:∃ q0 qr,qs=q0 :: qr:=by
      cases qs with
      | nil=>simp at hn2
      | cons x y=>exact⟨x,y,rfl⟩
     refine⟨_,rfl,true,.inl ⟨_,SqL.of w3,by rw[hqs];rfl⟩,iteT ?_⟩;have hqn:qs[n]? = some qs[n]:=List.getElem?_eq_getElem (by omega);obtain⟨tt',ht1,ht2⟩:=g1'.at' hqn;have htt:tt'=((2:Int)^(ws.getD n 0),(2:Int)^n):=by
      unfold twL at ht1;rw[List.getElem?_map,List.getElem?_range (by omega)] at ht1;exact (Option.some.inj ht1).symm
     subst htt;have hat:atI (qs.map V.ref) (-1)=some (V.ref qs[n]):=at_last (i:=n) (by rw[List.length_map,hn2]) (by rw[List.getElem?_map,hqn];rfl);refine⟨_,rfl,_,rfl,D,_,_,V.ref qs[n],rfl,rfl,SqL.of w3,hat,qs[n],_,_,_,rfl,rfl,SqT.of ht2,rfl,?_⟩;refine⟨_,rfl,_,rfl,D,_,_,V.ref qs[n],rfl,rfl,SqL.of w3,hat,qs[n],_,_,_,rfl,rfl,SqT.of ht2,rfl,_,rfl,(by show 2≤sizeLine;decide),fun t ht=>?_⟩;have s4:Same H3 (upd H3 t (.tup [.int (2^ws.getD n 0),.int (-(2:Int)^n)])):=Same.upd ht;have w4:upd H3 t (.tup [.int (2^ws.getD n 0),.int (-(2:Int)^n)]) t=some (.tup [.int (2^ws.getD n 0),.int (-(2:Int)^n)]):=upd_same;generalize upd H3 t (.tup [.int (2^ws.getD n 0),.int (-(2:Int)^n)])=H4 at s4 w4;have w34:=s4 _ _ w3;refine⟨_,rfl,_,rfl,D,_,-1,n,rfl,rfl,w34,(by unfold ixN;rw[if_neg (by decide),if_pos (by rw[List.length_map];omega),List.length_map,hn2];congr 1;omega),rfl,?_,(S3.trans s4).write hDn⟩;have hne:∀ (x:Addr) (xs:List V),H4 x=some (.tup xs)→x≠D:=fun x xs h z=>by rw[z,w34] at h;cases h
     refine⟨qs.set n t,by rw[upd_same,List.map_set],?_⟩;unfold wordT;rw[if_pos ⟨rfl,by omega⟩];have hset:twL ws (ws.length-1) ++ [((2:Int)^(ws.getD (ws.length-1) 0),-(2:Int)^(ws.length-1))]=(twL ws ws.length).set n ((2:Int)^(ws.getD n 0),-(2:Int)^n):=by
      rw[hn,Nat.add_sub_cancel,tw_snoc,List.set_append_right _ _ (by rw[tw_len];exact Nat.le_refl _),tw_len];simp
     rw[hset];exact Tups.set n ((g1'.keep fun x xs h=>s4 x _ h).keep fun x xs h=>by rw[upd_ne (hne x xs h)];exact h) (by rw[upd_ne (hne t _ w4)];exact w4)
  ·rintro σ G ⟨rfl,hT,sG⟩
   have:=word_len ws bl
   refine⟨_,rfl,D,wordT ws bl,rfl,hT.tl,by omega,fun b f H5 hb hT5 hF5 hl5 s5=>?_⟩;exact q b f H5 (sG.free hb) hT5 hF5 (by omega) (sG.trans s5)
noncomputable def spGathered (K:PySem.W.Frag):Sp:=fun vs H Q _=>∃ (a:Addr) (ns:List Int) (m:Nat) (s:Int),vs=[.ref a,.int s]∧H a=some (.lst (ns.map V.int))∧ns.length=2^m∧(s=1∨s = -1)∧m≤16 ∧
 ∀ (D:Addr) (H':Hp),(D=a∨H D=none)→H' D=some (.lst ((zetL s ns m).map V.int))→Same H H'→Q (.ref D) H'
theorem sc_Z14:FnScope ["numbers", "sign", "turns", "turn", "without"] ["numbers", "sign"] (defScope s_Z14):=⟨rfl,rfl,rfl,by decide +kernel,rfl,by decide +kernel,by decide +kernel⟩
theorem nd_Z14_1:(["number", "low", "sign"]:List Str).Nodup:=by decide +kernel
theorem ok_Z14 (T:Txt K mg):FnOk P w K mg base CX0 1 T.a_Z14 T.fd_Z14 ["numbers", "sign"] (spGathered K):=by
 refine T.d_Z14.F.ok sc_Z14 (fun vs H Q E h=>?_) (fun cdv A outer s H vs Q E hr h=>?_)
 ·obtain⟨a,ns,m,s',rfl,ha,hlen,hs,hm,q⟩:=h;rfl
 ·obtain⟨a,ns,m,s',rfl,ha,hlen,hs,hm,q⟩:=h;have hu:=hu_of hr;refine⟨_,(pss_cons (ps_set (i:=2) sc_Z14.nd rfl (Or.inl rfl) (pe_op op_sub (pe_bm0 PySem.F.plainAttrs_int PyProof.Rows.slot_int_bit_length PyProof.Rows.type_int_bit_length mt_bit_length (pe_callB call_len_seq (by rfl) T.n_len PySem.boot_len (pa_cons (pv 0) pa_nil))) pe_int))
   (pss_cons (ps_for PassesOwn.never rfl (pi_range1 rfl T.n_range (pa_cons (pv 2) pa_nil)) (pg_name (i:=3) sc_Z14.nd rfl (Or.inl rfl))
    (pss_cons (ps_set (i:=4) sc_Z14.nd rfl (Or.inl rfl) (pe_two (pv 0) (po_some pe_int) (po_some pe_int)))
   (pss_one (ps_set (i:=0) sc_Z14.nd rfl (Or.inl rfl) (pe_op op_cat (pv 4) (pe_comp (g:=(gTup K 2 (gCons (gName 0) (gCons (gName 1) gNil)))) ["number", "low", "sign"] 2 [1] rfl (by exact CompSc.of (defScope s_Z14) ["numbers", "sign", "turns", "turn", "without"] rfl rfl rfl (by decide +kernel) rfl (by decide +kernel) (by decide +kernel)) (pi_zip rfl T.n_zip (pa_cons (pe_two (pv 0) (po_some pe_int) (po_some pe_int)) (pa_cons (pv 4) pa_nil)))
    (fun cl C s₀ H₀ fp=>(pg_tup (n:=2) rfl (pgs_cons (pg_name (i:=0) nd_Z14_1 rfl (Or.inl rfl) (Or.inr rfl)) (pgs_cons (pg_name (i:=1) nd_Z14_1 rfl (Or.inl rfl) (Or.inr rfl)) pgs_nil)))) (fun cl C s₀ H₀ fp=>pts_nil) (fun cl C s₀ H₀ fp=>(pe_op op_add (pv 0) (pe_op op_mulO (pv 2) (pv 1))))))))))
   (pss_one (ps_ret (pv 0))))),?_⟩
  have hmx:(2:Nat)^m≤2^16:=Nat.pow_le_pow_right (by decide) hm;refine⟨_,rfl,a,_,rfl,.inl (SqL.of ha),rfl,_,rfl,rfl,_,_,rfl,rfl,?_⟩;rw[List.length_map,hlen,intBits_pow];refine⟨_,rfl,(((m+1:Nat):Int)-1),rfl,by omega,by omega,?_⟩;have em:((((m+1:Nat):Int)-1)).toNat=m:=by omega
  rw[em];refine for_range (n:=m) (fun i σ H2=>∃ (v3 v4:Option V) (b:Addr) (ms:List Int),σ = [some (.ref b),some (.int s'),some (.int (((m+1:Nat):Int)-1)),v3,v4]∧(b=a∨H b=none)∧H2 b=some (.lst (ms.map V.int))∧Turned s' (getN ns) m i ms∧Same H H2)
   ⟨none,none,a,ns,rfl,.inl rfl,ha,Turned.start _ _ _ hlen,Same.refl _⟩ ?_ ?_
  ·rintro i σ H2 hi ⟨v3,v4,b,ms,rfl,hb,hb2,ht,s2⟩;have hml:=ht.1;have e1:2^m=2 * 2^(m-1):=by rw[← Nat.pow_succ'];congr 1;omega
   have hl2:(ms.map V.int).length=2 * 2^(m-1):=by rw[List.length_map,hml,e1]
   have p0:=Nat.two_pow_pos (m-1);have hm0:(2:Nat)^(m-1)≤2^16:=Nat.pow_le_pow_right (by decide) (by omega);generalize hn:2^(m-1)=n at *;have ec:∀ c,c<2→pickL c (((ms.map V.int).length-c+1) / 2) (ms.map V.int)=((List.range n).map fun k=>getN ms (2 * k+c)).map V.int:=fun c hc=>by
    rw[hl2,show (2 * n-c+1) / 2=n by omega];exact pick_ints c n ms (by rw[List.length_map] at hl2;exact hl2) hc
   refine⟨_,rfl,_,rfl,_,rfl,rfl,0,b,_,rfl,rfl,SqL.of hb2,Nat.zero_le _,fun w hw=>?_⟩;have s3:Same H2 (upd H2 w (.lst (pickL 0 (((ms.map V.int).length-0+1) / 2) (ms.map V.int)))):=Same.upd hw;have hw3:upd H2 w (.lst (pickL 0 (((ms.map V.int).length-0+1) / 2) (ms.map V.int))) w=some (.lst (((List.range n).map fun k=>getN ms (2 * k)).map V.int)):=by rw[upd_same,ec 0 (by decide)];rfl
   generalize upd H2 w (.lst (pickL 0 (((ms.map V.int).length-0+1) / 2) (ms.map V.int)))=H3 at s3 hw3;refine⟨_,rfl,_,rfl,_,rfl,_,rfl,rfl,1,b,_,rfl,rfl,SqL.of (s3 _ _ hb2),by omega,fun x hx=>?_⟩;have s4:Same H3 (upd H3 x (.lst (pickL 1 (((ms.map V.int).length-1+1) / 2) (ms.map V.int)))):=Same.upd hx;have hx4:upd H3 x (.lst (pickL 1 (((ms.map V.int).length-1+1) / 2) (ms.map V.int))) x=some (.lst (((List.range n).map fun k=>getN ms (2 * k+1)).map V.int)):=by rw[upd_same,ec 1 (by decide)]
   generalize upd H3 x (.lst (pickL 1 (((ms.map V.int).length-1+1) / 2) (ms.map V.int)))=H4 at s4 hx4;have hw4:=s4 _ _ hw3;refine⟨_,rfl,x,w,rfl,⟨_,SqL.of hx4⟩,⟨_,SqL.of hw4⟩,?_⟩;refine comp_zip (K:=K) (a:=x) (b:=w) (xs:=((List.range n).map fun k=>getN ms (2 * k+1)).map V.int) (ys:=((List.range n).map fun k=>getN ms (2 * k)).map V.int) (by simp) (fun i zs σ H5=>∃ v0 v1:Option V,σ = [v0,v1,some (.int s')]∧zs=((List.range i).map fun k=>getN ms (2 * k+1)+s' * getN ms (2 * k)).map V.int∧Same H4 H5)
    ⟨none,none,rfl,rfl,Same.refl _⟩ (fun i zs σ H5 hi ⟨_,_,_,e1,e2⟩=>⟨SqL.of (e2 _ _ hx4),SqL.of (e2 _ _ hw4),by rw[e1];simp⟩) (by simp;exact Nat.le_of_lt (small6 (by omega))) ?_ ?_
   ·rintro i u v zs σ H5 W hu hv ⟨v0,v1,rfl,rfl,s5⟩ hW;have hin:i<n:=by
     have:=(List.getElem?_eq_some_iff.mp hu).1
     simpa using this
    have eu:u=V.int (getN ms (2 * i+1)):=by
     rw[List.getElem?_map,List.getElem?_map,List.getElem?_range hin] at hu;exact (Option.some.inj hu).symm
    have ev:v=V.int (getN ms (2 * i)):=by
     rw[List.getElem?_map,List.getElem?_map,List.getElem?_range hin] at hv;exact (Option.some.inj hv).symm
    subst eu ev;have s6:Same H5 (upd H5 W (.tup [.int (getN ms (2 * i+1)),.int (getN ms (2 * i))])):=Same.upd hW;refine⟨W,_,rfl,SqT.of upd_same,rfl,_,_,rfl,_,_,rfl,rfl,?_⟩;refine tt ?_;refine⟨_,rfl,_,rfl,_,rfl,_,_,rfl,rfl,mulL (by omega) (by omega),_,_,rfl,rfl,some (.int (getN ms (2 * i+1))),some (.int (getN ms (2 * i))),rfl,?_,s5.trans s6⟩;rw[List.range_succ,List.map_append,List.map_append];rfl
   ·rintro zs σ H5 ⟨v0,v1,rfl,rfl,s5⟩ D hD;have hlx:(((List.range n).map fun k=>getN ms (2 * k+1)).map V.int).length=n:=by simp
    rw[hlx];have s6:Same H5 (upd H5 D (.lst (((List.range n).map fun k=>getN ms (2 * k+1)+s' * getN ms (2 * k)).map V.int))):=Same.upd hD;refine⟨w,D,_,_,rfl,rfl,s6 _ _ (s5 _ _ hw4),upd_same,(by simp;exact Nat.le_of_lt (small6 (by omega))),fun c hc=>?_⟩;have S6:=s2.trans (s3.trans (s4.trans (s5.trans s6)));refine⟨_,_,c,stepG s' n ms,rfl,.inr (S6.free hc),?_,?_,S6.trans (Same.upd hc)⟩
    ·rw[upd_same];unfold stepG;rw[List.map_append]
    ·rw[← hn];exact ht.next hi
  ·rintro σ H2 ⟨v3,v4,b,ms,rfl,hb,hb2,ht,s2⟩;refine⟨_,rfl,q b H2 hb ?_ s2⟩;rw[← ht.all hlen];exact hb2
noncomputable def spTable (K:PySem.W.Frag):Sp:=fun vs H Q _=>∃ (a:Addr) (l:Terms) (m:Nat),vs=[.ref a,.int (m:Int)]∧TL K H a l∧IsForm l∧l.length≤100000∧m≤16 ∧
 ∀ (D:Addr) (H':Hp),H D=none→H' D=some (.lst ((zetL 1 ((List.range (2^m)).map fun k:Nat=>coef l (k:Int)) m).map V.int))→Same H H'→Q (.ref D) H'
theorem sc_Z35:FnScope ["form", "many", "numbers"] ["form", "many"] (defScope s_Z35):=⟨rfl,rfl,rfl,by decide +kernel,rfl,by decide +kernel,by decide +kernel⟩
theorem nd_Z35_1:(["members", "numbers"]:List Str).Nodup:=by decide +kernel
theorem ok_Z35 (T:Txt K mg):FnOk P w K mg base CX0 2 T.a_Z35 T.fd_Z35 ["form", "many"] (spTable K):=by
 refine T.d_Z35.F.ok sc_Z35 (fun vs H Q E h=>?_) (fun cdv A outer s H vs Q E hr h=>?_)
 ·obtain⟨a,l,m,rfl,hT,hF,hlen,hm,q⟩:=h;rfl
 ·obtain⟨a,l,m,rfl,hT,hF,hlen,hm,q⟩:=h;have hu:=hu_of hr;refine⟨_,(pss_cons (ps_set (i:=2) sc_Z35.nd rfl (Or.inr rfl) (pe_callTy (call_dict_of rfl) rfl T.n_dict PyProof.Rows.boot_dict (pa_cons (pv 0) pa_nil)))
   (pss_one (ps_ret (pe_call (ok_Z14 (P:=P) (w:=w) (base:=base) T) hr (by rfl) T.d_Z14.m T.d_Z14.F.kp T.d_Z14.b .nil pass0 (pa_cons (pe_comp (g:=(gName 0)) ["members", "numbers"] 1 [2] rfl (by exact CompSc.of (defScope s_Z35) ["form", "many", "numbers"] rfl rfl rfl (by decide +kernel) rfl (by decide +kernel) (by decide +kernel)) (pi_range1 rfl T.n_range (pa_cons (pe_call (ok_Z4 (P:=P) (w:=w) (base:=base) T) hr (by rfl) T.d_Z4.m T.d_Z4.F.kp T.d_Z4.b .nil pass0 (pa_cons (pv 1) pa_nil)) pa_nil))
    (fun cl C s₀ H₀ fp=>(pg_name (i:=0) nd_Z35_1 rfl (Or.inl rfl) (Or.inr rfl))) (fun cl C s₀ H₀ fp=>pts_nil) (fun cl C s₀ H₀ fp=>(pe_dget2 hu (pv 1) (pv 0) pe_int ⟨rfl,rfl,rfl,rfl⟩))) (pa_cons pe_int pa_nil)))))),?_⟩
  refine⟨_,rfl,a,l,rfl,hT,by omega,fun d hd=>?_⟩;have s1:Same H (upd H d (.dK ((fillI [] l).map encP))):=Same.upd hd;have hdd:upd H d (.dK ((fillI [] l).map encP)) d=some (.dK ((fillI [] l).map encP)):=upd_same;generalize upd H d (.dK ((fillI [] l).map encP))=H1 at s1 hdd;have pw:((2:Int)^m)=((2^m:Nat):Int):=by norm_cast
  have e2:((2:Int)^m).toNat=2^m:=by rw[pw];rfl
  have hmx:(2:Nat)^m≤2^16:=Nat.pow_le_pow_right (by decide) hm;refine⟨_,rfl,m,rfl,by omega,(2:Int)^m,rfl,by omega,by omega,?_⟩;refine comp_range (lo:=0) (n:=((2:Int)^m).toNat) (fun i ys σ H2=>∃ v0:Option V,σ = [v0,some (.ref d)]∧ys=((List.range i).map fun k:Nat=>coef l (k:Int)).map V.int∧H2=H1) ⟨none,rfl,rfl,rfl⟩ (fun i ys σ H2 ⟨_,_,e,_⟩=>by rw[e];simp) (by rw[e2];exact Nat.le_of_lt (small6 (by omega))) ?_ ?_
  ·rintro i ys σ H2 hi ⟨v0,rfl,rfl,rfl⟩;unfold gName;refine tt ?_;refine⟨_,rfl,d,rfl,.inl ⟨_,.inl hdd⟩,_,rfl,_,DGet.k (k:=Sum.inl (0+(i:Int))) hdd,?_⟩;rw[valV_enc];have eg:((look (fillI [] l) (0+(i:Int))).map V.int).getD (V.int 0)=V.int (coef l (i:Int)):=by
    rw[← fill_coef hF,Int.zero_add];unfold getI;cases look (fillI [] l) (i:Int) <;> rfl
   refine⟨some (.int (0+(i:Int))),rfl,?_,rfl⟩;rw[List.range_succ,List.map_append,List.map_append,eg];rfl
  ·rintro ys σ H2 ⟨v0,rfl,rfl,rfl⟩ D hD;rw[e2];have s2:Same H2 (upd H2 D (.lst (((List.range (2^m)).map fun k:Nat=>coef l (k:Int)).map V.int))):=Same.upd hD;refine⟨D,_,m,1,rfl,upd_same,by simp,.inl rfl,hm,fun D' H' hD' hl s3=>?_⟩;refine q D' H' ?_ hl (s1.trans (s2.trans s3));rcases hD' with z | z
   ·subst z;exact s1.free hD
   ·exact s1.free (s2.free z)
noncomputable def spUnk (K:PySem.W.Frag):Sp:=fun vs H Q _=>∃ (a:Addr) (l:Terms),vs=[.ref a]∧TL K H a l∧(∀ t∈l,0≤t.1)∧Q (.int (orAll l 0:Nat)) H
theorem sc_Z37:FnScope ["form", "together", "members", "number"] ["form"] (defScope s_Z37):=⟨rfl,rfl,rfl,by decide +kernel,rfl,by decide +kernel,by decide +kernel⟩
theorem ok_Z37 (T:Txt K mg):FnOk P w K mg base CX0 1 T.a_Z37 T.fd_Z37 ["form"] (spUnk K):=by
 refine T.d_Z37.F.ok sc_Z37 (fun vs H Q E h=>?_) (fun cdv A outer s H vs Q E hr h=>?_)
 ·obtain⟨a,l,rfl,⟨ps,hS,hT⟩,h0,q⟩:=h;rfl
 ·obtain⟨a,l,rfl,⟨ps,hS,hT⟩,h0,q⟩:=h;have hu:=hu_of hr;refine⟨_,(pss_cons (ps_set (i:=1) sc_Z37.nd rfl (Or.inl rfl) pe_int)
   (pss_cons (ps_for PassesOwn.never rfl (pi_list (pv 0)) (pg_tup (n:=2) rfl (pgs_cons (pg_name (i:=2) sc_Z37.nd rfl (Or.inl rfl)) (pgs_cons (pg_name (i:=3) sc_Z37.nd rfl (Or.inl rfl)) pgs_nil)))
    (pss_one (ps_set (i:=1) sc_Z37.nd rfl (Or.inl rfl) (pe_op op_or (pv 1) (pv 2)))))
   (pss_one (ps_ret (pv 1))))),?_⟩
  refine⟨_,rfl,a,rfl,⟨_,hS⟩,?_⟩;refine for_list (K:=K) (a:=a) (xs:=ps.map V.ref) (fun i σ H2=>∃ (v2 v3:Option V),σ = [some (.ref a),some (.int (orAll (l.take i) 0:Nat)),v2,v3]∧H2=H)
   ⟨none,none,rfl,rfl⟩ (fun i σ H2 _ ⟨_,_,_,e⟩=>by rw[e];exact hS) ?_ ?_
  ·rintro i y σ H2 hi ⟨v2,v3,rfl,rfl⟩;obtain⟨p,hpi,rfl⟩:=at_ref hi;obtain⟨t,ht1,ht2⟩:=hT.at' hpi;have htm:=List.mem_of_getElem? ht1;have htk:l.take (i+1)=l.take i ++ [t]:=by rw[List.take_add_one,ht1];rfl
   have e:((t.1.toNat:Nat):Int)=t.1:=Int.toNat_of_nonneg (h0 t htm);refine⟨p,_,rfl,SqT.of ht2,rfl,_,_,rfl,_,_,rfl,rfl,?_⟩;refine⟨_,rfl,_,rfl,_,_,rfl,rfl,some (.int t.1),some (.int t.2),?_,rfl⟩;rw[htk,orAll_snoc];show [some (.ref a),some (V.int (Builtin.bitOr ((orAll (l.take i) 0:Nat):Int) t.1)),_,_]=_;rw[← e,bitOr_nat,e]
  ·rintro σ H2 ⟨v2,v3,rfl,rfl⟩;refine⟨_,rfl,?_⟩;rw[List.length_map,hT.length,List.take_length];exact q
noncomputable def spPairedF (K:PySem.W.Frag):Sp:=fun vs H Q _=>∃ (p r:Addr) (l o:Terms) (M:Nat),vs=[.ref p,.ref r]∧TLo H p l∧TLo H r o∧IsForm l∧(∀ t∈l,0≤t.1∧t.1<2^M)∧IsForm o∧(∀ t∈o,0≤t.1∧t.1<2^M)∧l.length≤300∧o.length≤300∧M≤16∧Q .non H ∧
 ∀ (d1 d2 t:Addr) (m:Nat) (H':Hp),H' t=some (.tup [.ref d1,.ref d2])→H' d1=some (.lst (((List.range (2^m)).map fun g:Nat=>worthL l (g:Int)).map V.int))→H' d2=some (.lst (((List.range (2^m)).map fun g:Nat=>worthL o (g:Int)).map V.int))→m≤M→(∀ t∈l,0≤t.1∧t.1<2^m)→(∀ t∈o,0≤t.1∧t.1<2^m)→2^m≤l.length * o.length→Same H H'→Q (.ref t) H'
noncomputable def spPairedW (K:PySem.W.Frag):Sp:=fun vs H Q _=>∃ (p r:Addr) (a c:Nat),vs=[.ref p,.ref r]∧TLo H p (wireL a)∧TLo H r (wireL c)∧a≤99∧c≤99∧Q .non H
theorem sc_Z27:FnScope ["one", "other", "many"] ["one", "other"] (defScope s_Z27):=⟨rfl,rfl,rfl,by decide +kernel,rfl,by decide +kernel,by decide +kernel⟩
theorem ok_Z27 (T:Txt K mg):FnOk P w K mg base CX0 3 T.a_Z27 T.fd_Z27 ["one", "other"] (spOr (spPairedF K) (spPairedW K)):=by
 refine T.d_Z27.F.ok sc_Z27 (fun vs H Q E h=>?_) (fun cdv A outer s H vs Q E hr h=>?_)
 ·rcases h with h | h; (obtain⟨p,r,l,o,M,rfl,hp2,hr2,fl,kl0,fo,ko0,ll,lo,hM,q1,q2⟩:=h;rfl); (obtain⟨p,r,a,c,rfl,hp2,hr2,ha,hc,q⟩:=h;rfl)
 ·have hu:=hu_of hr;refine⟨_,(pss_cons (ps_set (i:=2) sc_Z27.nd rfl (Or.inl rfl) (pe_bm0 PySem.F.plainAttrs_int PyProof.Rows.slot_int_bit_length PyProof.Rows.type_int_bit_length mt_bit_length (pe_op op_or (pe_call (ok_Z37 (P:=P) (w:=w) (base:=base) T) (hr.mono (by decide)) (by rfl) T.d_Z37.m T.d_Z37.F.kp T.d_Z37.b .nil pass0 (pa_cons (pv 0) pa_nil)) (pe_call (ok_Z37 (P:=P) (w:=w) (base:=base) T) (hr.mono (by decide)) (by rfl) T.d_Z37.m T.d_Z37.F.kp T.d_Z37.b .nil pass0 (pa_cons (pv 1) pa_nil)))))
   (pss_cons (ps_if (pt_cmpR op_le (pe_op op_mulO (pe_callB call_len_seq (by rfl) T.n_len PySem.boot_len (pa_cons (pv 0) pa_nil)) (pe_callB call_len_seq (by rfl) T.n_len PySem.boot_len (pa_cons (pv 1) pa_nil))) (pe_op op_mulO (pe_op op_add (pv 2) pe_int) (pe_call (ok_Z4 (P:=P) (w:=w) (base:=base) T) (hr.mono (by decide)) (by rfl) T.d_Z4.m T.d_Z4.F.kp T.d_Z4.b .nil pass0 (pa_cons (pv 2) pa_nil))) (nomark _)) (pss_one (ps_ret pe_non)) pss_nil)
   (pss_one (ps_ret (pe_tup (pa_cons (pe_call (ok_Z35 (P:=P) (w:=w) (base:=base) T) hr (by rfl) T.d_Z35.m T.d_Z35.F.kp T.d_Z35.b .nil pass0 (pa_cons (pv 0) (pa_cons (pv 2) pa_nil))) (pa_cons (pe_call (ok_Z35 (P:=P) (w:=w) (base:=base) T) hr (by rfl) T.d_Z35.m T.d_Z35.F.kp T.d_Z35.b .nil pass0 (pa_cons (pv 1) (pa_cons (pv 2) pa_nil))) pa_nil))))))),?_⟩
  rcases h with h | h
  ·obtain⟨p,r,l,o,M,rfl,hp2,hr2,fl,kl0,fo,ko0,ll,lo,hM,q1,q2⟩:=h;have u1:=orAll_lt kl0;have u2:=orAll_lt ko0;refine⟨_,rfl,p,l,rfl,hp2.tl,(fun t ht=>(kl0 t ht).1),?_⟩;refine⟨_,rfl,r,o,rfl,hr2.tl,(fun t ht=>(ko0 t ht).1),_,_,rfl,rfl,rfl,_,rfl,rfl,?_⟩;have eor:Builtin.bitOr ((orAll l 0:Nat):Int) ((orAll o 0:Nat):Int)=((orAll l 0 ||| orAll o 0:Nat):Int):=bitOr_nat _ _;have hmany:Builtin.Int.intBits (Builtin.bitOr ((orAll l 0:Nat):Int) ((orAll o 0:Nat):Int))≤M:=by
    rw[eor];exact intBits_lt (Nat.or_lt_two_pow u1 u2)
   have kl:=keys_many (U:=orAll l 0 ||| orAll o 0) (fun t ht=>(kl0 t ht).1) fun j hj=>by rw[Nat.testBit_or,hj];rfl
   have ko:=keys_many (U:=orAll l 0 ||| orAll o 0) (fun t ht=>(ko0 t ht).1) fun j hj=>by rw[Nat.testBit_or,hj,Bool.or_true]
   rw[← eor] at kl ko;generalize Builtin.Int.intBits (Builtin.bitOr ((orAll l 0:Nat):Int) ((orAll o 0:Nat):Int))=many at hmany kl ko;obtain⟨pa,hpa1,hpa2⟩:=id hp2;obtain⟨pc,hpc1,hpc2⟩:=id hr2;have la:=hpa2.length;have lc:=hpc2.length;refine⟨_,rfl,p,_,rfl,.inl (SqL.of hpa1),_,rfl,r,_,rfl,.inl (SqL.of hpc1),_,_,rfl,rfl,mulL (by rw[List.length_map];omega) (by rw[List.length_map];omega),?_⟩;refine⟨_,rfl,_,_,rfl,rfl,_,rfl,many,rfl,by omega,_,_,rfl,rfl,mulL (by have:=Int.natCast_nonneg many;omega) (by omega),_,_,rfl,rfl,_,rfl,?_⟩;refine ite2 (fun _=>q1) (fun hno=>?_);have hge:2^many≤l.length * o.length:=by
    have h1:¬ ((((pa.map V.ref).length:Int) * ((pc.map V.ref).length:Int))≤((many:Int)+1) * 2^many):=fun z=>hno (decide_eq_true z)
    rw[List.length_map,List.length_map,la,lc] at h1;have h2:(l.length:Int) * (o.length:Int)=((l.length * o.length:Nat):Int):=by norm_cast
    have h3:((many:Int)+1) * 2^many=(((many+1) * 2^many:Nat):Int):=by norm_cast
    rw[h2,h3] at h1;have h4:2^many≤(many+1) * 2^many:=Nat.le_mul_of_pos_left _ (by omega);omega
   refine⟨_,rfl,_,rfl,p,l,many,rfl,hp2.tl,fl,by omega,by omega,fun d1 H1 hd1 hD1 s1=>?_⟩;rw[table_worths kl] at hD1;refine⟨_,rfl,_,rfl,r,o,many,rfl,(hr2.keep s1).tl,fo,by omega,by omega,fun d2 H2 hd2 hD2 s2=>?_⟩;rw[table_worths ko] at hD2;refine⟨by show 2≤sizeLine;decide,fun t ht=>?_⟩;have s3:Same H2 (upd H2 t (.tup [.ref d1,.ref d2])):=Same.upd ht;exact q2 d1 d2 t many _ upd_same (s3 _ _ (s2 _ _ hD1)) (s3 _ _ hD2) hmany kl ko hge (s1.trans (s2.trans s3))
  ·obtain⟨p,r,a,c,rfl,hp2,hr2,ha,hc,q⟩:=h;have k1:=wire_keys a;have k2:=wire_keys c;have u1:=orAll_lt k1;have u2:=orAll_lt k2;refine⟨_,rfl,p,wireL a,rfl,hp2.tl,(fun t ht=>(k1 t ht).1),?_⟩;refine⟨_,rfl,r,wireL c,rfl,hr2.tl,(fun t ht=>(k2 t ht).1),_,_,rfl,rfl,rfl,_,rfl,rfl,?_⟩;have hmany:Builtin.Int.intBits (Builtin.bitOr ((orAll (wireL a) 0:Nat):Int) ((orAll (wireL c) 0:Nat):Int))≤100:=by
    rw[bitOr_nat];refine intBits_lt (Nat.or_lt_two_pow ?_ ?_)
    ·exact Nat.lt_of_lt_of_le u1 (Nat.pow_le_pow_right (by decide) (by omega))
    ·exact Nat.lt_of_lt_of_le u2 (Nat.pow_le_pow_right (by decide) (by omega))
   generalize Builtin.Int.intBits (Builtin.bitOr ((orAll (wireL a) 0:Nat):Int) ((orAll (wireL c) 0:Nat):Int))=many at hmany;obtain⟨pa,hpa1,hpa2⟩:=id hp2;obtain⟨pc,hpc1,hpc2⟩:=id hr2;have la:(pa.map V.ref).length=1:=by rw[List.length_map,hpa2.length];rfl
   have lc:(pc.map V.ref).length=1:=by rw[List.length_map,hpc2.length];rfl
   have hbig:(1:Int)≤((many:Int)+1) * 2^many:=by
    have h1:(1:Int)≤2^many:=by
     have e:((2:Int)^many)=((2^many:Nat):Int):=by norm_cast
     have:=Nat.two_pow_pos many
     omega
    have h2:(0:Int)≤(many:Int) * 2^many:=Int.mul_nonneg (Int.natCast_nonneg _) (by omega);rw[Int.add_mul,Int.one_mul];omega
   refine⟨_,rfl,p,_,rfl,.inl (SqL.of hpa1),_,rfl,r,_,rfl,.inl (SqL.of hpc1),_,_,rfl,rfl,mulL (by rw[la];decide) (by rw[la];decide),?_⟩;refine⟨_,rfl,_,_,rfl,rfl,_,rfl,many,rfl,by omega,_,_,rfl,rfl,mulL (by have:=Int.natCast_nonneg many;omega) (by omega),_,_,rfl,rfl,_,rfl,?_⟩;refine iteY (by rw[la,lc];simp;omega) ?_;exact q
noncomputable def spFormOf (K:PySem.W.Frag):Sp:=fun vs H Q _=>∃ (a:Addr) (ns:List Int) (m:Nat),vs=[.ref a]∧H a=some (.lst (ns.map V.int))∧ns.length=2^m∧m≤16 ∧
 ∀ (D:Addr) (f:Terms) (H':Hp),H D=none→TLo H' D f→FormOf f (enumT (zetL (-1) ns m))→f.length≤ns.length→Same H H'→Q (.ref D) H'
theorem sc_Z9:FnScope ["table"] ["table"] (defScope s_Z9):=⟨rfl,rfl,rfl,by decide +kernel,rfl,by decide +kernel,by decide +kernel⟩
theorem nd_Z9_1:(["members", "number"]:List Str).Nodup:=by decide +kernel
theorem ok_Z9 (T:Txt K mg):FnOk P w K mg base CX0 2 T.a_Z9 T.fd_Z9 ["table"] (spFormOf K):=by
 refine T.d_Z9.F.ok sc_Z9 (fun vs H Q E h=>?_) (fun cdv A outer s H vs Q E hr h=>?_)
 ·obtain⟨a,ns,m,rfl,ha,hlen,hm,q⟩:=h;rfl
 ·obtain⟨a,ns,m,rfl,ha,hlen,hm,q⟩:=h;have hu:=hu_of hr;refine⟨_,(pss_one (ps_ret (pe_comp (g:=(gTup K 2 (gCons (gName 0) (gCons (gName 1) gNil)))) ["members", "number"] 2 [] rfl (by exact CompSc.of (defScope s_Z9) ["table"] rfl rfl rfl (by decide +kernel) rfl (by decide +kernel) (by decide +kernel)) (pi_enum rfl T.n_enumerate (pa_cons (pe_call (ok_Z14 (P:=P) (w:=w) (base:=base) T) hr (by rfl) T.d_Z14.m T.d_Z14.F.kp T.d_Z14.b .nil pass0 (pa_cons (pv 0) (pa_cons (pe_un un_neg pe_int) pa_nil))) pa_nil))
    (fun cl C s₀ H₀ fp=>(pg_tup (n:=2) rfl (pgs_cons (pg_name (i:=0) nd_Z9_1 rfl (Or.inl rfl) (Or.inr rfl)) (pgs_cons (pg_name (i:=1) nd_Z9_1 rfl (Or.inl rfl) (Or.inr rfl)) pgs_nil)))) (fun cl C s₀ H₀ fp=>(pts_one (pt_cmpR op_ne (pv 1) pe_int (nomark _)))) (fun cl C s₀ H₀ fp=>(pe_tup (pa_cons (pv 0) (pa_cons (pv 1) pa_nil))))))),?_⟩
  have hmx:(2:Nat)^m≤2^16:=Nat.pow_le_pow_right (by decide) hm;refine⟨_,rfl,_,rfl,a,ns,m,-1,rfl,ha,hlen,.inr rfl,hm,fun b H1 hb hb1 s1=>?_⟩;have hzl:(zetL (-1) ns m).length=2^m:=by rw[zetL_len,hlen]
  have hFm:=nzL_form (zetL (-1) ns m);have hnl:=nzL_len (zetL (-1) ns m);rw[hzl] at hnl;generalize zetL (-1) ns m=zs at hzl hb1 hFm hnl q;refine⟨b,rfl,⟨_,SqL.of hb1⟩,?_⟩;have ez:nzL zs=((List.range (2^m)).map fun g:Nat=>((g:Int),getN zs g)).filter fun t=>decide (t.2≠0):=by unfold nzL enumT;rw[hzl]
  refine comp_enum (K:=K) (a:=b) (xs:=zs.map V.int) (fun j ys σ H2=>∃ (v0 v1:Option V) (qs:List Addr),σ = [v0,v1]∧ys=qs.map V.ref∧Tups H2 qs (((List.range j).map fun g:Nat=>((g:Int),getN zs g)).filter fun t=>decide (t.2≠0))∧Same H1 H2)
   ⟨none,none,[],rfl,rfl,.nil,Same.refl _⟩ (fun j ys σ H2 hj ⟨_,_,qs,_,e1,e2,e3⟩=>⟨SqL.of (e3 _ _ hb1),by rw[e1,List.length_map,e2.length];exact Nat.le_trans (List.length_filter_le _ _) (by simp)⟩) (by rw[List.length_map,hzl];exact Nat.le_of_lt (small6 (by omega))) ?_ ?_
  ·rintro j x ys σ H2 W hi ⟨v0,v1,qs,rfl,rfl,g1,g2⟩ hW;obtain⟨n,hn,rfl⟩:=at_int hi;have hgn:getN zs j=n:=by unfold getN;rw[List.getD_eq_getElem?_getD,hn];rfl
   have s3:Same H2 (upd H2 W (.tup [.int (j:Nat),.int n])):=Same.upd hW;refine⟨W,_,rfl,SqT.of upd_same,rfl,_,_,rfl,_,_,rfl,rfl,?_⟩;refine⟨_,rfl,rfl,_,rfl,?_⟩;by_cases hz:n=0
   ·refine iteN (by simp[hz]) ⟨some (.int (j:Nat)),some (.int n),qs,rfl,rfl,?_,g2.trans s3⟩;have e:(([j].map fun g:Nat=>((g:Int),getN zs g)).filter fun t=>decide (t.2≠0))=[]:=by simp[hgn,hz]
    rw[List.range_succ,List.map_append,List.filter_append,e,List.append_nil];exact g1.keep fun b xs z=>s3 b _ z
   ·refine iteY (by simp[hz]) ?_;refine⟨_,rfl,_,rfl,(by show 2≤sizeLine;decide),fun t ht=>?_⟩;have s4:Same (upd H2 W (.tup [.int (j:Nat),.int n])) (upd (upd H2 W (.tup [.int (j:Nat),.int n])) t (.tup [.int (j:Nat),.int n])):=Same.upd ht;refine⟨some (.int (j:Nat)),some (.int n),qs ++ [t],rfl,(by rw[List.map_append];rfl),?_,g2.trans (s3.trans s4)⟩;rw[List.range_succ,List.map_append,List.filter_append];have e:(([j].map fun g:Nat=>((g:Int),getN zs g)).filter fun t=>decide (t.2≠0))=[((j:Int),n)]:=by simp[hgn,hz]
    rw[e];exact Tups.snoc (g1.keep fun b xs z=>(s3.trans s4) b _ z) upd_same
  ·rintro ys σ H2 ⟨v0,v1,qs,rfl,rfl,g1,g2⟩ D hD;rw[List.length_map,hzl,← ez] at g1;have s3:Same H2 (upd H2 D (.lst (qs.map V.ref))):=Same.upd hD;exact q D (nzL zs) _ (s1.free (g2.free hD)) ⟨qs,upd_same,g1.keep fun b xs z=>s3 b _ z⟩ hFm (by rw[hlen];exact hnl) (s1.trans (g2.trans s3))
noncomputable def spTimes (K:PySem.W.Frag):Sp:=fun vs H Q _=>∃ (a b:Addr) (l m:Terms),vs=[.ref a,.ref b]∧TL K H a l∧TL K H b m∧l.length * m.length≤100000∧(∀ t∈l,∀ u∈m,IntMulOk t.2 u.2) ∧
 ∀ (c:Addr) (f:Terms) (H':Hp),H c=none→TLo H' c f→FormOf f (prodL l m)→f.length≤l.length * m.length→Same H H'→Q (.ref c) H'
theorem sc_Z36:FnScope ["one", "other", "numbers", "members", "number", "others", "factor", "both"] ["one", "other"] (defScope s_Z36):=⟨rfl,rfl,rfl,by decide +kernel,rfl,by decide +kernel,by decide +kernel⟩
theorem ok_Z36 (T:Txt K mg):FnOk P w K mg base CX0 2 T.a_Z36 T.fd_Z36 ["one", "other"] (spTimes K):=by
 refine T.d_Z36.F.ok sc_Z36 (fun vs H Q E h=>?_) (fun cdv A outer s H vs Q E hr h=>?_)
 ·obtain⟨a,b,l,m,rfl,⟨ps,hS,hT⟩,⟨qs,hS2,hT2⟩,hlen,hmul,q⟩:=h;rfl
 ·obtain⟨a,b,l,m,rfl,⟨ps,hS,hT⟩,⟨qs,hS2,hT2⟩,hlen,hmul,q⟩:=h;have hu:=hu_of hr;refine⟨_,(pss_cons (ps_set (i:=2) sc_Z36.nd rfl (Or.inl rfl) pe_dnewK)
   (pss_cons (ps_for PassesOwn.never rfl (pi_list (pv 0)) (pg_tup (n:=2) rfl (pgs_cons (pg_name (i:=3) sc_Z36.nd rfl (Or.inl rfl)) (pgs_cons (pg_name (i:=4) sc_Z36.nd rfl (Or.inl rfl)) pgs_nil)))
    (pss_one (ps_for PassesOwn.never rfl (pi_list (pv 1)) (pg_tup (n:=2) rfl (pgs_cons (pg_name (i:=5) sc_Z36.nd rfl (Or.inl rfl)) (pgs_cons (pg_name (i:=6) sc_Z36.nd rfl (Or.inl rfl)) pgs_nil)))
    (pss_cons (ps_set (i:=7) sc_Z36.nd rfl (Or.inl rfl) (pe_op op_or (pv 3) (pv 5)))
   (pss_one (ps_dput hu (pv 2) (pv 7) (pe_op op_add (pe_dget2 hu (pv 2) (pv 7) pe_int ⟨rfl,rfl,rfl,rfl⟩) (pe_op op_mulO (pv 4) (pv 6))) rfl))))))
   (pss_one (ps_ret (pe_call (ok_Z8 (P:=P) (w:=w) (base:=base) T) hr (by rfl) T.d_Z8.m T.d_Z8.F.kp T.d_Z8.b .nil pass0 (pa_cons (pv 2) pa_nil)))))),?_⟩
  intro d hd;have s0:∀ o,Same H (upd H d o):=fun o=>Same.upd hd
  refine⟨_,rfl,a,rfl,⟨_,(s0 _).seq hS⟩,?_⟩;refine for_list (K:=K) (a:=a) (xs:=ps.map V.ref) (fun i σ H2=>∃ (dd:Terms) (v3 v4 v5 v6 v7:Option V),σ = [some (.ref a),some (.ref b),some (.ref d),v3,v4,v5,v6,v7]∧H2=upd H d (.dK (dd.map encP))∧DictOf dd (prodL (l.take i) m))
   ⟨[],none,none,none,none,none,rfl,rfl,dictOf_nil⟩ (fun i σ H2 _ ⟨_,_,_,_,_,_,_,e,_⟩=>by rw[e];exact (s0 _).seq hS) ?_ ?_
  ·rintro i y σ H2 hi ⟨dd,v3,v4,v5,v6,v7,rfl,rfl,hdd⟩;obtain⟨p,hpi,rfl⟩:=at_ref hi;obtain⟨t,ht1,ht2⟩:=hT.at' hpi;have hil:i<l.length:=(List.getElem?_eq_some_iff.mp ht1).1;have htk:l.take (i+1)=l.take i ++ [t]:=by rw[List.take_add_one,ht1];rfl
   refine⟨p,_,rfl,SqT.of (s0 _ _ _ ht2),rfl,_,_,rfl,_,_,rfl,rfl,?_⟩;refine⟨_,rfl,b,rfl,⟨_,(s0 _).seq hS2⟩,?_⟩;refine for_list (K:=K) (a:=b) (xs:=qs.map V.ref) (fun j σ H2=>∃ (dd:Terms) (v5 v6 v7:Option V),σ = [some (.ref a),some (.ref b),some (.ref d),some (.int t.1),some (.int t.2),v5,v6,v7]∧H2=upd H d (.dK (dd.map encP))∧DictOf dd (prodL (l.take i) m++rowL t (m.take j)))
    ⟨dd,v5,v6,v7,rfl,rfl,by rw[List.take_zero];exact (List.append_nil _).symm ▸ hdd⟩ (fun i σ H2 _ ⟨_,_,_,_,_,e,_⟩=>by rw[e];exact (s0 _).seq hS2) ?_ ?_
   ·rintro j z σ H2 hj ⟨dd,v5,v6,v7,rfl,rfl,hdd⟩;obtain⟨p',hpj,rfl⟩:=at_ref hj;obtain⟨u,hu1,hu2⟩:=hT2.at' hpj;have hjl:j<m.length:=(List.getElem?_eq_some_iff.mp hu1).1;have huk:m.take (j+1)=m.take j ++ [u]:=by rw[List.take_add_one,hu1];rfl
    refine⟨p',_,rfl,SqT.of (s0 _ _ _ hu2),rfl,_,_,rfl,_,_,rfl,rfl,?_⟩;refine⟨_,rfl,_,rfl,_,_,rfl,rfl,?_⟩;have hdd2:=hdd.snoc (Builtin.bitOr t.1 u.1,t.2 * u.2);rw[List.append_assoc,← rowL_snoc,← huk] at hdd2;have hdl:=hdd.len;have h9:=prodL_len (l.take i) m;rw[List.length_append,rowL_len,h9,List.length_take,List.length_take,Nat.min_eq_left (Nat.le_of_lt hil),Nat.min_eq_left (Nat.le_of_lt hjl)] at hdl;have h10:i * m.length+m.length≤l.length * m.length:=by rw[← Nat.succ_mul];exact Nat.mul_le_mul_right _ hil
    refine⟨_,rfl,d,rfl,.inl ⟨_,.inl upd_same⟩,_,rfl,_,DGet.k (k:=Sum.inl (Builtin.bitOr t.1 u.1)) upd_same,?_⟩;rw[valV_enc];have eg:((look dd (Builtin.bitOr t.1 u.1)).map V.int).getD (V.int 0)=V.int (getI dd (Builtin.bitOr t.1 u.1)):=by
     unfold getI;cases look dd (Builtin.bitOr t.1 u.1) <;> rfl
    rw[eg];refine⟨_,rfl,_,rfl,_,_,rfl,rfl,hmul t (List.mem_of_getElem? ht1) u (List.mem_of_getElem? hu1),_,_,rfl,rfl,_,rfl,_,rfl,d,_,rfl,DPut.k (k:=Sum.inl (Builtin.bitOr t.1 u.1)) upd_same ?_,putI dd (Builtin.bitOr t.1 u.1) (getI dd (Builtin.bitOr t.1 u.1)+t.2 * u.2),_,_,_,rfl,?_,hdd2⟩
    ·rw[List.length_map];exact small6 (by omega)
    ·rw[upd_upd,putK_enc]
   ·rintro σ H2 ⟨dd,v5,v6,v7,rfl,rfl,hdd⟩;have hl0:m.take (qs.map V.ref).length=m:=by rw[List.length_map,hT2.length,List.take_length]
    rw[hl0,← prodL_snoc,← htk] at hdd;exact⟨dd,_,_,_,_,_,rfl,rfl,hdd⟩
  ·rintro σ H2 ⟨dd,v3,v4,v5,v6,v7,rfl,rfl,hdd⟩;have hl0:l.take (ps.map V.ref).length=l:=by rw[List.length_map,hT.length,List.take_length]
   rw[hl0] at hdd;have hdl:=hdd.len;rw[prodL_len] at hdl;refine⟨_,rfl,d,dd,rfl,upd_same,hdd.nd,by omega,fun c ks H3 hc hT3 hperm hsort s3=>?_⟩;refine q c (formOf dd ks) H3 ((s0 _).free hc) hT3 (formOf_ok hdd hperm hsort) ?_ ((s0 _).trans s3);have h1:=formOf_length dd ks;have h2:=hperm.length_eq;rw[List.length_map] at h2;omega
noncomputable def spProduct (K:PySem.W.Frag):Sp:=fun vs H Q _=>∃ (p r:Addr) (l o:Terms) (M L1 L2 E1 E2:Nat),vs=[.ref p,.ref r]∧TLo H p l∧TLo H r o∧FF M L1 E1 l∧FF M L2 E2 o∧L1≤300∧L2≤300∧M≤16∧E1+E2≤10000 ∧
 ∀ (c:Addr) (f:Terms) (H':Hp),H c=none→TLo H' c f→FF M (L1 * L2) (E1+E2+40) f→(∀ g:Nat,worthL f (g:Int)=worthL l (g:Int) * worthL o (g:Int))→Same H H'→Q (.ref c) H'
theorem sc_Z29:FnScope ["one", "other", "tables"] ["one", "other"] (defScope s_Z29):=⟨rfl,rfl,rfl,by decide +kernel,rfl,by decide +kernel,by decide +kernel⟩
theorem nd_Z29_1:(["first", "second"]:List Str).Nodup:=by decide +kernel
theorem ok_Z29 (T:Txt K mg):FnOk P w K mg base CX0 4 T.a_Z29 T.fd_Z29 ["one", "other"] (spProduct K):=by
 refine T.d_Z29.F.ok sc_Z29 (fun vs H Q E h=>?_) (fun cdv A outer s H vs Q E hr h=>?_)
 ·obtain⟨p,r,l,o,M,L1,L2,E1,E2,rfl,hp2,hr2,hl,ho,b1,b2,hM,hE,q⟩:=h;rfl
 ·obtain⟨p,r,l,o,M,L1,L2,E1,E2,rfl,hp2,hr2,hl,ho,b1,b2,hM,hE,q⟩:=h;have hu:=hu_of hr;refine⟨_,(pss_cons (ps_set (i:=2) sc_Z29.nd rfl (Or.inl rfl) (pe_call (ok_Z27 (P:=P) (w:=w) (base:=base) T) hr (by rfl) T.d_Z27.m T.d_Z27.F.kp T.d_Z27.b .nil pass0 (pa_cons (pv 0) (pa_cons (pv 1) pa_nil))))
   (pss_cons (ps_if (pt_cmpR op_isN (pv 2) pe_non (nomark _)) (pss_one (ps_ret (pe_call (ok_Z36 (P:=P) (w:=w) (base:=base) T) (hr.mono (by decide)) (by rfl) T.d_Z36.m T.d_Z36.F.kp T.d_Z36.b .nil pass0 (pa_cons (pv 0) (pa_cons (pv 1) pa_nil))))) pss_nil)
   (pss_one (ps_ret (pe_call (ok_Z9 (P:=P) (w:=w) (base:=base) T) (hr.mono (by decide)) (by rfl) T.d_Z9.m T.d_Z9.F.kp T.d_Z9.b .nil pass0 (pa_cons (pe_comp (g:=(gTup K 2 (gCons (gName 0) (gCons (gName 1) gNil)))) ["first", "second"] 2 [] rfl (by exact CompSc.of (defScope s_Z29) ["one", "other", "tables"] rfl rfl rfl (by decide +kernel) rfl (by decide +kernel) (by decide +kernel)) (pi_zip rfl T.n_zip (pa_cons (pe_ix ix_tup (pv 2) pe_int (fun _ _=>rfl)) (pa_cons (pe_ix ix_tup (pv 2) pe_int (fun _ _=>rfl)) pa_nil)))
    (fun cl C s₀ H₀ fp=>(pg_tup (n:=2) rfl (pgs_cons (pg_name (i:=0) nd_Z29_1 rfl (Or.inl rfl) (Or.inr rfl)) (pgs_cons (pg_name (i:=1) nd_Z29_1 rfl (Or.inl rfl) (Or.inr rfl)) pgs_nil)))) (fun cl C s₀ H₀ fp=>pts_nil) (fun cl C s₀ H₀ fp=>(pe_op op_mulO (pv 0) (pv 1)))) pa_nil)))))),?_⟩
  have e1:=hl.len;have e2:=ho.len;refine⟨_,rfl,_,rfl,.inl ⟨p,r,l,o,M,rfl,hp2,hr2,hl.form,hl.keys,ho.form,ho.keys,by omega,by omega,hM,?_,fun d1 d2 tA m H2 hD0 hD1' hD2 hm kl ko hmm s2=>?_⟩⟩
  ·refine⟨_,rfl,rfl,_,rfl,iteY (by decide) ?_⟩;have e3:l.length * o.length≤300 * 300:=Nat.mul_le_mul (by omega) (by omega);refine⟨_,rfl,_,rfl,p,r,l,o,rfl,hp2.tl,hr2.tl,by omega,(fun t ht u hu=>mulOkN (hl.small t ht) (ho.small u hu) (by omega)),fun c f H1 hc hT hF hn s1=>?_⟩;obtain⟨g1,g2⟩:=FF.times hl ho b1 b2 hF hn;exact q c f H1 hc hT g1 g2 s1
  ·refine⟨_,rfl,rfl,_,rfl,iteN (by simp) ?_⟩;have hmx:(2:Nat)^m≤2^16:=pow_two_le (by omega);refine⟨_,rfl,tA,_,_,_,rfl,rfl,SqT.of hD0,rfl,_,rfl,tA,_,_,_,rfl,rfl,SqT.of hD0,rfl,d1,d2,rfl,⟨_,SqL.of hD1'⟩,⟨_,SqL.of hD2⟩,?_⟩;refine comp_zip (K:=K) (a:=d1) (b:=d2) (xs:=((List.range (2^m)).map fun g:Nat=>worthL l (g:Int)).map V.int) (ys:=((List.range (2^m)).map fun g:Nat=>worthL o (g:Int)).map V.int) (by simp) (fun i zs σ H3=>∃ v0 v1:Option V,σ = [v0,v1]∧zs=((List.range i).map fun g:Nat=>worthL l (g:Int) * worthL o (g:Int)).map V.int∧Same H2 H3)
    ⟨none,none,rfl,rfl,Same.refl _⟩ (fun i zs σ H3 hi ⟨_,_,_,e1,e2⟩=>⟨SqL.of (e2 _ _ hD1'),SqL.of (e2 _ _ hD2),by rw[e1];simp⟩) (by simp;exact Nat.le_of_lt (small6 (by omega))) ?_ ?_
   ·rintro i u v zs σ H3 W hu hv ⟨v0,v1,rfl,rfl,s3⟩ hW;have hin:i<2^m:=by
     have:=(List.getElem?_eq_some_iff.mp hu).1
     simpa using this
    have eu:u=V.int (worthL l (i:Int)):=by
     rw[List.getElem?_map,List.getElem?_map,List.getElem?_range hin] at hu;exact (Option.some.inj hu).symm
    have ev:v=V.int (worthL o (i:Int)):=by
     rw[List.getElem?_map,List.getElem?_map,List.getElem?_range hin] at hv;exact (Option.some.inj hv).symm
    subst eu ev;have s4:Same H3 (upd H3 W (.tup [.int (worthL l (i:Int)),.int (worthL o (i:Int))])):=Same.upd hW;have w1:=worth_abs (g:=(i:Int)) hl.small;have w2:=worth_abs (g:=(i:Int)) ho.small;have w3:l.length * 2^E1≤2^(10+E1):=by rw[Nat.pow_add];exact Nat.mul_le_mul_right _ (by show _≤1024;omega)
    have w4:o.length * 2^E2≤2^(10+E2):=by rw[Nat.pow_add];exact Nat.mul_le_mul_right _ (by show _≤1024;omega)
    refine⟨W,_,rfl,SqT.of upd_same,rfl,_,_,rfl,_,_,rfl,rfl,?_⟩;refine tt ?_;refine⟨_,rfl,_,rfl,_,_,rfl,rfl,mulOkN (Nat.le_trans w1 w3) (Nat.le_trans w2 w4) (by omega),_,_,rfl,?_,s3.trans s4⟩;rw[List.range_succ,List.map_append,List.map_append];rfl
   ·rintro zs σ H3 ⟨v0,v1,rfl,rfl,s3⟩ D hD;have hlx:(((List.range (2^m)).map fun g:Nat=>worthL l (g:Int)).map V.int).length=2^m:=by simp
    rw[hlx];have s4:Same H3 (upd H3 D (.lst (((List.range (2^m)).map fun g:Nat=>worthL l (g:Int) * worthL o (g:Int)).map V.int))):=Same.upd hD;refine⟨D,_,m,rfl,upd_same,by simp,by omega,fun c f H4 hc hT4 hF4 hl4 s5=>?_⟩;obtain⟨g1,g2⟩:=FF.table hl ho b1 b2 hM hm kl ko hmm rfl hF4;have S:=s2.trans (s3.trans s4);exact q c f H4 (S.free hc) hT4 g1 g2 (S.trans s5)
noncomputable def Fm.lm (M:Nat) (F:Fm):Nat:=if M≤8 then 256 else F.lb
noncomputable def spOfFormula (K:PySem.W.Frag) (d:Nat):Sp:=fun vs H Q _=>∃ (v:V) (F:Fm) (M:Nat) (m:List Addr),vs=[v]∧IsF m H v F∧F.ok M∧F.lv<d∧M≤16∧(M≤8∨F.lb≤300)∧F.lv≤10 ∧
 ∀ (b:Addr) (f:Terms) (H':Hp),H b=none→TLo H' b f→FF M (F.lm M) (200 * F.lv-100) f→(∀ g:Nat,worthL f (g:Int)=F.at g)→Same H H'→Q (.ref b) H'
theorem sc_Z10:FnScope ["formula", "one", "other"] ["formula"] (defScope s_Z10):=⟨rfl,rfl,rfl,by decide +kernel,rfl,by decide +kernel,by decide +kernel⟩
theorem okr_Z10 (T:Txt K mg) (d:Nat) : FnOk P w K mg base CX0 (5+d) T.a_Z10 T.fd_Z10 ["formula"] ((spOfFormula K) d):=by
  induction d with
  | zero=>exact T.d_Z10.F.ok sc_Z10 (fun vs H Q E h=>by obtain ⟨v,F,M,m,rfl,hI,hok,hd,hM,hsz,hlv,q⟩:=h;exact absurd hd (Nat.not_lt_zero _)) (fun cdv A outer s H vs Q E hr h=>by obtain ⟨v,F,M,m,rfl,hI,hok,hd,hM,hsz,hlv,q⟩:=h;exact absurd hd (Nat.not_lt_zero _))
  | succ d ih =>
  refine T.d_Z10.F.ok (k:=5+d) sc_Z10 (fun vs H Q E h => ?_) (fun cdv A outer s H vs Q E hr h => ?_)
  · obtain ⟨v,F,M,m,rfl,hI,hok,hd,hM,hsz,hlv,q⟩:=h;rfl
  · obtain ⟨v,F,M,m,rfl,hI,hok,hd,hM,hsz,hlv,q⟩:=h;have hu:=hu_of hr;refine ⟨_,(pss_cons (ps_if (pt_cmpR op_eq (pe_ix ix_tup (pv 0) pe_int (fun _ _=>rfl)) pe_str (nomark _)) (pss_one (ps_ret (pe_call (ok_Z26 (P:=P) (w:=w) (base:=base) T) (hr.mono (by omega)) (by rfl) T.d_Z26.m T.d_Z26.F.kp T.d_Z26.b .nil pass0 (pa_cons (pe_lst (pa_cons (pe_tup (pa_cons pe_int (pa_cons (pe_ix ix_tup (pv 0) pe_int (fun _ _=>rfl)) pa_nil))) pa_nil)) pa_nil)))) pss_nil)
      (pss_cons (ps_if (pt_cmpR op_eq (pe_ix ix_tup (pv 0) pe_int (fun _ _=>rfl)) pe_str (nomark _)) (pss_one (ps_ret (pe_call (ok_Z40 (P:=P) (w:=w) (base:=base) T) (hr.mono (by omega)) (by rfl) T.d_Z40.m T.d_Z40.F.kp T.d_Z40.b .nil pass0 (pa_cons (pe_ix ix_tup (pv 0) pe_int (fun _ _=>rfl)) (pa_cons (pe_ix ix_tup (pv 0) pe_int (fun _ _=>rfl)) pa_nil))))) pss_nil)
      (pss_cons (ps_set (i:=1) sc_Z10.nd rfl (Or.inl rfl) (pe_call ih hr (by rfl) T.d_Z10.m T.d_Z10.F.kp T.d_Z10.b .nil pass0 (pa_cons (pe_ix ix_tup (pv 0) pe_int (fun _ _=>rfl)) pa_nil)))
      (pss_cons (ps_set (i:=2) sc_Z10.nd rfl (Or.inl rfl) (pe_call ih hr (by rfl) T.d_Z10.m T.d_Z10.F.kp T.d_Z10.b .nil pass0 (pa_cons (pe_ix ix_tup (pv 0) pe_int (fun _ _=>rfl)) pa_nil)))
      (pss_cons (ps_if (pt_cmpR op_eq (pe_ix ix_tup (pv 0) pe_int (fun _ _=>rfl)) pe_str (nomark _)) (pss_one (ps_ret (pe_call (ok_Z28 (P:=P) (w:=w) (base:=base) T) (hr.mono (by omega)) (by rfl) T.d_Z28.m T.d_Z28.F.kp T.d_Z28.b .nil pass0 (pa_cons (pv 1) (pa_cons (pv 2) pa_nil))))) pss_nil)
      (pss_cons (ps_if (pt_cmpR op_eq (pe_ix ix_tup (pv 0) pe_int (fun _ _=>rfl)) pe_str (nomark _)) (pss_one (ps_ret (pe_call (ok_Z25 (P:=P) (w:=w) (base:=base) T) (hr.mono (by omega)) (by rfl) T.d_Z25.m T.d_Z25.F.kp T.d_Z25.b .nil pass0 (pa_cons (pv 1) (pa_cons (pv 2) pa_nil))))) pss_nil)
      (pss_one (ps_ret (pe_call (ok_Z29 (P:=P) (w:=w) (base:=base) T) (hr.mono (by omega)) (by rfl) T.d_Z29.m T.d_Z29.F.kp T.d_Z29.b .nil pass0 (pa_cons (pv 1) (pa_cons (pv 2) pa_nil))))))))))),?_⟩
    cases F with
    | num n =>
      obtain ⟨p,rfl,_,hp⟩:=hI;refine ⟨_,rfl,p,_,_,_,rfl,rfl,SqT.of hp,rfl,rfl,_,rfl,iteY (by decide) ?_⟩;refine ⟨_,rfl,p,_,_,_,rfl,rfl,SqT.of hp,rfl,(by show 2≤sizeLine;decide),fun t1 ht1=>⟨(by show 1≤sizeLine;decide),fun e1 he1 => ?_⟩⟩;have b1:Same H (upd H t1 (.tup [.int 0,.int n])):=Same.upd ht1;have b2:Same (upd H t1 (.tup [.int 0,.int n])) (upd (upd H t1 (.tup [.int 0,.int n])) e1 (.lst [.ref t1])):=Same.upd he1;have eT:TLo (upd (upd H t1 (.tup [.int 0,.int n])) e1 (.lst [.ref t1])) e1 [(0,n)]:=⟨[t1],upd_same,.cons (b2 _ _ upd_same) .nil⟩;refine ⟨e1,[(0,n)],rfl,eT.tl,(by show 1≤100000;decide),fun b f H2 hb hT2 hF2 hl2 s2 => ?_⟩;have hn1 : 0≤n:=hok.1;have hn2:n≤2^40:=hok.2;have hfl:f.length≤1:=hl2;refine q b f H2 ((b1.trans b2).free hb) hT2 ⟨hF2.toIsForm,fun t ht => ?_,?_,fun t ht => ?_⟩ (fun g=>by rw [worth_congr _ hF2.val,one_worth];rfl) ((b1.trans b2).trans s2)
      · have e:t.1=0:=by simpa using hF2.src t ht
        rw [e,pow_cast]
        have:=Nat.two_pow_pos M
        exact ⟨Int.le_refl _,by omega⟩
      · unfold Fm.lm;split
        · omega
        · exact Nat.le_trans hfl (Fm.lb_pos _)
      · have := hF2.small (B := 2 ^ 41) (fun u hu => by have e : u = (0, n) := by simpa using hu
                                                        rw [e]; show n.natAbs ≤ 2 ^ 41; omega) t ht
        exact Nat.le_trans this (by show 1 * 2^41≤2^(200 * 1-100);decide)
    | word ws bl =>
      obtain ⟨p,a,rfl,_,_,hp,ha⟩:=hI;refine ⟨_,rfl,p,_,_,_,rfl,rfl,SqT.of hp,rfl,rfl,_,rfl,iteN (by decide) ?_⟩;refine ⟨_,rfl,p,_,_,_,rfl,rfl,SqT.of hp,rfl,rfl,_,rfl,iteY (by decide) ?_⟩;refine ⟨_,rfl,p,_,_,_,rfl,rfl,SqT.of hp,rfl,_,rfl,p,_,_,_,rfl,rfl,SqT.of hp,rfl,a,ws,bl,rfl,ha,hok.1,(fun x hx=>by have:=hok.2 x hx;omega),fun b f H2 hb hT2 hF2 hl2 s2 => ?_⟩;have hws:ws.length≤16:=hok.1;refine q b f H2 hb hT2 ⟨hF2.toIsForm,hF2.keys (word_keys' hok.2),?_,fun t ht => ?_⟩ (fun g=>by rw [worth_congr _ hF2.val,worth_word'];rfl) s2
      · unfold Fm.lm;split
        · omega
        · show f.length≤ws.length+1;omega
      · have:=hF2.small (word_small hws) t ht
        rw [word_len] at this;have h2:ws.length * 2^16≤16 * 2^16:=Nat.mul_le_mul_right _ hws;exact Nat.le_trans this (Nat.le_trans h2 (by show 16 * 2^16≤2^(200 * 1-100);decide))
    | bin w f1 f2 =>
      obtain ⟨p,x,y,rfl,_,hp,hx,hy⟩:=hI;obtain ⟨hw3,ok1,ok2⟩:=hok;have l1:=Fm.lv_pos f1;have l2:=Fm.lv_pos f2;have c1:=Fm.lb_pos f1;have c2:=Fm.lb_pos f2;have hlv':f1.lv+f2.lv≤10:=hlv;have hdd:f1.lv<d∧f2.lv<d:=by have:f1.lv+f2.lv<d+1:=hd;omega
      have hsz1:(M≤8∨f1.lb≤300)∧(M≤8∨f2.lb≤300):=by
        rcases hsz with z | z
        · exact ⟨.inl z,.inl z⟩
        · unfold Fm.lb at z;split at z
          · exact ⟨.inr (by omega),.inr (by omega)⟩
          · have q1:f1.lb * 1≤f1.lb * f2.lb:=Nat.mul_le_mul_left _ c2;have q2 : 1 * f2.lb≤f1.lb * f2.lb:=Nat.mul_le_mul_right _ c1;exact ⟨.inr (by omega),.inr (by omega)⟩
      have hlm:∀ F:Fm,(M≤8∨F.lb≤300)→F.lm M≤300:=fun F h=>by
        unfold Fm.lm;split
        · decide
        · omega
      have m1:=hlm f1 hsz1.1;have m2:=hlm f2 hsz1.2;obtain ⟨n1,n2⟩:=opn_ne (w:=w);refine ⟨_,rfl,p,_,_,_,rfl,rfl,SqT.of hp,rfl,rfl,_,rfl,iteN (by simpa using n1) ?_⟩;refine ⟨_,rfl,p,_,_,_,rfl,rfl,SqT.of hp,rfl,rfl,_,rfl,iteN (by simpa using n2) ?_⟩;refine ⟨_,rfl,p,_,_,_,rfl,rfl,SqT.of hp,rfl,x,f1,M,m,rfl,hx,ok1,hdd.1,hM,hsz1.1,by omega,fun b1 g1 H1 hb1 hT1 hF1 hw1 s1 => ?_⟩;have hp1:=s1 _ _ hp;refine ⟨_,rfl,p,_,_,_,rfl,rfl,SqT.of hp1,rfl,y,f2,M,m,rfl,hy.keep s1,ok2,hdd.2,hM,hsz1.2,by omega,fun b2 g2 H2 hb2 hT2 hF2 hw2 s2 => ?_⟩;have hp2:=s2 _ _ hp1;have S2:=s1.trans s2;have lenOk:∀ (f:Terms) (L E:Nat),FF M L E f→(¬ M≤8→L≤(Fm.bin w f1 f2).lb)→E≤200 * (Fm.bin w f1 f2).lv-100→FF M ((Fm.bin w f1 f2).lm M) (200 * (Fm.bin w f1 f2).lv-100) f:=fun f L E h h1 h2=>by
        refine ⟨h.form,h.keys,?_,(h.up (Nat.le_refl _) h2).small⟩;unfold Fm.lm;split
        · rename_i h8;exact h.few h8
        · rename_i h8;exact Nat.le_trans h.len (h1 h8)
      have hlb:∀ F:Fm,¬ M≤8→F.lm M=F.lb:=fun F h=>by unfold Fm.lm;rw [if_neg h]
      obtain rfl | rfl | rfl:w=0∨w=1∨w=2:=by omega
      · refine ⟨_,rfl,p,_,_,_,rfl,rfl,SqT.of hp2,rfl,rfl,_,rfl,iteY (by decide) ?_⟩;have e1:=hF1.len;have e2:=hF2.len;refine ⟨_,rfl,_,rfl,b1,b2,g1,g2,rfl,hT1.keep s2,hT2,by omega,fun c f H3 hc hT3 hF3 hl3 s3 => ?_⟩;obtain ⟨r1,r2⟩:=FF.plus hF1 hF2 m1 m2 (by omega) (by omega) hF3.toIsForm hF3.val hl3;refine q c f H3 (S2.free hc) hT3 (lenOk f _ _ r1 (fun h => ?_) (by show _≤200 * (f1.lv+f2.lv)-100;omega)) (fun g => ?_) (S2.trans s3)
        · rw [hlb _ h,hlb _ h];show _≤if 0<2 then f1.lb+f2.lb else _;rw [if_pos (by decide)];exact Nat.le_refl _
        · rw [r2,hw1,hw2];rfl
      · refine ⟨_,rfl,p,_,_,_,rfl,rfl,SqT.of hp2,rfl,rfl,_,rfl,iteN (by decide) ?_⟩;refine ⟨_,rfl,p,_,_,_,rfl,rfl,SqT.of hp2,rfl,rfl,_,rfl,iteY (by decide) ?_⟩;have e1:=hF1.len;have e2:=hF2.len;refine ⟨_,rfl,_,rfl,b1,b2,g1,g2,rfl,hT1.keep s2,hT2,by omega,fun c f H3 hc hT3 hI3 hv3 hl3 s3 => ?_⟩;obtain ⟨r1,r2⟩:=FF.less hF1 hF2 m1 m2 (by omega) (by omega) hI3 hv3 hl3;refine q c f H3 (S2.free hc) hT3 (lenOk f _ _ r1 (fun h => ?_) (by show _≤200 * (f1.lv+f2.lv)-100;omega)) (fun g => ?_) (S2.trans s3)
        · rw [hlb _ h,hlb _ h];show _≤if 1<2 then f1.lb+f2.lb else _;rw [if_pos (by decide)];exact Nat.le_refl _
        · rw [r2,hw1,hw2];rfl
      · refine ⟨_,rfl,p,_,_,_,rfl,rfl,SqT.of hp2,rfl,rfl,_,rfl,iteN (by decide) ?_⟩;refine ⟨_,rfl,p,_,_,_,rfl,rfl,SqT.of hp2,rfl,rfl,_,rfl,iteN (by decide) ?_⟩;refine ⟨_,rfl,_,rfl,b1,b2,g1,g2,M,f1.lm M,f2.lm M,200 * f1.lv-100,200 * f2.lv-100,rfl,hT1.keep s2,hT2,hF1,hF2,m1,m2,hM,by omega,fun c f H3 hc hT3 hF3 hw3 s3 => ?_⟩;refine q c f H3 (S2.free hc) hT3 (lenOk f _ _ hF3 (fun h => ?_) (by show _≤200 * (f1.lv+f2.lv)-100;omega)) (fun g => ?_) (S2.trans s3)
        · rw [hlb _ h,hlb _ h];show _≤if 2<2 then _ else f1.lb * f2.lb;rw [if_neg (by decide)];exact Nat.le_refl _
        · rw [hw3,hw1,hw2];rfl
theorem ok_Z10 (T:Txt K mg):FnOk P w K mg base CX0 17 T.a_Z10 T.fd_Z10 ["formula"] ((spOfFormula K) 12):=okr_Z10 T 12
noncomputable def spClaim9 (K:PySem.W.Frag):Sp:=fun vs H Q _=>∃ (c o:Addr) (fv:V) (ws:List Nat) (bl:Bool) (F:Fm) (m:List Addr) (rest:V) (n N:Nat),vs=[.ref c]∧H c=some (.tup [.ref o,.bl bl,fv,rest])∧H o=some (.lst (natL ws))∧ws.length≤16∧(∀ x∈ws,x<N)∧IsF m H fv F∧F.ok n∧F.lv≤10∧F.lb≤100∧n≤16∧n≤N∧N≤80 ∧
 ∀ (b:Addr) (f:Terms) (H':Hp),H b=none→TLo H' b f→IsForm f→(∀ t∈f,0≤t.1∧t.1<2^N)→f.length≤300→(∀ g:Nat,worthL f (g:Int)=wordAt ws bl g-F.at g)→Same H H'→Q (.ref b) H'
theorem sc_Z3:FnScope ["claim"] ["claim"] (defScope s_Z3):=⟨rfl,rfl,rfl,by decide +kernel,rfl,by decide +kernel,by decide +kernel⟩
theorem ok_Z3 (T:Txt K mg):FnOk P w K mg base CX0 18 T.a_Z3 T.fd_Z3 ["claim"] (spClaim9 K):=by
 refine T.d_Z3.F.ok sc_Z3 (fun vs H Q E h=>?_) (fun cdv A outer s H vs Q E hr h=>?_)
 ·obtain⟨c,o,fv,ws,bl,F,m,rest,n,N,rfl,hc,ho,hws,hwx,hI,hok,hlv,hlb,hn,hnN,hN,q⟩:=h;rfl
 ·obtain⟨c,o,fv,ws,bl,F,m,rest,n,N,rfl,hc,ho,hws,hwx,hI,hok,hlv,hlb,hn,hnN,hN,q⟩:=h;have hu:=hu_of hr;refine⟨_,(pss_one (ps_ret (pe_call (ok_Z25 (P:=P) (w:=w) (base:=base) T) (hr.mono (by decide)) (by rfl) T.d_Z25.m T.d_Z25.F.kp T.d_Z25.b .nil pass0 (pa_cons (pe_call (ok_Z40 (P:=P) (w:=w) (base:=base) T) (hr.mono (by decide)) (by rfl) T.d_Z40.m T.d_Z40.F.kp T.d_Z40.b .nil pass0 (pa_cons (pe_ix ix_tup (pv 0) pe_int (fun _ _=>rfl)) (pa_cons (pe_ix ix_tup (pv 0) pe_int (fun _ _=>rfl)) pa_nil))) (pa_cons (pe_call (ok_Z10 (P:=P) (w:=w) (base:=base) T) hr (by rfl) T.d_Z10.m T.d_Z10.F.kp T.d_Z10.b .nil pass0 (pa_cons (pe_ix ix_tup (pv 0) pe_int (fun _ _=>rfl)) pa_nil)) pa_nil))))),?_⟩;refine⟨_,rfl,c,_,_,_,rfl,rfl,SqT.of hc,rfl,_,rfl,c,_,_,_,rfl,rfl,SqT.of hc,rfl,o,ws,bl,rfl,ho,by omega,(fun x hx=>by have:=hwx x hx;omega),fun b1 g1 H1 hb1 hT1 hF1 hl1 s1=>?_⟩;have hc1:=s1 _ _ hc;refine⟨_,rfl,c,_,_,_,rfl,rfl,SqT.of hc1,rfl,fv,F,n,m,rfl,hI.keep s1,hok,by omega,by omega,.inr (by omega),by omega,fun b2 g2 H2 hb2 hT2 hF2 hw2 s2=>?_⟩;have l2:g2.length≤256:=Nat.le_trans hF2.len (by unfold Fm.lm;split <;> omega);have f1:FF N 16 100 g1:=⟨hF1.toIsForm,hF1.keys (word_keys' hwx),by omega,fun t ht=>by
   have:=hF1.small (word_small (bl:=bl) (show ws.length≤16 by omega)) t ht
   rw[word_len] at this;have h2:ws.length * 2^16≤16 * 2^16:=Nat.mul_le_mul_right _ (by omega);exact Nat.le_trans this (Nat.le_trans h2 (by decide))⟩
  have f2:FF N 256 (200 * F.lv-100) g2:=⟨hF2.form,fun t ht=>⟨(hF2.keys t ht).1,Int.lt_of_lt_of_le (hF2.keys t ht).2 (by rw[pow_cast,pow_cast];exact Int.ofNat_le.mpr (Nat.pow_le_pow_right (by decide) hnN))⟩,l2,hF2.small⟩;have hlp:=Fm.lv_pos F;refine⟨b1,b2,g1,g2,rfl,hT1.keep s2,hT2,by omega,fun b f H3 hb hT3 hI3 hv3 hl3 s3=>?_⟩;obtain⟨r1,r2⟩:=FF.less f1 f2 (by decide) (by decide) (by decide) (by omega) hI3 hv3 hl3;refine q b f H3 ((s1.trans s2).free hb) hT3 hI3 r1.keys (by omega) (fun g=>?_) (s1.trans (s2.trans s3));rw[r2,hw2,worth_congr _ hF1.val,worth_word']
noncomputable def spSingle:Sp:=fun vs H Q _=>∃ n:Nat,vs=[.int (n:Int)]∧n≤100∧∀ (D:Addr) (H':Hp),H D=none→FLo H' D ((List.range n).map wireL)→Same H H'→Q (.ref D) H'
theorem sc_Z33:FnScope ["many"] ["many"] (defScope s_Z33):=⟨rfl,rfl,rfl,by decide +kernel,rfl,by decide +kernel,by decide +kernel⟩
theorem nd_Z33_1:(["wire"]:List Str).Nodup:=by decide +kernel
theorem ok_Z33 (T:Txt K mg):FnOk P w K mg base CX0 2 T.a_Z33 T.fd_Z33 ["many"] spSingle:=by
 refine T.d_Z33.F.ok sc_Z33 (fun vs H Q E h=>?_) (fun cdv A outer s H vs Q E hr h=>?_)
 ·obtain⟨n,rfl,hn,q⟩:=h;rfl
 ·obtain⟨n,rfl,hn,q⟩:=h;have hu:=hu_of hr;refine⟨_,(pss_one (ps_ret (pe_comp (g:=(gName 0)) ["wire"] 1 [] rfl (by exact CompSc.of (defScope s_Z33) ["many"] rfl rfl rfl (by decide +kernel) rfl (by decide +kernel) (by decide +kernel)) (pi_range1 rfl T.n_range (pa_cons (pv 0) pa_nil))
    (fun cl C s₀ H₀ fp=>(pg_name (i:=0) nd_Z33_1 rfl (Or.inl rfl) (Or.inr rfl))) (fun cl C s₀ H₀ fp=>pts_nil) (fun cl C s₀ H₀ fp=>(pe_lst (pa_cons (pe_tup (pa_cons (pe_call (ok_Z4 (P:=P) (w:=w) (base:=base) T) hr (by rfl) T.d_Z4.m T.d_Z4.F.kp T.d_Z4.b .nil pass0 (pa_cons (pv 0) pa_nil)) (pa_cons pe_int pa_nil))) pa_nil)))))),?_⟩
  refine⟨_,rfl,(n:Int),rfl,by omega,by omega,?_⟩;refine comp_range (lo:=0) (n:=((n:Nat):Int).toNat) (fun i ys σ H2=>∃ (v0:Option V) (qs:List Addr),σ = [v0]∧ys=qs.map V.ref∧Fms H2 qs ((List.range i).map wireL)∧Same H H2) ⟨none,[],rfl,rfl,.nil,Same.refl _⟩ (fun i ys σ H2 ⟨_,qs,_,e,e2,_⟩=>by rw[e,List.length_map,e2.length];simp) (by rw[Int.toNat_natCast];exact Nat.le_of_lt (small6 (by omega))) ?_ ?_
  ·rintro i ys σ H2 hi ⟨v0,qs,rfl,rfl,g1,g2⟩;rw[Int.toNat_natCast] at hi;unfold gName;refine tt ?_;refine⟨_,rfl,i,(by rw[Int.zero_add];rfl),by omega,(by show 2≤sizeLine;decide),fun t ht=>⟨(by show 1≤sizeLine;decide),fun e he=>?_⟩⟩;have b1:Same H2 (upd H2 t (.tup [.int (2^i),.int 1])):=Same.upd ht;have b2:Same (upd H2 t (.tup [.int (2^i),.int 1])) (upd (upd H2 t (.tup [.int (2^i),.int 1])) e (.lst [.ref t])):=Same.upd he;refine⟨some (.int (0+(i:Int))),qs ++ [e],rfl,(by rw[List.map_append];rfl),?_,g2.trans (b1.trans b2)⟩;rw[List.range_succ,List.map_append];exact Fms.snoc (g1.keep (b1.trans b2)) ⟨[t],upd_same,.cons (b2 _ _ upd_same) .nil⟩
  ·rintro ys σ H2 ⟨v0,qs,rfl,rfl,g1,g2⟩ D hD;rw[Int.toNat_natCast] at g1;have s3:Same H2 (upd H2 D (.lst (qs.map V.ref))):=Same.upd hD;exact q D _ (g2.free hD) ⟨qs,upd_same,g1.keep s3⟩ (g2.trans s3)
noncomputable def spJoined (K:PySem.W.Frag):Sp:=fun vs H Q _=>∃ (a b:Addr) (l o:Terms) (w:Nat),vs=[.str (wd w),.ref a,.ref b]∧TLo H a l∧TLo H b o∧w<3∧l.length+o.length+l.length * o.length≤100000∧(∀ t∈l,∀ u∈o,IntMulOk t.2 u.2) ∧
 ∀ (c:Addr) (f:Terms) (H':Hp),H c=none→TLo H' c f→FormOf f (wordL w l o)→Same H H'→Q (.ref c) H'
theorem sc_Z17:FnScope ["word", "one", "other", "both", "taken"] ["word", "one", "other"] (defScope s_Z17):=⟨rfl,rfl,rfl,by decide +kernel,rfl,by decide +kernel,by decide +kernel⟩
theorem ok_Z17 (T:Txt K mg):FnOk P w K mg base CX0 4 T.a_Z17 T.fd_Z17 ["word", "one", "other"] (spJoined K):=by
 refine T.d_Z17.F.ok sc_Z17 (fun vs H Q E h=>?_) (fun cdv A outer s H vs Q E hr h=>?_)
 ·obtain⟨a,b,l,o,w',rfl,hT,hTo,hw,hlen,hmul,q⟩:=h;rfl
 ·obtain⟨a,b,l,o,w',rfl,hT,hTo,hw,hlen,hmul,q⟩:=h;have hu:=hu_of hr;refine⟨_,(pss_cons (ps_set (i:=3) sc_Z17.nd rfl (Or.inl rfl) (pe_call (ok_Z36 (P:=P) (w:=w) (base:=base) T) (hr.mono (by decide)) (by rfl) T.d_Z36.m T.d_Z36.F.kp T.d_Z36.b .nil pass0 (pa_cons (pv 1) (pa_cons (pv 2) pa_nil))))
   (pss_cons (ps_if (pt_cmpR op_eq (pv 0) pe_str (nomark _)) (pss_one (ps_ret (pv 3))) pss_nil)
   (pss_cons (ps_set (i:=4) sc_Z17.nd rfl (Or.inl rfl) (pe_ifExp (pt_cmpR op_eq (pv 0) pe_str (nomark _)) (pe_un un_neg pe_int) (pe_un un_neg pe_int)))
   (pss_one (ps_ret (pe_call (ok_Z28 (P:=P) (w:=w) (base:=base) T) hr (by rfl) T.d_Z28.m T.d_Z28.F.kp T.d_Z28.b .nil pass0 (pa_cons (pe_call (ok_Z28 (P:=P) (w:=w) (base:=base) T) hr (by rfl) T.d_Z28.m T.d_Z28.F.kp T.d_Z28.b .nil pass0 (pa_cons (pv 1) (pa_cons (pv 2) pa_nil))) (pa_cons (pe_call (ok_Z32 (P:=P) (w:=w) (base:=base) T) hr (by rfl) T.d_Z32.m T.d_Z32.F.kp T.d_Z32.b .nil pass0 (pa_cons (pv 3) (pa_cons (pv 4) pa_nil))) pa_nil)))))))),?_⟩
  refine⟨_,rfl,_,rfl,a,b,l,o,rfl,hT.tl,hTo.tl,by omega,hmul,fun c p H1 hc hT1 hF1 hl1 s1=>?_⟩;have comb:∀ (n:Int) (f g h:Terms),w'≠0→n=(if w'=1 then -1 else -2)→FormOf g (l++o)→FormOf h (p.map fun t=>(t.1,t.2 * n))→FormOf f (g++h)→FormOf f (wordL w' l o):=fun n f g h hw0 hn hg hh hf=>by
   have ec:∀ k,coef (g++h) k=coef (wordL w' l o) k:=fun k=>by
    unfold wordL;rw[if_neg hw0,coef_append,coef_append,hg.val,hh.val,← hn];have e:∀ (x:Terms),coef (x.map fun t=>(t.1,t.2 * n)) k=coef x k * n:=fun x=>by
     rw[coef_lin,coef_lin,lin_mulr]
    rw[e,e,hF1.val]
   refine⟨hf.toIsForm,fun k=>by rw[hf.val,ec],fun t ht=>?_⟩;have h1:=hf.src t ht;unfold wordL;rw[if_neg hw0,List.map_append,List.mem_append];rw[List.map_append,List.mem_append] at h1;rcases h1 with z | z
   ·obtain⟨u,hu,e⟩:=List.mem_map.mp z;exact .inl (by rw[← e];exact hg.src u hu)
   ·obtain⟨u,hu,e⟩:=List.mem_map.mp z;have h2:=hh.src u hu;rw[List.map_map] at h2 ⊢;obtain⟨v,hv,e2⟩:=List.mem_map.mp h2;have h3:=hF1.src v hv;obtain⟨x,hx,e3⟩:=List.mem_map.mp h3;exact .inr (List.mem_map.mpr ⟨x,hx,by rw[← e,← e2];exact e3⟩)
  obtain rfl | rfl | rfl:w'=0∨w'=1∨w'=2:=by omega
  ·refine⟨_,rfl,rfl,_,rfl,iteY (by decide) ?_⟩;exact⟨_,rfl,q c p H1 hc hT1 (by unfold wordL;rw[if_pos rfl];exact hF1) s1⟩
  ·refine⟨_,rfl,rfl,_,rfl,iteN (by decide) ?_⟩;refine⟨_,rfl,rfl,_,rfl,iteY (by decide) ⟨_,rfl,?_⟩⟩;refine⟨_,rfl,_,rfl,a,b,l,o,rfl,hT.keep s1,hTo.keep s1,by omega,fun x g H2 hx hT2 hF2 hl2 s2=>?_⟩;refine⟨_,rfl,_,rfl,c,p,(-1),rfl,(hT1.keep s2).tl,by omega,(fun t _=>mulR (by decide) (by decide)),fun y h H3 hy hT3 hF3 hl3 s3=>?_⟩;refine⟨x,y,g,h,rfl,hT2.keep s3,hT3,by omega,fun z f H4 hz hT4 hF4 hl4 s4=>?_⟩;exact q z f H4 (s1.free (s2.free (s3.free hz))) hT4 (comb (-1) f g h (by decide) rfl hF2 hF3 hF4) (s1.trans (s2.trans (s3.trans s4)))
  ·refine⟨_,rfl,rfl,_,rfl,iteN (by decide) ?_⟩;refine⟨_,rfl,rfl,_,rfl,iteN (by decide) ⟨_,rfl,?_⟩⟩;refine⟨_,rfl,_,rfl,a,b,l,o,rfl,hT.keep s1,hTo.keep s1,by omega,fun x g H2 hx hT2 hF2 hl2 s2=>?_⟩;refine⟨_,rfl,_,rfl,c,p,(-2),rfl,(hT1.keep s2).tl,by omega,(fun t _=>mulR (by decide) (by decide)),fun y h H3 hy hT3 hF3 hl3 s3=>?_⟩;refine⟨x,y,g,h,rfl,hT2.keep s3,hT3,by omega,fun z f H4 hz hT4 hF4 hl4 s4=>?_⟩;exact q z f H4 (s1.free (s2.free (s3.free hz))) hT4 (comb (-2) f g h (by decide) rfl hF2 hF3 hF4) (s1.trans (s2.trans (s3.trans s4)))
noncomputable def WordOn (H:Hp) (b:Addr) (s:Str):Gate→Prop
 | .fix _=>False
 | .no a=>s = "not" ∧ FLo H b [wireL a]∧a≤99
 | .two w a c=>s=wd w∧w<3∧FLo H b [wireL a,wireL c]∧a≤99∧c≤99
noncomputable def spFormOfWord (K:PySem.W.Frag):Sp:=fun vs H Q _=>∃ (b:Addr) (t:Gate),(∃ s,vs=[.str s,.ref b]∧WordOn H b s t) ∧
 ∀ (c:Addr) (f:Terms) (H':Hp),H c=none→TLo H' c f→FormOf f (gateL t)→f.length≤3→Same H H'→Q (.ref c) H'
theorem sc_Z11:FnScope ["word", "parts", "tables"] ["word", "parts"] (defScope s_Z11):=⟨rfl,rfl,rfl,by decide +kernel,rfl,by decide +kernel,by decide +kernel⟩
theorem ok_Z11 (T:Txt K mg):FnOk P w K mg base CX0 5 T.a_Z11 T.fd_Z11 ["word", "parts"] (spFormOfWord K):=by
 refine T.d_Z11.F.ok sc_Z11 (fun vs H Q E h=>?_) (fun cdv A outer s H vs Q E hr h=>?_)
 ·obtain⟨b,t,⟨s',rfl,hW⟩,q⟩:=h;rfl
 ·obtain⟨b,t,⟨s',rfl,hW⟩,q⟩:=h;have hu:=hu_of hr;refine⟨_,(pss_cons (ps_if (pt_cmpR op_eq (pv 0) pe_str (nomark _)) (pss_one (ps_ret (pe_call (ok_Z25 (P:=P) (w:=w) (base:=base) T) hr (by rfl) T.d_Z25.m T.d_Z25.F.kp T.d_Z25.b .nil pass0 (pa_cons (pe_lst (pa_cons (pe_tup (pa_cons pe_int (pa_cons pe_int pa_nil))) pa_nil)) (pa_cons (pe_ix ix_list (pv 1) pe_int (fun _ _=>rfl)) pa_nil))))) pss_nil)
   (pss_cons (ps_set (i:=2) sc_Z11.nd rfl (Or.inl rfl) (pe_call (ok_Z27 (P:=P) (w:=w) (base:=base) T) (hr.mono (by decide)) (by rfl) T.d_Z27.m T.d_Z27.F.kp T.d_Z27.b .nil pass0 (pa_cons (pe_ix ix_list (pv 1) pe_int (fun _ _=>rfl)) (pa_cons (pe_ix ix_list (pv 1) pe_int (fun _ _=>rfl)) pa_nil))))
   (pss_cons (ps_if (pt_cmpR op_isN (pv 2) pe_non (nomark _)) (pss_one (ps_ret (pe_call (ok_Z17 (P:=P) (w:=w) (base:=base) T) hr (by rfl) T.d_Z17.m T.d_Z17.F.kp T.d_Z17.b .nil pass0 (pa_cons (pv 0) (pa_cons (pe_ix ix_list (pv 1) pe_int (fun _ _=>rfl)) (pa_cons (pe_ix ix_list (pv 1) pe_int (fun _ _=>rfl)) pa_nil)))))) pss_nil)
   (pss_one ps_dead)))),?_⟩
  cases t with
  | fix b=>exact hW.elim
  | no a =>
   obtain⟨rfl,⟨ps,hb,hP⟩,ha⟩:=hW;obtain⟨p,hp1,hp2⟩:=hP.at (i:=0) rfl;have hps:ps=[p]:=by
    have hn:=hP.length
    match ps,hn,hp1 with
    | [x],_,h=>cases h;rfl
   subst hps;refine⟨_,rfl,rfl,_,rfl,iteY (by decide) ?_⟩;refine⟨(by show 2≤sizeLine;decide),fun t1 ht1=>⟨(by show 1≤sizeLine;decide),fun e1 he1=>?_⟩⟩;have b1:Same H (upd H t1 (.tup [.int 0,.int 1])):=Same.upd ht1;have b2:Same (upd H t1 (.tup [.int 0,.int 1])) (upd (upd H t1 (.tup [.int 0,.int 1])) e1 (.lst [.ref t1])):=Same.upd he1;have B:=b1.trans b2;refine⟨_,rfl,b,_,_,_,rfl,rfl,SqL.of (B _ _ hb),rfl,e1,p,[(0,1)],wireL a,rfl,⟨[t1],upd_same,.cons (b2 _ _ upd_same) .nil⟩,hp2.keep B,(by show 1+1≤100000;decide),fun c f H2 hc hT2 hI2 hv2 hl2 s2=>?_⟩;refine q c f H2 (B.free hc) hT2 ⟨hI2,fun k=>?_,fun t ht=>?_⟩ (Nat.le_trans hl2 (by show 1+1≤3;decide)) (B.trans s2)
   ·show coef f k=coef (notL (wireL a)) k;unfold notL;rw[hv2,coef_append,coef_neg];omega
   ·have h1:=coef_mem hI2 t ht;have h2:=hI2.nz t ht;rw[hv2] at h1;by_cases z:t.1=0
    ·rw[z];exact List.mem_map.mpr ⟨(0,1),by show (0,1)∈notL (wireL a);unfold notL;simp,rfl⟩
    ·by_cases y:t.1=2^a
     ·rw[y];exact List.mem_map.mpr ⟨(2^a,-1),by show _∈notL (wireL a);unfold notL wireL;simp,rfl⟩
     ·exfalso;have c1:coef [((0:Int),(1:Int))] t.1=0:=coef_none _ _ fun p hp e=>by
       have e2:p=(0,1):=by simpa using hp
       rw[e2] at e;exact z e.symm
      have c2:coef (wireL a) t.1=0:=coef_none _ _ fun p hp e=>by
       have e2:p=((2:Int)^a,1):=by simpa [wireL] using hp
       rw[e2] at e;exact y e.symm
      omega
  | two w a c =>
   obtain⟨rfl,hw,⟨ps,hb,hP⟩,ha,hc⟩:=hW;obtain⟨p,hp1,hp2⟩:=hP.at (i:=0) rfl;obtain⟨r,hr1,hr2⟩:=hP.at (i:=1) rfl;have hps:ps=[p,r]:=by
    have hn:=hP.length
    match ps,hn,hp1,hr1 with
    | [x,y],_,h,h'=>cases h;cases h';rfl
   subst hps;have hne:¬ (decide (V.str (wd w)=V.str "not")=true):=by
    obtain rfl | rfl | rfl:w=0∨w=1∨w=2:=by omega
    ·decide
    ·decide
    ·decide
   refine⟨_,rfl,rfl,_,rfl,iteN hne ?_⟩;refine⟨_,rfl,b,_,_,_,rfl,rfl,SqL.of hb,rfl,_,rfl,b,_,_,_,rfl,rfl,SqL.of hb,rfl,.inr ⟨p,r,a,c,rfl,hp2,hr2,ha,hc,?_⟩⟩;refine⟨_,rfl,rfl,_,rfl,iteY (by decide) ?_⟩;refine⟨_,rfl,_,rfl,b,_,_,_,rfl,rfl,SqL.of hb,rfl,_,rfl,b,_,_,_,rfl,rfl,SqL.of hb,rfl,p,r,wireL a,wireL c,w,rfl,hp2,hr2,hw,(by show 1+1+1 * 1≤100000;decide),(fun t ht u hu=>?_),fun d f H2 hd hT2 hF2 s2=>?_⟩
   ·have e:t=((2:Int)^a,1):=by simpa [wireL] using ht
    rw[e];exact mulL (by show -(2^64)<(1:Int);decide) (by show (1:Int)<2^64;decide)
   ·refine q d f H2 hd hT2 hF2 ?_ s2;have h1:=nodup_sub_len (form_nodup hF2.toIsForm) (B:=(wordL w (wireL a) (wireL c)).map (·.1)) fun x hx=>by
     obtain⟨t,ht,rfl⟩:=List.mem_map.mp hx;exact hF2.src t ht
    rw[List.length_map,List.length_map] at h1;refine Nat.le_trans h1 ?_;unfold wordL wireL prodL rowL;split <;> simp
noncomputable def spGateForm (K:PySem.W.Frag):Sp:=fun vs H Q _=>∃ (p b:Addr) (t:Gate) (n:Nat),vs=[.ref p,.ref b]∧H p=some (.tup (rowV t))∧FLo H b ((List.range n).map wireL)∧n≤100∧GOk n t ∧
 ∀ (c:Addr) (f:Terms) (H':Hp),H c=none→TLo H' c f→FormOf f (gateL t)→f.length≤3→Same H H'→Q (.ref c) H'
theorem sc_Z13:FnScope ["row", "forms"] ["row", "forms"] (defScope s_Z13):=⟨rfl,rfl,rfl,by decide +kernel,rfl,by decide +kernel,by decide +kernel⟩
theorem nd_Z13_1:(["wire", "forms"]:List Str).Nodup:=by decide +kernel
theorem ok_Z13 (T:Txt K mg):FnOk P w K mg base CX0 6 T.a_Z13 T.fd_Z13 ["row", "forms"] (spGateForm K):=by
 refine T.d_Z13.F.ok sc_Z13 (fun vs H Q E h=>?_) (fun cdv A outer s H vs Q E hr h=>?_)
 ·obtain⟨p,b,t,n,rfl,hp,hb,hn,ht,q⟩:=h;rfl
 ·obtain⟨p,b,t,n,rfl,hp,hb,hn,ht,q⟩:=h;have hu:=hu_of hr;refine⟨_,(pss_cons (ps_if (pt_cmpR op_eq (pe_ix ix_tup (pv 0) pe_int (fun _ _=>rfl)) pe_str (nomark _)) (pss_one (ps_ret (pe_call (ok_Z26 (P:=P) (w:=w) (base:=base) T) (hr.mono (by decide)) (by rfl) T.d_Z26.m T.d_Z26.F.kp T.d_Z26.b .nil pass0 (pa_cons (pe_lst (pa_cons (pe_tup (pa_cons pe_int (pa_cons (pe_ix ix_tup (pv 0) pe_int (fun _ _=>rfl)) pa_nil))) pa_nil)) pa_nil)))) pss_nil)
   (pss_one (ps_ret (pe_call (ok_Z11 (P:=P) (w:=w) (base:=base) T) hr (by rfl) T.d_Z11.m T.d_Z11.F.kp T.d_Z11.b .nil pass0 (pa_cons (pe_ix ix_tup (pv 0) pe_int (fun _ _=>rfl)) (pa_cons (pe_comp (g:=(gName 0)) ["wire", "forms"] 1 [1] rfl (by exact CompSc.of (defScope s_Z13) ["row", "forms"] rfl rfl rfl (by decide +kernel) rfl (by decide +kernel) (by decide +kernel)) (pi_tup (pe_slice sl_tup (pv 0) (po_some pe_int) po_none))
    (fun cl C s₀ H₀ fp=>(pg_name (i:=0) nd_Z13_1 rfl (Or.inl rfl) (Or.inr rfl))) (fun cl C s₀ H₀ fp=>pts_nil) (fun cl C s₀ H₀ fp=>(pe_ix (ix_listK K rfl) (pv 1) (pv 0) (fun _ _=>rfl)))) pa_nil)))))),?_⟩
  obtain⟨bs,hb1,hb2⟩:=id hb;have pick:∀ x,x<n→bs[x]? = some (bs.getD x 0)∧TLo H (bs.getD x 0) (wireL x):=fun x hx=>by
   obtain⟨r,h1,h2⟩:=hb2.at (i:=x) (f:=wireL x) (by rw[List.getElem?_map,List.getElem?_range hx];rfl);rw[List.getD_eq_getElem?_getD,h1];exact⟨rfl,h2⟩
  have atb:∀ x,x<n→atI (bs.map V.ref) (x:Int)=some (.ref (bs.getD x 0)):=fun x hx=>atI_nat (by rw[List.getElem?_map,(pick x hx).1];rfl)
  cases t with
  | fix v =>
   refine⟨_,rfl,p,_,_,_,rfl,rfl,SqT.of hp,rfl,rfl,_,rfl,iteY (by decide) ?_⟩;refine⟨_,rfl,p,_,_,_,rfl,rfl,SqT.of hp,rfl,(by show 2≤sizeLine;decide),fun t1 ht1=>⟨(by show 1≤sizeLine;decide),fun e1 he1=>?_⟩⟩;have b1:Same H (upd H t1 (.tup [.int 0,.int v])):=Same.upd ht1;have b2:Same (upd H t1 (.tup [.int 0,.int v])) (upd (upd H t1 (.tup [.int 0,.int v])) e1 (.lst [.ref t1])):=Same.upd he1;have eT:TLo (upd (upd H t1 (.tup [.int 0,.int v])) e1 (.lst [.ref t1])) e1 [(0,v)]:=⟨[t1],upd_same,.cons (b2 _ _ upd_same) .nil⟩;refine⟨e1,[(0,v)],rfl,eT.tl,(by show 1≤100000;decide),fun c f H2 hc hT2 hF2 hl2 s2=>?_⟩;exact q c f H2 ((b1.trans b2).free hc) hT2 hF2 (Nat.le_trans hl2 (by show 1≤3;decide)) ((b1.trans b2).trans s2)
  | no a' =>
   have ha:a'<n:=ht;refine⟨_,rfl,p,_,_,_,rfl,rfl,SqT.of hp,rfl,rfl,_,rfl,iteN (by decide) ?_⟩;refine⟨_,rfl,p,_,_,_,rfl,rfl,SqT.of hp,rfl,_,rfl,_,rfl,p,_,rfl,SqT.of hp,(by show ¬ (1=0∧_);exact fun z=>absurd z.1 (by decide)),fun t ht=>?_⟩;have s3:Same H (upd H t (.tup [.int (a':Int)])):=Same.upd ht;refine⟨t,rfl,⟨_,SqT.of upd_same⟩,?_⟩;have hxa:∀ x∈[a'],x<n:=fun x hx=>by
    have e:x=a':=by simpa using hx
    rw[e];exact ha
   refine comp_each (ws:=[a']) (fun x=>V.ref (bs.getD x 0)) (b:=b) (SqT.of upd_same) (by show 1≤1000;decide) rfl (fun x hx R' r=>⟨_,rfl,_,rfl,b,_,_,_,rfl,rfl,SqL.of (s3 _ _ hb1),atb x (hxa x hx),r⟩) fun D hD=>?_
   have s4:=s3.trans (Same.upd (o := .lst [V.ref (bs.getD a' 0)]) hD);exact⟨D,.no a',⟨_,rfl,rfl,⟨[bs.getD a' 0],upd_same,.cons ((pick a' ha).2.keep s4) .nil⟩,by omega⟩,fun c f H' hc hT hF hl s5=>q c f H' (s4.free hc) hT hF hl (s4.trans s5)⟩
  | two w a' c' =>
   obtain⟨hw,h1,h2⟩:w<3∧a'<n∧c'<n:=ht;have hne:¬ (decide (V.str (wd w)=V.str "fix")=true):=by
    obtain rfl | rfl | rfl:w=0∨w=1∨w=2:=by omega
    ·decide
    ·decide
    ·decide
   refine⟨_,rfl,p,_,_,_,rfl,rfl,SqT.of hp,rfl,rfl,_,rfl,iteN hne ?_⟩;refine⟨_,rfl,p,_,_,_,rfl,rfl,SqT.of hp,rfl,_,rfl,_,rfl,p,_,rfl,SqT.of hp,(by show ¬ (1=0∧_);exact fun z=>absurd z.1 (by decide)),fun t ht=>?_⟩;have s3:Same H (upd H t (.tup [.int (a':Int),.int (c':Int)])):=Same.upd ht;refine⟨t,rfl,⟨_,SqT.of upd_same⟩,?_⟩;have hxa:∀ x∈[a',c'],x<n:=fun x hx=>by
    have e:x=a'∨x=c':=by simpa using hx
    rcases e with rfl | rfl <;> assumption
   refine comp_each (ws:=[a',c']) (fun x=>V.ref (bs.getD x 0)) (b:=b) (SqT.of upd_same) (by show 2≤1000;decide) rfl (fun x hx R' r=>⟨_,rfl,_,rfl,b,_,_,_,rfl,rfl,SqL.of (s3 _ _ hb1),atb x (hxa x hx),r⟩) fun D hD=>?_
   have s4:=s3.trans (Same.upd (o := .lst [V.ref (bs.getD a' 0),V.ref (bs.getD c' 0)]) hD);exact⟨D,.two w a' c',⟨_,rfl,rfl,hw,⟨[bs.getD a' 0,bs.getD c' 0],upd_same,.cons ((pick a' h1).2.keep s4) (.cons ((pick c' h2).2.keep s4) .nil)⟩,by omega,by omega⟩,fun c f H' hc hT hF hl s5=>q c f H' (s4.free hc) hT hF hl (s4.trans s5)⟩
noncomputable def spOut (K:PySem.W.Frag):Sp:=fun vs H Q _=>∃ (a:Addr) (l:Terms) (k:Nat),vs=[.ref a,.int (2^k)]∧TL K H a l∧(∀ t∈l,0≤t.1)∧l.length≤100000 ∧
 ∀ (c:Addr) (H':Hp),H c=none→TLo H' c (outL k l)→Same H H'→Q (.ref c) H'
theorem sc_Z39:FnScope ["form", "bit"] ["form", "bit"] (defScope s_Z39):=⟨rfl,rfl,rfl,by decide +kernel,rfl,by decide +kernel,by decide +kernel⟩
theorem nd_Z39_1:(["members", "number", "bit"]:List Str).Nodup:=by decide +kernel
theorem ok_Z39 (T:Txt K mg):FnOk P w K mg base CX0 1 T.a_Z39 T.fd_Z39 ["form", "bit"] (spOut K):=by
 refine T.d_Z39.F.ok sc_Z39 (fun vs H Q E h=>?_) (fun cdv A outer s H vs Q E hr h=>?_)
 ·obtain⟨a,l,k,rfl,hT,h0,hlen,q⟩:=h;rfl
 ·obtain⟨a,l,k,rfl,hT,h0,hlen,q⟩:=h;have hu:=hu_of hr;refine⟨_,(pss_one (ps_ret (pe_comp (g:=(gTup K 2 (gCons (gName 0) (gCons (gName 1) gNil)))) ["members", "number", "bit"] 2 [1] rfl (by exact CompSc.of (defScope s_Z39) ["form", "bit"] rfl rfl rfl (by decide +kernel) rfl (by decide +kernel) (by decide +kernel)) (pi_list (pv 0))
    (fun cl C s₀ H₀ fp=>(pg_tup (n:=2) rfl (pgs_cons (pg_name (i:=0) nd_Z39_1 rfl (Or.inl rfl) (Or.inr rfl)) (pgs_cons (pg_name (i:=1) nd_Z39_1 rfl (Or.inl rfl) (Or.inr rfl)) pgs_nil)))) (fun cl C s₀ H₀ fp=>(pts_one (pt_cmpR op_eq (pe_op op_and (pv 0) (pv 2)) pe_int (nomark _)))) (fun cl C s₀ H₀ fp=>(pe_tup (pa_cons (pv 0) (pa_cons (pv 1) pa_nil))))))),?_⟩
  refine⟨_,rfl,a,rfl,hT.seq,?_⟩;refine comp_flt (fun t => !hasB k t) (fun t=>t) hT (by omega) [some (.int (2^k))] rfl (fun t ht H2 R s2 r=>?_) (fun t ht hp H2 R s2 r=>?_) fun D ys H2 hD hT1 s1=>?_
  ·refine⟨_,rfl,_,rfl,_,_,rfl,rfl,rfl,_,rfl,?_⟩;rw[hasB_and0 (h0 t ht)];exact r
  ·exact⟨_,rfl,_,rfl,(by show 2≤sizeLine;decide),r⟩
  ·exact q D _ hD (by rw[List.map_id'] at hT1;exact hT1) s1
noncomputable def spOff (K:PySem.W.Frag):Sp:=fun vs H Q _=>∃ (a:Addr) (l:Terms) (k:Nat),vs=[.ref a,.int (2^k)]∧TL K H a l∧(∀ t∈l,0≤t.1)∧l.length≤100000 ∧
 ∀ (c:Addr) (H':Hp),H c=none→TLo H' c (offL k l)→Same H H'→Q (.ref c) H'
theorem sc_Z12:FnScope ["form", "bit"] ["form", "bit"] (defScope s_Z12):=⟨rfl,rfl,rfl,by decide +kernel,rfl,by decide +kernel,by decide +kernel⟩
theorem nd_Z12_1:(["members", "number", "bit"]:List Str).Nodup:=by decide +kernel
theorem ok_Z12 (T:Txt K mg):FnOk P w K mg base CX0 1 T.a_Z12 T.fd_Z12 ["form", "bit"] (spOff K):=by
 refine T.d_Z12.F.ok sc_Z12 (fun vs H Q E h=>?_) (fun cdv A outer s H vs Q E hr h=>?_)
 ·obtain⟨a,l,k,rfl,hT,h0,hlen,q⟩:=h;rfl
 ·obtain⟨a,l,k,rfl,hT,h0,hlen,q⟩:=h;have hu:=hu_of hr;refine⟨_,(pss_one (ps_ret (pe_comp (g:=(gTup K 2 (gCons (gName 0) (gCons (gName 1) gNil)))) ["members", "number", "bit"] 2 [1] rfl (by exact CompSc.of (defScope s_Z12) ["form", "bit"] rfl rfl rfl (by decide +kernel) rfl (by decide +kernel) (by decide +kernel)) (pi_list (pv 0))
    (fun cl C s₀ H₀ fp=>(pg_tup (n:=2) rfl (pgs_cons (pg_name (i:=0) nd_Z12_1 rfl (Or.inl rfl) (Or.inr rfl)) (pgs_cons (pg_name (i:=1) nd_Z12_1 rfl (Or.inl rfl) (Or.inr rfl)) pgs_nil)))) (fun cl C s₀ H₀ fp=>(pts_one (pt_cmpR op_ne (pe_op op_and (pv 0) (pv 2)) pe_int (nomark _)))) (fun cl C s₀ H₀ fp=>(pe_tup (pa_cons (pe_op op_sub (pv 0) (pv 2)) (pa_cons (pv 1) pa_nil))))))),?_⟩
  refine⟨_,rfl,a,rfl,hT.seq,?_⟩;refine comp_flt (fun t=>hasB k t) (fun t=>(t.1-2^k,t.2)) hT (by omega) [some (.int (2^k))] rfl (fun t ht H2 R s2 r=>?_) (fun t ht hp H2 R s2 r=>?_) fun D ys H2 hD hT1 s1=>?_
  ·refine⟨_,rfl,_,rfl,_,_,rfl,rfl,rfl,_,rfl,?_⟩;rw[hasB_and0 (h0 t ht),Bool.not_not];exact r
  ·exact⟨_,rfl,_,rfl,_,_,rfl,rfl,_,rfl,(by show 2≤sizeLine;decide),r⟩
  ·exact q D _ hD hT1 s1
noncomputable def spPutIn (K:PySem.W.Frag):Sp:=fun vs H Q _=>∃ (a b:Addr) (l o:Terms) (k:Nat),vs=[.ref a,.int (k:Int),.ref b]∧TLo H a l∧TLo H b o∧(∀ t∈l,0≤t.1)∧l.length+l.length * o.length≤100000∧l.length≤100000∧k≤100∧(∀ t∈l,∀ u∈o,IntMulOk t.2 u.2) ∧
 ∀ (c:Addr) (f:Terms) (H':Hp),H c=none→TLo H' c f→FormOf f (putL k o l)→f.length≤l.length+l.length * o.length→Same H H'→Q (.ref c) H'
theorem sc_Z30:FnScope ["form", "k", "other", "own"] ["form", "k", "other"] (defScope s_Z30):=⟨rfl,rfl,rfl,by decide +kernel,rfl,by decide +kernel,by decide +kernel⟩
theorem ok_Z30 (T:Txt K mg):FnOk P w K mg base CX0 4 T.a_Z30 T.fd_Z30 ["form", "k", "other"] (spPutIn K):=by
 refine T.d_Z30.F.ok sc_Z30 (fun vs H Q E h=>?_) (fun cdv A outer s H vs Q E hr h=>?_)
 ·obtain⟨a,b,l,o,k,rfl,hT,hTo,h0,hlen,hlo,hk,hmul,q⟩:=h;rfl
 ·obtain⟨a,b,l,o,k,rfl,hT,hTo,h0,hlen,hlo,hk,hmul,q⟩:=h;have hu:=hu_of hr;refine⟨_,(pss_cons (ps_set (i:=3) sc_Z30.nd rfl (Or.inl rfl) (pe_call (ok_Z4 (P:=P) (w:=w) (base:=base) T) (hr.mono (by decide)) (by rfl) T.d_Z4.m T.d_Z4.F.kp T.d_Z4.b .nil pass0 (pa_cons (pv 1) pa_nil)))
   (pss_one (ps_ret (pe_call (ok_Z28 (P:=P) (w:=w) (base:=base) T) hr (by rfl) T.d_Z28.m T.d_Z28.F.kp T.d_Z28.b .nil pass0 (pa_cons (pe_call (ok_Z39 (P:=P) (w:=w) (base:=base) T) (hr.mono (by decide)) (by rfl) T.d_Z39.m T.d_Z39.F.kp T.d_Z39.b .nil pass0 (pa_cons (pv 0) (pa_cons (pv 3) pa_nil))) (pa_cons (pe_call (ok_Z36 (P:=P) (w:=w) (base:=base) T) (hr.mono (by decide)) (by rfl) T.d_Z36.m T.d_Z36.F.kp T.d_Z36.b .nil pass0 (pa_cons (pe_call (ok_Z12 (P:=P) (w:=w) (base:=base) T) (hr.mono (by decide)) (by rfl) T.d_Z12.m T.d_Z12.F.kp T.d_Z12.b .nil pass0 (pa_cons (pv 0) (pa_cons (pv 3) pa_nil))) (pa_cons (pv 2) pa_nil))) pa_nil)))))),?_⟩
  have n1:=outL_len k l;have n2:=offL_len k l;have n3:(offL k l).length * o.length≤l.length * o.length:=Nat.mul_le_mul_right _ n2;refine⟨_,rfl,k,rfl,hk,?_⟩;refine⟨_,rfl,_,rfl,a,l,k,rfl,hT.tl,h0,hlo,fun c H1 hc hT1 s1=>?_⟩;refine⟨_,rfl,_,rfl,a,l,k,rfl,(hT.keep s1).tl,h0,hlo,fun d H2 hd hT2 s2=>?_⟩;refine⟨_,rfl,d,b,offL k l,o,rfl,hT2.tl,((hTo.keep s1).keep s2).tl,by omega,(fun t ht u hu=>?_),fun e g H3 he hT3 hF3 hl3 s3=>?_⟩
  ·obtain⟨_,v,hv,e,_⟩:=offL_mem h0 ht;rw[e];exact hmul v hv u hu
  refine⟨c,e,outL k l,g,rfl,(hT1.keep s2).keep s3,hT3,by omega,fun x f H4 hx hT4 hF4 hl4 s4=>?_⟩;refine q x f H4 (s1.free (s2.free (s3.free hx))) hT4 ⟨hF4.toIsForm,fun j=>?_,fun t ht=>?_⟩ (by omega) (s1.trans (s2.trans (s3.trans s4)))
  ·rw[hF4.val,coef_append,hF3.val];unfold putL;rw[coef_append]
  ·have:=hF4.src t ht
   unfold putL;rw[List.map_append,List.mem_append] at this ⊢;rcases this with z | z
   ·exact .inl z
   ·obtain⟨u,hu,e⟩:=List.mem_map.mp z;rw[← e];exact .inr (hF3.src u hu)
noncomputable def spStepsW (K:PySem.W.Frag):Sp:=fun vs H Q _=>∃ (n:Nat) (a b:Addr) (gs:List Gate) (f:Terms) (mo:Nat),vs=[.int (n:Int),.ref a,.ref b,.int (mo:Int)]∧RLo H a gs∧TLo H b f∧IsForm f∧(∀ t∈f,0≤t.1∧t.1<2^(n+gs.length))∧n+gs.length≤80∧RowsOk n gs∧f.length≤20000∧mo≤20000 ∧
 ∀ (D:Addr) (fl:List Terms) (H':Hp),H D=none→FLo H' D fl→(fl.length=gs.length+1∨fl.length≤gs.length∧∃ g,fl[fl.length-1]? = some g∧mo<g.length)→(∀ k g,k+1<fl.length→fl[k]? = some g→g.length≤mo)→Steps n gs f fl→(∀ (p:Addr) (ps:List Addr),H' D=some (.lst (ps.map V.ref))→p∈ps→H p=none∧p≠D)→Same H H'→Q (.ref D) H'
theorem sc_Z34:FnScope ["ins", "rows", "form", "most", "wires", "steps", "place", "gate"] ["ins", "rows", "form", "most"] (defScope s_Z34):=⟨rfl,rfl,rfl,by decide +kernel,rfl,by decide +kernel,by decide +kernel⟩
theorem ok_Z34 (T:Txt K mg):FnOk P w K mg base CX0 7 T.a_Z34 T.fd_Z34 ["ins", "rows", "form", "most"] (spStepsW K):=by
 refine T.d_Z34.F.ok sc_Z34 (fun vs H Q E h=>?_) (fun cdv A outer s H vs Q E hr h=>?_)
 ·obtain⟨n,a,b,gs,f,mo,rfl,hR,hT,hf,hk,hn,hok,hfl,hmo,q⟩:=h;rfl
 ·obtain⟨n,a,b,gs,f,mo,rfl,hR,hT,hf,hk,hn,hok,hfl,hmo,q⟩:=h;have hu:=hu_of hr;refine⟨_,(pss_cons (ps_set (i:=4) sc_Z34.nd rfl (Or.inl rfl) (pe_call (ok_Z33 (P:=P) (w:=w) (base:=base) T) (hr.mono (by decide)) (by rfl) T.d_Z33.m T.d_Z33.F.kp T.d_Z33.b .nil pass0 (pa_cons (pe_op op_add (pv 0) (pe_callB call_len_seq (by rfl) T.n_len PySem.boot_len (pa_cons (pv 1) pa_nil))) pa_nil)))
   (pss_cons (ps_set (i:=5) sc_Z34.nd rfl (Or.inl rfl) (pe_lst (pa_cons (pe_callTy call_list_of rfl T.n_list PyProof.Rows.boot_list (pa_cons (pv 2) pa_nil)) pa_nil)))
   (pss_cons (ps_for PassesOwn.never rfl (pi_range3 rfl T.n_range (pa_cons (pe_op op_sub (pe_callB call_len_seq (by rfl) T.n_len PySem.boot_len (pa_cons (pv 1) pa_nil)) pe_int) (pa_cons (pe_un un_neg pe_int) (pa_cons (pe_un un_neg pe_int) pa_nil)))) (pg_name (i:=6) sc_Z34.nd rfl (Or.inl rfl))
    (pss_cons (ps_if (PW.pt (pw_and (pt_cmpR op_notN (pv 3) pe_non (nomark _)) (pw_and1 (pt_cmpR op_gt (pe_callB call_len_seq (by rfl) T.n_len PySem.boot_len (pa_cons (pe_ix ix_list (pv 5) (pe_un un_neg pe_int) (fun _ _=>rfl)) pa_nil)) (pv 3) (nomark _))))) (pss_one ps_break) pss_nil)
   (pss_cons (ps_set (i:=7) sc_Z34.nd rfl (Or.inl rfl) (pe_call (ok_Z13 (P:=P) (w:=w) (base:=base) T) hr (by rfl) T.d_Z13.m T.d_Z13.F.kp T.d_Z13.b .nil pass0 (pa_cons (pe_ix ix_list (pv 1) (pv 6) (fun _ _=>rfl)) (pa_cons (pv 4) pa_nil))))
   (pss_one (ps_expr (pe_bm PySem.F.plainAttrs_list PySem.F.slot_list_append PySem.F.type_list_append mt_append (pv 5) (pa_cons (pe_call (ok_Z30 (P:=P) (w:=w) (base:=base) T) (hr.mono (by decide)) (by rfl) T.d_Z30.m T.d_Z30.F.kp T.d_Z30.b .nil pass0 (pa_cons (pe_ix ix_list (pv 5) (pe_un un_neg pe_int) (fun _ _=>rfl)) (pa_cons (pe_op op_add (pv 0) (pv 6)) (pa_cons (pv 7) pa_nil)))) pa_nil)))))))
   (pss_one (ps_ret (pv 5)))))),?_⟩
  obtain⟨ps,hS,hP⟩:=id hR;have hpl:=hP.length;refine⟨_,rfl,_,rfl,a,_,rfl,.inl (SqL.of hS),_,_,rfl,rfl,n+gs.length,(by rw[List.length_map,hpl];rfl),by omega,fun w H1 hw hW1 s1=>?_⟩;obtain⟨fs,hb1,hb2⟩:=hT.keep s1;refine⟨_,rfl,b,_,rfl,.inl (SqL.of hb1),fun c hc=>⟨(by show 1≤sizeLine;decide),fun D hD=>?_⟩⟩;have s2:Same H1 (upd H1 c (.lst (fs.map V.ref))):=Same.upd hc;have s3:Same (upd H1 c (.lst (fs.map V.ref))) (upd (upd H1 c (.lst (fs.map V.ref))) D (.lst [.ref c])):=Same.upd hD;have cT:TLo (upd (upd H1 c (.lst (fs.map V.ref))) D (.lst [.ref c])) c f:=⟨fs,s3 _ _ upd_same,hb2.keep fun b xs z=>s3 b _ (s2 b _ z)⟩;have hDv:upd (upd H1 c (.lst (fs.map V.ref))) D (.lst [.ref c]) D=some (.lst [.ref c]):=upd_same;have nD:H D=none:=s1.free (s2.free hD);have nc:H c=none:=s1.free hc;have nD1:H1 D=none:=s2.free hD;have cD:c≠D:=fun z=>by subst z;rw[upd_same] at hD;cases hD
  have S3:=s1.trans (s2.trans s3);have s13:=s2.trans s3;generalize upd (upd H1 c (.lst (fs.map V.ref))) D (.lst [.ref c])=H3 at s3 cT hDv S3 s13;clear s3 s2;refine⟨_,rfl,a,_,rfl,.inl (SqL.of (S3 _ _ hS)),_,_,rfl,rfl,_,rfl,_,rfl,_,_,_,gs.length,rfl,by decide,back_div _,(by rw[List.length_map,hpl];exact back_small (by omega)),(by rw[List.length_map,hpl];exact back_size _),?_⟩;have hDc:D ∉ [c]:=fun z=>by
   have e:D=c:=by simpa using z
   exact cD e.symm
  have hcn:∀ p∈[c],H p=none:=fun p hp=>by
   have e:p=c:=by simpa using hp
   rw[e];exact nc
  have hst0:Steps n gs f [f]:=by
   refine⟨rfl,fun k g hg=>?_,fun k g h hg hh=>by simp at hh⟩;have hk0:k=0:=by
    rcases Nat.eq_zero_or_pos k with z | z
    ·exact z
    ·rw[List.getElem?_eq_none (by rw[List.length_singleton];exact z)] at hg;cases hg
   subst hk0;have e:g=f:=by simpa using hg.symm
   subst e;exact⟨hf,hk,by omega⟩
  rw[List.length_map,hpl];refine for_step (n:=gs.length) (fun i σ H2=>∃ (v5 v6:Option V) (qs:List Addr) (fl:List Terms),σ = [some (.int (n:Int)),some (.ref a),some (.ref b),some (.int (mo:Int)),some (.ref w),some (.ref D),v5,v6]∧H2 D=some (.lst (qs.map V.ref))∧Fms H2 qs fl∧fl.length=i+1∧D ∉ qs∧(∀ p∈qs,H p=none)∧Steps n gs f fl∧(∀ k g,k+1<fl.length→fl[k]? = some g→g.length≤mo)∧Same H1 H2)
   ⟨none,none,[c],[f],rfl,hDv,.cons cT .nil,rfl,hDc,hcn,hst0,(fun k g hk _=>by simp at hk),s13⟩ ?_ ?_
  ·rintro i σ H4 hi ⟨v5,v6,qs,fl,rfl,hD4,hF4,hfl4,hDq,hnq,hst,hsm,s4⟩;obtain⟨j,hj⟩:∃ j,gs.length-1-i=j:=⟨_,rfl⟩;have hjl:j<gs.length:=by omega
   have ej:((gs.length:Int)-1)+(i:Int) * -1=(j:Int):=by omega
   obtain⟨t,hgt⟩:∃ t,gs[j]? = some t:=⟨_,List.getElem?_eq_getElem hjl⟩;have hok':=hok j t hgt;obtain⟨rp,hrp1,hrp2⟩:∃ rp,ps[j]? = some rp∧H rp=some (.tup (rowV t)):=by
    have hjp:j<ps.length:=by omega
    obtain⟨t',h1,h2⟩:=hP.at (i:=j) (p:=ps[j]) (by simp[hjp]);rw[hgt] at h1;cases h1;exact⟨ps[j],by simp[hjp],h2⟩
   have S4:=s1.trans s4;obtain⟨g,hg⟩:∃ g,fl[i]? = some g:=⟨_,List.getElem?_eq_getElem (by omega)⟩;obtain⟨hgF,hgk,hgl⟩:=hst.form i g hg;have hg2:=form_few hgF hgk;obtain⟨lp,hlp1,hlp2⟩:=hF4.at hg;have hql:=hF4.length;obtain⟨lps,hlq1,hlq2⟩:=id hlp2;have hlq:=hlq2.length;refine⟨_,rfl,rfl,_,rfl,iteY (by simp) ?_⟩;refine⟨_,rfl,_,rfl,D,_,_,V.ref lp,rfl,rfl,SqL.of hD4,at_last (i:=i) (by rw[List.length_map,hql,hfl4]) (by rw[List.getElem?_map,hlp1];rfl),lp,_,rfl,.inl (SqL.of hlq1),_,rfl,_,_,rfl,rfl,_,rfl,ite2 (fun z=>?_) (fun z=>?_)⟩
   ·have z':=of_decide_eq_true z;rw[List.length_map,hlq] at z';refine⟨_,rfl,q D fl H4 nD ⟨qs,hD4,hF4⟩ (.inr ⟨by omega,g,by rw[hfl4];exact hg,by omega⟩) hsm hst (fun p ps hps hp=>?_) (s1.trans s4)⟩;rw[hD4] at hps;have e:qs.map V.ref=ps.map V.ref:=by injection hps with e;injection e
    have e2:qs=ps:=(List.map_inj_right (fun a b h=>by injection h)).mp e;subst e2;exact⟨hnq p hp,fun z=>hDq (z ▸ hp)⟩
   have hgm:g.length≤mo:=by
    rcases Nat.lt_or_ge mo g.length with y | y
    ·exact absurd (decide_eq_true (by show (mo:Int)<_;rw[List.length_map,hlq];omega)) z
    ·exact y
   have hgs:g.length≤20000:=by omega
   refine⟨_,rfl,_,rfl,a,_,_,V.ref rp,rfl,rfl,SqL.of (S4 _ _ hS),(by rw[ej];exact atI_nat (by rw[List.getElem?_map,hrp1];rfl)),_,rfl,rp,w,t,n+gs.length,rfl,S4 _ _ hrp2,hW1.keep s4,by omega,hok'.up (by omega),fun cg G H5 hcg hTG hFG hlG s5=>?_⟩;have hD5:=s5 _ _ hD4;have kG:=hFG.keys (gate_keys hok');have hmul:∀ t∈g,∀ u∈G,IntMulOk t.2 u.2:=fun t' ht' u hu=>by
    have h1:=hFG.small (gate_small hok').1 u hu;have h2:=(gate_small hok').2;have h3:(gateL t).length * 2≤3 * 2:=Nat.mul_le_mul_right _ h2;exact mulR (by omega) (by omega)
   have hl4:g.length * G.length≤g.length * 3:=Nat.mul_le_mul_left _ hlG;refine⟨_,rfl,.inl ⟨rfl,_,SqL.of hD5⟩,_,rfl,_,rfl,D,_,_,V.ref lp,rfl,rfl,SqL.of hD5,at_last (i:=i) (by rw[List.length_map,hql,hfl4]) (by rw[List.getElem?_map,hlp1];rfl),_,rfl,_,rfl,_,_,rfl,rfl,_,rfl,lp,cg,g,G,n+j,(by rw[ej];rfl),hlp2.keep s5,hTG,(fun t ht=>(hgk t ht).1),by omega,by omega,by omega,hmul,fun x h H6 hx hTh hFh hlh s6=>?_⟩;have hD6:=s6 _ _ hD5;have nx:H x=none:=S4.free (s5.free hx);have xD:x≠D:=ne_of_none' hD5 hx;have kh:∀ t∈h,0≤t.1∧t.1<2^(n+j):=hFh.keys (put_keys (by rw[show n+j+1=n+gs.length-i by omega];exact hgk) kG);refine⟨D,_,_,rfl,rfl,hD6,(by rw[List.length_map,hql,hfl4];exact small6 (by omega)),some (.int (((gs.length:Int)-1)+(i:Int) * -1)),some (.ref cg),qs ++ [x],fl ++ [h],rfl,(by rw[upd_same,List.map_append];rfl),?_,(by rw[List.length_append,hfl4];rfl),?_,?_,⟨?_,fun k y hy=>?_,fun k y z hy hz=>?_⟩,(fun k y hk hy=>?_),((s4.trans (s5.trans s6)).write nD1)⟩
   ·exact Fms.keepU hD6 (Fms.snoc ((hF4.keep s5).keep s6) hTh) (by
     intro z;rcases List.mem_append.mp z with y | y
     ·exact hDq y
     ·have e:D=x:=by simpa using y
      exact xD e.symm)
   ·intro z;rcases List.mem_append.mp z with y | y
    ·exact hDq y
    ·have e:D=x:=by simpa using y
     exact xD e.symm
   ·intro p hp;rcases List.mem_append.mp hp with y | y
    ·exact hnq p y
    ·have e:p=x:=by simpa using y
     rw[e];exact nx
   ·rw[List.getElem?_append_left (by omega)];exact hst.first
   ·rcases Nat.lt_or_ge k fl.length with z | z
    ·rw[List.getElem?_append_left z] at hy;exact hst.form k y hy
    ·rw[List.getElem?_append_right z] at hy;have hk0:k=i+1:=by
      rcases Nat.lt_or_ge (k-fl.length) 1 with w | w
      ·omega
      ·rw[List.getElem?_eq_none (by rw[List.length_singleton];exact w)] at hy;cases hy
     subst hk0;have e:y=h:=by
      rw[show i+1-fl.length=0 by omega] at hy;simpa using hy.symm
     subst e;refine⟨hFh.toIsForm,by rw[show n+gs.length-(i+1)=n+j by omega];exact kh,?_⟩;omega
   ·rcases Nat.lt_or_ge (k+1) fl.length with z' | z'
    ·rw[List.getElem?_append_left (by omega)] at hy;rw[List.getElem?_append_left z'] at hz;exact hst.next k y z hy hz
    ·have hk0:k=i:=by
      rcases Nat.lt_or_ge (k+1-fl.length) 1 with w | w
      ·omega
      ·rw[List.getElem?_append_right z',List.getElem?_eq_none (by rw[List.length_singleton];exact w)] at hz;cases hz
     subst hk0;rw[List.getElem?_append_left (by omega),hg] at hy;rw[List.getElem?_append_right z',show k+1-fl.length=0 by omega] at hz;have e1:y=g:=by simpa using hy.symm
     have e2:z=h:=by simpa using hz.symm
     subst e1 e2;exact⟨t,G,by rw[hj];exact hgt,hFG,by rw[hj];exact hFh⟩
   ·rw[List.length_append,List.length_singleton] at hk;rcases Nat.lt_or_ge (k+1) fl.length with z' | z'
    ·rw[List.getElem?_append_left (by omega)] at hy;exact hsm k y z' hy
    ·have hk0:k=i:=by omega
     subst hk0;rw[List.getElem?_append_left (by omega),hg] at hy;cases hy;exact hgm
  ·rintro σ H4 ⟨v5,v6,qs,fl,rfl,hD4,hF4,hfl4,hDq,hnq,hst,hsm,s4⟩;refine⟨_,rfl,q D fl H4 nD ⟨qs,hD4,hF4⟩ (.inl hfl4) hsm hst (fun p ps hps hp=>?_) (s1.trans s4)⟩;rw[hD4] at hps;have e:qs.map V.ref=ps.map V.ref:=by injection hps with e;injection e
   have e2:qs=ps:=(List.map_inj_right (fun a b h=>by injection h)).mp e;subst e2;exact⟨hnq p hp,fun z=>hDq (z ▸ hp)⟩
noncomputable def spFirst (K:PySem.W.Frag):Sp:=fun vs H Q _=>∃ (a:Addr) (l:Terms),vs=[.ref a]∧TLo H a l∧(l=[]→Q .non H)∧∀ t r,l=t :: r→Q (.int t.1) H
theorem sc_Z6:FnScope ["form"] ["form"] (defScope s_Z6):=⟨rfl,rfl,rfl,by decide +kernel,rfl,by decide +kernel,by decide +kernel⟩
theorem ok_Z6 (T:Txt K mg):FnOk P w K mg base CX0 1 T.a_Z6 T.fd_Z6 ["form"] (spFirst K):=by
 refine T.d_Z6.F.ok sc_Z6 (fun vs H Q E h=>?_) (fun cdv A outer s H vs Q E hr h=>?_)
 ·obtain⟨a,l,rfl,hT,q⟩:=h;rfl
 ·obtain⟨a,l,rfl,hT,q⟩:=h;have hu:=hu_of hr;refine⟨_,(pss_one (ps_ret (pe_ifExp (pt_truth (pv 0) (fun _=>rfl)) (pe_ix ix_tup (pe_ix ix_list (pv 0) pe_int (fun _ _=>rfl)) pe_int (fun _ _=>rfl)) pe_non))),?_⟩;obtain⟨ps,hS,hP⟩:=id hT;cases l with
  | nil =>
   have hn:=hP.length;have e:ps=[]:=by cases ps with | nil=>rfl | cons x r=>simp at hn
   subst e;exact⟨_,rfl,false,.inl ⟨_,SqL.of hS,rfl⟩,iteF (q.1 rfl)⟩
  | cons t r =>
   have hn:=hP.length;obtain⟨p,ps',rfl⟩:∃ p ps',ps=p :: ps':=by cases ps with | nil=>simp at hn | cons x r=>exact⟨x,r,rfl⟩
   obtain⟨t',ht1,ht2⟩:=hP.at' (i:=0) (p:=p) rfl;have e:t=t':=by simpa using ht1
   subst e;refine⟨_,rfl,true,.inl ⟨_,SqL.of hS,rfl⟩,iteT ?_⟩;exact⟨_,rfl,a,_,_,V.ref p,rfl,rfl,SqL.of hS,atI_nat (j:=0) rfl,p,_,_,_,rfl,rfl,SqT.of ht2,rfl,q.2 t r rfl⟩
noncomputable def spNought:Sp:=fun vs H Q _=>∃ x r:Int,vs=[.int x,.int r]∧0≤r∧Q (.bl (nought x r)) H
theorem sc_Z16:FnScope ["number", "rest"] ["number", "rest"] (defScope s_Z16):=⟨rfl,rfl,rfl,by decide +kernel,rfl,by decide +kernel,by decide +kernel⟩
theorem ok_Z16 (T:Txt K mg):FnOk P w K mg base CX0 1 T.a_Z16 T.fd_Z16 ["number", "rest"] spNought:=by
 refine T.d_Z16.F.ok sc_Z16 (fun vs H Q E h=>?_) (fun cdv A outer s H vs Q E hr h=>?_)
 ·obtain⟨x,r,rfl,hr0,q⟩:=h;rfl
 ·obtain⟨x,r,rfl,hr0,q⟩:=h;have hu:=hu_of hr;refine⟨_,(pss_one (ps_ret (pe_ifExp (pt_cmpR op_eq (pv 1) pe_int (nomark _)) (pe_cmpR op_eq (pv 0) pe_int (nomark _)) (pe_cmpR op_eq (pe_op op_mod (pv 0) (pv 1)) pe_int (nomark _))))),?_⟩;refine⟨_,rfl,rfl,_,rfl,ite2 (fun z=>?_) (fun z=>?_)⟩
  ·have e:r=0:=by have h:=of_decide_eq_true z;injection h
   refine⟨_,rfl,rfl,?_⟩;unfold nought at q;rw[if_pos e] at q;have e2:decide (V.int x=V.int 0)=decide (x=0):=by
    by_cases y:x=0
    ·rw[y];rfl
    ·rw[decide_eq_false y,decide_eq_false (fun h=>y (by injection h))]
   rw[e2];exact q
  ·have e:r≠0:=fun y=>z (by rw[y];rfl)
   refine⟨_,rfl,_,rfl,_,_,rfl,rfl,(by omega),rfl,?_⟩;unfold nought at q;rw[if_neg e] at q;have e2:decide (V.int (x % r)=V.int 0)=decide (x % r=0):=by
    by_cases y:x % r=0
    ·rw[y];rfl
    ·rw[decide_eq_false y,decide_eq_false (fun h=>y (by injection h))]
   rw[e2];exact q
noncomputable def spLeft (K:PySem.W.Frag):Sp:=fun vs H Q _=>∃ (a:Addr) (l:Terms) (r:Int),vs=[.ref a,.int r]∧0≤r∧TLo H a l∧l.length≤100000∧∀ H',Same H H'→(leftL r l=[]→Q .non H')∧∀ t s,leftL r l=t :: s→Q (.int t.1) H'
theorem sc_Z5:FnScope ["form", "rest"] ["form", "rest"] (defScope s_Z5):=⟨rfl,rfl,rfl,by decide +kernel,rfl,by decide +kernel,by decide +kernel⟩
theorem nd_Z5_1:(["members", "number", "rest"]:List Str).Nodup:=by decide +kernel
theorem ok_Z5 (T:Txt K mg):FnOk P w K mg base CX0 2 T.a_Z5 T.fd_Z5 ["form", "rest"] (spLeft K):=by
 refine T.d_Z5.F.ok sc_Z5 (fun vs H Q E h=>?_) (fun cdv A outer s H vs Q E hr h=>?_)
 ·obtain⟨a,l,r,rfl,hr0,hT,hl,q⟩:=h;rfl
 ·obtain⟨a,l,r,rfl,hr0,hT,hl,q⟩:=h;have hu:=hu_of hr;refine⟨_,(pss_one (ps_ret (pe_call (ok_Z6 (P:=P) (w:=w) (base:=base) T) hr (by rfl) T.d_Z6.m T.d_Z6.F.kp T.d_Z6.b .nil pass0 (pa_cons (pe_comp (g:=(gTup K 2 (gCons (gName 0) (gCons (gName 1) gNil)))) ["members", "number", "rest"] 2 [1] rfl (by exact CompSc.of (defScope s_Z5) ["form", "rest"] rfl rfl rfl (by decide +kernel) rfl (by decide +kernel) (by decide +kernel)) (pi_list (pv 0))
    (fun cl C s₀ H₀ fp=>(pg_tup (n:=2) rfl (pgs_cons (pg_name (i:=0) nd_Z5_1 rfl (Or.inl rfl) (Or.inr rfl)) (pgs_cons (pg_name (i:=1) nd_Z5_1 rfl (Or.inl rfl) (Or.inr rfl)) pgs_nil)))) (fun cl C s₀ H₀ fp=>(pts_one (pt_not (pt_val (pe_call (ok_Z16 (P:=P) (w:=w) (base:=base) T) hr (by rfl) T.d_Z16.m T.d_Z16.F.kp T.d_Z16.b .nil pass0 (pa_cons (pv 1) (pa_cons (pv 2) pa_nil))) (fun _=>rfl))))) (fun cl C s₀ H₀ fp=>(pe_tup (pa_cons (pv 0) (pa_cons (pv 1) pa_nil))))) pa_nil)))),?_⟩
  obtain⟨ps,hS,hP⟩:=id hT;refine⟨_,rfl,a,rfl,⟨_,SqL.of hS⟩,?_⟩;refine comp_flt (fun t:Int × Int => !nought t.2 r) id hT.tl (by omega) [some (.int r)] rfl ?_ ?_ ?_
  ·intro t ht H2 R s2 hR;exact⟨_,rfl,_,rfl,t.2,r,rfl,hr0,_,rfl,hR⟩
  ·intro t ht _ H2 R s2 hR;exact⟨_,rfl,_,rfl,(by show 2≤sizeLine;decide),fun x hx=>hR x hx⟩
  ·intro D ys H2 hD hTD s2;rw[List.map_id] at hTD;exact⟨D,leftL r l,rfl,hTD,(q _ s2).1,(q _ s2).2⟩
theorem sc_Z7:FnScope ["ins", "rows", "claim", "word", "given", "wires"] ["ins", "rows", "claim"] (defScope s_Z7):=⟨rfl,rfl,rfl,by decide +kernel,rfl,by decide +kernel,by decide +kernel⟩
theorem ok_Z7 (T:Txt K mg):FnOk P w K mg base CX0 1 T.a_Z7 T.fd_Z7 ["ins", "rows", "claim"] (fun _ _ _ _=>False):=T.d_Z7.F.ok sc_Z7 (fun vs H Q E h=>h.elim) (fun cdv A outer s H vs Q E hr h=>h.elim)
theorem sc_Z31:FnScope ["ins", "rows", "form"] ["ins", "rows", "form"] (defScope s_Z31):=⟨rfl,rfl,rfl,by decide +kernel,rfl,by decide +kernel,by decide +kernel⟩
theorem ok_Z31 (T:Txt K mg):FnOk P w K mg base CX0 1 T.a_Z31 T.fd_Z31 ["ins", "rows", "form"] (fun _ _ _ _=>False):=T.d_Z31.F.ok sc_Z31 (fun vs H Q E h=>h.elim) (fun cdv A outer s H vs Q E hr h=>h.elim)
structure C9 (n:Nat) (gs:List Gate) (ws:List Nat) (F:Fm):Prop where
 few:ws.length≤16
 outs:∀ x∈ws,x<n+gs.length
 ok:F.ok n
 lv:F.lv≤10
 lb:F.lb≤100
 ins:n≤16
 all:n+gs.length≤80
 rows:RowsOk n gs
 gd:Gd n 20000 gs.reverse (fun g=>wordAt ws false g-F.at g)
theorem steps_few {n B:Nat}{gs:List Gate}{f:Terms}{fl:List Terms} (hst:Steps n gs f fl) (hok:RowsOk n gs) (hG:Gd n B gs.reverse fun g=>worthL f (g:Int)):∀ k g,fl[k]? = some g→k≤gs.length→g.length≤B∧Gd n B (gs.reverse.drop k) fun x=>worthL g (x:Int):=by
 intro k;induction k with
 | zero =>
  intro g hg _;rw[hst.first] at hg;cases hg;obtain⟨h1,h2,_⟩:=hst.form 0 f hst.first
  have h3:=hG.here;rw[List.length_reverse] at h3;exact⟨Sz.len h1 h2 h3,by rw[List.drop_zero];exact hG⟩
 | succ k ih =>
  intro h hh hk;obtain⟨g,hg⟩:∃ g,fl[k]? = some g:=⟨_,List.getElem?_eq_getElem (by have:=(List.getElem?_eq_some_iff.mp hh).1;omega)⟩;obtain⟨_,h2⟩:=ih g hg (by omega);obtain⟨t,G,ht,hFG,hFh⟩:=hst.next k g h hg hh;have er:gs.reverse[k]? = some t:=by rw[List.getElem?_reverse (by omega)];exact ht
  have ed:gs.reverse.drop k=t :: gs.reverse.drop (k+1):=by
   rw[List.drop_eq_getElem_cons (by rw[List.length_reverse];omega)];congr 1;exact (List.getElem?_eq_some_iff.mp er).2
  rw[ed] at h2;have el:n+(gs.reverse.drop (k+1)).length=n+(gs.length-1-k):=by rw[List.length_drop,List.length_reverse];omega
  have hok':=hok _ t ht;have h3:=h2.next (by rw[el];exact hok') (fun t ht=>((hst.form k g hg).2.1 t ht).1) hFG (by rw[el];exact hFh);obtain⟨f1,f2,_⟩:=hst.form (k+1) h hh;have h4:=h3.here;rw[el,show n+(gs.length-1-k)=n+gs.length-(k+1) by omega] at h4;exact⟨Sz.len f1 f2 h4,h3⟩
theorem steps_worth {n:Nat}{gs:List Gate}{f:Terms}{fl:List Terms} (hok:RowsOk n gs) (hst:Steps n gs f fl) (hl:fl.length=gs.length+1) (g:Nat) :
  ∀ k h,k≤gs.length→fl[k]? = some h→worthL h ((allG n gs g:Nat):Int)=worthL f ((allG n gs g:Nat):Int):=fun k=>by
 induction k with
 | zero =>
  intro h _ hg;rw[hst.first] at hg;cases hg;rfl
 | succ k ih =>
  intro h hkl hg;obtain⟨g0,hg0⟩:∃ g0,fl[k]? = some g0:=⟨_,List.getElem?_eq_getElem (by omega)⟩;obtain⟨t,G,ht,hG,hH⟩:=hst.next k g0 h hg0 hg;rw[← ih g0 (by omega) hg0];exact away_worth hok ht (fun t ht=>((hst.form k g0 hg0).2.1 t ht).1) hG hH
structure Jd (n:Nat) (gs:List Gate) (ws:List Nat) (F:Fm) (fl:List Terms) (last:Terms):Prop where
 len:fl.length=gs.length+1
 few:∀ g∈fl,g.length≤20000
 form:IsForm last∧∀ t∈last,0≤t.1∧t.1<2^n
 at':∀ x:Nat,worthL last (x:Int)=wordAt ws false (allG n gs x)-F.at (allG n gs x)
 last:fl[gs.length]? = some last
 all:∃ f,IsForm f∧(∀ t∈f,0≤t.1∧t.1<2^(n+gs.length))∧(∀ g:Nat,worthL f (g:Int)=wordAt ws false g-F.at g)∧Steps n gs f fl
theorem nought_mod (x r:Int):nought x r=decide (x % r=0):=by
 unfold nought;split
 ·rename_i h;rw[h,Int.emod_zero]
 ·rfl
theorem left_rest (r:Int) (l:Terms):leftL r l=restL r l:=by
 unfold leftL restL;congr 1
 funext t
 rw[nought_mod];by_cases h:t.2 % r=0 <;> simp[h]
noncomputable def JOut (H H':Hp) (t:Addr) (rest:Int) (fl:List Terms) (last:Terms):Prop:=(leftL rest last=[]∧∃ D:Addr,H' t=some (.tup [.str "right",.ref D])∧FLo H' D fl)∨∃ u l,leftL rest last=u :: l∧H' t=some (.tup [.str "wrong",.int u.1])
theorem C9.few' {n:Nat}{gs:List Gate}{ws:List Nat}{F:Fm} (C:C9 n gs ws F) {f:Terms}{fl:List Terms} (hst:Steps n gs f fl) (hw:∀ g:Nat,worthL f (g:Int)=wordAt ws false g-F.at g):∀ k g,fl[k]? = some g→k≤gs.length→g.length≤20000:=by
 have hG:Gd n 20000 gs.reverse fun g=>worthL f (g:Int):=C.gd.congr fun g=>(hw g).symm
 exact fun k g hg hk=>(steps_few hst C.rows hG k g hg hk).1
noncomputable def spJudged9 (K:PySem.W.Frag):Sp:=fun vs H Q _=>∃ (n:Nat) (r c o:Addr) (fv:V) (gs:List Gate) (ws:List Nat) (F:Fm) (m:List Addr) (rest:Int),vs=[.int (n:Int),.ref r,.ref c]∧RLo H r gs∧H c=some (.tup [.ref o,.bl false,fv,.int rest])∧H o=some (.lst (natL ws))∧C9 n gs ws F∧IsF m H fv F∧0≤rest ∧
 ∀ (t:Addr) (fl:List Terms) (last:Terms) (H':Hp),Jd n gs ws F fl last→Same H H'→JOut H H' t rest fl last→Q (.ref t) H'
theorem sc_Z18:FnScope ["ins", "rows", "claim", "form", "steps", "given"] ["ins", "rows", "claim"] (defScope s_Z18):=⟨rfl,rfl,rfl,by decide +kernel,rfl,by decide +kernel,by decide +kernel⟩
theorem ok_Z18 (T:Txt K mg):FnOk P w K mg base CX0 19 T.a_Z18 T.fd_Z18 ["ins", "rows", "claim"] (spJudged9 K):=by
 refine T.d_Z18.F.ok sc_Z18 (fun vs H Q E h=>?_) (fun cdv A outer s H vs Q E hr h=>?_)
 ·obtain⟨n,r,c,o,fv,gs,ws,F,m,rest,rfl,hR,hc,ho,C,hI,hr0,q⟩:=h;rfl
 ·obtain⟨n,r,c,o,fv,gs,ws,F,m,rest,rfl,hR,hc,ho,C,hI,hr0,q⟩:=h;have hu:=hu_of hr;refine⟨_,(pss_cons (ps_set (i:=3) sc_Z18.nd rfl (Or.inl rfl) (pe_call (ok_Z3 (P:=P) (w:=w) (base:=base) T) hr (by rfl) T.d_Z3.m T.d_Z3.F.kp T.d_Z3.b .nil pass0 (pa_cons (pv 2) pa_nil)))
   (pss_cons (ps_set (i:=4) sc_Z18.nd rfl (Or.inl rfl) (pe_call (ok_Z34 (P:=P) (w:=w) (base:=base) T) (hr.mono (by decide)) (by rfl) T.d_Z34.m T.d_Z34.F.kp T.d_Z34.b .nil pass0 (pa_cons (pv 0) (pa_cons (pv 1) (pa_cons (pv 3) (pa_cons (pe_glob (v := .int 20000) (by rfl) T.g_VERY_MANY ⟨_,rfl⟩) pa_nil))))))
   (pss_cons (ps_if (pt_cmpR op_le (pe_callB call_len_seq (by rfl) T.n_len PySem.boot_len (pa_cons (pv 4) pa_nil)) (pe_callB call_len_seq (by rfl) T.n_len PySem.boot_len (pa_cons (pv 1) pa_nil)) (nomark _)) (pss_cons (ps_set (i:=5) sc_Z18.nd rfl (Or.inl rfl) (pe_call (ok_Z7 (P:=P) (w:=w) (base:=base) T) (hr.mono (by decide)) (by rfl) T.d_Z7.m T.d_Z7.F.kp T.d_Z7.b .nil pass0 (pa_cons (pv 0) (pa_cons (pv 1) (pa_cons (pv 2) pa_nil)))))
   (pss_cons (ps_if (pt_cmpR op_notN (pv 5) pe_non (nomark _)) (pss_one (ps_ret (pe_tup (pa_cons pe_str (pa_cons (pv 5) pa_nil))))) pss_nil)
   (pss_one (ps_set (i:=4) sc_Z18.nd rfl (Or.inl rfl) (pe_call (ok_Z31 (P:=P) (w:=w) (base:=base) T) (hr.mono (by decide)) (by rfl) T.d_Z31.m T.d_Z31.F.kp T.d_Z31.b .nil pass0 (pa_cons (pv 0) (pa_cons (pv 1) (pa_cons (pv 3) pa_nil)))))))) pss_nil)
   (pss_cons (ps_set (i:=5) sc_Z18.nd rfl (Or.inl rfl) (pe_call (ok_Z5 (P:=P) (w:=w) (base:=base) T) (hr.mono (by decide)) (by rfl) T.d_Z5.m T.d_Z5.F.kp T.d_Z5.b .nil pass0 (pa_cons (pe_ix ix_list (pv 4) (pe_un un_neg pe_int) (fun _ _=>rfl)) (pa_cons (pe_ix ix_tup (pv 2) pe_int (fun _ _=>rfl)) pa_nil))))
   (pss_cons (ps_if (pt_cmpR op_notN (pv 5) pe_non (nomark _)) (pss_one (ps_ret (pe_tup (pa_cons pe_str (pa_cons (pv 5) pa_nil))))) pss_nil)
   (pss_one (ps_ret (pe_tup (pa_cons pe_str (pa_cons (pv 4) pa_nil)))))))))),?_⟩
  have hall:=C.all;have hins:=C.ins;refine⟨_,rfl,c,o,fv,ws,false,F,m,.int rest,n,n+gs.length,rfl,hc,ho,C.few,C.outs,hI,C.ok,C.lv,C.lb,hins,by omega,hall,fun b f H1 hb hT hF hk hfl hw s1=>?_⟩;refine⟨_,rfl,_,rfl,_,rfl,n,r,b,gs,f,20000,rfl,hR.keep s1,hT,hF,hk,hall,C.rows,by omega,Nat.le_refl _,fun D fl H2 hD hD2 hlen hsm hst hnew s2=>?_⟩;have S2:=s1.trans s2;obtain⟨ps,hps,hpg⟩:=id hR;have hpl:=hpg.length;obtain⟨ds,hd1,hd2⟩:=hD2;have hdl:=hd2.length;have few:=C.few' hst hw;have hfll:fl.length=gs.length+1:=by
   rcases hlen with z | ⟨z,g,hg,hgm⟩
   ·exact z
   ·have:=few _ g hg (by omega);omega
  obtain⟨h,hh⟩:∃ h,fl[gs.length]? = some h:=⟨_,List.getElem?_eq_getElem (by omega)⟩;obtain⟨pd,hpd,hTd⟩:=hd2.at hh;obtain⟨fh,kh,_⟩:=hst.form gs.length h hh;rw[Nat.add_sub_cancel] at kh;have lh:=few _ h hh (Nat.le_refl _);have J:Jd n gs ws F fl h:=⟨hfll,fun g hg=>by
   obtain⟨k,hk⟩:=List.getElem?_of_mem hg;exact few k g hk (by have:=(List.getElem?_eq_some_iff.mp hk).1;omega),⟨fh,kh⟩,fun x=>by rw[← hw,← all_worth C.rows kh,steps_worth C.rows hst hfll x gs.length h (Nat.le_refl _) hh],hh,⟨f,hF,hk,hw,hst⟩⟩
  refine⟨_,rfl,D,_,rfl,.inl (SqL.of hd1),_,rfl,r,_,rfl,.inl (SqL.of (S2 _ _ hps)),_,_,rfl,rfl,_,rfl,iteN (fun z=>?_) ?_⟩
  ·have z':=of_decide_eq_true z;rw[List.length_map,List.length_map] at z';omega
  refine⟨_,rfl,_,rfl,D,_,_,_,rfl,rfl,SqL.of hd1,at_last (i:=gs.length) (x:=V.ref pd) (by rw[List.length_map];omega) (by rw[List.getElem?_map,hpd];rfl),_,rfl,c,_,_,_,rfl,rfl,SqT.of (S2 _ _ hc),rfl,pd,h,rest,rfl,hr0,hTd,by omega,fun H3 s3=>⟨fun e=>?_,fun t' l e=>?_⟩⟩
  ·refine⟨_,rfl,rfl,_,rfl,iteN (by decide) ?_⟩;refine⟨_,rfl,(by show 2≤sizeLine;decide),fun t ht=>?_⟩;have s4:Same H3 (upd H3 t (.tup [.str "right",.ref D])):=Same.upd ht;exact q t fl h _ J (S2.trans (s3.trans s4)) (.inl ⟨e,D,upd_same,ds,(s3.trans s4) _ _ hd1,hd2.keep (s3.trans s4)⟩)
  ·refine⟨_,rfl,rfl,_,rfl,iteY (by simp) ?_⟩;refine⟨_,rfl,(by show 2≤sizeLine;decide),fun t ht=>?_⟩;have s4:Same H3 (upd H3 t (.tup [.str "wrong",.int t'.1])):=Same.upd ht;exact q t fl h _ J (S2.trans (s3.trans s4)) (.inr ⟨t',l,e,upd_same⟩)
theorem sc_Z20:FnScope ["_law_purse_here", "_law_out_of", "_law_drawn"] ["_law_purse_here", "_law_out_of"] (defScope s_Z20):=⟨rfl,rfl,rfl,by decide +kernel,rfl,by decide +kernel,by decide +kernel⟩
theorem ok_Z20 (T:Txt K mg):FnOk P w K mg base CX0 1 T.a_Z20 T.fd_Z20 ["_law_purse_here", "_law_out_of"] spDraw:=by
 refine T.d_Z20.F.ok sc_Z20 (fun vs H Q E h=>?_) (fun cdv A outer s H vs Q E hr h=>?_)
 ·obtain⟨p,n,m,rfl,hp,h1,h2,q⟩:=h;rfl
 ·obtain⟨p,n,m,rfl,hp,h1,h2,q⟩:=h;have hu:=hu_of hr;refine⟨_,(pss_cons (ps_set (i:=2) sc_Z20.nd rfl (Or.inl rfl) (pe_op op_mod (pe_ix ix_list (pv 0) pe_int (fun _ _=>rfl)) (pv 1)))
   (pss_cons (ps_asg (pe_op op_fdivG (pe_ix ix_list (pv 0) pe_int (fun _ _=>rfl)) (pv 1)) (pg_sub (pv 0) pe_int set_list))
   (pss_one (ps_ret (pv 2))))),?_⟩
  refine⟨_,rfl,p,_,_,_,rfl,rfl,SqL.of hp,rfl,_,rfl,_,_,rfl,rfl,h1,?_⟩;refine⟨_,rfl,p,_,_,_,rfl,rfl,SqL.of hp,rfl,_,rfl,_,_,rfl,rfl,divG200 h1 h2,_,rfl,p,_,_,0,rfl,rfl,hp,rfl,?_⟩;exact⟨_,rfl,q _ _ (Int.emod_nonneg _ (by omega)) (Int.emod_lt_of_pos _ h1)⟩
noncomputable def cv:Option Nat→V
 | none=>.non
 | some c=>.int (c:Int)
noncomputable def Go (n:Nat) (F:Nat→Option Nat→List Gate→Prop):List Nat→Option Nat→List Gate→Prop
 | [w],cy,gs=>F w cy gs
 | [b,a],none,gs=>F (n+gs.length) (some (n+gs.length+1)) (gs ++ [.two 2 a b] ++ [.two 0 a b])
 | [b,a],some c,gs=>F (n+gs.length) (some (n+gs.length+2)) (gs ++ [.two 2 a b] ++ [.two 0 a b] ++ [.two 1 (n+gs.length+1) c])
 | [q,b,a],none,gs=>F (n+gs.length+2) (some (n+gs.length+4)) (gs ++ [.two 2 a b] ++ [.two 0 a b] ++ [.two 2 (n+gs.length) q] ++ [.two 0 (n+gs.length) q] ++ [.two 1 (n+gs.length+3) (n+gs.length+1)])
 | _,_,_=>False
theorem Go.stepN {n:Nat}{F:Nat→Option Nat→List Gate→Prop}{q2:List Nat}{b a:Nat}{gs:List Gate} (hq:q2.length≤1) (h:Go n F (q2 ++ [b] ++ [a]) none gs):Go n F (q2 ++ [n+gs.length]) (some (n+gs.length+1)) (gs ++ [.two 2 a b] ++ [.two 0 a b]):=by
 match q2,hq with
 | [],_=>exact h
 | [q],_ =>
  have l:(gs ++ [Gate.two 2 a b] ++ [Gate.two 0 a b]).length=gs.length+2:=by simp
  show F (n+(gs ++ [Gate.two 2 a b] ++ [Gate.two 0 a b]).length) (some (n+(gs ++ [Gate.two 2 a b] ++ [Gate.two 0 a b]).length+2)) _;rw[l];exact h
theorem Go.stepC {n:Nat}{F:Nat→Option Nat→List Gate→Prop}{q2:List Nat}{b a c:Nat}{gs:List Gate} (hq:q2.length≤1) (h:Go n F (q2 ++ [b] ++ [a]) (some c) gs):Go n F (q2 ++ [n+gs.length]) (some (n+gs.length+2)) (gs ++ [.two 2 a b] ++ [.two 0 a b] ++ [.two 1 (n+gs.length+1) c]):=by
 match q2,hq with
 | [],_=>exact h
 | [q],_=>exact h.elim
noncomputable def FinA (n:Nat) (gs:List Gate) (outs:List Nat) (ps:List (List Nat)) (w:Nat) (cy:Option Nat) (gs2:List Gate):Prop:=∃ rs2,gs2=gs++rs2∧Ad (n+gs.length) rs2 (outs ++ [w]) cy ps
theorem Go.start {n:Nat}{gs rs:List Gate}{outs:List Nat}{c:Option Nat}{ps:List (List Nat)}{pr0:List Nat} (h:Ad (n+gs.length) rs outs c ps) (hp:1≤pr0.length∧pr0.length≤2) (hx:∀ x∈pr0,x<n+gs.length):Go n (FinA n gs outs (ps ++ [pr0])) (pr0++c.toList) none (gs++rs):=by
 have l:n+(gs++rs).length=n+gs.length+rs.length:=by rw[List.length_append];omega
 match pr0,hp,c,h with
 | [x],_,none,h=>exact⟨rs,rfl,h.one (hx x (by simp))⟩
 | [x,y],_,none,h =>
  show FinA n gs outs _ (n+(gs++rs).length) (some (n+(gs++rs).length+1)) _;rw[l];exact⟨_,by simp[List.append_assoc],h.two (hx x (by simp)) (hx y (by simp))⟩
 | [x],_,some c,h =>
  show FinA n gs outs _ (n+(gs++rs).length) (some (n+(gs++rs).length+1)) _;rw[l];exact⟨_,by simp[List.append_assoc],h.twoC (hx x (by simp))⟩
 | [x,y],_,some c,h =>
  show FinA n gs outs _ (n+(gs++rs).length+2) (some (n+(gs++rs).length+4)) (gs++rs ++ [.two 2 c y] ++ [.two 0 c y] ++ [.two 2 (n+(gs++rs).length) x] ++ [.two 0 (n+(gs++rs).length) x] ++ [.two 1 (n+(gs++rs).length+3) (n+(gs++rs).length+1)]);rw[l];exact⟨_,by simp[List.append_assoc],h.three (hx x (by simp)) (hx y (by simp))⟩
noncomputable def spAdded9 (K:PySem.W.Frag):Sp:=fun vs H Q _=>∃ (x y r:Addr) (os ts:List Nat) (n:Nat) (gs:List Gate),vs=[.ref x,.ref y,.int (n:Int),.ref r]∧H x=some (.lst (natL os))∧H y=some (.lst (natL ts))∧RLo H r gs∧x≠r∧y≠r∧(∀ w∈os,w<n+gs.length)∧(∀ w∈ts,w<n+gs.length)∧os.length+ts.length≤100∧n+gs.length≤1000 ∧
 ∀ (D:Addr) (outs:List Nat) (c:Option Nat) (rs:List Gate) (H':Hp),H D=none→H' D=some (.lst (natL (outs++c.toList)))→RLo H' r (gs++rs)→Ad (n+gs.length) rs outs c ((List.range (max os.length ts.length)).map (prW os ts))→SameX r H H'→Q (.ref D) H'
theorem sc_Z19:FnScope ["_law_ones", "_law_others", "_law_ins", "_law_rows", "_law_outs", "_law_carry", "_law_k", "_law_pair", "_law_one", "_law_other", "_law_odd", "_law_both"] ["_law_ones", "_law_others", "_law_ins", "_law_rows"] (defScope s_Z19):=⟨rfl,rfl,rfl,by decide +kernel,rfl,by decide +kernel,by decide +kernel⟩
theorem nd_Z19_1:(["_law_wires", "_law_k"]:List Str).Nodup:=by decide +kernel
theorem ok_Z19 (T:Txt K mg):FnOk P w K mg base CX0 1 T.a_Z19 T.fd_Z19 ["_law_ones", "_law_others", "_law_ins", "_law_rows"] (spAdded9 K):=by
 refine T.d_Z19.F.ok sc_Z19 (fun vs H Q E h=>?_) (fun cdv A outer s H vs Q E hr h=>?_)
 ·obtain⟨x,y,r,os,ts,n,gs,rfl,hx,hy,hR,hxr,hyr,hos,hts,hl,hg,q⟩:=h;rfl
 ·obtain⟨x,y,r,os,ts,n,gs,rfl,hx,hy,hR,hxr,hyr,hos,hts,hl,hg,q⟩:=h;have hu:=hu_of hr;refine⟨_,(pss_cons (ps_set (i:=4) sc_Z19.nd rfl (Or.inl rfl) (pe_lst pa_nil))
   (pss_cons (ps_set (i:=5) sc_Z19.nd rfl (Or.inl rfl) pe_non)
   (pss_cons (ps_for PassesOwn.never rfl (pi_range1 rfl T.n_range (pa_cons (pe_callB (call_max2 rfl) (by rfl) T.n_max PyProof.Rows.boot_max (pa_cons (pe_callB call_len_seq (by rfl) T.n_len PySem.boot_len (pa_cons (pv 0) pa_nil)) (pa_cons (pe_callB call_len_seq (by rfl) T.n_len PySem.boot_len (pa_cons (pv 1) pa_nil)) pa_nil))) pa_nil)) (pg_name (i:=6) sc_Z19.nd rfl (Or.inr rfl))
    (pss_cons (ps_setC (i:=7) (g:=(gName 0)) ["_law_wires", "_law_k"] 1 [6] sc_Z19.nd rfl (Or.inl rfl) rfl (by exact CompSc.of (defScope s_Z19) ["_law_ones", "_law_others", "_law_ins", "_law_rows", "_law_outs", "_law_carry", "_law_k", "_law_pair", "_law_one", "_law_other", "_law_odd", "_law_both"] rfl rfl rfl (by decide +kernel) rfl (by decide +kernel) (by decide +kernel)) (pi_list (pe_lst (pa_cons (pv 0) (pa_cons (pv 1) pa_nil))))
    (fun cl C s₀ H₀ fp=>(pg_name (i:=0) nd_Z19_1 rfl (Or.inl rfl) (Or.inr rfl))) (fun cl C s₀ H₀ fp=>(pts_one (pt_cmpR op_lt (pv 1) (pe_callB (call_len_seqK K rfl) (by rfl) T.n_len PySem.boot_len (pa_cons (pv 0) pa_nil)) (nomark _)))) (fun cl C s₀ H₀ fp=>(pe_ix (ix_listK K rfl) (pv 0) (pv 1) (fun _ _=>rfl))))
   (pss_cons (ps_cut (ps_if (pt_cmpR op_notN (pv 5) pe_non (nomark _)) (pss_one (ps_expr (pe_bm PySem.F.plainAttrs_list PySem.F.slot_list_append PySem.F.type_list_append mt_append (pv 7) (pa_cons (pv 5) pa_nil)))) pss_nil))
   (pss_cons (ps_set (i:=5) sc_Z19.nd rfl (Or.inl rfl) pe_non)
   (pss_cons (ps_while PassesOwn.never (pt_cmpR op_gt (pe_callB call_len_seq (by rfl) T.n_len PySem.boot_len (pa_cons (pv 7) pa_nil)) pe_int (nomark _)) (pss_cons (ps_set (i:=8) sc_Z19.nd rfl (Or.inl rfl) (pe_bm0 PySem.F.plainAttrs_list PySem.F.slot_list_pop PySem.F.type_list_pop mt_pop (pv 7)))
   (pss_cons (ps_set (i:=9) sc_Z19.nd rfl (Or.inl rfl) (pe_bm0 PySem.F.plainAttrs_list PySem.F.slot_list_pop PySem.F.type_list_pop mt_pop (pv 7)))
   (pss_cons (ps_expr (pe_bm PySem.F.plainAttrs_list PySem.F.slot_list_append PySem.F.type_list_append mt_append (pv 3) (pa_cons (pe_tup (pa_cons pe_str (pa_cons (pv 8) (pa_cons (pv 9) pa_nil)))) pa_nil)))
   (pss_cons (ps_set (i:=10) sc_Z19.nd rfl (Or.inl rfl) (pe_op op_sub (pe_op op_add (pv 2) (pe_callB call_len_seq (by rfl) T.n_len PySem.boot_len (pa_cons (pv 3) pa_nil))) pe_int))
   (pss_cons (ps_expr (pe_bm PySem.F.plainAttrs_list PySem.F.slot_list_append PySem.F.type_list_append mt_append (pv 3) (pa_cons (pe_tup (pa_cons pe_str (pa_cons (pv 8) (pa_cons (pv 9) pa_nil)))) pa_nil)))
   (pss_cons (ps_set (i:=11) sc_Z19.nd rfl (Or.inl rfl) (pe_op op_sub (pe_op op_add (pv 2) (pe_callB call_len_seq (by rfl) T.n_len PySem.boot_len (pa_cons (pv 3) pa_nil))) pe_int))
   (pss_cons (ps_cut (ps_if (pt_cmpR op_notN (pv 5) pe_non (nomark _)) (pss_cons (ps_expr (pe_bm PySem.F.plainAttrs_list PySem.F.slot_list_append PySem.F.type_list_append mt_append (pv 3) (pa_cons (pe_tup (pa_cons pe_str (pa_cons (pv 11) (pa_cons (pv 5) pa_nil)))) pa_nil)))
   (pss_one (ps_set (i:=11) sc_Z19.nd rfl (Or.inl rfl) (pe_op op_sub (pe_op op_add (pv 2) (pe_callB call_len_seq (by rfl) T.n_len PySem.boot_len (pa_cons (pv 3) pa_nil))) pe_int)))) pss_nil))
   (pss_cons (ps_set (i:=5) sc_Z19.nd rfl (Or.inl rfl) (pv 11))
   (pss_one (ps_expr (pe_bm PySem.F.plainAttrs_list PySem.F.slot_list_append PySem.F.type_list_append mt_append (pv 7) (pa_cons (pv 10) pa_nil)))))))))))))
   (pss_one (ps_expr (pe_bm PySem.F.plainAttrs_list PySem.F.slot_list_append PySem.F.type_list_append mt_append (pv 4) (pa_cons (pe_ix ix_list (pv 7) pe_int (fun _ _=>rfl)) pa_nil)))))))))
   (pss_cons (ps_cut (ps_if (pt_cmpR op_notN (pv 5) pe_non (nomark _)) (pss_one (ps_expr (pe_bm PySem.F.plainAttrs_list PySem.F.slot_list_append PySem.F.type_list_append mt_append (pv 4) (pa_cons (pv 5) pa_nil)))) pss_nil))
   (pss_one (ps_ret (pv 4))))))),?_⟩
  refine⟨Nat.zero_le _,fun D hD=>?_⟩;have hDr:D≠r:=ne_of_none' hR.choose_spec.1 hD;have hDx:x≠D:=ne_of_none hx hD;have hDy:y≠D:=ne_of_none hy hD;have s0:Same H (upd H D (.lst [])):=Same.upd hD;have w0:upd H D (.lst []) D=some (.lst (natL [])):=upd_same;have hx0:=s0 _ _ hx;have hy0:=s0 _ _ hy;have hR0:=hR.keep s0;generalize upd H D (.lst [])=H0 at s0 w0 hx0 hy0 hR0;have emx:(if ((natL ts).length:Int) > ((natL os).length:Int) then ((natL ts).length:Int) else ((natL os).length:Int))=((max os.length ts.length:Nat):Int):=by
   rw[natL_len,natL_len];split <;> omega
  refine⟨_,rfl,x,_,rfl,.inl (SqL.of hx0),_,rfl,y,_,rfl,.inl (SqL.of hy0),_,_,rfl,((max os.length ts.length:Nat):Int),(by rw[emx]),by omega,by omega,?_⟩;refine for_range (n:=(((max os.length ts.length:Nat):Int)).toNat) (fun i σ G=>∃ (rs:List Gate) (outs:List Nat) (cy:Option Nat) (v6 v7 v8 v9 v10 v11:Option V),σ = [some (.ref x),some (.ref y),some (.int (n:Int)),some (.ref r),some (.ref D),some (cv cy),v6,v7,v8,v9,v10,v11]∧G x=some (.lst (natL os))∧G y=some (.lst (natL ts))∧RLo G r (gs++rs)∧G D=some (.lst (natL outs))∧Ad (n+gs.length) rs outs cy ((List.range i).map (prW os ts))∧SameX r H G)
   ⟨[],[],none,none,none,none,none,none,none,rfl,hx0,hy0,by rw[List.append_nil];exact hR0,w0,.nil,s0.x⟩ ?_ ?_
  ·rintro i σ G hi ⟨rs,outs,cy,v6,v7,v8,v9,v10,v11,rfl,k1,k2,k3,k4,hA,k11⟩;rw[Int.toNat_natCast] at hi;have hAf:=hA.fact;have hAl:=hAf.len;have hAp:=hAf.pl;rw[List.length_map,List.length_range] at hAp;obtain⟨gs',hgs'⟩:∃ gs',gs++rs=gs':=⟨_,rfl⟩;have hgl:gs'.length=gs.length+rs.length:=by rw[← hgs',List.length_append]
   rw[hgs'] at k3;refine⟨_,rfl,_,rfl,(by show 2≤sizeLine;decide),fun L hL=>?_⟩;have s1:Same G (upd G L (.lst [.ref x,.ref y])):=Same.upd hL;have wL:upd G L (.lst [.ref x,.ref y]) L=some (.lst [.ref x,.ref y]):=upd_same;have a1:=s1 _ _ k1;have a2:=s1 _ _ k2;have a3:=k3.keep s1;have a4:=s1 _ _ k4;have a5:=k11.trans s1.x;generalize upd G L (.lst [.ref x,.ref y])=G1 at s1 wL a1 a2 a3 a4 a5;clear k1 k2 k3 k4 k11;refine⟨L,rfl,⟨_,SqL.of wL⟩,?_⟩;have hzi:(0:Int)+(i:Int)=(i:Int):=Int.zero_add _;refine comp_list (K:=K) (a:=L) (xs:=[.ref x,.ref y]) (fun j ys σ G2=>∃ v0:Option V,σ = [v0,some (.int (0+(i:Int)))]∧ys=natL ([os,ts].take j |>.flatMap fun l=>l[i]?.toList)∧ys.length≤j∧G2=G1)
    ⟨none,rfl,rfl,Nat.le_refl _,rfl⟩ (fun j ys σ G2 hj ⟨_,_,_,e1,e2⟩=>⟨by rw[e2];exact SqL.of wL,e1⟩) (by show 2≤sizeLine;decide) ?_ ?_
   ·rintro j v ys σ G2 hj ⟨v0,rfl,rfl,hyl,rfl⟩;obtain⟨l,xa,rfl,hxa,hll,e⟩:∃ (l:List Nat) (xa:Addr),v = .ref xa∧G2 xa=some (.lst (natL l))∧l.length≤100∧[os,ts].take (j+1)=[os,ts].take j ++ [l]:=by
     match j,hj with
     | 0,hj=>cases hj;exact⟨os,x,rfl,a1,by omega,rfl⟩
     | 1,hj=>cases hj;exact⟨ts,y,rfl,a2,by omega,rfl⟩
    unfold gName;refine⟨_,rfl,_,rfl,xa,_,rfl,.inl (SqL.of hxa),_,_,rfl,rfl,_,rfl,ite2 (fun z=>?_) (fun z=>?_)⟩
    ·have hil:i<l.length:=by have:=of_decide_eq_true z;rw[natL_len] at this;omega
     have eg:l[i]? = some l[i]:=List.getElem?_eq_getElem hil;refine⟨_,rfl,_,rfl,xa,_,_,V.int ((l[i]:Nat):Int),rfl,rfl,SqL.of hxa,(by rw[hzi];exact atI_nat (by unfold natL;rw[List.getElem?_map,eg];rfl)),_,rfl,?_,by rw[List.length_append];show _+1≤_;omega,rfl⟩;rw[e,List.flatMap_append,natL_app];congr 1;simp[eg,natL]
    ·have hil:l.length≤i:=by
      rcases Nat.lt_or_ge i l.length with w | w
      ·exact absurd (decide_eq_true (by rw[natL_len];omega)) z
      ·exact w
     refine⟨_,rfl,?_,by omega,rfl⟩;rw[e,List.flatMap_append];simp[List.getElem?_eq_none hil]
   ·rintro ys σ G2 ⟨v0,rfl,rfl,_,rfl⟩ pp hpp;have epk:([os,ts].take ([V.ref x,V.ref y]).length).flatMap (fun l=>l[i]?.toList)=os[i]?.toList++ts[i]?.toList:=by simp
    rw[epk];have f1:∀ w∈os[i]?.toList++ts[i]?.toList,w<n+gs.length:=fun w hw=>by
     rcases List.mem_append.mp hw with z | z
     ·have:=hos w (List.mem_of_getElem? (Option.mem_toList.mp z));omega
     ·have:=hts w (List.mem_of_getElem? (Option.mem_toList.mp z));omega
    have one:∀ l:List Nat,l[i]?.toList.length+min i l.length=min (i+1) l.length:=fun l=>by
     rcases Nat.lt_or_ge i l.length with z | z
     ·rw[List.getElem?_eq_getElem z];show 1+_=_;omega
     ·rw[List.getElem?_eq_none z];show 0+_=_;omega
    have f3:1≤(os[i]?.toList++ts[i]?.toList).length∧(os[i]?.toList++ts[i]?.toList).length≤2:=by
     have:=one os
     have:=one ts
     rw[List.length_append];omega
    have hGo:=Go.start hA f3 f1;have ePs:(List.range i).map (prW os ts) ++ [os[i]?.toList++ts[i]?.toList]=(List.range (i+1)).map (prW os ts):=by rw[List.range_succ,List.map_append];rfl
    rw[ePs,hgs'] at hGo;generalize os[i]?.toList++ts[i]?.toList=pr0 at f1 f3 hGo;have s3:Same G2 (upd G2 pp (.lst (natL pr0))):=Same.upd hpp;have wp:upd G2 pp (.lst (natL pr0)) pp=some (.lst (natL pr0)):=upd_same;have hpx:x≠pp:=ne_of_none a1 hpp;have hpy:y≠pp:=ne_of_none a2 hpp;have hpr:r≠pp:=ne_of_none a3.choose_spec.1 hpp;have hpD:D≠pp:=ne_of_none a4 hpp;have hpH:H pp=none:=by
     cases e:H pp with
     | none=>rfl
     | some o=>have:=a5 pp o e hpr.symm;rw[hpp] at this;cases this
    have b1:=s3 _ _ a1;have b2:=s3 _ _ a2;have b3:=a3.keep s3;have b4:=s3 _ _ a4;have b5:=a5.trans s3.x;generalize upd G2 pp (.lst (natL pr0))=G3 at s3 wp b1 b2 b3 b4 b5;clear a1 a2 a3 a4 a5 s1 wL hL s3 hpp;refine⟨fun σ G4=>∃ pr:List Nat,σ = [some (.ref x),some (.ref y),some (.int (n:Int)),some (.ref r),some (.ref D),some (cv cy),some (.int (0+(i:Int))),some (.ref pp),v8,v9,v10,v11]∧G4 x=some (.lst (natL os))∧G4 y=some (.lst (natL ts))∧RLo G4 r gs'∧G4 D=some (.lst (natL outs))∧G4 pp=some (.lst (natL pr))∧pr0.length≤pr.length∧pr.length≤pr0.length+1∧Go n (FinA n gs outs ((List.range (i+1)).map (prW os ts))) pr none gs'∧SameX r H G4,?_,?_⟩
    ·cases cy with
     | none =>
      rw[Option.toList_none,List.append_nil] at hGo;exact⟨_,rfl,rfl,_,rfl,iteN (by decide) ⟨pr0,rfl,b1,b2,b3,b4,wp,by omega,by omega,hGo,b5⟩⟩
     | some c =>
      refine⟨_,rfl,rfl,_,rfl,iteY (by simp[cv]) ?_⟩;exact⟨_,rfl,.inl ⟨rfl,_,SqL.of wp⟩,_,rfl,pp,_,_,rfl,rfl,wp,(by rw[natL_len];exact small6 (by omega)),pr0 ++ [c],rfl,(by rw[upd_ne hpx];exact b1),(by rw[upd_ne hpy];exact b2),b3.wr wp hpr,(by rw[upd_ne hpD];exact b4),(by rw[upd_same,natL_app];rfl),(by rw[List.length_append];omega),(by rw[List.length_append];exact Nat.le_refl _),hGo,sx_wr b5 hpH⟩
    rintro σ G4 ⟨pr,rfl,c1,c2,c3,c4,c5,c6,c7,c8,c9⟩;clear b1 b2 b3 b4 b5 wp;obtain⟨W,hW⟩:∃ W:Nat→St→Hp→Prop,W=fun m σ G=>∃ (gs2:List Gate) (pr2:List Nat) (cy2:Option Nat) (v8 v9 v10 v11:Option V),σ = [some (.ref x),some (.ref y),some (.int (n:Int)),some (.ref r),some (.ref D),some (cv cy2),some (.int (0+(i:Int))),some (.ref pp),v8,v9,v10,v11]∧G x=some (.lst (natL os))∧G y=some (.lst (natL ts))∧RLo G r gs2∧G D=some (.lst (natL outs))∧G pp=some (.lst (natL pr2))∧pr2.length=m∧1≤m∧m≤3∧Go n (FinA n gs outs ((List.range (i+1)).map (prW os ts))) pr2 cy2 gs2∧gs2.length+3 * m≤gs'.length+9∧SameX r H G:=⟨_,rfl⟩
    refine⟨W,⟨pr.length,by rw[hW];exact⟨gs',pr,none,v8,v9,v10,v11,rfl,c1,c2,c3,c4,c5,rfl,by omega,by omega,c8,by omega,c9⟩⟩,?_⟩;have hgb:gs'.length≤gs.length+500:=by omega
    intro m σ G;rw[hW];rintro⟨gs2,pr2,cy2,v8,v9,v10,v11,rfl,d1,d2,d3,d4,d5,d6,d7,d8,hG,d14,d15⟩;refine⟨_,rfl,pp,_,rfl,.inl (SqL.of d5),_,_,rfl,rfl,_,rfl,ite2 (fun z=>?_) (fun z=>?_)⟩
    ·have hm2:2≤m:=by have:=of_decide_eq_true z;rw[natL_len] at this;omega
     refine⟨fun σ' G'=>∃ m',m'<m∧W m' σ' G',fun σ' G' h=>by rw[hW] at h;exact h,?_⟩;obtain⟨q2,b,a,rfl⟩:∃ q2 b a,pr2=q2 ++ [b] ++ [a]:=by
      rcases List.eq_nil_or_concat pr2 with e | ⟨l1,a,e⟩
      ·rw[e] at d6;simp at d6;omega
      ·rcases List.eq_nil_or_concat l1 with e1 | ⟨l2,b,e1⟩
       ·rw[e,e1] at d6;simp at d6;omega
       ·exact⟨l2,b,a,by rw[e,e1,List.concat_eq_append,List.concat_eq_append]⟩
     have hq2:q2.length+2=m:=by rw[← d6];simp
     refine⟨_,rfl,.inl ⟨rfl,_,SqL.of d5⟩,pp,_,_,rfl,rfl,d5,(natL_pop _ _).1,?_⟩;rw[(natL_pop _ _).2];refine⟨_,rfl,.inl ⟨rfl,_,SqL.of upd_same⟩,pp,_,_,rfl,rfl,upd_same,(natL_pop _ _).1,?_⟩;rw[(natL_pop _ _).2];have e3:RLo (upd (upd G pp (.lst (natL (q2 ++ [b])))) pp (.lst (natL q2))) r gs2:=(d3.wr d5 hpr).wr upd_same hpr;have e1:upd (upd G pp (.lst (natL (q2 ++ [b])))) pp (.lst (natL q2)) x=some (.lst (natL os)):=by rw[upd_ne hpx,upd_ne hpx];exact d1
     have e2:upd (upd G pp (.lst (natL (q2 ++ [b])))) pp (.lst (natL q2)) y=some (.lst (natL ts)):=by rw[upd_ne hpy,upd_ne hpy];exact d2
     have e4:upd (upd G pp (.lst (natL (q2 ++ [b])))) pp (.lst (natL q2)) D=some (.lst (natL outs)):=by rw[upd_ne hpD,upd_ne hpD];exact d4
     have e5:upd (upd G pp (.lst (natL (q2 ++ [b])))) pp (.lst (natL q2)) pp=some (.lst (natL q2)):=upd_same;have e6:SameX r H (upd (upd G pp (.lst (natL (q2 ++ [b])))) pp (.lst (natL q2))):=sx_wr (sx_wr d15 hpH) hpH;generalize upd (upd G pp (.lst (natL (q2 ++ [b])))) pp (.lst (natL q2))=G5 at e1 e2 e3 e4 e5 e6;obtain⟨ps,r1,r2⟩:=id e3;have hpl:=r2.length;refine⟨_,rfl,.inl ⟨rfl,_,SqL.of r1⟩,_,rfl,_,rfl,(by show 3≤sizeLine;decide),fun t ht=>?_⟩;obtain⟨g3,u6⟩:=row_push (g := .two 2 a b) (xs:=[.str "xor",.int (a:Int),.int (b:Int)]) rfl r1 r2 ht;refine⟨r,_,_,rfl,rfl,(by rw[upd_ne (ne_of_none r1 ht)];exact r1),(by rw[List.length_map];exact small6 (by omega)),?_⟩;have g1:=u6 _ _ e1 hxr;have g2:=u6 _ _ e2 hyr;have g4:=u6 _ _ e4 hDr;have g5:=u6 _ _ e5 hpr.symm;have g6:=e6.trans u6;clear u6;generalize upd (upd G5 t (.tup [.str "xor",.int (a:Int),.int (b:Int)])) r (.lst (ps.map V.ref ++ [.ref t]))=G6 at g1 g2 g3 g4 g5 g6 ⊢;clear e1 e2 e3 e4 e5 e6;obtain⟨ps1,r3,r4⟩:=id g3;have hpl1:=r4.length;have eo:(n:Int)+((ps1.map V.ref).length:Int)-1=((n+gs2.length:Nat):Int):=by rw[List.length_map,hpl1,List.length_append,List.length_singleton];omega
     refine⟨_,rfl,_,rfl,r,_,rfl,.inl (SqL.of r3),_,_,rfl,rfl,_,_,rfl,rfl,?_⟩;dsimp only;rw[eo];refine⟨_,rfl,.inl ⟨rfl,_,SqL.of r3⟩,_,rfl,_,rfl,(by show 3≤sizeLine;decide),fun t2 ht2=>?_⟩;obtain⟨m3,u6⟩:=row_push (g := .two 0 a b) (xs:=[.str "and",.int (a:Int),.int (b:Int)]) rfl r3 r4 ht2;refine⟨r,_,_,rfl,rfl,(by rw[upd_ne (ne_of_none r3 ht2)];exact r3),(by rw[List.length_map,hpl1,List.length_append,List.length_singleton];exact small6 (by omega)),?_⟩;have hl1:(gs2 ++ [Gate.two 2 a b]).length=gs2.length+1:=by rw[List.length_append];rfl
     have m1:=u6 _ _ g1 hxr;have m2:=u6 _ _ g2 hyr;have m4:=u6 _ _ g4 hDr;have m5:=u6 _ _ g5 hpr.symm;have m6:=g6.trans u6;clear u6;generalize upd (upd G6 t2 (.tup [.str "and",.int (a:Int),.int (b:Int)])) r (.lst (ps1.map V.ref ++ [.ref t2]))=G7 at m1 m2 m3 m4 m5 m6 ⊢;clear g1 g2 g3 g4 g5 g6;have hl2:(gs2 ++ [Gate.two 2 a b] ++ [Gate.two 0 a b]).length=gs2.length+2:=by rw[List.length_append,hl1];rfl
     obtain⟨ps2,r5,r6⟩:=id m3;have hpl2:=r6.length;have eb:(n:Int)+((ps2.map V.ref).length:Int)-1=((n+gs2.length+1:Nat):Int):=by rw[List.length_map,hpl2,hl2];omega
     refine⟨_,rfl,_,rfl,r,_,rfl,.inl (SqL.of r5),_,_,rfl,rfl,_,_,rfl,rfl,?_⟩;dsimp only;rw[eb];refine⟨fun σ' G'=>∃ (gs4:List Gate) (bo:Nat),σ'=[some (.ref x),some (.ref y),some (.int (n:Int)),some (.ref r),some (.ref D),some (cv cy2),some (.int (0+(i:Int))),some (.ref pp),some (.int (a:Int)),some (.int (b:Int)),some (.int ((n+gs2.length:Nat):Int)),some (.int (bo:Int))]∧G' x=some (.lst (natL os))∧G' y=some (.lst (natL ts))∧RLo G' r gs4∧G' D=some (.lst (natL outs))∧G' pp=some (.lst (natL q2))∧Go n (FinA n gs outs ((List.range (i+1)).map (prW os ts))) (q2 ++ [n+gs2.length]) (some bo) gs4∧gs4.length≤gs2.length+3∧SameX r H G',?_,?_⟩
     ·cases cy2 with
      | none=>exact⟨_,rfl,rfl,_,rfl,iteN (by decide) ⟨_,n+gs2.length+1,rfl,m1,m2,m3,m4,m5,hG.stepN (by omega),by omega,m6⟩⟩
      | some c =>
       refine⟨_,rfl,rfl,_,rfl,iteY (by simp[cv]) ?_⟩;refine⟨_,rfl,.inl ⟨rfl,_,SqL.of r5⟩,_,rfl,_,rfl,(by show 3≤sizeLine;decide),fun t3 ht3=>?_⟩;obtain⟨p3,u6⟩:=row_push (g := .two 1 (n+gs2.length+1) c) (xs:=[.str "or",.int ((n+gs2.length+1:Nat):Int),cv (some c)]) rfl r5 r6 ht3;refine⟨r,_,_,rfl,rfl,(by rw[upd_ne (ne_of_none r5 ht3)];exact r5),(by rw[List.length_map,hpl2,hl2];exact small6 (by omega)),?_⟩;have p1:=u6 _ _ m1 hxr;have p2:=u6 _ _ m2 hyr;have p4:=u6 _ _ m4 hDr;have p5:=u6 _ _ m5 hpr.symm;have p6:=m6.trans u6;clear u6;generalize upd (upd G7 t3 (.tup [.str "or",.int ((n+gs2.length+1:Nat):Int),cv (some c)])) r (.lst (ps2.map V.ref ++ [.ref t3]))=G8 at p1 p2 p3 p4 p5 p6 ⊢;have hl3:(gs2 ++ [Gate.two 2 a b] ++ [Gate.two 0 a b] ++ [Gate.two 1 (n+gs2.length+1) c]).length=gs2.length+3:=by rw[List.length_append,hl2];rfl
       obtain⟨ps3,r7,r8⟩:=id p3;have hpl3:=r8.length;have ec:(n:Int)+((ps3.map V.ref).length:Int)-1=((n+gs2.length+2:Nat):Int):=by rw[List.length_map,hpl3,hl3];omega
       refine⟨_,rfl,_,rfl,r,_,rfl,.inl (SqL.of r7),_,_,rfl,rfl,_,_,rfl,rfl,?_⟩;dsimp only;rw[ec];exact⟨_,n+gs2.length+2,rfl,p1,p2,p3,p4,p5,hG.stepC (by omega),by omega,p6⟩
     ·rintro σ' G' ⟨gs4,bo,rfl,h1,h2,h3,h4,h5,hG4,h8,h10⟩;refine⟨_,rfl,_,rfl,.inl ⟨rfl,_,SqL.of h5⟩,_,rfl,pp,_,_,rfl,rfl,h5,(by rw[natL_len];exact small6 (by omega)),m-1,by omega,?_⟩;rw[hW];exact⟨gs4,q2 ++ [n+gs2.length],some bo,_,_,_,_,rfl,(by rw[upd_ne hpx];exact h1),(by rw[upd_ne hpy];exact h2),h3.wr h5 hpr,(by rw[upd_ne hpD];exact h4),(by rw[upd_same,natL_app];rfl),(by rw[List.length_append,List.length_singleton];omega),by omega,by omega,hG4,by omega,sx_wr h10 hpH⟩
    ·have hm1:m=1:=by
      rcases Nat.lt_or_ge 1 m with w | w
      ·exact absurd (decide_eq_true (by rw[natL_len,d6];omega)) z
      ·omega
     obtain⟨w0,rfl⟩:∃ w0,pr2=[w0]:=by
      match pr2,d6 with
      | [w0],_=>exact⟨w0,rfl⟩
      | [],h=>simp at h;omega
      | _ :: _ :: _,h=>simp at h;omega
     obtain⟨rs2,rfl,hA2⟩:FinA n gs outs ((List.range (i+1)).map (prW os ts)) w0 cy2 gs2:=hG;exact⟨_,rfl,.inl ⟨rfl,_,SqL.of d4⟩,_,rfl,pp,_,_,V.int (w0:Int),rfl,rfl,SqL.of d5,rfl,D,_,_,rfl,rfl,d4,(by rw[natL_len];exact small6 (by omega)),rs2,outs ++ [w0],cy2,_,_,_,_,_,_,rfl,(by rw[upd_ne hDx];exact d1),(by rw[upd_ne hDy];exact d2),d3.wr d4 hDr.symm,(by rw[upd_same,natL_app];rfl),hA2,sx_wr d15 hD⟩
  ·rintro σ G ⟨rs,outs,cy,v6,v7,v8,v9,v10,v11,rfl,k1,k2,k3,k4,hA,k11⟩;rw[Int.toNat_natCast] at hA;have hAp:=hA.fact.pl;rw[List.length_map,List.length_range] at hAp;refine⟨fun σ G => σ = [some (.ref x),some (.ref y),some (.int (n:Int)),some (.ref r),some (.ref D),some (cv cy),v6,v7,v8,v9,v10,v11]∧RLo G r (gs++rs)∧G D=some (.lst (natL (outs++cy.toList)))∧SameX r H G,?_,?_⟩
   ·cases cy with
    | none=>exact⟨_,rfl,rfl,_,rfl,iteN (by decide) ⟨rfl,k3,by rw[Option.toList_none,List.append_nil];exact k4,k11⟩⟩
    | some c =>
     refine⟨_,rfl,rfl,_,rfl,iteY (by simp[cv]) ?_⟩;exact⟨_,rfl,.inl ⟨rfl,_,SqL.of k4⟩,_,rfl,D,_,_,rfl,rfl,k4,(by rw[natL_len];exact small6 (by omega)),rfl,k3.wr k4 hDr.symm,(by rw[upd_same,natL_app];rfl),sx_wr k11 hD⟩
   ·rintro σ G ⟨rfl,h1,h2,h5⟩;exact⟨_,rfl,q D outs cy rs G hD h2 h1 hA h5⟩
theorem natL_to (ws:List Nat) (k:Nat):cutV (natL ws) none (some (k:Int))=natL (ws.take k):=by
 unfold cutV natL;rw[HT.sIx_none,HT.sIx_nat,List.drop_zero,Nat.sub_zero,List.length_map,← List.map_take];congr 1;rcases Nat.le_total k ws.length with z | z
 ·rw[Nat.min_eq_left z]
 ·rw[Nat.min_eq_right z,List.take_length,List.take_of_length_le z]
theorem natL_from (ws:List Nat) (k:Nat):cutV (natL ws) (some (k:Int)) none=natL (ws.drop k):=by
 unfold cutV natL;rw[HT.sIx_none,HT.sIx_nat,List.length_map,← List.map_drop,← List.map_take,List.take_of_length_le (by rw[List.length_drop];omega)];congr 1;rcases Nat.le_total k ws.length with z | z
 ·rw[Nat.min_eq_left z]
 ·rw[Nat.min_eq_right z,List.drop_length,List.drop_eq_nil_of_le z]
noncomputable def Pr9 (n:Nat) (os ts:List Nat):Nat→List Gate→List Nat→Prop
 | 0,gs,ws=>gs=[]∧ws=[]
 | 1,gs,ws=>∃ b,ts[0]? = some b∧gs=andsW os b∧ws=partW n os.length
 | 2,gs,ws=>∃ b d rs outs c,ts[0]? = some b∧ts[1]? = some d∧gs=andsW os b++andsW os d++rs∧ws=(partW n os.length).take 1++(outs++c.toList)∧Ad (n+os.length+os.length) rs outs c ((List.range (max ((partW n os.length).drop 1).length (partW (n+os.length) os.length).length)).map (prW ((partW n os.length).drop 1) (partW (n+os.length) os.length)))
 | _,_,_=>False
theorem Pr9.next {n:Nat}{os ts:List Nat}{j b:Nat}{gs:List Gate}{ws:List Nat} (hj:j<2) (hb:ts[j]? = some b) (h:Pr9 n os ts j gs ws) {rs:List Gate}{outs:List Nat}{c:Option Nat}
  (hA:Ad (n+(gs++andsW os b).length) rs outs c ((List.range (max (ws.drop j).length (partW (n+gs.length) os.length).length)).map (prW (ws.drop j) (partW (n+gs.length) os.length)))):Pr9 n os ts (j+1) (gs++andsW os b++rs) (ws.take j++(outs++c.toList)):=by
 match j,hj,h with
 | 0,_,h =>
  obtain⟨rfl,rfl⟩:=h;rw[List.drop_nil] at hA;obtain⟨rfl,rfl,e⟩:=hA.single fun p hp=>by
   obtain⟨i,hi,rfl⟩:=List.mem_map.mp hp;have hi':=List.mem_range.mp hi;unfold prW;rw[partW_len] at hi'
   have:i<os.length:=by simpa using hi'
   rw[partW_at this];rfl
  rw[flat_pr,List.take_of_length_le (by omega)] at e;exact⟨b,hb,by simp,by simp[e]⟩
 | 1,_,h =>
  obtain⟨b0,hb0,rfl,rfl⟩:=h;have l:(andsW os b0).length=os.length:=List.length_map _;have l2:(andsW os b0++andsW os b).length=os.length+os.length:=by rw[List.length_append,l];congr 1;exact List.length_map _
  rw[l2,l,← Nat.add_assoc] at hA;exact⟨b0,b,rs,outs,c,hb0,hb,rfl,rfl,hA⟩
theorem Pr9.some {n:Nat}{os ts:List Nat}{j:Nat}{gs:List Gate}{ws:List Nat} (hl:1≤os.length∧os.length≤3) (h:Pr9 n os ts j gs ws):gs.length≤40∧ws.length≤10∧(∀ w∈ws,w<n+gs.length):=by
 match j,h with
 | 0,h=>obtain⟨rfl,rfl⟩:=h;exact⟨by decide,by decide,fun w h=>by cases h⟩
 | 1,h =>
  obtain⟨b,_,rfl,rfl⟩:=h;have l:(andsW os b).length=os.length:=List.length_map _;refine⟨by omega,by rw[partW_len];omega,fun w hw=>by rw[l];exact (partW_lt _ _ w hw).2⟩
 | 2,h =>
  obtain⟨b,d,rs,outs,c,_,_,rfl,rfl,hA⟩:=h;have F:=hA.fact;have l:∀ b,(andsW os b).length=os.length:=fun b=>List.length_map _
  have hp:=F.pl;rw[List.length_map,List.length_range,List.length_drop,partW_len,partW_len] at hp;have hc:c.toList.length≤1:=by cases c <;> simp
  have hrl:=F.len;refine⟨by simp only[List.length_append,l];omega,by simp only[List.length_append,List.length_take,partW_len];omega,fun w hw=>?_⟩;simp only[List.length_append,l];rcases List.mem_append.mp hw with z | z
  ·have:=(partW_lt _ _ w (List.mem_of_mem_take z)).2;omega
  ·rcases List.mem_append.mp z with z | z
   ·have:=F.outs w z;omega
   ·cases c with
    | none=>cases z
    | some c=>rw[List.mem_singleton.mp z];have:=F.car c rfl;omega
noncomputable def spProduct9 (K:PySem.W.Frag):Sp:=fun vs H Q _=>∃ (x y r:Addr) (os ts:List Nat) (n:Nat),vs=[.ref x,.ref y,.int (n:Int),.ref r]∧H x=some (.lst (natL os))∧H y=some (.lst (natL ts))∧RLo H r []∧x≠r∧y≠r∧(∀ w∈os,w<n)∧(∀ w∈ts,w<n)∧(1≤os.length∧os.length≤3)∧ts.length≤2∧n≤100 ∧
 ∀ (D:Addr) (ws:List Nat) (gs:List Gate) (H':Hp),H D=none→H' D=some (.lst (natL ws))→D≠r→RLo H' r gs→Pr9 n os ts ts.length gs ws→SameX r H H'→Q (.ref D) H'
theorem sc_Z22:FnScope ["_law_ones", "_law_others", "_law_ins", "_law_rows", "_law_outs", "_law_j", "_law_part", "_law_wire"] ["_law_ones", "_law_others", "_law_ins", "_law_rows"] (defScope s_Z22):=⟨rfl,rfl,rfl,by decide +kernel,rfl,by decide +kernel,by decide +kernel⟩
theorem ok_Z22 (T:Txt K mg):FnOk P w K mg base CX0 2 T.a_Z22 T.fd_Z22 ["_law_ones", "_law_others", "_law_ins", "_law_rows"] (spProduct9 K):=by
 refine T.d_Z22.F.ok sc_Z22 (fun vs H Q E h=>?_) (fun cdv A outer s H vs Q E hr h=>?_)
 ·obtain⟨x,y,r,os,ts,n,rfl,hx,hy,hR,hxr,hyr,hos,hts,hl1,hl2,hn,q⟩:=h;rfl
 ·obtain⟨x,y,r,os,ts,n,rfl,hx,hy,hR,hxr,hyr,hos,hts,hl1,hl2,hn,q⟩:=h;have hu:=hu_of hr;refine⟨_,(pss_cons (ps_set (i:=4) sc_Z22.nd rfl (Or.inl rfl) (pe_lst pa_nil))
   (pss_cons (ps_for PassesOwn.never rfl (pi_range1 rfl T.n_range (pa_cons (pe_callB call_len_seq (by rfl) T.n_len PySem.boot_len (pa_cons (pv 1) pa_nil)) pa_nil)) (pg_name (i:=5) sc_Z22.nd rfl (Or.inl rfl))
    (pss_cons (ps_set (i:=6) sc_Z22.nd rfl (Or.inl rfl) (pe_lst pa_nil))
   (pss_cons (ps_for PassesOwn.never rfl (pi_list (pv 0)) (pg_name (i:=7) sc_Z22.nd rfl (Or.inl rfl))
    (pss_cons (ps_expr (pe_bm PySem.F.plainAttrs_list PySem.F.slot_list_append PySem.F.type_list_append mt_append (pv 3) (pa_cons (pe_tup (pa_cons pe_str (pa_cons (pv 7) (pa_cons (pe_ix ix_list (pv 1) (pv 5) (fun _ _=>rfl)) pa_nil)))) pa_nil)))
   (pss_one (ps_expr (pe_bm PySem.F.plainAttrs_list PySem.F.slot_list_append PySem.F.type_list_append mt_append (pv 6) (pa_cons (pe_op op_sub (pe_op op_add (pv 2) (pe_callB call_len_seq (by rfl) T.n_len PySem.boot_len (pa_cons (pv 3) pa_nil))) pe_int) pa_nil))))))
   (pss_one (ps_set (i:=4) sc_Z22.nd rfl (Or.inl rfl) (pe_op op_cat (pe_slice sl_list (pv 4) po_none (po_some (pv 5))) (pe_call (ok_Z19 (P:=P) (w:=w) (base:=base) T) hr (by rfl) T.d_Z19.m T.d_Z19.F.kp T.d_Z19.b .nil pass0 (pa_cons (pe_slice sl_list (pv 4) (po_some (pv 5)) po_none) (pa_cons (pv 6) (pa_cons (pv 2) (pa_cons (pv 3) pa_nil)))))))))))
   (pss_one (ps_ret (pv 4))))),?_⟩
  refine⟨Nat.zero_le _,fun D hD=>?_⟩;have hDr:D≠r:=ne_of_none' hR.choose_spec.1 hD;have s0:Same H (upd H D (.lst [])):=Same.upd hD;have w0:upd H D (.lst []) D=some (.lst (natL [])):=upd_same;have hx0:=s0 _ _ hx;have hy0:=s0 _ _ hy;have hR0:=hR.keep s0;generalize upd H D (.lst [])=H0 at s0 w0 hx0 hy0 hR0;refine⟨_,rfl,y,_,rfl,.inl (SqL.of hy0),_,rfl,by omega,by rw[natL_len];omega,?_⟩;refine for_range (n:=(natL ts).length) (fun j σ G=>∃ (D:Addr) (gs:List Gate) (ws:List Nat) (v5 v6 v7:Option V),σ = [some (.ref x),some (.ref y),some (.int (n:Int)),some (.ref r),some (.ref D),v5,v6,v7]∧G x=some (.lst (natL os))∧G y=some (.lst (natL ts))∧RLo G r gs∧G D=some (.lst (natL ws))∧(D≠r∧H D=none)∧Pr9 n os ts j gs ws∧SameX r H G)
   ⟨D,[],[],none,none,none,rfl,hx0,hy0,hR0,w0,⟨hDr,hD⟩,⟨rfl,rfl⟩,s0.x⟩ ?_ ?_
  ·rintro j σ G hj ⟨D,gs,ws,v5,v6,v7,rfl,k1,k2,k3,k4,⟨hDr,hDn⟩,hP,k6⟩;rw[natL_len] at hj;have hPs:=hP.some hl1;obtain⟨b,hb⟩:∃ b,ts[j]? = some b:=⟨_,List.getElem?_eq_getElem hj⟩;have hbn:b<n:=hts b (List.mem_of_getElem? hb);have hat:atI (natL ts) (0+(j:Int))=some (V.int (b:Int)):=by rw[Int.zero_add];exact atI_nat (by unfold natL;rw[List.getElem?_map,hb];rfl)
   refine⟨Nat.zero_le _,fun pt hpt=>?_⟩;have s1:Same G (upd G pt (.lst [])):=Same.upd hpt;have wp:upd G pt (.lst []) pt=some (.lst (natL [])):=upd_same;have hpx:x≠pt:=ne_of_none k1 hpt;have hpy:y≠pt:=ne_of_none k2 hpt;have hpr:r≠pt:=ne_of_none k3.choose_spec.1 hpt;have hpD:D≠pt:=ne_of_none k4 hpt;have hpH:H pt=none:=by
    cases e:H pt with
    | none=>rfl
    | some o=>have:=k6 pt o e hpr.symm;rw[hpt] at this;cases this
   have a1:=s1 _ _ k1;have a2:=s1 _ _ k2;have a3:=k3.keep s1;have a4:=s1 _ _ k4;have a6:=k6.trans s1.x;generalize upd G pt (.lst [])=G1 at s1 wp a1 a2 a3 a4 a6 ⊢;clear k1 k2 k3 k4 k6 s1 hpt;refine⟨_,rfl,x,rfl,⟨_,SqL.of a1⟩,?_⟩;refine for_list (K:=K) (a:=x) (xs:=natL os) (fun i σ G=>∃ v7:Option V,σ = [some (.ref x),some (.ref y),some (.int (n:Int)),some (.ref r),some (.ref D),some (.int (0+(j:Int))),some (.ref pt),v7]∧G x=some (.lst (natL os))∧G y=some (.lst (natL ts))∧RLo G r (gs++andsW (os.take i) b)∧G D=some (.lst (natL ws))∧G pt=some (.lst (natL (partW (n+gs.length) i)))∧SameX r H G)
    ⟨_,rfl,a1,a2,by rw[List.take_zero];show RLo _ r (gs ++ []);rw[List.append_nil];exact a3,a4,wp,a6⟩ (fun i σ G _ ⟨_,_,e,_⟩=>SqL.of e) ?_ ?_
   ·rintro i v σ G hi ⟨v7,rfl,k1,k2,k3,k4,k5,k6⟩;obtain⟨w,hw,rfl⟩:∃ w,os[i]? = some w∧v = .int (w:Int):=by
     unfold natL at hi;rw[List.getElem?_map] at hi;cases e:os[i]? with
     | none=>rw[e] at hi;cases hi
     | some w=>rw[e] at hi;cases hi;exact⟨w,rfl,rfl⟩
    have hil:i<os.length:=(List.getElem?_eq_some_iff.mp hw).1;have hl9:(gs++andsW (os.take i) b).length=gs.length+i:=by rw[List.length_append];unfold andsW;rw[List.length_map,List.length_take];omega
    have et:gs++andsW (os.take (i+1)) b=gs++andsW (os.take i) b ++ [.two 0 w b]:=by
     unfold andsW;rw[List.take_add_one,hw,List.map_append,List.append_assoc];rfl
    rw[et];obtain⟨ps,r1,r2⟩:=id k3;have hpl:=r2.length;refine⟨_,rfl,.inl ⟨rfl,_,SqL.of r1⟩,_,rfl,_,rfl,_,rfl,y,_,_,V.int (b:Int),rfl,rfl,SqL.of k2,hat,(by show 3≤sizeLine;decide),fun t ht=>?_⟩;obtain⟨g3,u6⟩:=row_push (g := .two 0 w b) (xs:=[.str "and",.int (w:Int),.int (b:Int)]) rfl r1 r2 ht;refine⟨r,_,_,rfl,rfl,(by rw[upd_ne (ne_of_none r1 ht)];exact r1),(by rw[List.length_map];exact small6 (by omega)),?_⟩;have g1:=u6 _ _ k1 hxr;have g2:=u6 _ _ k2 hyr;have g4:=u6 _ _ k4 hDr;have g5:=u6 _ _ k5 hpr.symm;have g6:=k6.trans u6;clear u6;generalize upd (upd G t (.tup [.str "and",.int (w:Int),.int (b:Int)])) r (.lst (ps.map V.ref ++ [.ref t]))=G6 at g1 g2 g3 g4 g5 g6 ⊢;obtain⟨ps1,r3,r4⟩:=id g3;have hpl1:=r4.length;have eo:(n:Int)+((ps1.map V.ref).length:Int)-1=((n+gs.length+i:Nat):Int):=by rw[List.length_map,hpl1,List.length_append,hl9,List.length_singleton];omega
    refine⟨_,rfl,.inl ⟨rfl,_,SqL.of g5⟩,_,rfl,_,rfl,r,_,rfl,.inl (SqL.of r3),_,_,rfl,rfl,_,_,rfl,rfl,?_⟩;dsimp only;rw[eo];exact⟨pt,_,_,rfl,rfl,g5,(by rw[natL_len,partW_len];exact small6 (by omega)),_,rfl,(by rw[upd_ne hpx];exact g1),(by rw[upd_ne hpy];exact g2),g3.wr g5 hpr,(by rw[upd_ne hpD];exact g4),(by rw[upd_same,partW_succ,natL_app];rfl),sx_wr g6 hpH⟩
   rintro σ G ⟨v7,rfl,k1,k2,k3,k4,k5,k6⟩;rw[natL_len,List.take_length] at k3;rw[natL_len] at k5;have hl9:(gs++andsW os b).length=gs.length+os.length:=by rw[List.length_append];unfold andsW;rw[List.length_map]
   refine⟨_,rfl,_,rfl,_,rfl,D,_,rfl,SqL.of k4,fun d1 hd1=>?_⟩;have ecut:cutV (natL ws) none (some (0+(j:Int)))=natL (ws.take j):=by rw[Int.zero_add];exact natL_to ws j
   rw[ecut];have t1:Same G (upd G d1 (.lst (natL (ws.take j)))):=Same.upd hd1;have wd1:upd G d1 (.lst (natL (ws.take j))) d1=some (.lst (natL (ws.take j))):=upd_same;have hd1r:d1≠r:=ne_of_none' k3.choose_spec.1 hd1;have b1:=t1 _ _ k1;have b2:=t1 _ _ k2;have b3:=k3.keep t1;have b4:=t1 _ _ k4;have b5:=t1 _ _ k5;have b6:=k6.trans t1.x;generalize upd G d1 (.lst (natL (ws.take j)))=G1 at t1 wd1 b1 b2 b3 b4 b5 b6 ⊢;clear k1 k2 k3 k4 k5 k6 t1 hd1;refine⟨_,rfl,_,rfl,_,rfl,D,_,rfl,SqL.of b4,fun d2 hd2=>?_⟩;have ecut2:cutV (natL ws) (some (0+(j:Int))) none=natL (ws.drop j):=by rw[Int.zero_add];exact natL_from ws j
   rw[ecut2];have t1:Same G1 (upd G1 d2 (.lst (natL (ws.drop j)))):=Same.upd hd2;have wd2:upd G1 d2 (.lst (natL (ws.drop j))) d2=some (.lst (natL (ws.drop j))):=upd_same;have hd2r:d2≠r:=ne_of_none' b3.choose_spec.1 hd2;have c1:=t1 _ _ b1;have c2:=t1 _ _ b2;have c3:=b3.keep t1;have c5:=t1 _ _ b5;have c6:=b6.trans t1.x;have cd:=t1 _ _ wd1;generalize upd G1 d2 (.lst (natL (ws.drop j)))=G2 at t1 wd2 c1 c2 c3 c5 c6 cd ⊢;clear b1 b2 b3 b4 b5 b6 t1 hd2 wd1;refine⟨_,rfl,_,rfl,_,rfl,d2,pt,r,ws.drop j,partW (n+gs.length) os.length,n,gs++andsW os b,rfl,wd2,c5,c3,hd2r,hpr.symm,(fun w hw=>by have:=hPs.2.2 w (List.mem_of_mem_drop hw);rw[hl9];omega),(fun w hw=>by have:=(partW_lt _ _ w hw).2;rw[hl9];omega),(by rw[List.length_drop,partW_len];omega),(by rw[hl9];omega),fun E outs c rs H3 hE0 hE hR3 hA x3=>?_⟩;have f1:=x3 _ _ c1 hxr;have f2:=x3 _ _ c2 hyr;have fd:=x3 _ _ cd hd1r;have f6:=c6.trans x3;have hPn:=hP.next (by omega) hb hA;have hEr:E≠r:=ne_of_none' c3.choose_spec.1 hE0;refine⟨d1,E,_,_,rfl,rfl,fd,hE,(by rw[natL_len,natL_len];exact Nat.le_of_lt (small6 (by
    have hAp:=hA.fact.pl;rw[List.length_map,List.length_range,List.length_drop,partW_len] at hAp;have hc:c.toList.length≤1:=by cases c <;> simp
    rw[List.length_take,List.length_append];omega))),fun p hp=>?_⟩
   have t1:Same H3 (upd H3 p (.lst (natL (ws.take j)++natL (outs++c.toList)))):=Same.upd hp;have hpr':p≠r:=ne_of_none' hR3.choose_spec.1 hp;have hpn:H p=none:=by
    cases e:H p with
    | none=>rfl
    | some o=>have:=f6 p o e hpr';rw[hp] at this;cases this
   exact⟨p,_,_,_,_,_,rfl,t1 _ _ f1,t1 _ _ f2,hR3.keep t1,(by rw[upd_same,← natL_app]),⟨hpr',hpn⟩,hPn,f6.trans t1.x⟩
  ·rintro σ G ⟨D,gs,ws,v5,v6,v7,rfl,k1,k2,k3,k4,⟨hDr,hDn⟩,hP,k6⟩;rw[natL_len] at hP;exact⟨_,rfl,q D ws gs G hDn k4 hDr k3 hP k6⟩
noncomputable def spWalks9 (K:PySem.W.Frag):Sp:=fun vs H Q _=>∃ (n:Nat) (r c S o:Addr) (fv:V) (gs:List Gate) (ws:List Nat) (F:Fm) (m:List Addr) (rest:Int) (fl:List Terms) (last:Terms),vs=[.int (n:Int),.ref r,.ref c,.ref S]∧RLo H r gs∧H c=some (.tup [.ref o,.bl false,fv,.int rest])∧H o=some (.lst (natL ws))∧C9 n gs ws F∧IsF m H fv F∧0≤rest∧Jd n gs ws F fl last∧FLo H S fl∧∀ H',Same H H'→Q (.bl (decide (leftL rest last=[]))) H'
theorem sc_Z38:FnScope ["ins", "rows", "claim", "steps", "most"] ["ins", "rows", "claim", "steps"] (defScope s_Z38):=⟨rfl,rfl,rfl,by decide +kernel,rfl,by decide +kernel,by decide +kernel⟩
theorem nd_Z38_2:(["step"]:List Str).Nodup:=by decide +kernel
theorem ok_Z38 (T:Txt K mg):FnOk P w K mg base CX0 19 T.a_Z38 T.fd_Z38 ["ins", "rows", "claim", "steps"] (spWalks9 K):=by
 refine T.d_Z38.F.ok sc_Z38 (fun vs H Q E h=>?_) (fun cdv A outer s H vs Q E hr h=>?_)
 ·obtain⟨n,r,c,S,o,fv,gs,ws,F,m,rest,fl,last,rfl,hR,hc,ho,C,hI,hr0,J,hS,q⟩:=h;rfl
 ·obtain⟨n,r,c,S,o,fv,gs,ws,F,m,rest,fl,last,rfl,hR,hc,ho,C,hI,hr0,J,hS,q⟩:=h;have hu:=hu_of hr;refine⟨_,(pss_cons (ps_set (i:=4) sc_Z38.nd rfl (Or.inl rfl) (pe_maxD rfl (by rfl) T.n_max (pa_cons (pe_comp (g:=(gName 0)) ["step"] 1 [] rfl (by exact CompSc.of (defScope s_Z38) ["ins", "rows", "claim", "steps", "most"] rfl rfl rfl (by decide +kernel) rfl (by decide +kernel) (by decide +kernel)) (pi_list (pv 3))
    (fun cl C s₀ H₀ fp=>(pg_name (i:=0) nd_Z38_2 rfl (Or.inl rfl) (Or.inr rfl))) (fun cl C s₀ H₀ fp=>pts_nil) (fun cl C s₀ H₀ fp=>(pe_callB (call_len_seqK K rfl) (by rfl) T.n_len PySem.boot_len (pa_cons (pv 0) pa_nil)))) pa_nil) pe_int))
   (pss_cons (ps_if (pt_cmpR (op_neD (hu60 hr)) (pe_call (ok_Z34 (P:=P) (w:=w) (base:=base) T) (hr.mono (by decide)) (by rfl) T.d_Z34.m T.d_Z34.F.kp T.d_Z34.b .nil pass0 (pa_cons (pv 0) (pa_cons (pv 1) (pa_cons (pe_call (ok_Z3 (P:=P) (w:=w) (base:=base) T) hr (by rfl) T.d_Z3.m T.d_Z3.F.kp T.d_Z3.b .nil pass0 (pa_cons (pv 2) pa_nil)) (pa_cons (pv 4) pa_nil))))) (pv 3) (nomark _)) (pss_one (ps_ret pe_bl)) pss_nil)
   (pss_one (ps_ret (pe_cmpR op_isN (pe_call (ok_Z5 (P:=P) (w:=w) (base:=base) T) (hr.mono (by decide)) (by rfl) T.d_Z5.m T.d_Z5.F.kp T.d_Z5.b .nil pass0 (pa_cons (pe_ix ix_list (pv 3) (pe_un un_neg pe_int) (fun _ _=>rfl)) (pa_cons (pe_ix ix_tup (pv 2) pe_int (fun _ _=>rfl)) pa_nil))) pe_non (nomark _)))))),?_⟩
  have hall:=C.all;have hins:=C.ins;have hfll:=J.len;obtain⟨qs,hq1,hq2⟩:=id hS;have hql:=hq2.length;refine⟨_,rfl,S,rfl,⟨_,SqL.of hq1⟩,?_⟩;refine comp_list (K:=K) (a:=S) (xs:=qs.map V.ref) (fun i ys σ G=>∃ v0:Option V,σ = [v0]∧ys=((fl.take i).map fun l=>(l.length:Int)).map V.int∧G=H)
   ⟨none,rfl,rfl,rfl⟩ (fun i ys σ G hi ⟨_,_,e1,e2⟩=>⟨by rw[e2];exact SqL.of hq1,by rw[e1,List.length_map,List.length_map,List.length_take];omega⟩) (by rw[List.length_map];exact Nat.le_of_lt (small6 (by omega))) ?_ ?_
  ·rintro i y ys σ G hi ⟨v0,rfl,rfl,rfl⟩;obtain⟨p,hpi,rfl⟩:=at_ref hi;obtain⟨l,hl1,ls,hl2,hl3⟩:∃ l,fl[i]? = some l∧TLo G p l:=by
    obtain⟨l,hl⟩:∃ l,fl[i]? = some l:=⟨_,List.getElem?_eq_getElem (by have:=(List.getElem?_eq_some_iff.mp hpi).1;omega)⟩;obtain⟨p',h1,h2⟩:=hq2.at hl;rw[hpi] at h1;cases h1;exact⟨l,hl,h2⟩
   unfold gName;refine tt ?_;refine⟨_,rfl,p,_,rfl,.inl (SqL.of hl2),some (.ref p),rfl,?_,rfl⟩;rw[List.take_add_one,hl1,List.map_append,List.map_append,List.length_map,hl3.length];rfl
  rintro ys σ G ⟨v0,rfl,rfl,rfl⟩ L hL;have eL:fl.take (qs.map V.ref).length=fl:=by rw[List.length_map,hql,List.take_length]
  rw[eL];have s1:Same G (upd G L (.lst ((fl.map fun l=>(l.length:Int)).map V.int))):=Same.upd hL;have w1:upd G L (.lst ((fl.map fun l=>(l.length:Int)).map V.int)) L=some (.lst ((fl.map fun l=>(l.length:Int)).map V.int)):=upd_same;generalize upd G L (.lst ((fl.map fun l=>(l.length:Int)).map V.int))=H1 at s1 w1 ⊢;refine⟨L,_,0,rfl,SqL.of w1,rfl,fun mx hmx=>?_⟩;have hmx0:0≤mx∧mx≤20000:=by
   rcases hmx with ⟨_,e⟩ | ⟨e,_⟩
   ·omega
   ·obtain⟨l,hl,e⟩:=List.mem_map.mp e
    have:=J.few l hl;omega
  obtain⟨mo,rfl⟩:∃ mo:Nat,mx=(mo:Int):=⟨_,(Int.toNat_of_nonneg hmx0.1).symm⟩;have hmo:∀ l∈fl,l.length≤mo:=fun l hl=>by
   rcases hmx with ⟨e,_⟩ | ⟨_,e⟩
   ·have:=List.map_eq_nil_iff.mp e
    rw[this] at hl;cases hl
   ·have:=e _ (List.mem_map.mpr ⟨l,hl,rfl⟩);omega
  have hc1:=s1 _ _ hc;have ho1:=s1 _ _ ho;refine⟨_,rfl,_,rfl,_,rfl,c,o,fv,ws,false,F,m,.int rest,n,n+gs.length,rfl,hc1,ho1,C.few,C.outs,hI.keep s1,C.ok,C.lv,C.lb,hins,by omega,hall,fun b f' H2 hb hT2 hF2 hk2 hl2 hw2 s2=>?_⟩;obtain⟨f,hf,hk,hw,hst⟩:=J.all;have ef:f'=f:=forms_eq hF2 hf hk2 hk fun x=>by rw[hw2,hw]
  subst ef;refine⟨_,rfl,n,r,b,gs,f',mo,rfl,(hR.keep s1).keep s2,hT2,hF2,hk,hall,C.rows,by omega,by omega,fun D fw H3 hD hD3 hwl hws' hwst hDn s3=>?_⟩;have S3:=s1.trans (s2.trans s3);refine⟨_,rfl,dFL fw,dFL fl,hD3.is,(hS.keep S3).is,dep_forms fw,_,rfl,?_⟩;have hpre:∀ k,k<fw.length→k<fl.length→fw[k]? = fl[k]? := hwst.same hst;have hfw:fw=fl:=by
   rcases hwl with e | ⟨e,g,hg,hgm⟩
   ·exact List.ext_getElem? fun k=>by
     rcases Nat.lt_or_ge k fw.length with z | z
     ·exact hpre k z (by omega)
     ·rw[List.getElem?_eq_none z,List.getElem?_eq_none (by omega)]
   ·have h0:0<fw.length:=by
     have:=hwst.first
     exact (List.getElem?_eq_some_iff.mp this).1
    rw[hpre _ (by omega) (by omega)] at hg
    have:=hmo g (List.mem_of_getElem? hg)
    omega
  refine iteN (by show ¬ (!deq (dFL fw) (dFL fl))=true;rw[hfw,deq_self];decide) ?_;obtain⟨pl,hpl1,hpl2⟩:=(hq2.keep S3).at J.last;have hll:=J.few last (List.mem_of_getElem? J.last);refine⟨_,rfl,_,rfl,S,_,_,V.ref pl,rfl,rfl,SqL.of (S3 _ _ hq1),at_last (i:=gs.length) (by rw[List.length_map,hql,hfll]) (by rw[List.getElem?_map,hpl1];rfl),_,rfl,c,_,_,_,rfl,rfl,SqT.of (S3 _ _ hc),rfl,pl,last,rest,rfl,hr0,hpl2,by omega,fun H4 s4=>⟨fun e=>?_,fun t s e=>?_⟩⟩
  ·have h1:=q H4 (S3.trans s4);rw[e] at h1;refine⟨rfl,?_⟩;simpa using h1
  ·have h1:=q H4 (S3.trans s4);rw[e] at h1;refine⟨rfl,?_⟩;simpa using h1
theorem Jd.right {n:Nat}{gs:List Gate}{ws:List Nat}{F:Fm}{fl:List Terms}{last:Terms}{rest:Int} (J:Jd n gs ws F fl last) (hz:∀ x:Nat,(wordAt ws false (allG n gs x)-F.at (allG n gs x)) % rest=0):leftL rest last=[]:=by
 rw[left_rest];cases e:restL rest last with
 | nil=>rfl
 | cons u l =>
  have h0:=rest_at J.form.1 (fun t ht=>(J.form.2 t ht).1) e;have hu:u∈last:=(List.mem_filter.mp (by show u∈restL rest last;rw[e];exact List.mem_cons_self ..)).1;obtain⟨x,hx⟩:=Int.eq_ofNat_of_zero_le (J.form.2 u hu).1;rw[hx,J.at',hz] at h0;exact absurd rfl h0
noncomputable def spRight9 (K:PySem.W.Frag):Sp:=fun vs H Q _=>∃ (n:Nat) (r c o:Addr) (fv:V) (gs:List Gate) (ws:List Nat) (F:Fm) (m:List Addr) (rest:Int),vs=[.int (n:Int),.ref r,.ref c]∧RLo H r gs∧H c=some (.tup [.ref o,.bl false,fv,.int rest])∧H o=some (.lst (natL ws))∧C9 n gs ws F∧IsF m H fv F∧0≤rest∧(∀ x:Nat,(wordAt ws false (allG n gs x)-F.at (allG n gs x)) % rest=0)∧∀ H',Same H H'→Q (.bl true) H'
theorem sc_Z24:FnScope ["_law_ins", "_law_rows", "_law_claim", "_law_found", "_law_one", "_law_number"] ["_law_ins", "_law_rows", "_law_claim"] (defScope s_Z24):=⟨rfl,rfl,rfl,by decide +kernel,rfl,by decide +kernel,by decide +kernel⟩
theorem ok_Z24 (T:Txt K mg):FnOk P w K mg base CX0 20 T.a_Z24 T.fd_Z24 ["_law_ins", "_law_rows", "_law_claim"] (spRight9 K):=by
 refine T.d_Z24.F.ok sc_Z24 (fun vs H Q E h=>?_) (fun cdv A outer s H vs Q E hr h=>?_)
 ·obtain⟨n,r,c,o,fv,gs,ws,F,m,rest,rfl,hR,hc,ho,C,hI,hr0,hz,q⟩:=h;rfl
 ·obtain⟨n,r,c,o,fv,gs,ws,F,m,rest,rfl,hR,hc,ho,C,hI,hr0,hz,q⟩:=h;have hu:=hu_of hr;refine⟨_,(pss_cons (ps_set (i:=3) sc_Z24.nd rfl (Or.inl rfl) (pe_call (ok_Z18 (P:=P) (w:=w) (base:=base) T) hr (by rfl) T.d_Z18.m T.d_Z18.F.kp T.d_Z18.b .nil pass0 (pa_cons (pv 0) (pa_cons (pv 1) (pa_cons (pv 2) pa_nil)))))
   (pss_cons (ps_if (PW.pt (pw_or (pt_not (pt_val (pe_callB call_isinstance (by rfl) T.n_isinstance PyProof.Rows.boot_isinstance (pa_cons (pv 3) (pa_cons (pe_bltn (v := .ty "tuple") (by rfl) T.n_tuple PyProof.Rows.boot_tuple rfl) pa_nil))) (fun _=>rfl))) (pw_or (pt_cmpR op_ne (pe_callB call_len_seq (by rfl) T.n_len PySem.boot_len (pa_cons (pv 3) pa_nil)) pe_int (nomark _)) (pw_or (pt_cmpR op_ne (pe_ix ix_tup (pv 3) pe_int (fun _ _=>rfl)) pe_str (nomark _)) (pw_or1 (pt_cmpR op_ne (pe_callB call_len_seq (by rfl) T.n_len PySem.boot_len (pa_cons (pe_ix ix_tup (pv 3) pe_int (fun _ _=>rfl)) pa_nil)) (pe_op op_add (pe_callB call_len_seq (by rfl) T.n_len PySem.boot_len (pa_cons (pv 1) pa_nil)) pe_int) (nomark _))))))) (pss_one (ps_ret pe_bl)) pss_nil)
   (pss_cons (ps_for PassesOwn.never rfl (pi_list (pe_ix ix_list (pe_ix ix_tup (pv 3) pe_int (fun _ _=>rfl)) (pe_un un_neg pe_int) (fun _ _=>rfl))) (pg_tup (n:=2) rfl (pgs_cons (pg_name (i:=4) sc_Z24.nd rfl (Or.inl rfl)) (pgs_cons (pg_name (i:=5) sc_Z24.nd rfl (Or.inl rfl)) pgs_nil)))
    (pss_one (ps_if (PW.pt (pw_or (pt_cmpR op_eq (pe_ix ix_tup (pv 2) pe_int (fun _ _=>rfl)) pe_int (nomark _)) (pw_or1 (pt_cmpR op_ne (pe_op op_mod (pv 5) (pe_ix ix_tup (pv 2) pe_int (fun _ _=>rfl))) pe_int (nomark _))))) (pss_one (ps_ret pe_bl)) pss_nil)))
   (pss_one (ps_ret (pe_call (ok_Z38 (P:=P) (w:=w) (base:=base) T) hr (by rfl) T.d_Z38.m T.d_Z38.F.kp T.d_Z38.b .nil pass0 (pa_cons (pv 0) (pa_cons (pv 1) (pa_cons (pv 2) (pa_cons (pe_ix ix_tup (pv 3) pe_int (fun _ _=>rfl)) pa_nil)))))))))),?_⟩
  have hall:=C.all;refine⟨_,rfl,_,rfl,_,rfl,n,r,c,o,fv,gs,ws,F,m,rest,rfl,hR,hc,ho,C,hI,hr0,fun t fl last H1 J s1 O=>?_⟩;have hz':=J.right hz;rcases O with ⟨_,D,ht,hD⟩ | ⟨u,l,e,_⟩
  rotate_left
  ·rw[hz'] at e;cases e
  obtain⟨qs,hq1,hq2⟩:=id hD;have hql:=hq2.length;have hfll:=J.len;obtain⟨ps,hr1,hr2⟩:=hR.keep s1;have hpl:=hr2.length;refine⟨_,rfl,_,_,_,true,rfl,.tup ht,kit_same,true,rfl,iteF ?_⟩;refine⟨_,rfl,t,_,rfl,.inr (SqT.of ht),rfl,_,rfl,iteN (by simp) ?_⟩;refine⟨_,rfl,t,_,_,_,rfl,rfl,SqT.of ht,rfl,rfl,_,rfl,iteN (by simp) ?_⟩;refine⟨_,rfl,t,_,_,_,rfl,rfl,SqT.of ht,rfl,D,_,rfl,.inl (SqL.of hq1),_,rfl,r,_,rfl,.inl (SqL.of hr1),_,_,rfl,rfl,rfl,_,rfl,iteN (by
   show ¬ (!decide (V.int ((qs.map V.ref).length:Int)=V.int (((ps.map V.ref).length:Int)+1)))=true;rw[List.length_map,List.length_map,hql,hpl,hfll];simp) ?_⟩
  obtain⟨pl,hpl1,hpl2⟩:=hq2.at J.last;obtain⟨ls,hls1,hls2⟩:=id hpl2;have hlsl:=hls2.length;refine⟨_,rfl,t,_,_,_,rfl,rfl,SqT.of ht,rfl,_,rfl,D,_,_,V.ref pl,rfl,rfl,SqL.of hq1,at_last (i:=gs.length) (by rw[List.length_map,hql,hfll]) (by rw[List.getElem?_map,hpl1];rfl),pl,rfl,⟨_,SqL.of hls1⟩,?_⟩;have hc1:=s1 _ _ hc;refine for_list (K:=K) (a:=pl) (xs:=ls.map V.ref) (fun i σ G=>∃ v4 v5:Option V,σ = [some (.int (n:Int)),some (.ref r),some (.ref c),some (.ref t),v4,v5]∧G=H1)
   ⟨_,_,rfl,rfl⟩ (fun i σ G _ ⟨_,_,_,e⟩=>by rw[e];exact SqL.of hls1) ?_ ?_
  ·rintro i v σ G hi ⟨v4,v5,rfl,rfl⟩;obtain⟨a,hai,rfl⟩:=at_ref hi;obtain⟨u,hu1,hu2⟩:=hls2.at' hai;have hum:u∈last:=List.mem_of_getElem? hu1;have hn0:nought u.2 rest=true:=by
    cases e:nought u.2 rest with
    | true=>rfl
    | false =>
     have:u∈leftL rest last:=List.mem_filter.mpr ⟨hum,by rw[e];rfl⟩
     rw[hz'] at this;cases this
   have hnz:=J.form.1.nz u hum;have hrest:rest≠0:=fun z=>by
    unfold nought at hn0;rw[if_pos z] at hn0;exact hnz (of_decide_eq_true hn0)
   have hmod:u.2 % rest=0:=by
    rw[nought_mod] at hn0;exact of_decide_eq_true hn0
   refine⟨a,_,rfl,SqT.of hu2,rfl,_,_,rfl,_,_,rfl,rfl,?_⟩;refine⟨_,rfl,c,_,_,_,rfl,rfl,SqT.of hc1,rfl,rfl,_,rfl,iteN (by intro z;have h:=of_decide_eq_true z;injection h;omega) ?_⟩;refine⟨_,rfl,_,rfl,c,_,_,_,rfl,rfl,SqT.of hc1,rfl,_,_,rfl,rfl,(by omega),rfl,_,rfl,iteN ?_ ⟨_,_,rfl,rfl⟩⟩;show ¬ (!decide (V.int (u.2 % rest)=V.int 0))=true;rw[hmod];decide
  ·rintro σ G ⟨v4,v5,rfl,rfl⟩;refine⟨_,rfl,_,rfl,_,rfl,_,rfl,t,_,_,_,rfl,rfl,SqT.of ht,rfl,n,r,c,D,o,fv,gs,ws,F,m,rest,fl,last,rfl,hR.keep s1,hc1,s1 _ _ ho,C,hI.keep s1,hr0,J,hD,fun H2 s2=>?_⟩;rw[decide_eq_true hz'];exact q H2 (s1.trans s2)
end
end My
namespace My
open PySem L2 OF
seal L2.PS L2.PSs L2.PE L2.PT L2.PA L2.PI L2.PG L2.PW L2.PO L2.PTs
section
variable {P:Program}{w:World}{K:PySem.W.Frag}{mg:Str→Option Value}{base:Heap}
theorem all_gate {n:Nat}{gs:List Gate} (hok:RowsOk n gs) {i:Nat}{t:Gate} (ht:gs[i]? = some t) (x:Nat):bt (allG n gs x) (n+i)=gval (allG n gs x) t:=by
 have hi:i<gs.length:=(List.getElem?_eq_some_iff.mp ht).1;obtain⟨r1,r2⟩:=run_wire (bitsL_bit x n) (bitsL_len x n) hok ht;have hg:=hok i t ht;rw[all_bit hok (by omega),r2];have e:∀ k,k<n+i→getN (runG (bitsL x n) (gs.take i)) k=bt (allG n gs x) k:=fun k hk=>by rw[all_bit hok (by omega),r1 k hk]
 cases t with
 | fix b=>rfl
 | no a=>show 1-getN _ a=1-bt _ a;rw[e a hg]
 | two w a b =>
  obtain⟨_,h1,h2⟩:w<3∧a<n+i∧b<n+i:=hg;show say w (getN _ a) (getN _ b)=say w (bt _ a) (bt _ b);rw[e a h1,e b h2]
structure B9 (n:Nat) (gs:List Gate) (ws:List Nat) (F:Fm):Prop where
 rows:RowsOk n gs
 outs:∀ w∈ws,w<n+gs.length
 all:n+gs.length≤80
 few:ws.length≤16
 ok:F.ok n
 lv:F.lv≤2
 lb:F.lb≤50
 gd:∀ (m:Nat) (E:Nat→Int),Sz n 2 E→Gd n 20000 gs.reverse (fun g=>Ws p2 (ws.take m) g-(F.at g+E g))
 val:∀ x,Ws p2 ws (allG n gs x)=F.at (allG n gs x)
theorem word_p2 (ws:List Nat) (g:Nat):wordAt ws false g=Ws p2 ws g:=wordAt_false ws g
theorem add9 {n:Nat}{xs ys:List Nat}{rs:List Gate}{outs:List Nat}{c:Option Nat} (hn:n≤16) (hx:∀ x∈xs,x<n) (hy:∀ y∈ys,y<n) (lx:xs.length≤8) (ly:ys.length≤8) (hA:Ad n rs outs c ((List.range (max xs.length ys.length)).map (prW xs ys))) :
  B9 n rs (outs++c.toList) (.bin 0 (.word xs false) (.word ys false)):=by
 have F:=hA.fact;have hp:=F.pl;rw[List.length_map,List.length_range] at hp;have hl:=F.len;have hc:c.toList.length≤1:=by cases c <;> simp
 refine⟨F.rows,fun w hw=>?_,by omega,by rw[List.length_append];omega,⟨by decide,⟨by omega,hx⟩,⟨by omega,hy⟩⟩,Nat.le_refl _,?_,fun m E hE=>?_,fun x=>?_⟩
 ·rcases List.mem_append.mp hw with z | z
  ·exact F.outs w z
  ·cases c with
   | none=>cases z
   | some c=>rw[List.mem_singleton.mp z];exact F.car c rfl
 ·show (xs.length+1)+(ys.length+1)≤50;omega
 ·have hs:Sz n (xs.length+ys.length+2) fun g=>(Ws p2 xs g+Ws p2 ys g+E g) * (-1):=((((Ws_sz xs p2 hx).add (Ws_sz ys p2 hy)).add hE).mul (-1)).up (Nat.le_refl _) (by omega)
  have:=hA.word (n:=n) (r0:=[]) (cut2 m) rfl hs (by omega) (by omega) fun W h=>h
  rw[List.append_nil] at this;refine this.congr fun g=>?_
  have e:(Fm.bin 0 (.word xs false) (.word ys false)).at g=Ws p2 xs g+Ws p2 ys g:=by
   show wordAt xs false g+wordAt ys false g=_;rw[word_p2,word_p2]
  show (Ws p2 xs g+Ws p2 ys g+E g) * (-1)+Ws (cut2 m) _ g=_;rw[e,Ws_take];show _+Ws (fun j=>if j<m then p2 j else 0) _ g=_;omega
 ·have hv:=hA.val (allG n rs x) fun i t ht=>all_gate F.rows ht x
  rw[prW_sum,List.take_of_length_le (by omega),List.take_of_length_le (by omega)] at hv;show _=wordAt xs false _+wordAt ys false _;rw[Ws_opt,word_p2,word_p2,← hv];omega
theorem RowsOk.cat {n:Nat}{a r:List Gate} (h:RowsOk n a) (k:RowsOk (n+a.length) r):RowsOk n (a++r):=fun i g hg=>by
 rcases Nat.lt_or_ge i a.length with z | z
 ·rw[List.getElem?_append_left z] at hg;exact h i g hg
 ·rw[List.getElem?_append_right z] at hg
  have:=k _ g hg
  rwa [Nat.add_assoc,Nat.add_sub_cancel' z] at this
theorem ands_mem {n b:Nat}{xs:List Nat} (hx:∀ x∈xs,x<n) (hb:b<n):∀ t∈andsW xs b,∃ x y,t = .two 0 x y∧x<n∧y<n:=fun t ht=>by
 obtain⟨x,hxm,rfl⟩:=List.mem_map.mp ht;exact⟨x,b,rfl,hx x hxm,hb⟩
theorem ands_ok {n m:Nat}{gs:List Gate} (h:∀ t∈gs,∃ x y,t = .two 0 x y∧x<n∧y<n) (hm:n≤m):RowsOk m gs:=fun i g hg=>by
 obtain⟨x,y,rfl,h1,h2⟩:=h g (List.mem_of_getElem? hg);exact⟨by decide,by omega,by omega⟩
theorem ands_gd {n B:Nat}{gs:List Gate} (h:∀ t∈gs,∃ x y,t = .two 0 x y∧x<n∧y<n) {W:Nat→Int} (hW:Sz (n+gs.length) B W):Gd n B gs.reverse W:=by
 refine Gd.ands (fun k t ht=>?_) (by rw[List.length_reverse];exact hW);obtain⟨x,y,e,h1,h2⟩:=h t (List.mem_reverse.mp (List.mem_of_getElem? ht));exact⟨x,y,e,by omega,by omega⟩
theorem w1 (b g:Nat):Ws p2 [b] g=bt g b:=by
 show p2 0 * bt g b+0=bt g b
 have:p2 0=1:=rfl
 rw[this];omega
theorem w2 (b d g:Nat):Ws p2 [b,d] g=bt g b+2 * bt g d:=by
 show p2 0 * bt g b+(p2 1 * bt g d+0)=bt g b+2 * bt g d;have h0:p2 0=1:=rfl;have h1:p2 1=2:=rfl;rw[h0,h1];omega
theorem mul9 {n:Nat}{xs ys:List Nat}{gs:List Gate}{ws:List Nat} (hn:n≤16) (hx:∀ x∈xs,x<n) (hy:∀ y∈ys,y<n) (lx:1≤xs.length∧xs.length≤3) (ly:1≤ys.length∧ys.length≤2) (h:Pr9 n xs ys ys.length gs ws) :
  B9 n gs ws (.bin 2 (.word xs false) (.word ys false)):=by
 have S:=h.some lx;have hF:∀ g,(Fm.bin 2 (.word xs false) (.word ys false)).at g=Ws p2 xs g * Ws p2 ys g:=fun g=>by
  show wordAt xs false g * wordAt ys false g=_;rw[word_p2,word_p2]
 have hok:(Fm.bin 2 (.word xs false) (.word ys false)).ok n:=⟨by decide,⟨by omega,hx⟩,⟨by omega,hy⟩⟩;have hlb:(Fm.bin 2 (.word xs false) (.word ys false)).lb≤50:=by
  show (xs.length+1) * (ys.length+1)≤50
  have:(xs.length+1) * (ys.length+1)≤4 * 3:=Nat.mul_le_mul (by omega) (by omega)
  omega
 match ys,ly,hy,h,hF,hok,hlb with
 | [b],_,hy,h,hF,hok,hlb =>
  obtain⟨b',e,rfl,rfl⟩:∃ b',[b][0]? = some b'∧gs=andsW xs b'∧ws=partW n xs.length:=h;cases e;have hb:=hy b (by simp);have hm:=ands_mem hx hb;have l:(andsW xs b).length=xs.length:=List.length_map _;have hrow:=ands_ok hm (Nat.le_refl _);refine⟨hrow,S.2.2,by omega,by omega,hok,Nat.le_refl _,hlb,fun m E hE=>?_,fun x=>?_⟩
  ·have hs:Sz n (xs.length+2) fun g=>(Ws p2 xs g * bt g b+E g) * (-1):=((((Ws_sz xs p2 hx).bit hb).add hE).mul (-1)).up (Nat.le_refl _) (by omega)
   have hw:Sz (n+(andsW xs b).length) (partW n xs.length).length (Ws (cut2 m) (partW n xs.length)):=Ws_sz _ _ S.2.2;refine (ands_gd hm (((hs.up (by omega) (Nat.le_refl _)).add hw).up (Nat.le_refl _) (by rw[partW_len];omega))).congr fun g=>?_
   rw[hF,w1,Ws_take];show (Ws p2 xs g * bt g b+E g) * (-1)+Ws (fun j=>if j<m then p2 j else 0) _ g=_;omega
  ·rw[hF,w1,part_val p2 xs fun i y hi=>?_]
   have:=all_gate hrow (i:=i) (t := .two 0 y b) (by unfold andsW;rw[List.getElem?_map,hi];rfl) x
   rw[this,gv_and]
 | [b,d],_,hy,h,hF,hok,hlb =>
  obtain⟨b',d',rs,outs,c,e1,e2,rfl,rfl,hA⟩:∃ b' d' rs outs c,[b,d][0]? = some b'∧[b,d][1]? = some d'∧gs=andsW xs b'++andsW xs d'++rs∧ws=(partW n xs.length).take 1++(outs++c.toList)∧Ad (n+xs.length+xs.length) rs outs c ((List.range (max ((partW n xs.length).drop 1).length (partW (n+xs.length) xs.length).length)).map (prW ((partW n xs.length).drop 1) (partW (n+xs.length) xs.length))):=h;cases e1;cases e2;have hb:=hy b (by simp);have hd:=hy d (by simp);have l:∀ b,(andsW xs b).length=xs.length:=fun b=>List.length_map _
  have hm:∀ t∈andsW xs b++andsW xs d,∃ x y,t = .two 0 x y∧x<n∧y<n:=fun t ht=>(List.mem_append.mp ht).elim (ands_mem hx hb t) (ands_mem hx hd t)
  have l2:(andsW xs b++andsW xs d).length=xs.length+xs.length:=by rw[List.length_append,l,l]
  have A:=hA.fact;have hp:=A.pl;rw[List.length_map,List.length_range,List.length_drop,partW_len,partW_len] at hp;have hrow:RowsOk n (andsW xs b++andsW xs d++rs):=(ands_ok hm (Nat.le_refl _)).cat (by rw[l2,← Nat.add_assoc];exact A.rows);obtain⟨k,hk⟩:∃ k,xs.length=k+1:=⟨xs.length-1,by omega⟩;have ep:(partW n xs.length).take 1=[n]:=by
   have h0:=partW_at (a:=n) (show 0<xs.length by omega);rw[List.take_one,List.head?_eq_getElem?,h0];rfl
  have ed:partW n xs.length=[n]++(partW n xs.length).drop 1:=by rw[← ep,List.take_append_drop]
  refine⟨hrow,S.2.2,by omega,by omega,hok,Nat.le_refl _,hlb,fun m E hE=>?_,fun x=>?_⟩
  ·have hs:Sz (n+xs.length+xs.length) (xs.length+xs.length+2+1) fun g=>(Ws p2 xs g * bt g b+Ws p2 xs g * bt g d * 2+E g) * (-1)+cut2 m 0 * bt g n :=
    ((((((Ws_sz xs p2 hx).bit hb).add (((Ws_sz xs p2 hx).bit hd).mul 2)).add hE).mul (-1)).up (by omega) (Nat.le_refl _)).add (Sz.wire (by omega) _)
   have hg:=hA.word (n:=n) (r0:=(andsW xs b++andsW xs d).reverse) (fun j=>cut2 m (j+1)) (by rw[List.length_reverse,l2,Nat.add_assoc]) hs (by omega) (by omega) fun W hW=>ands_gd hm (by rw[l2,← Nat.add_assoc];exact hW)
   rw[← List.reverse_append] at hg;refine hg.congr fun g=>?_
   rw[hF,w2,Ws_take,ep];show (Ws p2 xs g * bt g b+Ws p2 xs g * bt g d * 2+E g) * (-1)+cut2 m 0 * bt g n+Ws (fun j=>cut2 m (j+1)) (outs++c.toList) g=cut2 m 0 * bt g n+Ws (fun j=>cut2 m (j+1)) (outs++c.toList) g-_;rw[Int.mul_add,Int.mul_comm 2 (bt g d),← Int.mul_assoc];omega
  ·have hgt:∀ i t,rs[i]? = some t→bt (allG n (andsW xs b++andsW xs d++rs) x) (n+xs.length+xs.length+i)=gval (allG n (andsW xs b++andsW xs d++rs) x) t:=fun i t ht=>by
    have:=all_gate hrow (i:=xs.length+xs.length+i) (t:=t) (by rw[List.getElem?_append_right (by omega),l2,Nat.add_sub_cancel_left];exact ht) x
    rwa [← Nat.add_assoc,← Nat.add_assoc] at this
   have hv:=hA.val _ hgt;have v0:=part_val (G:=allG n (andsW xs b++andsW xs d++rs) x) (a:=n) (b:=b) p2 xs fun i y hi=>by
    have hil:=(List.getElem?_eq_some_iff.mp hi).1
    have:=all_gate hrow (i:=i) (t := .two 0 y b) (by rw[List.append_assoc,List.getElem?_append_left (by rw[l];exact hil)];unfold andsW;rw[List.getElem?_map,hi];rfl) x
    rw[this,gv_and]
   have v1:=part_val (G:=allG n (andsW xs b++andsW xs d++rs) x) (a:=n+xs.length) (b:=d) p2 xs fun i y hi=>by
    have hil:=(List.getElem?_eq_some_iff.mp hi).1
    have:=all_gate hrow (i:=xs.length+i) (t := .two 0 y d) (by rw[List.append_assoc,List.getElem?_append_right (by rw[l];omega),l,Nat.add_sub_cancel_left,List.getElem?_append_left (by rw[l];exact hil)];unfold andsW;rw[List.getElem?_map,hi];rfl) x
    rw[Nat.add_assoc,this,gv_and]
   generalize allG n (andsW xs b++andsW xs d++rs) x=G at hv v0 v1 ⊢;rw[prW_sum,List.take_of_length_le (by omega),List.take_of_length_le (by omega),v1] at hv;have e0:Ws p2 (partW n xs.length) G=bt G n+2 * Ws p2 ((partW n xs.length).drop 1) G:=by
    conv=>lhs;rw[ed]
    show p2 0 * bt G n+Ws (fun j=>p2 (j+1)) ((partW n xs.length).drop 1) G=_;rw[show (fun j=>p2 (j+1))=fun j=>2 * p2 j from funext p2_succ,Ws_mul]
    have:p2 0=1:=rfl
    rw[this];omega
   rw[v0] at e0;rw[hF,w2,ep];show p2 0 * bt G n+Ws (fun j=>p2 (j+1)) (outs++c.toList) G=_;rw[show (fun j=>p2 (j+1))=fun j=>2 * p2 j from funext p2_succ,Ws_mul,Ws_opt];have h0:p2 0=1:=rfl;have e9:Ws p2 xs G * (bt G b+2 * bt G d)=Ws p2 xs G * bt G b+2 * (Ws p2 xs G * bt G d):=by rw[Int.mul_add,Int.mul_left_comm]
   rw[h0,e9];omega
theorem Ws_split (g:Nat):∀ (k:Nat) (ws:List Nat) (s:Nat→Int),Ws s ws g=Ws s (ws.take k) g+Ws (fun j=>s (k+j)) (ws.drop k) g
 | 0,ws,s=>by
  rw[List.take_zero,List.drop_zero];show _=0+Ws (fun j=>s (0+j)) ws g;have e:(fun j=>s (0+j))=s:=funext fun j=>by rw[Nat.zero_add]
  rw[e];omega
 | k+1,[],s=>by rw[List.take_nil,List.drop_nil];rfl
 | k+1,x :: r,s=>by
  show s 0 * bt g x+Ws (fun j=>s (j+1)) r g=s 0 * bt g x+Ws (fun j=>s (j+1)) (r.take k) g+Ws (fun j=>s (k+1+j)) (r.drop k) g;rw[Ws_split g k r fun j=>s (j+1)];have e:(fun j=>s (k+j+1))=fun j=>s (k+1+j):=funext fun j=>by rw[Nat.add_right_comm]
  rw[e];omega
theorem few_mod (ws:List Nat) (k g:Nat):(Ws p2 (ws.take k) g-Ws p2 ws g) % (2^k)=0:=by
 have e:(fun j=>p2 (k+j))=fun j=>(2^k:Int) * p2 j:=funext fun j=>by unfold p2;rw[Int.pow_add]
 rw[Ws_split g k ws,e,Ws_mul];exact Int.emod_eq_zero_of_dvd ⟨-(Ws p2 (ws.drop k) g),by rw[Int.mul_neg];omega⟩
theorem Jd.wrong {n:Nat}{gs:List Gate}{ws:List Nat}{F:Fm}{fl:List Terms}{last:Terms} (J:Jd n gs ws F fl last) {x0:Nat} (h1:wordAt ws false (allG n gs x0)-F.at (allG n gs x0)≠0) (h2:∀ x:Nat,wordAt ws false (allG n gs x)-F.at (allG n gs x)≠0→x0≤x):∃ u l,leftL 0 last=u :: l∧u.1=(x0:Int):=by
 rw[left_rest];rw[← J.at'] at h1;cases e:restL 0 last with
 | nil =>
  have:=rest_none e (x0:Int)
  rw[Int.emod_zero] at this;exact absurd this h1
 | cons u l =>
  refine⟨u,l,rfl,?_⟩;have hk:∀ t∈last,0≤t.1:=fun t ht=>(J.form.2 t ht).1
  have h0:=rest_at J.form.1 hk e;have hu:u∈last:=(List.mem_filter.mp (by show u∈restL 0 last;rw[e];exact List.mem_cons_self ..)).1;obtain⟨x,hx⟩:=Int.eq_ofNat_of_zero_le (hk u hu);rw[Int.emod_zero,hx,J.at'] at h0;have h3:=h2 x h0;rcases Nat.lt_or_ge x0 x with z | z
  ·have h4:=rest_below J.form.1 hk e (g:=(x0:Int)) (Int.natCast_nonneg _) (by rw[hx];exact Int.ofNat_lt.mpr z);rw[Int.emod_zero] at h4;exact absurd h4 h1
  ·rw[hx];congr 1;omega
theorem all_in {n:Nat}{gs:List Gate} (hok:RowsOk n gs) {i:Nat} (hi:i<n) (x:Nat):bt (allG n gs x) i=bt x i:=by
 unfold bt;have h:=congrArg (fun y:Nat=>y.testBit i) (all_low hok x);simp only[Nat.testBit_mod_two_pow,decide_eq_true hi,Bool.true_and] at h;rw[h]
theorem both_bits {i j x:Nat} (h1:bt x i=1) (h2:bt x j=1) : 2^i ||| 2^j≤x:=by
  have t1 : x.testBit i = true := by unfold bt at h1; split at h1; · assumption
                                     · cases h1
  have t2 : x.testBit j = true := by unfold bt at h2; split at h2; · assumption
                                     · cases h2
  have e:(2^i ||| 2^j) &&& x=2^i ||| 2^j:=Nat.eq_of_testBit_eq fun k=>by
    rw [Nat.testBit_and,Nat.testBit_or,Nat.testBit_two_pow,Nat.testBit_two_pow];by_cases a:i=k
    · subst a;rw [t1];simp
    · by_cases b:j=k
      · subst b;rw [t2];simp
      · simp [a,b]
  rw [← e];exact Nat.and_le_right
theorem bits_both (i j:Nat):bt (2^i ||| 2^j) i=1∧bt (2^i ||| 2^j) j=1:=by
 unfold bt;constructor
 ·rw[if_pos (by rw[Nat.testBit_or,Nat.testBit_two_pow];simp)]
 ·rw[if_pos (by rw[Nat.testBit_or,Nat.testBit_two_pow,Nat.testBit_two_pow];simp)]
theorem isWrong {H:Hp}{t:Addr}{x:Int} (h:H t=some (.tup [.str "wrong",.int x])):Is H (.ref t) (.tup [.str "wrong",.int x]):=⟨t,_,rfl,h,_,_,rfl,rfl,_,_,rfl,rfl,rfl⟩
theorem B9.claim {n:Nat}{gs:List Gate}{ws:List Nat}{F F':Fm} (h:B9 n gs ws F) (hn:n≤16) (m:Nat) {E:Nat→Int} (hE:Sz n 2 E) (e:∀ g,F'.at g=F.at g+E g) (ok:F'.ok n) (lv:F'.lv≤10) (lb:F'.lb≤100):C9 n gs (ws.take m) F' :=
 ⟨by rw[List.length_take];have:=h.few;omega,fun w hw=>h.outs w (List.mem_of_mem_take hw),ok,lv,lb,hn,h.all,h.rows,(h.gd m E hE).congr fun g=>by rw[word_p2,e]⟩
theorem sc_law:FnScope ["_law_script", "_law_purse_here", "_law_ins", "_law_most", "_law_ones", "_law_others", "_law_rows", "_law_outs", "_law_formula", "_law_few_outs", "_law_found", "_law_i", "_law_j", "_law_more"] ["_law_script"] (defScope s_law):=⟨rfl,rfl,rfl,by decide +kernel,rfl,by decide +kernel,by decide +kernel⟩
theorem nd_law_1:(["_law_k", "_law_purse_here", "_law_ins"]:List Str).Nodup:=by decide +kernel
theorem nd_law_2:(["_law_k", "_law_purse_here", "_law_ins"]:List Str).Nodup:=by decide +kernel
theorem ok_law {f:Addr}{fd:FuncData} (F:Fun K "law" "law" s_law f fd) (T:Txt K mg):FnOk P w K mg base CX0 21 f fd ["_law_script"] (spLaw K):=by
 refine F.ok sc_law (fun vs H Q E h=>?_) (fun cdv A outer s H vs Q E hr h=>?_)
 ·obtain⟨a,ns,rfl,hS,hlen,hbits,kq⟩:=h;rfl
 ·obtain⟨a,ns,rfl,hS,hlen,hbits,kq⟩:=h;have hu:=hu_of hr;refine⟨_,(pss_cons (ps_set (i:=1) sc_law.nd rfl (Or.inr rfl) (pe_call (ok_Z23 (P:=P) (w:=w) (base:=base) T) (hr.mono (by decide)) (by rfl) T.d_Z23.m T.d_Z23.F.kp T.d_Z23.b .nil pass0 (pa_cons (pv 0) pa_nil)))
   (pss_cons (ps_set (i:=2) sc_law.nd rfl (Or.inr rfl) (pe_op op_add pe_int (pe_call (ok_Z20 (P:=P) (w:=w) (base:=base) T) (hr.mono (by decide)) (by rfl) T.d_Z20.m T.d_Z20.F.kp T.d_Z20.b .nil pass0 (pa_cons (pv 1) (pa_cons pe_int pa_nil)))))
   (pss_cons (ps_set (i:=3) sc_law.nd rfl (Or.inl rfl) (pe_ix ix_list (pe_lst (pa_cons (pe_lst (pa_cons pe_int (pa_cons pe_int pa_nil))) (pa_cons (pe_lst (pa_cons pe_int (pa_cons pe_int pa_nil))) pa_nil))) (pe_call (ok_Z20 (P:=P) (w:=w) (base:=base) T) (hr.mono (by decide)) (by rfl) T.d_Z20.m T.d_Z20.F.kp T.d_Z20.b .nil pass0 (pa_cons (pv 1) (pa_cons pe_int pa_nil))) (fun _ _=>rfl)))
   (pss_cons (ps_setC (i:=4) (g:=(gName 0)) ["_law_k", "_law_purse_here", "_law_ins"] 1 [1,2] sc_law.nd rfl (Or.inl rfl) rfl (by exact CompSc.of (defScope s_law) ["_law_script", "_law_purse_here", "_law_ins", "_law_most", "_law_ones", "_law_others", "_law_rows", "_law_outs", "_law_formula", "_law_few_outs", "_law_found", "_law_i", "_law_j", "_law_more"] rfl rfl rfl (by decide +kernel) rfl (by decide +kernel) (by decide +kernel)) (pi_range1 rfl T.n_range (pa_cons (pe_op op_add pe_int (pe_call (ok_Z20 (P:=P) (w:=w) (base:=base) T) (hr.mono (by decide)) (by rfl) T.d_Z20.m T.d_Z20.F.kp T.d_Z20.b .nil pass0 (pa_cons (pv 1) (pa_cons (pe_ix ix_list (pv 3) pe_int (fun _ _=>rfl)) pa_nil)))) pa_nil))
    (fun cl C s₀ H₀ fp=>(pg_name (i:=0) nd_law_1 rfl (Or.inl rfl) (Or.inr rfl))) (fun cl C s₀ H₀ fp=>pts_nil) (fun cl C s₀ H₀ fp=>(pe_call (ok_Z20 (P:=P) (w:=w) (base:=base) T) (hr.mono (by decide)) (by rfl) T.d_Z20.m T.d_Z20.F.kp T.d_Z20.b .nil pass0 (pa_cons (pv 1) (pa_cons (pv 2) pa_nil)))))
   (pss_cons (ps_setC (i:=5) (g:=(gName 0)) ["_law_k", "_law_purse_here", "_law_ins"] 1 [1,2] sc_law.nd rfl (Or.inl rfl) rfl (by exact CompSc.of (defScope s_law) ["_law_script", "_law_purse_here", "_law_ins", "_law_most", "_law_ones", "_law_others", "_law_rows", "_law_outs", "_law_formula", "_law_few_outs", "_law_found", "_law_i", "_law_j", "_law_more"] rfl rfl rfl (by decide +kernel) rfl (by decide +kernel) (by decide +kernel)) (pi_range1 rfl T.n_range (pa_cons (pe_op op_add pe_int (pe_call (ok_Z20 (P:=P) (w:=w) (base:=base) T) (hr.mono (by decide)) (by rfl) T.d_Z20.m T.d_Z20.F.kp T.d_Z20.b .nil pass0 (pa_cons (pv 1) (pa_cons (pe_ix ix_list (pv 3) pe_int (fun _ _=>rfl)) pa_nil)))) pa_nil))
    (fun cl C s₀ H₀ fp=>(pg_name (i:=0) nd_law_2 rfl (Or.inl rfl) (Or.inr rfl))) (fun cl C s₀ H₀ fp=>pts_nil) (fun cl C s₀ H₀ fp=>(pe_call (ok_Z20 (P:=P) (w:=w) (base:=base) T) (hr.mono (by decide)) (by rfl) T.d_Z20.m T.d_Z20.F.kp T.d_Z20.b .nil pass0 (pa_cons (pv 1) (pa_cons (pv 2) pa_nil)))))
   (pss_cons (ps_set (i:=6) sc_law.nd rfl (Or.inl rfl) (pe_lst pa_nil))
   (pss_cons (ps_cut (ps_if (pt_cmpR op_eq (pe_ix ix_list (pv 3) pe_int (fun _ _=>rfl)) pe_int (nomark _)) (pss_cons (ps_set (i:=7) sc_law.nd rfl (Or.inl rfl) (pe_call (ok_Z22 (P:=P) (w:=w) (base:=base) T) (hr.mono (by decide)) (by rfl) T.d_Z22.m T.d_Z22.F.kp T.d_Z22.b .nil pass0 (pa_cons (pv 4) (pa_cons (pv 5) (pa_cons (pv 2) (pa_cons (pv 6) pa_nil))))))
   (pss_one (ps_set (i:=8) sc_law.nd rfl (Or.inl rfl) (pe_tup (pa_cons pe_str (pa_cons (pe_tup (pa_cons pe_str (pa_cons (pv 4) (pa_cons pe_bl pa_nil)))) (pa_cons (pe_tup (pa_cons pe_str (pa_cons (pv 5) (pa_cons pe_bl pa_nil)))) pa_nil))))))) (pss_cons (ps_set (i:=7) sc_law.nd rfl (Or.inl rfl) (pe_call (ok_Z19 (P:=P) (w:=w) (base:=base) T) (hr.mono (by decide)) (by rfl) T.d_Z19.m T.d_Z19.F.kp T.d_Z19.b .nil pass0 (pa_cons (pv 4) (pa_cons (pv 5) (pa_cons (pv 2) (pa_cons (pv 6) pa_nil))))))
   (pss_one (ps_set (i:=8) sc_law.nd rfl (Or.inl rfl) (pe_tup (pa_cons pe_str (pa_cons (pe_tup (pa_cons pe_str (pa_cons (pv 4) (pa_cons pe_bl pa_nil)))) (pa_cons (pe_tup (pa_cons pe_str (pa_cons (pv 5) (pa_cons pe_bl pa_nil)))) pa_nil)))))))))
   (pss_cons (ps_if (pt_not (pt_val (pe_call (ok_Z24 (P:=P) (w:=w) (base:=base) T) hr (by rfl) T.d_Z24.m T.d_Z24.F.kp T.d_Z24.b .nil pass0 (pa_cons (pv 2) (pa_cons (pv 6) (pa_cons (pe_tup (pa_cons (pv 7) (pa_cons pe_bl (pa_cons (pv 8) (pa_cons pe_int pa_nil))))) pa_nil)))) (fun _=>rfl))) (pss_one (ps_ret pe_bl)) pss_nil)
   (pss_cons (ps_set (i:=9) sc_law.nd rfl (Or.inl rfl) (pe_slice sl_list (pv 7) po_none (po_some (pe_call (ok_Z20 (P:=P) (w:=w) (base:=base) T) (hr.mono (by decide)) (by rfl) T.d_Z20.m T.d_Z20.F.kp T.d_Z20.b .nil pass0 (pa_cons (pv 1) (pa_cons (pe_op op_add (pe_callB call_len_seq (by rfl) T.n_len PySem.boot_len (pa_cons (pv 7) pa_nil)) pe_int) pa_nil))))))
   (pss_cons (ps_if (pt_not (pt_val (pe_call (ok_Z24 (P:=P) (w:=w) (base:=base) T) hr (by rfl) T.d_Z24.m T.d_Z24.F.kp T.d_Z24.b .nil pass0 (pa_cons (pv 2) (pa_cons (pv 6) (pa_cons (pe_tup (pa_cons (pv 9) (pa_cons pe_bl (pa_cons (pv 8) (pa_cons (pe_op op_shl pe_int (pe_callB call_len_seq (by rfl) T.n_len PySem.boot_len (pa_cons (pv 9) pa_nil))) pa_nil))))) pa_nil)))) (fun _=>rfl))) (pss_one (ps_ret pe_bl)) pss_nil)
   (pss_cons (ps_set (i:=10) sc_law.nd rfl (Or.inl rfl) (pe_call (ok_Z18 (P:=P) (w:=w) (base:=base) T) (hr.mono (by decide)) (by rfl) T.d_Z18.m T.d_Z18.F.kp T.d_Z18.b .nil pass0 (pa_cons (pv 2) (pa_cons (pv 6) (pa_cons (pe_tup (pa_cons (pv 7) (pa_cons pe_bl (pa_cons (pe_tup (pa_cons pe_str (pa_cons (pv 8) (pa_cons (pe_tup (pa_cons pe_str (pa_cons pe_int pa_nil))) pa_nil)))) (pa_cons pe_int pa_nil))))) pa_nil)))))
   (pss_cons (ps_if (pt_cmpR (op_neD (hu60 hr)) (pv 10) (pe_tup (pa_cons pe_str (pa_cons pe_int pa_nil))) (nomark _)) (pss_one (ps_ret pe_bl)) pss_nil)
   (pss_cons (ps_set (i:=11) sc_law.nd rfl (Or.inl rfl) (pe_call (ok_Z20 (P:=P) (w:=w) (base:=base) T) (hr.mono (by decide)) (by rfl) T.d_Z20.m T.d_Z20.F.kp T.d_Z20.b .nil pass0 (pa_cons (pv 1) (pa_cons (pv 2) pa_nil))))
   (pss_cons (ps_set (i:=12) sc_law.nd rfl (Or.inl rfl) (pe_call (ok_Z20 (P:=P) (w:=w) (base:=base) T) (hr.mono (by decide)) (by rfl) T.d_Z20.m T.d_Z20.F.kp T.d_Z20.b .nil pass0 (pa_cons (pv 1) (pa_cons (pv 2) pa_nil))))
   (pss_cons (ps_set (i:=13) sc_law.nd rfl (Or.inl rfl) (pe_tup (pa_cons pe_str (pa_cons (pe_tup (pa_cons pe_str (pa_cons (pe_op op_add pe_int (pe_call (ok_Z20 (P:=P) (w:=w) (base:=base) T) (hr.mono (by decide)) (by rfl) T.d_Z20.m T.d_Z20.F.kp T.d_Z20.b .nil pass0 (pa_cons (pv 1) (pa_cons pe_int pa_nil)))) pa_nil))) (pa_cons (pe_tup (pa_cons pe_str (pa_cons (pe_tup (pa_cons pe_str (pa_cons (pe_lst (pa_cons (pv 11) pa_nil)) (pa_cons pe_bl pa_nil)))) (pa_cons (pe_tup (pa_cons pe_str (pa_cons (pe_lst (pa_cons (pv 12) pa_nil)) (pa_cons pe_bl pa_nil)))) pa_nil)))) pa_nil)))))
   (pss_cons (ps_set (i:=10) sc_law.nd rfl (Or.inl rfl) (pe_call (ok_Z18 (P:=P) (w:=w) (base:=base) T) (hr.mono (by decide)) (by rfl) T.d_Z18.m T.d_Z18.F.kp T.d_Z18.b .nil pass0 (pa_cons (pv 2) (pa_cons (pv 6) (pa_cons (pe_tup (pa_cons (pv 7) (pa_cons pe_bl (pa_cons (pe_tup (pa_cons pe_str (pa_cons (pv 8) (pa_cons (pv 13) pa_nil)))) (pa_cons pe_int pa_nil))))) pa_nil)))))
   (pss_one (ps_ret (pe_cmpR (op_eqD (hu60 hr)) (pv 10) (pe_tup (pa_cons pe_str (pa_cons (pe_op op_or (pe_op op_shl pe_int (pv 11)) (pe_op op_shl pe_int (pv 12))) pa_nil))) (nomark _)))))))))))))))))))),?_⟩
  refine⟨_,rfl,a,ns,rfl,hS,hlen,hbits,fun p n0 H1 hp0 hp1 s1=>?_⟩;refine⟨_,rfl,p,n0,16,rfl,hp1,by decide,by decide,fun d0 n1 d1 d2=>⟨_,_,rfl,rfl,?_⟩⟩;obtain⟨n,hn⟩:∃ n:Nat,1+d0=(n:Int):=⟨(1+d0).toNat,by omega⟩;have hn1:1≤n∧n≤16:=by omega
  dsimp only;rw[hn];have p2':upd H1 p (.lst [.int n1]) p=some (.lst [.int n1]):=upd_same;generalize upd H1 p (.lst [.int n1])=H2 at p2' ⊢;clear hp1 hp0 s1;refine⟨(by show 2≤sizeLine;decide),fun l1 hl1=>?_⟩;have q1:upd H2 l1 (.lst [.int 3,.int 2]) l1=some (.lst [.int 3,.int 2]):=upd_same;have s1:Same H2 (upd H2 l1 (.lst [.int 3,.int 2])):=Same.upd hl1;generalize upd H2 l1 (.lst [.int 3,.int 2])=H3 at q1 s1 ⊢;refine⟨(by show 2≤sizeLine;decide),fun l2 hl2=>?_⟩;have q2:upd H3 l2 (.lst [.int 8,.int 8]) l2=some (.lst [.int 8,.int 8]):=upd_same;have s2:Same H3 (upd H3 l2 (.lst [.int 8,.int 8])):=Same.upd hl2;generalize upd H3 l2 (.lst [.int 8,.int 8])=H4 at q2 s2 ⊢;refine⟨(by show 2≤sizeLine;decide),fun L hL=>?_⟩;have q3:upd H4 L (.lst [.ref l1,.ref l2]) L=some (.lst [.ref l1,.ref l2]):=upd_same;have s3:Same H4 (upd H4 L (.lst [.ref l1,.ref l2])):=Same.upd hL;have p5:=s3 _ _ (s2 _ _ (s1 _ _ p2'));have q1':=s3 _ _ (s2 _ _ q1);have q2':=s3 _ _ q2;generalize upd H4 L (.lst [.ref l1,.ref l2])=H5 at q3 p5 q1' q2' ⊢;clear q1 q2 s1 s2 s3 p2' hl1 hl2 hL;refine⟨_,rfl,p,n1,2,rfl,p5,by decide,by decide,fun e0 n2 e1 e2=>?_⟩;have ne1:l1≠p:=fun z=>by rw[z,p5] at q1';injection q1' with q;injection q with q;injection q with _ q;cases q
  have ne2:l2≠p:=fun z=>by rw[z,p5] at q2';injection q2' with q;injection q with q;injection q with _ q;cases q
  have ne3:L≠p:=fun z=>by rw[z,p5] at q3;injection q3 with q;injection q with q;injection q with _ q;cases q
  have p6:upd H5 p (.lst [.int n2]) p=some (.lst [.int n2]):=upd_same;have r1:upd H5 p (.lst [.int n2]) l1=some (.lst [.int 3,.int 2]):=by rw[upd_ne ne1];exact q1'
  have r2:upd H5 p (.lst [.int n2]) l2=some (.lst [.int 8,.int 8]):=by rw[upd_ne ne2];exact q2'
  have r3:upd H5 p (.lst [.int n2]) L=some (.lst [.ref l1,.ref l2]):=by rw[upd_ne ne3];exact q3
  generalize upd H5 p (.lst [.int n2])=H6 at p6 r1 r2 r3 ⊢;clear q1' q2' q3 p5;obtain⟨mo,x0,y0,hat,hmo,hmp,hxy⟩:∃ (mo:Addr) (x0 y0:Int),atI [V.ref l1,V.ref l2] e0=some (.ref mo)∧H6 mo=some (.lst [.int x0,.int y0])∧mo≠p∧(x0=3∧y0=2∨x0=8∧y0=8):=by
   obtain rfl | rfl:e0=0∨e0=1:=by omega
   ·exact⟨l1,3,2,rfl,r1,ne1,.inl ⟨rfl,rfl⟩⟩
   ·exact⟨l2,8,8,rfl,r2,ne2,.inr ⟨rfl,rfl⟩⟩
  refine⟨L,_,_,_,rfl,rfl,SqL.of r3,hat,?_⟩;clear r1 r2 r3 hat;refine⟨_,rfl,_,rfl,mo,_,_,V.int x0,rfl,rfl,SqL.of hmo,rfl,p,n2,x0,rfl,p6,by omega,by omega,fun f0 n3 f1 f2=>⟨_,_,rfl,rfl,1+f0,rfl,by omega,by omega,?_⟩⟩;have p7:upd H6 p (.lst [.int n3]) p=some (.lst [.int n3]):=upd_same;have m7:upd H6 p (.lst [.int n3]) mo=some (.lst [.int x0,.int y0]):=by rw[upd_ne hmp];exact hmo
  generalize upd H6 p (.lst [.int n3])=H7 at p7 m7 ⊢;clear hmo p6;refine comp_range (lo:=0) (n:=(1+f0).toNat) (fun i ys σ G=>∃ (v0:Option V) (os:List Nat),σ = [v0,some (.ref p),some (.int (n:Int))]∧ys=natL os∧os.length=i∧(∀ w∈os,w<n)∧Purse G p∧SameX p H7 G)
   ⟨none,[],rfl,rfl,rfl,(fun w h=>by cases h),⟨n3,p7⟩,fun b o e _=>e⟩ (fun i ys σ G ⟨_,os,_,e,e2,_⟩=>by rw[e,natL_len,e2];exact Nat.le_refl _) (Nat.le_of_lt (small6 (by omega))) ?_ ?_
  ·rintro i ys σ G hi ⟨v0,os,rfl,rfl,g1,g2,⟨m,g3⟩,g4⟩;unfold gName;refine tt ?_;refine⟨_,rfl,_,rfl,p,m,(n:Int),rfl,g3,by omega,by omega,fun d m' h1 h2=>?_⟩;obtain⟨d,rfl⟩:=Int.eq_ofNat_of_zero_le h1;refine⟨_,os ++ [d],rfl,(by rw[natL_app];rfl),by rw[List.length_append,g1];rfl,fun w hw=>?_,⟨m',upd_same⟩,g4.trans SameX.upd⟩;rcases List.mem_append.mp hw with z | z
   ·exact g2 w z
   ·rw[List.mem_singleton.mp z];omega
  rintro ys σ G8 ⟨v0,os,rfl,rfl,lo,ho,⟨n4,p8⟩,x8⟩ X hX;have t1:Same G8 (upd G8 X (.lst (natL os))):=Same.upd hX;have wX:upd G8 X (.lst (natL os)) X=some (.lst (natL os)):=upd_same;have hXp:X≠p:=ne_of_none' p8 hX;have p9:=t1 _ _ p8;have m9:=t1 _ _ (x8 _ _ m7 hmp);generalize upd G8 X (.lst (natL os))=H9 at t1 wX p9 m9 ⊢;clear t1 x8 m7 p8 hX;refine⟨_,rfl,_,rfl,mo,_,_,V.int y0,rfl,rfl,SqL.of m9,rfl,p,n4,y0,rfl,p9,by omega,by omega,fun f3 n5 f4 f5=>⟨_,_,rfl,rfl,1+f3,rfl,by omega,by omega,?_⟩⟩;have pA:upd H9 p (.lst [.int n5]) p=some (.lst [.int n5]):=upd_same;have mA:upd H9 p (.lst [.int n5]) mo=some (.lst [.int x0,.int y0]):=by rw[upd_ne hmp];exact m9
  have wA:upd H9 p (.lst [.int n5]) X=some (.lst (natL os)):=by rw[upd_ne hXp];exact wX
  generalize upd H9 p (.lst [.int n5])=HA at pA mA wA ⊢;clear m9 wX p9;refine comp_range (lo:=0) (n:=(1+f3).toNat) (fun i ys σ G=>∃ (v0:Option V) (os:List Nat),σ = [v0,some (.ref p),some (.int (n:Int))]∧ys=natL os∧os.length=i∧(∀ w∈os,w<n)∧Purse G p∧SameX p HA G)
   ⟨none,[],rfl,rfl,rfl,(fun w h=>by cases h),⟨n5,pA⟩,fun b o e _=>e⟩ (fun i ys σ G ⟨_,os,_,e,e2,_⟩=>by rw[e,natL_len,e2];exact Nat.le_refl _) (Nat.le_of_lt (small6 (by omega))) ?_ ?_
  ·rintro i ys σ G hi ⟨v0,os,rfl,rfl,g1,g2,⟨m,g3⟩,g4⟩;unfold gName;refine tt ?_;refine⟨_,rfl,_,rfl,p,m,(n:Int),rfl,g3,by omega,by omega,fun d m' h1 h2=>?_⟩;obtain⟨d,rfl⟩:=Int.eq_ofNat_of_zero_le h1;refine⟨_,os ++ [d],rfl,(by rw[natL_app];rfl),by rw[List.length_append,g1];rfl,fun w hw=>?_,⟨m',upd_same⟩,g4.trans SameX.upd⟩;rcases List.mem_append.mp hw with z | z
   ·exact g2 w z
   ·rw[List.mem_singleton.mp z];omega
  rintro ys σ GB ⟨v1,ts,rfl,rfl,lt,ht,⟨n6,pB⟩,xB⟩ Y hY;have t1:Same GB (upd GB Y (.lst (natL ts))):=Same.upd hY;have wY:upd GB Y (.lst (natL ts)) Y=some (.lst (natL ts)):=upd_same;have hYp:Y≠p:=ne_of_none' pB hY;have pC:=t1 _ _ pB;have mC:=t1 _ _ (xB _ _ mA hmp);have wX:=t1 _ _ (xB _ _ wA hXp);generalize upd GB Y (.lst (natL ts))=HC at t1 wY pC mC wX ⊢;clear t1 xB mA pB hY wA pA;refine⟨Nat.zero_le _,fun R hR=>?_⟩;have t1:Same HC (upd HC R (.lst [])):=Same.upd hR;have wR:RLo (upd HC R (.lst [])) R []:=⟨[],upd_same,.nil⟩;have hRp:R≠p:=ne_of_none' pC hR;have hXR:X≠R:=ne_of_none wX hR;have hYR:Y≠R:=ne_of_none wY hR;have hRm:mo≠R:=ne_of_none mC hR;have pD:=t1 _ _ pC;have mD:=t1 _ _ mC;have xD:=t1 _ _ wX;have yD:=t1 _ _ wY;generalize upd HC R (.lst [])=HD at t1 wR pD mD xD yD ⊢;clear t1 mC wX wY pC hR;have hol:1≤os.length∧(os.length:Int)≤x0:=by omega
  have htl:1≤ts.length∧(ts.length:Int)≤y0:=by omega
  refine⟨fun σ G=>∃ (D:Addr) (gs:List Gate) (ws:List Nat) (F:Fm) (fv:V),σ = [some (.ref a),some (.ref p),some (.int (n:Int)),some (.ref mo),some (.ref X),some (.ref Y),some (.ref R),some (.ref D),some fv,none,none,none,none,none]∧G D=some (.lst (natL ws))∧D≠p∧RLo G R gs∧IsF [p] G fv F∧B9 n gs ws F∧Purse G p,?_,?_⟩
  ·have isF:∀ (G:Hp) (w:Nat) (t1 t2 t3:Addr),G X=some (.lst (natL os))→G Y=some (.lst (natL ts))→(∃ m,G p=some (.lst [.int m]))→G t1=some (.tup [.str "word",.ref X,.bl false])→G t2=some (.tup [.str "word",.ref Y,.bl false])→G t3=some (.tup [.str (opn w),.ref t1,.ref t2])→IsF [p] G (.ref t3) (.bin w (.word os false) (.word ts false)):=fun G w t1 t2 t3 g1 g2 ⟨m,g3⟩ h1 h2 h3=>by
    have nt:∀ {t:Addr}{xs:List V},G t=some (.tup xs)→t ∉ [p]:=fun {t xs} h z=>by
     rw[List.mem_singleton.mp z,g3] at h;cases h
    exact⟨t3,_,_,rfl,nt h3,h3,⟨t1,X,rfl,nt h1,by simpa using hXp,h1,g1⟩,⟨t2,Y,rfl,nt h2,by simpa using hYp,h2,g2⟩⟩
   refine⟨_,rfl,mo,_,_,V.int y0,rfl,rfl,SqL.of mD,rfl,rfl,_,rfl,ite2 (fun z=>?_) (fun z=>?_)⟩
   ·have hy2:y0=2:=by have h:=of_decide_eq_true z;injection h
    refine⟨_,rfl,_,rfl,_,rfl,_,rfl,X,Y,R,os,ts,n,rfl,xD,yD,wR,hXR,hYR,ho,ht,by omega,by omega,by omega,fun D ws gs HE hDn hD hDR hRE hPr xE=>?_⟩;have pE:=xE _ _ pD hRp.symm;have hDp:D≠p:=ne_of_none' pD hDn;refine⟨_,rfl,(by show 3≤sizeLine;decide),fun t1 ht1=>?_⟩;have u1:Same HE (upd HE t1 (.tup [.str "word",.ref X,.bl false])):=Same.upd ht1;refine⟨_,rfl,(by show 3≤sizeLine;decide),fun t2 ht2=>?_⟩;have u2:Same (upd HE t1 (.tup [.str "word",.ref X,.bl false])) (upd (upd HE t1 (.tup [.str "word",.ref X,.bl false])) t2 (.tup [.str "word",.ref Y,.bl false])):=Same.upd ht2;refine⟨(by show 3≤sizeLine;decide),fun t3 ht3=>?_⟩;have u3:Same _ (upd (upd (upd HE t1 (.tup [.str "word",.ref X,.bl false])) t2 (.tup [.str "word",.ref Y,.bl false])) t3 (.tup [.str "times",.ref t1,.ref t2])):=Same.upd ht3;have U:=u1.trans (u2.trans u3);exact⟨D,gs,ws,_,_,rfl,U _ _ hD,hDp,hRE.keep U,isF _ 2 t1 t2 t3 (U _ _ (xE _ _ xD hXR)) (U _ _ (xE _ _ yD hYR)) ⟨_,U _ _ pE⟩ ((u2.trans u3) _ _ upd_same) (u3 _ _ upd_same) upd_same,mul9 hn1.2 ho ht (by omega) (by omega) hPr,⟨_,U _ _ pE⟩⟩
   ·refine⟨_,rfl,_,rfl,_,rfl,_,rfl,X,Y,R,os,ts,n,[],rfl,xD,yD,wR,hXR,hYR,ho,ht,by omega,by show n+0≤_;omega,fun D outs c rs HE hDn hD hRE hA xE=>?_⟩;have pE:=xE _ _ pD hRp.symm;have hDp:D≠p:=ne_of_none' pD hDn;refine⟨_,rfl,(by show 3≤sizeLine;decide),fun t1 ht1=>?_⟩;have u1:Same HE (upd HE t1 (.tup [.str "word",.ref X,.bl false])):=Same.upd ht1;refine⟨_,rfl,(by show 3≤sizeLine;decide),fun t2 ht2=>?_⟩;have u2:Same (upd HE t1 (.tup [.str "word",.ref X,.bl false])) (upd (upd HE t1 (.tup [.str "word",.ref X,.bl false])) t2 (.tup [.str "word",.ref Y,.bl false])):=Same.upd ht2;refine⟨(by show 3≤sizeLine;decide),fun t3 ht3=>?_⟩;have u3:Same _ (upd (upd (upd HE t1 (.tup [.str "word",.ref X,.bl false])) t2 (.tup [.str "word",.ref Y,.bl false])) t3 (.tup [.str "plus",.ref t1,.ref t2])):=Same.upd ht3;have U:=u1.trans (u2.trans u3);exact⟨D,rs,outs++c.toList,_,_,rfl,U _ _ hD,hDp,hRE.keep U,isF _ 0 t1 t2 t3 (U _ _ (xE _ _ xD hXR)) (U _ _ (xE _ _ yD hYR)) ⟨_,U _ _ pE⟩ ((u2.trans u3) _ _ upd_same) (u3 _ _ upd_same) upd_same,add9 hn1.2 ho ht (by omega) (by omega) hA,⟨_,U _ _ pE⟩⟩
  rintro σ G ⟨D,gs,ws,F,fv,rfl,hD,hDp,hRG,hI,hB,⟨n7,pG⟩⟩;clear mD xD yD pD wR;have hz0:Sz n 2 fun _=>(0:Int):=(Sz.const n 0).up (Nat.le_refl _) (by decide)
  have hC:∀ m,C9 n gs (ws.take m) F:=fun m=>hB.claim hn1.2 m hz0 (fun g=>by omega) hB.ok (by have:=hB.lv;omega) (by have:=hB.lb;omega)
  have hCw:C9 n gs ws F:=by have:=hC ws.length;rwa [List.take_length] at this
  refine⟨_,rfl,_,rfl,_,rfl,_,rfl,(by show 4≤sizeLine;decide),fun c1 hc1=>?_⟩;have u1:Same G (upd G c1 (.tup [.ref D,.bl false,fv,.int 0])):=Same.upd hc1;have w1':upd G c1 (.tup [.ref D,.bl false,fv,.int 0]) c1=some (.tup [.ref D,.bl false,fv,.int 0]):=upd_same;generalize upd G c1 (.tup [.ref D,.bl false,fv,.int 0])=G1 at u1 w1' ⊢;refine⟨n,R,c1,D,fv,gs,ws,F,[p],0,rfl,hRG.keep u1,w1',u1 _ _ hD,hCw,hI.keep u1,Int.le_refl _,(fun x=>by rw[word_p2,hB.val,Int.sub_self];rfl),fun G2 u2=>⟨true,rfl,iteF ?_⟩⟩;have U:=u1.trans u2;have hD2:=U _ _ hD;have hR2:=hRG.keep U;have hI2:=hI.keep U;have p2':=U _ _ pG;clear U u1 u2 w1' hD hRG hI pG hc1;have hfw:=hB.few;refine⟨_,rfl,_,rfl,_,rfl,D,_,rfl,.inl (SqL.of hD2),_,_,rfl,rfl,p,n7,_,rfl,p2',(by rw[natL_len];omega),(by rw[natL_len];omega),fun k0 n8 k1 k2=>?_⟩;rw[natL_len] at k2;obtain⟨k,rfl⟩:=Int.eq_ofNat_of_zero_le k1;have p3:upd G2 p (.lst [.int n8]) p=some (.lst [.int n8]):=upd_same;have y3:SameX p G2 (upd G2 p (.lst [.int n8])):=SameX.upd;have hD3:=y3 _ _ hD2 hDp;have hR3:=hR2.wr (o := .lst [.int n8]) p2' hRp;have hI3:IsF [p] (upd G2 p (.lst [.int n8])) fv F:=hI2.keepX fun b o e hb=>y3 b o e (by simpa using hb)
  generalize upd G2 p (.lst [.int n8])=G3 at p3 hD3 hR3 hI3 ⊢;clear y3 hD2 hR2 hI2 p2';refine⟨_,rfl,D,_,rfl,SqL.of hD3,fun fw hfw0=>?_⟩;have ek:cutV (natL ws) none (some (k:Int))=natL (ws.take k):=natL_to ws k;rw[ek];have u1:Same G3 (upd G3 fw (.lst (natL (ws.take k)))):=Same.upd hfw0;have wfw:upd G3 fw (.lst (natL (ws.take k))) fw=some (.lst (natL (ws.take k))):=upd_same;generalize upd G3 fw (.lst (natL (ws.take k)))=G4 at u1 wfw ⊢;have hkl:(ws.take k).length=k:=by rw[List.length_take];omega
  have e2k:(1:Int) * 2^(((natL (ws.take k)).length:Int)).toNat=2^k:=by rw[Int.one_mul,Int.toNat_natCast,natL_len,hkl]
  refine⟨_,rfl,_,rfl,_,rfl,_,rfl,_,rfl,fw,_,rfl,.inl (SqL.of wfw),_,_,rfl,rfl,⟨by omega,by rw[natL_len];omega,by decide⟩,?_⟩;dsimp only;rw[e2k];refine⟨(by show 4≤sizeLine;decide),fun c2 hc2=>?_⟩;have u2:Same G4 (upd G4 c2 (.tup [.ref fw,.bl false,fv,.int (2^k)])):=Same.upd hc2;have w2':upd G4 c2 (.tup [.ref fw,.bl false,fv,.int (2^k)]) c2=some (.tup [.ref fw,.bl false,fv,.int (2^k)]):=upd_same;generalize upd G4 c2 (.tup [.ref fw,.bl false,fv,.int (2^k)])=G5 at u2 w2' ⊢;have U:=u1.trans u2;refine⟨n,R,c2,fw,fv,gs,ws.take k,F,[p],2^k,rfl,hR3.keep U,w2',u2 _ _ wfw,hC k,hI3.keep U,(by rw[pow_cast];exact Int.natCast_nonneg _),(fun x=>by rw[word_p2,← hB.val];exact few_mod ws k _),fun G6 u3=>⟨true,rfl,iteF ?_⟩⟩;have U3:=U.trans u3;have hD6:=U3 _ _ hD3;have hR6:=hR3.keep U3;have hI6:=hI3.keep U3;have p6':=U3 _ _ p3;clear U U3 u1 u2 u3 w2' wfw hD3 hR3 hI3 p3 hc2 hfw0 ek e2k;refine⟨_,rfl,_,rfl,_,rfl,_,rfl,(by show 2≤sizeLine;decide),fun t1 ht1=>?_⟩;have u1:Same G6 (upd G6 t1 (.tup [.str "number",.int 1])):=Same.upd ht1;have v1:upd G6 t1 (.tup [.str "number",.int 1]) t1=some (.tup [.str "number",.int 1]):=upd_same;generalize upd G6 t1 (.tup [.str "number",.int 1])=G7 at u1 v1 ⊢;refine⟨(by show 3≤sizeLine;decide),fun t2 ht2=>?_⟩;have u2:Same G7 (upd G7 t2 (.tup [.str "plus",fv,.ref t1])):=Same.upd ht2;have v2:upd G7 t2 (.tup [.str "plus",fv,.ref t1]) t2=some (.tup [.str "plus",fv,.ref t1]):=upd_same;generalize upd G7 t2 (.tup [.str "plus",fv,.ref t1])=G8 at u2 v2 ⊢;refine⟨(by show 4≤sizeLine;decide),fun c3 hc3=>?_⟩;have u3:Same G8 (upd G8 c3 (.tup [.ref D,.bl false,.ref t2,.int 0])):=Same.upd hc3;have v3:upd G8 c3 (.tup [.ref D,.bl false,.ref t2,.int 0]) c3=some (.tup [.ref D,.bl false,.ref t2,.int 0]):=upd_same;generalize upd G8 c3 (.tup [.ref D,.bl false,.ref t2,.int 0])=G9 at u3 v3 ⊢;have U:=u1.trans (u2.trans u3);have nt:∀ {G:Hp}{m:Int}{t:Addr}{xs:List V},G p=some (.lst [.int m])→G t=some (.tup xs)→t ∉ [p]:=fun {G m t xs} g3 h z=>by
   rw[List.mem_singleton.mp z,g3] at h;cases h
  have p9':=U _ _ p6';have I3:IsF [p] G9 (.ref t2) (.bin 0 F (.num 1)):=⟨t2,fv,.ref t1,rfl,nt p9' (u3 _ _ v2),u3 _ _ v2,hI6.keep U,⟨t1,rfl,nt p9' ((u2.trans u3) _ _ v1),(u2.trans u3) _ _ v1⟩⟩;have hC3:C9 n gs ws (.bin 0 F (.num 1)):=by
   have:=hB.claim (F' := .bin 0 F (.num 1)) hn1.2 ws.length (E:=fun _=>1) ((Sz.const n 1).up (Nat.le_refl _) (by decide)) (fun g=>rfl) ⟨by decide,hB.ok,by decide,by decide⟩ (by show F.lv+1≤10;have:=hB.lv;omega) (by show F.lb+1≤100;have:=hB.lb;omega)
   rwa [List.take_length] at this
  refine⟨n,R,c3,D,.ref t2,gs,ws,.bin 0 F (.num 1),[p],0,rfl,hR6.keep U,v3,U _ _ hD6,hC3,I3,Int.le_refl _,fun t fl last GA J uA O=>?_⟩;have gp3:∀ x:Nat,wordAt ws false (allG n gs x)-(Fm.bin 0 F (.num 1)).at (allG n gs x) = -1:=fun x=>by
   show wordAt ws false (allG n gs x)-(F.at (allG n gs x)+1) = -1;rw[word_p2,hB.val];omega
  obtain⟨u,l,eu,hu⟩:=J.wrong (x0:=0) (by rw[gp3];decide) (fun x _=>Nat.zero_le _);obtain⟨x3,htA⟩:∃ x3:Unit,GA t=some (.tup [.str "wrong",.int 0]):=by
   rcases O with ⟨e,_⟩ | ⟨u',l',e,ht⟩
   ·rw[e] at eu;cases eu
   ·rw[eu] at e;cases e;rw[hu] at ht;exact⟨(),ht⟩
  have UA:=U.trans uA;have hDA:=UA _ _ hD6;have hRA:=hR6.keep UA;have hIA:=hI6.keep UA;have pA':=UA _ _ p6';clear U u1 u2 u3 v1 v2 v3 p9' I3 uA UA hD6 hR6 hI6 p6' ht1 ht2 hc3 J O hC3 gp3 x3;refine⟨_,rfl,(by show 2≤sizeLine;decide),fun tw htw=>?_⟩;have u1:Same GA (upd GA tw (.tup [.str "wrong",.int 0])):=Same.upd htw;refine⟨.tup [.str "wrong",.int 0],.tup [.str "wrong",.int 0],isWrong (u1 _ _ htA),isWrong upd_same,(by show max 0 (max 0 0)+1≤60;decide),_,rfl,iteN (by rw[deq_self];decide) ?_⟩;have hDB:=u1 _ _ hDA;have hRB:=hRA.keep u1;have hIB:=hIA.keep u1;have pB':=u1 _ _ pA';generalize upd GA tw (.tup [.str "wrong",.int 0])=GB at hDB hRB hIB pB' ⊢;clear u1 htw htA hDA hRA hIA pA';refine⟨_,rfl,_,rfl,p,n8,(n:Int),rfl,pB',by omega,by omega,fun i0 n9 i1 i2=>?_⟩;obtain⟨i,rfl⟩:=Int.eq_ofNat_of_zero_le i1;have pC:upd GB p (.lst [.int n9]) p=some (.lst [.int n9]):=upd_same;have yC:SameX p GB (upd GB p (.lst [.int n9])):=SameX.upd;have hDC:=yC _ _ hDB hDp;have hRC:=hRB.wr (o := .lst [.int n9]) pB' hRp;have hIC:IsF [p] (upd GB p (.lst [.int n9])) fv F:=hIB.keepX fun b o e hb=>yC b o e (by simpa using hb)
  generalize upd GB p (.lst [.int n9])=GC at pC hDC hRC hIC ⊢;clear yC hDB hRB hIB pB';refine⟨_,rfl,_,rfl,p,n9,(n:Int),rfl,pC,by omega,by omega,fun j0 nA j1 j2=>?_⟩;obtain⟨j,rfl⟩:=Int.eq_ofNat_of_zero_le j1;have pD:upd GC p (.lst [.int nA]) p=some (.lst [.int nA]):=upd_same;have yD:SameX p GC (upd GC p (.lst [.int nA])):=SameX.upd;have hDD:=yD _ _ hDC hDp;have hRD:=hRC.wr (o := .lst [.int nA]) pC hRp;have hID:IsF [p] (upd GC p (.lst [.int nA])) fv F:=hIC.keepX fun b o e hb=>yD b o e (by simpa using hb)
  generalize upd GC p (.lst [.int nA])=GD at pD hDD hRD hID ⊢;clear yD hDC hRC hIC pC;refine⟨_,rfl,p,nA,5,rfl,pD,by decide,by decide,fun q0 nB q1 q2=>⟨_,_,rfl,rfl,(by show 2≤sizeLine;decide),fun a1 ha1=>?_⟩⟩;have pE:upd GD p (.lst [.int nB]) p=some (.lst [.int nB]):=upd_same;have yE:SameX p GD (upd GD p (.lst [.int nB])):=SameX.upd;have hDE:=yE _ _ hDD hDp;have hRE:=hRD.wr (o := .lst [.int nB]) pD hRp;have hIE:IsF [p] (upd GD p (.lst [.int nB])) fv F:=hID.keepX fun b o e hb=>yE b o e (by simpa using hb)
  generalize upd GD p (.lst [.int nB])=GE at pE hDE hRE hIE ha1 ⊢;clear yE hDD hRD hID pD;dsimp only;have s1:Same GE (upd GE a1 (.tup [.str "number",.int (1+q0)])):=Same.upd ha1;have o1:upd GE a1 (.tup [.str "number",.int (1+q0)]) a1=some (.tup [.str "number",.int (1+q0)]):=upd_same;generalize upd GE a1 (.tup [.str "number",.int (1+q0)])=K1 at s1 o1 ⊢;refine⟨_,rfl,(by show 1≤sizeLine;decide),fun li hli=>?_⟩;have s2:Same K1 (upd K1 li (.lst [.int (i:Int)])):=Same.upd hli;have o2:upd K1 li (.lst [.int (i:Int)]) li=some (.lst [.int (i:Int)]):=upd_same;generalize upd K1 li (.lst [.int (i:Int)])=K2 at s2 o2 ⊢;refine⟨(by show 3≤sizeLine;decide),fun b1 hb1=>?_⟩;have s3:Same K2 (upd K2 b1 (.tup [.str "word",.ref li,.bl false])):=Same.upd hb1;have o3:upd K2 b1 (.tup [.str "word",.ref li,.bl false]) b1=some (.tup [.str "word",.ref li,.bl false]):=upd_same;generalize upd K2 b1 (.tup [.str "word",.ref li,.bl false])=K3 at s3 o3 ⊢;refine⟨_,rfl,(by show 1≤sizeLine;decide),fun lj hlj=>?_⟩;have s4:Same K3 (upd K3 lj (.lst [.int (j:Int)])):=Same.upd hlj;have o4:upd K3 lj (.lst [.int (j:Int)]) lj=some (.lst [.int (j:Int)]):=upd_same;generalize upd K3 lj (.lst [.int (j:Int)])=K4 at s4 o4 ⊢;refine⟨(by show 3≤sizeLine;decide),fun b2 hb2=>?_⟩;have s5:Same K4 (upd K4 b2 (.tup [.str "word",.ref lj,.bl false])):=Same.upd hb2;have o5:upd K4 b2 (.tup [.str "word",.ref lj,.bl false]) b2=some (.tup [.str "word",.ref lj,.bl false]):=upd_same;generalize upd K4 b2 (.tup [.str "word",.ref lj,.bl false])=K5 at s5 o5 ⊢;refine⟨(by show 3≤sizeLine;decide),fun b3 hb3=>?_⟩;have s6:Same K5 (upd K5 b3 (.tup [.str "times",.ref b1,.ref b2])):=Same.upd hb3;have o6:upd K5 b3 (.tup [.str "times",.ref b1,.ref b2]) b3=some (.tup [.str "times",.ref b1,.ref b2]):=upd_same;generalize upd K5 b3 (.tup [.str "times",.ref b1,.ref b2])=K6 at s6 o6 ⊢;refine⟨(by show 3≤sizeLine;decide),fun b4 hb4=>?_⟩;have s7:Same K6 (upd K6 b4 (.tup [.str "times",.ref a1,.ref b3])):=Same.upd hb4;have o7:upd K6 b4 (.tup [.str "times",.ref a1,.ref b3]) b4=some (.tup [.str "times",.ref a1,.ref b3]):=upd_same;generalize upd K6 b4 (.tup [.str "times",.ref a1,.ref b3])=K7 at s7 o7 ⊢;refine⟨_,rfl,_,rfl,_,rfl,_,rfl,_,rfl,(by show 3≤sizeLine;decide),fun t2 ht2=>?_⟩;have s8:Same K7 (upd K7 t2 (.tup [.str "plus",fv,.ref b4])):=Same.upd ht2;have o8:upd K7 t2 (.tup [.str "plus",fv,.ref b4]) t2=some (.tup [.str "plus",fv,.ref b4]):=upd_same;generalize upd K7 t2 (.tup [.str "plus",fv,.ref b4])=K8 at s8 o8 ⊢;refine⟨(by show 4≤sizeLine;decide),fun c4 hc4=>?_⟩;have s9:Same K8 (upd K8 c4 (.tup [.ref D,.bl false,.ref t2,.int 0])):=Same.upd hc4;have o9:upd K8 c4 (.tup [.ref D,.bl false,.ref t2,.int 0]) c4=some (.tup [.ref D,.bl false,.ref t2,.int 0]):=upd_same;generalize upd K8 c4 (.tup [.ref D,.bl false,.ref t2,.int 0])=K9 at s9 o9 ⊢;have e9:Same K8 K9:=s9;have e8:=s8.trans e9;have e7:=s7.trans e8;have e6:=s6.trans e7;have e5:=s5.trans e6;have e4:=s4.trans e5;have e3:=s3.trans e4;have e2':=s2.trans e3;have e1':=s1.trans e2';have pK:=e1' _ _ pE;have nli:li≠p:=ne_of_none' (s1 _ _ pE) hli;have nlj:lj≠p:=ne_of_none' ((s1.trans (s2.trans s3)) _ _ pE) hlj;have hin:i<n:=by omega
  have hjn:j<n:=by omega
  have I4:IsF [p] K9 (.ref t2) (.bin 0 F (.bin 2 (.num (1+q0)) (.bin 2 (.word [i] false) (.word [j] false)))) :=
   ⟨t2,fv,.ref b4,rfl,nt pK (e9 _ _ o8),e9 _ _ o8,hIE.keep e1',⟨b4,.ref a1,.ref b3,rfl,nt pK (e8 _ _ o7),e8 _ _ o7,⟨a1,rfl,nt pK (e2' _ _ o1),e2' _ _ o1⟩,⟨b3,.ref b1,.ref b2,rfl,nt pK (e7 _ _ o6),e7 _ _ o6,⟨b1,li,rfl,nt pK (e4 _ _ o3),by simpa using nli,e4 _ _ o3,e3 _ _ o2⟩,⟨b2,lj,rfl,nt pK (e6 _ _ o5),by simpa using nlj,e6 _ _ o5,e5 _ _ o4⟩⟩⟩⟩
  have atM:∀ g,(Fm.bin 2 (.num (1+q0)) (.bin 2 (.word [i] false) (.word [j] false))).at g=(1+q0) * (bt g i * bt g j):=fun g=>by
   show (1+q0) * (wordAt [i] false g * wordAt [j] false g)=_;rw[word_p2,word_p2,w1,w1]
  have hC4:C9 n gs ws (.bin 0 F (.bin 2 (.num (1+q0)) (.bin 2 (.word [i] false) (.word [j] false)))):=by
   have:=hB.claim (F' := .bin 0 F (.bin 2 (.num (1+q0)) (.bin 2 (.word [i] false) (.word [j] false)))) hn1.2 ws.length (E:=fun g=>(1+q0) * bt g i * bt g j) (((Sz.wire hin _).bit hjn).up (Nat.le_refl _) (by decide)) (fun g=>by
    show F.at g+_=_;rw[atM,Int.mul_assoc]) ⟨by decide,hB.ok,by decide,⟨by omega,Int.le_trans (show 1+q0≤6 by omega) (by decide)⟩,by decide,⟨by show 1≤16;decide,fun x hx=>by rw[List.mem_singleton.mp hx];exact hin⟩,⟨by show 1≤16;decide,fun x hx=>by rw[List.mem_singleton.mp hx];exact hjn⟩⟩ (by show F.lv+(1+(1+1))≤10;have:=hB.lv;omega) (by show F.lb+1 * (2 * 2)≤100;have:=hB.lb;omega)
   rwa [List.take_length] at this
  refine⟨n,R,c4,D,.ref t2,gs,ws,_,[p],0,rfl,hRE.keep e1',o9,e1' _ _ hDE,hC4,I4,Int.le_refl _,fun tf fl' last' GF J uF O=>?_⟩;have gp4:∀ x:Nat,wordAt ws false (allG n gs x)-(Fm.bin 0 F (.bin 2 (.num (1+q0)) (.bin 2 (.word [i] false) (.word [j] false)))).at (allG n gs x) = -((1+q0) * (bt x i * bt x j)):=fun x=>by
   show wordAt ws false (allG n gs x)-(F.at (allG n gs x)+(Fm.bin 2 (.num (1+q0)) (.bin 2 (.word [i] false) (.word [j] false))).at (allG n gs x))=_;rw[atM,word_p2,hB.val,all_in hB.rows hin,all_in hB.rows hjn];omega
  obtain⟨bi,bj⟩:=bits_both i j;obtain⟨u',l',eu',hu'⟩:=J.wrong (x0:=2^i ||| 2^j) (by rw[gp4,bi,bj];omega) (fun x hx=>by
   rw[gp4] at hx;rcases bt_bit x i with z | z
   ·rw[z] at hx;simp at hx
   ·rcases bt_bit x j with z' | z'
    ·rw[z'] at hx;simp at hx
    ·exact both_bits z z')
  have htF:GF tf=some (.tup [.str "wrong",.int ((2^i ||| 2^j:Nat):Int)]):=by
   rcases O with ⟨e,_⟩ | ⟨u2,l2,e,ht⟩
   ·rw[e] at eu';cases eu'
   ·rw[eu'] at e;cases e;rw[hu'] at ht;exact ht
  have eor:Builtin.bitOr ((1:Int) * 2^((i:Int)).toNat) ((1:Int) * 2^((j:Int)).toNat)=((2^i ||| 2^j:Nat):Int):=by
   rw[Int.one_mul,Int.one_mul,Int.toNat_natCast,Int.toNat_natCast,pow_cast,pow_cast,bitOr_nat]
  refine⟨_,rfl,_,rfl,_,_,rfl,rfl,⟨by omega,by omega,by decide⟩,_,rfl,_,_,rfl,rfl,⟨by omega,by omega,by decide⟩,_,_,rfl,rfl,?_⟩;dsimp only;rw[eor];refine⟨(by show 2≤sizeLine;decide),fun tw htw=>?_⟩;have u1:Same GF (upd GF tw (.tup [.str "wrong",.int ((2^i ||| 2^j:Nat):Int)])):=Same.upd htw;refine⟨.tup [.str "wrong",.int ((2^i ||| 2^j:Nat):Int)],.tup [.str "wrong",.int ((2^i ||| 2^j:Nat):Int)],isWrong (u1 _ _ htF),isWrong upd_same,(by show max 0 (max 0 0)+1≤60;decide),?_⟩;rw[deq_self];exact kq _
end
theorem us1 {fd:FuncData}{ps:List Str} (h:∀ x0,bindArgs fd ⟨[x0],[]⟩=pure (ps.zip [x0])) (us:List Value) (hl:us.length=1):bindArgs fd ⟨us,[]⟩=pure (ps.zip us):=by
 cases us with
 | nil=>cases hl
 | cons x0 us =>
 replace hl:=Nat.succ.inj hl
 cases List.eq_nil_of_length_eq_zero hl;exact h x0
theorem us2 {fd:FuncData}{ps:List Str} (h:∀ x0 x1,bindArgs fd ⟨[x0,x1],[]⟩=pure (ps.zip [x0,x1])) (us:List Value) (hl:us.length=2):bindArgs fd ⟨us,[]⟩=pure (ps.zip us):=by
 cases us with
 | nil=>cases hl
 | cons x0 us =>
 replace hl:=Nat.succ.inj hl
 cases us with
 | nil=>cases hl
 | cons x1 us =>
 replace hl:=Nat.succ.inj hl
 cases List.eq_nil_of_length_eq_zero hl;exact h x0 x1
theorem us3 {fd:FuncData}{ps:List Str} (h:∀ x0 x1 x2,bindArgs fd ⟨[x0,x1,x2],[]⟩=pure (ps.zip [x0,x1,x2])) (us:List Value) (hl:us.length=3):bindArgs fd ⟨us,[]⟩=pure (ps.zip us):=by
 cases us with
 | nil=>cases hl
 | cons x0 us =>
 replace hl:=Nat.succ.inj hl
 cases us with
 | nil=>cases hl
 | cons x1 us =>
 replace hl:=Nat.succ.inj hl
 cases us with
 | nil=>cases hl
 | cons x2 us =>
 replace hl:=Nat.succ.inj hl
 cases List.eq_nil_of_length_eq_zero hl;exact h x0 x1 x2
theorem us4 {fd:FuncData}{ps:List Str} (h:∀ x0 x1 x2 x3,bindArgs fd ⟨[x0,x1,x2,x3],[]⟩=pure (ps.zip [x0,x1,x2,x3])) (us:List Value) (hl:us.length=4):bindArgs fd ⟨us,[]⟩=pure (ps.zip us):=by
 cases us with
 | nil=>cases hl
 | cons x0 us =>
 replace hl:=Nat.succ.inj hl
 cases us with
 | nil=>cases hl
 | cons x1 us =>
 replace hl:=Nat.succ.inj hl
 cases us with
 | nil=>cases hl
 | cons x2 us =>
 replace hl:=Nat.succ.inj hl
 cases us with
 | nil=>cases hl
 | cons x3 us =>
 replace hl:=Nat.succ.inj hl
 cases List.eq_nil_of_length_eq_zero hl;exact h x0 x1 x2 x3
noncomputable def defPos (s:Stmt):Pos:=match s with
 | .FunctionDef _ _ _ _ _ _ _ _ _ p=>p
 | _=>⟨0,0,0,0⟩
theorem all_mk {l:PySem.W.OpenLaw}{w:World}{K:PySem.W.Frag}{h:Heap}{mg:Str→Option Value}{fa fL f0 f1 f2 f3 f4 f5 f6 f7 f8 f9 f10 f11 f12 f13 f14 f15 f16 f17 f18 f19 f20 f21 f22 f23 f24 f25 f26 f27 f28 f29 f30 f31 f32 f33 f34 f35 f36:Addr} (X:K.In h) (G:h.Ns mainGlobals mg) (hfa:mg "law" = some (.ref fa))
  {odL anL od0 an0 od1 an1 od2 an2 od3 an3 od4 an4 od5 an5 od6 an6 od7 an7 od8 an8 od9 an9 od10 an10 od11 an11 od12 an12 od13 an13 od14 an14 od15 an15 od16 an16 od17 an17 od18 an18 od19 an19 od20 an20 od21 an21 od22 an22 od23 an23 od24 an24 od25 an25 od26 an26 od27 an27 od28 an28 od29 an29 od30 an30 od31 an31 od32 an32 od33 an33 od34 an34 od35 an35 od36 an36:Option Addr}{slL sl0 sl1 sl2 sl3 sl4 sl5 sl6 sl7 sl8 sl9 sl10 sl11 sl12 sl13 sl14 sl15 sl16 sl17 sl18 sl19 sl20 sl21 sl22 sl23 sl24 sl25 sl26 sl27 sl28 sl29 sl30 sl31 sl32 sl33 sl34 sl35 sl36:Array (Option Value)}{ocL kVL dcL pmL cdL ctL oc0 kV0 dc0 pm0 cd0 ct0 oc1 kV1 dc1 pm1 cd1 ct1 oc2 kV2 dc2 pm2 cd2 ct2 oc3 kV3 dc3 pm3 cd3 ct3 oc4 kV4 dc4 pm4 cd4 ct4 oc5 kV5 dc5 pm5 cd5 ct5 oc6 kV6 dc6 pm6 cd6 ct6 oc7 kV7 dc7 pm7 cd7 ct7 oc8 kV8 dc8 pm8 cd8 ct8 oc9 kV9 dc9 pm9 cd9 ct9 oc10 kV10 dc10 pm10 cd10 ct10 oc11 kV11 dc11 pm11 cd11 ct11 oc12 kV12 dc12 pm12 cd12 ct12 oc13 kV13 dc13 pm13 cd13 ct13 oc14 kV14 dc14 pm14 cd14 ct14 oc15 kV15 dc15 pm15 cd15 ct15 oc16 kV16 dc16 pm16 cd16 ct16 oc17 kV17 dc17 pm17 cd17 ct17 oc18 kV18 dc18 pm18 cd18 ct18 oc19 kV19 dc19 pm19 cd19 ct19 oc20 kV20 dc20 pm20 cd20 ct20 oc21 kV21 dc21 pm21 cd21 ct21 oc22 kV22 dc22 pm22 cd22 ct22 oc23 kV23 dc23 pm23 cd23 ct23 oc24 kV24 dc24 pm24 cd24 ct24 oc25 kV25 dc25 pm25 cd25 ct25 oc26 kV26 dc26 pm26 cd26 ct26 oc27 kV27 dc27 pm27 cd27 ct27 oc28 kV28 dc28 pm28 cd28 ct28 oc29 kV29 dc29 pm29 cd29 ct29 oc30 kV30 dc30 pm30 cd30 ct30 oc31 kV31 dc31 pm31 cd31 ct31 oc32 kV32 dc32 pm32 cd32 ct32 oc33 kV33 dc33 pm33 cd33 ct33 oc34 kV34 dc34 pm34 cd34 ct34 oc35 kV35 dc35 pm35 cd35 ct35 oc36 kV36 dc36 pm36 cd36 ct36:Value}
  (a0:PySem.W.nsIn K mainGlobals "_law_mixed" = some (some (.ref f0))) (l0:K.lookup f0=some ⟨oc0,od0,.func (PySem.W.fnOf "_law_mixed" "_law_mixed" (defArgs s_Z21) (defBody s_Z21) (defScope s_Z21) .none kV0 dc0 pm0 an0 cd0 ct0),sl0⟩) (c0:PySem.W.codeIn K cd0 "_law_mixed" = true) (k0:PySem.W.keepIn K (.ref f0)=true)
  (a1:PySem.W.nsIn K mainGlobals "_law_purse" = some (some (.ref f1))) (l1:K.lookup f1=some ⟨oc1,od1,.func (PySem.W.fnOf "_law_purse" "_law_purse" (defArgs s_Z23) (defBody s_Z23) (defScope s_Z23) .none kV1 dc1 pm1 an1 cd1 ct1),sl1⟩) (c1:PySem.W.codeIn K cd1 "_law_purse" = true) (k1:PySem.W.keepIn K (.ref f1)=true)
  (a2:PySem.W.nsIn K mainGlobals "form_from" = some (some (.ref f2))) (l2:K.lookup f2=some ⟨oc2,od2,.func (PySem.W.fnOf "form_from" "form_from" (defArgs s_Z8) (defBody s_Z8) (defScope s_Z8) .none kV2 dc2 pm2 an2 cd2 ct2),sl2⟩) (c2:PySem.W.codeIn K cd2 "form_from" = true) (k2:PySem.W.keepIn K (.ref f2)=true)
  (a3:PySem.W.nsIn K mainGlobals "made" = some (some (.ref f3))) (l3:K.lookup f3=some ⟨oc3,od3,.func (PySem.W.fnOf "made" "made" (defArgs s_Z26) (defBody s_Z26) (defScope s_Z26) .none kV3 dc3 pm3 an3 cd3 ct3),sl3⟩) (c3:PySem.W.codeIn K cd3 "made" = true) (k3:PySem.W.keepIn K (.ref f3)=true)
  (a4:PySem.W.nsIn K mainGlobals "plus" = some (some (.ref f4))) (l4:K.lookup f4=some ⟨oc4,od4,.func (PySem.W.fnOf "plus" "plus" (defArgs s_Z28) (defBody s_Z28) (defScope s_Z28) .none kV4 dc4 pm4 an4 cd4 ct4),sl4⟩) (c4:PySem.W.codeIn K cd4 "plus" = true) (k4:PySem.W.keepIn K (.ref f4)=true)
  (a5:PySem.W.nsIn K mainGlobals "scaled" = some (some (.ref f5))) (l5:K.lookup f5=some ⟨oc5,od5,.func (PySem.W.fnOf "scaled" "scaled" (defArgs s_Z32) (defBody s_Z32) (defScope s_Z32) .none kV5 dc5 pm5 an5 cd5 ct5),sl5⟩) (c5:PySem.W.codeIn K cd5 "scaled" = true) (k5:PySem.W.keepIn K (.ref f5)=true)
  (a6:PySem.W.nsIn K mainGlobals "less" = some (some (.ref f6))) (l6:K.lookup f6=some ⟨oc6,od6,.func (PySem.W.fnOf "less" "less" (defArgs s_Z25) (defBody s_Z25) (defScope s_Z25) .none kV6 dc6 pm6 an6 cd6 ct6),sl6⟩) (c6:PySem.W.codeIn K cd6 "less" = true) (k6:PySem.W.keepIn K (.ref f6)=true)
  (a7:PySem.W.nsIn K mainGlobals "doubled" = some (some (.ref f7))) (l7:K.lookup f7=some ⟨oc7,od7,.func (PySem.W.fnOf "doubled" "doubled" (defArgs s_Z4) (defBody s_Z4) (defScope s_Z4) .none kV7 dc7 pm7 an7 cd7 ct7),sl7⟩) (c7:PySem.W.codeIn K cd7 "doubled" = true) (k7:PySem.W.keepIn K (.ref f7)=true)
  (a8:PySem.W.nsIn K mainGlobals "word_form" = some (some (.ref f8))) (l8:K.lookup f8=some ⟨oc8,od8,.func (PySem.W.fnOf "word_form" "word_form" (defArgs s_Z40) (defBody s_Z40) (defScope s_Z40) .none kV8 dc8 pm8 an8 cd8 ct8),sl8⟩) (c8:PySem.W.codeIn K cd8 "word_form" = true) (k8:PySem.W.keepIn K (.ref f8)=true)
  (a9:PySem.W.nsIn K mainGlobals "gathered" = some (some (.ref f9))) (l9:K.lookup f9=some ⟨oc9,od9,.func (PySem.W.fnOf "gathered" "gathered" (defArgs s_Z14) (defBody s_Z14) (defScope s_Z14) .none kV9 dc9 pm9 an9 cd9 ct9),sl9⟩) (c9:PySem.W.codeIn K cd9 "gathered" = true) (k9:PySem.W.keepIn K (.ref f9)=true)
  (a10:PySem.W.nsIn K mainGlobals "table_of" = some (some (.ref f10))) (l10:K.lookup f10=some ⟨oc10,od10,.func (PySem.W.fnOf "table_of" "table_of" (defArgs s_Z35) (defBody s_Z35) (defScope s_Z35) .none kV10 dc10 pm10 an10 cd10 ct10),sl10⟩) (c10:PySem.W.codeIn K cd10 "table_of" = true) (k10:PySem.W.keepIn K (.ref f10)=true)
  (a11:PySem.W.nsIn K mainGlobals "unknowns" = some (some (.ref f11))) (l11:K.lookup f11=some ⟨oc11,od11,.func (PySem.W.fnOf "unknowns" "unknowns" (defArgs s_Z37) (defBody s_Z37) (defScope s_Z37) .none kV11 dc11 pm11 an11 cd11 ct11),sl11⟩) (c11:PySem.W.codeIn K cd11 "unknowns" = true) (k11:PySem.W.keepIn K (.ref f11)=true)
  (a12:PySem.W.nsIn K mainGlobals "paired_tables" = some (some (.ref f12))) (l12:K.lookup f12=some ⟨oc12,od12,.func (PySem.W.fnOf "paired_tables" "paired_tables" (defArgs s_Z27) (defBody s_Z27) (defScope s_Z27) .none kV12 dc12 pm12 an12 cd12 ct12),sl12⟩) (c12:PySem.W.codeIn K cd12 "paired_tables" = true) (k12:PySem.W.keepIn K (.ref f12)=true)
  (a13:PySem.W.nsIn K mainGlobals "form_of" = some (some (.ref f13))) (l13:K.lookup f13=some ⟨oc13,od13,.func (PySem.W.fnOf "form_of" "form_of" (defArgs s_Z9) (defBody s_Z9) (defScope s_Z9) .none kV13 dc13 pm13 an13 cd13 ct13),sl13⟩) (c13:PySem.W.codeIn K cd13 "form_of" = true) (k13:PySem.W.keepIn K (.ref f13)=true)
  (a14:PySem.W.nsIn K mainGlobals "times" = some (some (.ref f14))) (l14:K.lookup f14=some ⟨oc14,od14,.func (PySem.W.fnOf "times" "times" (defArgs s_Z36) (defBody s_Z36) (defScope s_Z36) .none kV14 dc14 pm14 an14 cd14 ct14),sl14⟩) (c14:PySem.W.codeIn K cd14 "times" = true) (k14:PySem.W.keepIn K (.ref f14)=true)
  (a15:PySem.W.nsIn K mainGlobals "product" = some (some (.ref f15))) (l15:K.lookup f15=some ⟨oc15,od15,.func (PySem.W.fnOf "product" "product" (defArgs s_Z29) (defBody s_Z29) (defScope s_Z29) .none kV15 dc15 pm15 an15 cd15 ct15),sl15⟩) (c15:PySem.W.codeIn K cd15 "product" = true) (k15:PySem.W.keepIn K (.ref f15)=true)
  (a16:PySem.W.nsIn K mainGlobals "form_of_formula" = some (some (.ref f16))) (l16:K.lookup f16=some ⟨oc16,od16,.func (PySem.W.fnOf "form_of_formula" "form_of_formula" (defArgs s_Z10) (defBody s_Z10) (defScope s_Z10) .none kV16 dc16 pm16 an16 cd16 ct16),sl16⟩) (c16:PySem.W.codeIn K cd16 "form_of_formula" = true) (k16:PySem.W.keepIn K (.ref f16)=true)
  (a17:PySem.W.nsIn K mainGlobals "claim_form" = some (some (.ref f17))) (l17:K.lookup f17=some ⟨oc17,od17,.func (PySem.W.fnOf "claim_form" "claim_form" (defArgs s_Z3) (defBody s_Z3) (defScope s_Z3) .none kV17 dc17 pm17 an17 cd17 ct17),sl17⟩) (c17:PySem.W.codeIn K cd17 "claim_form" = true) (k17:PySem.W.keepIn K (.ref f17)=true)
  (a18:PySem.W.nsIn K mainGlobals "single_wires" = some (some (.ref f18))) (l18:K.lookup f18=some ⟨oc18,od18,.func (PySem.W.fnOf "single_wires" "single_wires" (defArgs s_Z33) (defBody s_Z33) (defScope s_Z33) .none kV18 dc18 pm18 an18 cd18 ct18),sl18⟩) (c18:PySem.W.codeIn K cd18 "single_wires" = true) (k18:PySem.W.keepIn K (.ref f18)=true)
  (a19:PySem.W.nsIn K mainGlobals "joined" = some (some (.ref f19))) (l19:K.lookup f19=some ⟨oc19,od19,.func (PySem.W.fnOf "joined" "joined" (defArgs s_Z17) (defBody s_Z17) (defScope s_Z17) .none kV19 dc19 pm19 an19 cd19 ct19),sl19⟩) (c19:PySem.W.codeIn K cd19 "joined" = true) (k19:PySem.W.keepIn K (.ref f19)=true)
  (a20:PySem.W.nsIn K mainGlobals "form_of_word" = some (some (.ref f20))) (l20:K.lookup f20=some ⟨oc20,od20,.func (PySem.W.fnOf "form_of_word" "form_of_word" (defArgs s_Z11) (defBody s_Z11) (defScope s_Z11) .none kV20 dc20 pm20 an20 cd20 ct20),sl20⟩) (c20:PySem.W.codeIn K cd20 "form_of_word" = true) (k20:PySem.W.keepIn K (.ref f20)=true)
  (a21:PySem.W.nsIn K mainGlobals "gate_form" = some (some (.ref f21))) (l21:K.lookup f21=some ⟨oc21,od21,.func (PySem.W.fnOf "gate_form" "gate_form" (defArgs s_Z13) (defBody s_Z13) (defScope s_Z13) .none kV21 dc21 pm21 an21 cd21 ct21),sl21⟩) (c21:PySem.W.codeIn K cd21 "gate_form" = true) (k21:PySem.W.keepIn K (.ref f21)=true)
  (a22:PySem.W.nsIn K mainGlobals "without" = some (some (.ref f22))) (l22:K.lookup f22=some ⟨oc22,od22,.func (PySem.W.fnOf "without" "without" (defArgs s_Z39) (defBody s_Z39) (defScope s_Z39) .none kV22 dc22 pm22 an22 cd22 ct22),sl22⟩) (c22:PySem.W.codeIn K cd22 "without" = true) (k22:PySem.W.keepIn K (.ref f22)=true)
  (a23:PySem.W.nsIn K mainGlobals "freed" = some (some (.ref f23))) (l23:K.lookup f23=some ⟨oc23,od23,.func (PySem.W.fnOf "freed" "freed" (defArgs s_Z12) (defBody s_Z12) (defScope s_Z12) .none kV23 dc23 pm23 an23 cd23 ct23),sl23⟩) (c23:PySem.W.codeIn K cd23 "freed" = true) (k23:PySem.W.keepIn K (.ref f23)=true)
  (a24:PySem.W.nsIn K mainGlobals "put_in" = some (some (.ref f24))) (l24:K.lookup f24=some ⟨oc24,od24,.func (PySem.W.fnOf "put_in" "put_in" (defArgs s_Z30) (defBody s_Z30) (defScope s_Z30) .none kV24 dc24 pm24 an24 cd24 ct24),sl24⟩) (c24:PySem.W.codeIn K cd24 "put_in" = true) (k24:PySem.W.keepIn K (.ref f24)=true)
  (a25:PySem.W.nsIn K mainGlobals "steps_within" = some (some (.ref f25))) (l25:K.lookup f25=some ⟨oc25,od25,.func (PySem.W.fnOf "steps_within" "steps_within" (defArgs s_Z34) (defBody s_Z34) (defScope s_Z34) .none kV25 dc25 pm25 an25 cd25 ct25),sl25⟩) (c25:PySem.W.codeIn K cd25 "steps_within" = true) (k25:PySem.W.keepIn K (.ref f25)=true)
  (a26:PySem.W.nsIn K mainGlobals "first_set" = some (some (.ref f26))) (l26:K.lookup f26=some ⟨oc26,od26,.func (PySem.W.fnOf "first_set" "first_set" (defArgs s_Z6) (defBody s_Z6) (defScope s_Z6) .none kV26 dc26 pm26 an26 cd26 ct26),sl26⟩) (c26:PySem.W.codeIn K cd26 "first_set" = true) (k26:PySem.W.keepIn K (.ref f26)=true)
  (a27:PySem.W.nsIn K mainGlobals "is_nought" = some (some (.ref f27))) (l27:K.lookup f27=some ⟨oc27,od27,.func (PySem.W.fnOf "is_nought" "is_nought" (defArgs s_Z16) (defBody s_Z16) (defScope s_Z16) .none kV27 dc27 pm27 an27 cd27 ct27),sl27⟩) (c27:PySem.W.codeIn K cd27 "is_nought" = true) (k27:PySem.W.keepIn K (.ref f27)=true)
  (a28:PySem.W.nsIn K mainGlobals "first_left" = some (some (.ref f28))) (l28:K.lookup f28=some ⟨oc28,od28,.func (PySem.W.fnOf "first_left" "first_left" (defArgs s_Z5) (defBody s_Z5) (defScope s_Z5) .none kV28 dc28 pm28 an28 cd28 ct28),sl28⟩) (c28:PySem.W.codeIn K cd28 "first_left" = true) (k28:PySem.W.keepIn K (.ref f28)=true)
  (a29:PySem.W.nsIn K mainGlobals "first_wrong" = some (some (.ref f29))) (l29:K.lookup f29=some ⟨oc29,od29,.func (PySem.W.fnOf "first_wrong" "first_wrong" (defArgs s_Z7) (defBody s_Z7) (defScope s_Z7) .none kV29 dc29 pm29 an29 cd29 ct29),sl29⟩) (c29:PySem.W.codeIn K cd29 "first_wrong" = true) (k29:PySem.W.keepIn K (.ref f29)=true)
  (a30:PySem.W.nsIn K mainGlobals "read_back" = some (some (.ref f30))) (l30:K.lookup f30=some ⟨oc30,od30,.func (PySem.W.fnOf "read_back" "read_back" (defArgs s_Z31) (defBody s_Z31) (defScope s_Z31) .none kV30 dc30 pm30 an30 cd30 ct30),sl30⟩) (c30:PySem.W.codeIn K cd30 "read_back" = true) (k30:PySem.W.keepIn K (.ref f30)=true)
  (a31:PySem.W.nsIn K mainGlobals "judged" = some (some (.ref f31))) (l31:K.lookup f31=some ⟨oc31,od31,.func (PySem.W.fnOf "judged" "judged" (defArgs s_Z18) (defBody s_Z18) (defScope s_Z18) .none kV31 dc31 pm31 an31 cd31 ct31),sl31⟩) (c31:PySem.W.codeIn K cd31 "judged" = true) (k31:PySem.W.keepIn K (.ref f31)=true)
  (a32:PySem.W.nsIn K mainGlobals "_law_draw" = some (some (.ref f32))) (l32:K.lookup f32=some ⟨oc32,od32,.func (PySem.W.fnOf "_law_draw" "_law_draw" (defArgs s_Z20) (defBody s_Z20) (defScope s_Z20) .none kV32 dc32 pm32 an32 cd32 ct32),sl32⟩) (c32:PySem.W.codeIn K cd32 "_law_draw" = true) (k32:PySem.W.keepIn K (.ref f32)=true)
  (a33:PySem.W.nsIn K mainGlobals "_law_added" = some (some (.ref f33))) (l33:K.lookup f33=some ⟨oc33,od33,.func (PySem.W.fnOf "_law_added" "_law_added" (defArgs s_Z19) (defBody s_Z19) (defScope s_Z19) .none kV33 dc33 pm33 an33 cd33 ct33),sl33⟩) (c33:PySem.W.codeIn K cd33 "_law_added" = true) (k33:PySem.W.keepIn K (.ref f33)=true)
  (a34:PySem.W.nsIn K mainGlobals "_law_product" = some (some (.ref f34))) (l34:K.lookup f34=some ⟨oc34,od34,.func (PySem.W.fnOf "_law_product" "_law_product" (defArgs s_Z22) (defBody s_Z22) (defScope s_Z22) .none kV34 dc34 pm34 an34 cd34 ct34),sl34⟩) (c34:PySem.W.codeIn K cd34 "_law_product" = true) (k34:PySem.W.keepIn K (.ref f34)=true)
  (a35:PySem.W.nsIn K mainGlobals "walks" = some (some (.ref f35))) (l35:K.lookup f35=some ⟨oc35,od35,.func (PySem.W.fnOf "walks" "walks" (defArgs s_Z38) (defBody s_Z38) (defScope s_Z38) .none kV35 dc35 pm35 an35 cd35 ct35),sl35⟩) (c35:PySem.W.codeIn K cd35 "walks" = true) (k35:PySem.W.keepIn K (.ref f35)=true)
  (a36:PySem.W.nsIn K mainGlobals "_law_right" = some (some (.ref f36))) (l36:K.lookup f36=some ⟨oc36,od36,.func (PySem.W.fnOf "_law_right" "_law_right" (defArgs s_Z24) (defBody s_Z24) (defScope s_Z24) .none kV36 dc36 pm36 an36 cd36 ct36),sl36⟩) (c36:PySem.W.codeIn K cd36 "_law_right" = true) (k36:PySem.W.keepIn K (.ref f36)=true)
  (aL:PySem.W.nsIn K mainGlobals "law" = some (some (.ref fL))) (lL:K.lookup fL=some ⟨ocL,odL,.func (PySem.W.fnOf "law" "law" (defArgs s_law) (defBody s_law) (defScope s_law) .none kVL dcL pmL anL cdL ctL),slL⟩) (cL:PySem.W.codeIn K cdL "law" = true) (kL:PySem.W.keepIn K (.ref fL)=true)
  (z_dict:PySem.W.nsIn K mainGlobals "dict" = some none)
  (z_enumerate:PySem.W.nsIn K mainGlobals "enumerate" = some none)
  (z_isinstance:PySem.W.nsIn K mainGlobals "isinstance" = some none)
  (z_len:PySem.W.nsIn K mainGlobals "len" = some none)
  (z_list:PySem.W.nsIn K mainGlobals "list" = some none)
  (z_max:PySem.W.nsIn K mainGlobals "max" = some none)
  (z_range:PySem.W.nsIn K mainGlobals "range" = some none)
  (z_sorted:PySem.W.nsIn K mainGlobals "sorted" = some none)
  (z_tuple:PySem.W.nsIn K mainGlobals "tuple" = some none)
  (z_zip:PySem.W.nsIn K mainGlobals "zip" = some none)
  {tk_VERY_MANY:Tok} (g_VERY_MANY:PySem.W.nsIn K mainGlobals "VERY_MANY" = some (some (.int 20000 tk_VERY_MANY))) :
  ∃ fd:FuncData,(∀ (s:Shared) (v:Value),BindsTo s fd ⟨[v],[]⟩ [("_law_script",v)])∧∀ base:Heap,K.In base→base.Ns mainGlobals mg→FnOk l.prog w K mg base CX0 21 fa fd ["_law_script"] (spLaw K):=by
 have e:=hfa.symm.trans (PySem.W.mg_of X G aL);cases e;have F0:=fun_mk (st:=s_Z21) l0 c0 k0;have F1:=fun_mk (st:=s_Z23) l1 c1 k1;have F2:=fun_mk (st:=s_Z8) l2 c2 k2;have F3:=fun_mk (st:=s_Z26) l3 c3 k3;have F4:=fun_mk (st:=s_Z28) l4 c4 k4;have F5:=fun_mk (st:=s_Z32) l5 c5 k5;have F6:=fun_mk (st:=s_Z25) l6 c6 k6;have F7:=fun_mk (st:=s_Z4) l7 c7 k7;have F8:=fun_mk (st:=s_Z40) l8 c8 k8;have F9:=fun_mk (st:=s_Z14) l9 c9 k9;have F10:=fun_mk (st:=s_Z35) l10 c10 k10;have F11:=fun_mk (st:=s_Z37) l11 c11 k11;have F12:=fun_mk (st:=s_Z27) l12 c12 k12;have F13:=fun_mk (st:=s_Z9) l13 c13 k13;have F14:=fun_mk (st:=s_Z36) l14 c14 k14;have F15:=fun_mk (st:=s_Z29) l15 c15 k15;have F16:=fun_mk (st:=s_Z10) l16 c16 k16;have F17:=fun_mk (st:=s_Z3) l17 c17 k17;have F18:=fun_mk (st:=s_Z33) l18 c18 k18;have F19:=fun_mk (st:=s_Z17) l19 c19 k19;have F20:=fun_mk (st:=s_Z11) l20 c20 k20;have F21:=fun_mk (st:=s_Z13) l21 c21 k21;have F22:=fun_mk (st:=s_Z39) l22 c22 k22;have F23:=fun_mk (st:=s_Z12) l23 c23 k23;have F24:=fun_mk (st:=s_Z30) l24 c24 k24;have F25:=fun_mk (st:=s_Z34) l25 c25 k25;have F26:=fun_mk (st:=s_Z6) l26 c26 k26;have F27:=fun_mk (st:=s_Z16) l27 c27 k27;have F28:=fun_mk (st:=s_Z5) l28 c28 k28;have F29:=fun_mk (st:=s_Z7) l29 c29 k29;have F30:=fun_mk (st:=s_Z31) l30 c30 k30;have F31:=fun_mk (st:=s_Z18) l31 c31 k31;have F32:=fun_mk (st:=s_Z20) l32 c32 k32;have F33:=fun_mk (st:=s_Z19) l33 c33 k33;have F34:=fun_mk (st:=s_Z22) l34 c34 k34;have F35:=fun_mk (st:=s_Z38) l35 c35 k35;have F36:=fun_mk (st:=s_Z24) l36 c36 k36;have T:Txt K mg:={
  a_Z21:=f0,fd_Z21:=_,d_Z21:=⟨F0,PySem.W.mg_of X G a0,F0.binds fun _ _ _ _ _ _ us hl=>us2 (fun _ _=>rfl) us hl⟩
  a_Z23:=f1,fd_Z23:=_,d_Z23:=⟨F1,PySem.W.mg_of X G a1,F1.binds fun _ _ _ _ _ _ us hl=>us1 (fun _=>rfl) us hl⟩
  a_Z8:=f2,fd_Z8:=_,d_Z8:=⟨F2,PySem.W.mg_of X G a2,F2.binds fun _ _ _ _ _ _ us hl=>us1 (fun _=>rfl) us hl⟩
  a_Z26:=f3,fd_Z26:=_,d_Z26:=⟨F3,PySem.W.mg_of X G a3,F3.binds fun _ _ _ _ _ _ us hl=>us1 (fun _=>rfl) us hl⟩
  a_Z28:=f4,fd_Z28:=_,d_Z28:=⟨F4,PySem.W.mg_of X G a4,F4.binds fun _ _ _ _ _ _ us hl=>us2 (fun _ _=>rfl) us hl⟩
  a_Z32:=f5,fd_Z32:=_,d_Z32:=⟨F5,PySem.W.mg_of X G a5,F5.binds fun _ _ _ _ _ _ us hl=>us2 (fun _ _=>rfl) us hl⟩
  a_Z25:=f6,fd_Z25:=_,d_Z25:=⟨F6,PySem.W.mg_of X G a6,F6.binds fun _ _ _ _ _ _ us hl=>us2 (fun _ _=>rfl) us hl⟩
  a_Z4:=f7,fd_Z4:=_,d_Z4:=⟨F7,PySem.W.mg_of X G a7,F7.binds fun _ _ _ _ _ _ us hl=>us1 (fun _=>rfl) us hl⟩
  a_Z40:=f8,fd_Z40:=_,d_Z40:=⟨F8,PySem.W.mg_of X G a8,F8.binds fun _ _ _ _ _ _ us hl=>us2 (fun _ _=>rfl) us hl⟩
  a_Z14:=f9,fd_Z14:=_,d_Z14:=⟨F9,PySem.W.mg_of X G a9,F9.binds fun _ _ _ _ _ _ us hl=>us2 (fun _ _=>rfl) us hl⟩
  a_Z35:=f10,fd_Z35:=_,d_Z35:=⟨F10,PySem.W.mg_of X G a10,F10.binds fun _ _ _ _ _ _ us hl=>us2 (fun _ _=>rfl) us hl⟩
  a_Z37:=f11,fd_Z37:=_,d_Z37:=⟨F11,PySem.W.mg_of X G a11,F11.binds fun _ _ _ _ _ _ us hl=>us1 (fun _=>rfl) us hl⟩
  a_Z27:=f12,fd_Z27:=_,d_Z27:=⟨F12,PySem.W.mg_of X G a12,F12.binds fun _ _ _ _ _ _ us hl=>us2 (fun _ _=>rfl) us hl⟩
  a_Z9:=f13,fd_Z9:=_,d_Z9:=⟨F13,PySem.W.mg_of X G a13,F13.binds fun _ _ _ _ _ _ us hl=>us1 (fun _=>rfl) us hl⟩
  a_Z36:=f14,fd_Z36:=_,d_Z36:=⟨F14,PySem.W.mg_of X G a14,F14.binds fun _ _ _ _ _ _ us hl=>us2 (fun _ _=>rfl) us hl⟩
  a_Z29:=f15,fd_Z29:=_,d_Z29:=⟨F15,PySem.W.mg_of X G a15,F15.binds fun _ _ _ _ _ _ us hl=>us2 (fun _ _=>rfl) us hl⟩
  a_Z10:=f16,fd_Z10:=_,d_Z10:=⟨F16,PySem.W.mg_of X G a16,F16.binds fun _ _ _ _ _ _ us hl=>us1 (fun _=>rfl) us hl⟩
  a_Z3:=f17,fd_Z3:=_,d_Z3:=⟨F17,PySem.W.mg_of X G a17,F17.binds fun _ _ _ _ _ _ us hl=>us1 (fun _=>rfl) us hl⟩
  a_Z33:=f18,fd_Z33:=_,d_Z33:=⟨F18,PySem.W.mg_of X G a18,F18.binds fun _ _ _ _ _ _ us hl=>us1 (fun _=>rfl) us hl⟩
  a_Z17:=f19,fd_Z17:=_,d_Z17:=⟨F19,PySem.W.mg_of X G a19,F19.binds fun _ _ _ _ _ _ us hl=>us3 (fun _ _ _=>rfl) us hl⟩
  a_Z11:=f20,fd_Z11:=_,d_Z11:=⟨F20,PySem.W.mg_of X G a20,F20.binds fun _ _ _ _ _ _ us hl=>us2 (fun _ _=>rfl) us hl⟩
  a_Z13:=f21,fd_Z13:=_,d_Z13:=⟨F21,PySem.W.mg_of X G a21,F21.binds fun _ _ _ _ _ _ us hl=>us2 (fun _ _=>rfl) us hl⟩
  a_Z39:=f22,fd_Z39:=_,d_Z39:=⟨F22,PySem.W.mg_of X G a22,F22.binds fun _ _ _ _ _ _ us hl=>us2 (fun _ _=>rfl) us hl⟩
  a_Z12:=f23,fd_Z12:=_,d_Z12:=⟨F23,PySem.W.mg_of X G a23,F23.binds fun _ _ _ _ _ _ us hl=>us2 (fun _ _=>rfl) us hl⟩
  a_Z30:=f24,fd_Z30:=_,d_Z30:=⟨F24,PySem.W.mg_of X G a24,F24.binds fun _ _ _ _ _ _ us hl=>us3 (fun _ _ _=>rfl) us hl⟩
  a_Z34:=f25,fd_Z34:=_,d_Z34:=⟨F25,PySem.W.mg_of X G a25,F25.binds fun _ _ _ _ _ _ us hl=>us4 (fun _ _ _ _=>rfl) us hl⟩
  a_Z6:=f26,fd_Z6:=_,d_Z6:=⟨F26,PySem.W.mg_of X G a26,F26.binds fun _ _ _ _ _ _ us hl=>us1 (fun _=>rfl) us hl⟩
  a_Z16:=f27,fd_Z16:=_,d_Z16:=⟨F27,PySem.W.mg_of X G a27,F27.binds fun _ _ _ _ _ _ us hl=>us2 (fun _ _=>rfl) us hl⟩
  a_Z5:=f28,fd_Z5:=_,d_Z5:=⟨F28,PySem.W.mg_of X G a28,F28.binds fun _ _ _ _ _ _ us hl=>us2 (fun _ _=>rfl) us hl⟩
  a_Z7:=f29,fd_Z7:=_,d_Z7:=⟨F29,PySem.W.mg_of X G a29,F29.binds fun _ _ _ _ _ _ us hl=>us3 (fun _ _ _=>rfl) us hl⟩
  a_Z31:=f30,fd_Z31:=_,d_Z31:=⟨F30,PySem.W.mg_of X G a30,F30.binds fun _ _ _ _ _ _ us hl=>us3 (fun _ _ _=>rfl) us hl⟩
  a_Z18:=f31,fd_Z18:=_,d_Z18:=⟨F31,PySem.W.mg_of X G a31,F31.binds fun _ _ _ _ _ _ us hl=>us3 (fun _ _ _=>rfl) us hl⟩
  a_Z20:=f32,fd_Z20:=_,d_Z20:=⟨F32,PySem.W.mg_of X G a32,F32.binds fun _ _ _ _ _ _ us hl=>us2 (fun _ _=>rfl) us hl⟩
  a_Z19:=f33,fd_Z19:=_,d_Z19:=⟨F33,PySem.W.mg_of X G a33,F33.binds fun _ _ _ _ _ _ us hl=>us4 (fun _ _ _ _=>rfl) us hl⟩
  a_Z22:=f34,fd_Z22:=_,d_Z22:=⟨F34,PySem.W.mg_of X G a34,F34.binds fun _ _ _ _ _ _ us hl=>us4 (fun _ _ _ _=>rfl) us hl⟩
  a_Z38:=f35,fd_Z38:=_,d_Z38:=⟨F35,PySem.W.mg_of X G a35,F35.binds fun _ _ _ _ _ _ us hl=>us4 (fun _ _ _ _=>rfl) us hl⟩
  a_Z24:=f36,fd_Z24:=_,d_Z24:=⟨F36,PySem.W.mg_of X G a36,F36.binds fun _ _ _ _ _ _ us hl=>us3 (fun _ _ _=>rfl) us hl⟩
  n_dict:=PySem.W.mg_none_of X G z_dict
  n_enumerate:=PySem.W.mg_none_of X G z_enumerate
  n_isinstance:=PySem.W.mg_none_of X G z_isinstance
  n_len:=PySem.W.mg_none_of X G z_len
  n_list:=PySem.W.mg_none_of X G z_list
  n_max:=PySem.W.mg_none_of X G z_max
  n_range:=PySem.W.mg_none_of X G z_range
  n_sorted:=PySem.W.mg_none_of X G z_sorted
  n_tuple:=PySem.W.mg_none_of X G z_tuple
  n_zip:=PySem.W.mg_none_of X G z_zip
  t_VERY_MANY:=tk_VERY_MANY,g_VERY_MANY:=PySem.W.mg_of X G g_VERY_MANY
 }
 have FL:=fun_mk (st:=s_law) lL cL kL;exact⟨PySem.W.fnOf "law" "law" (defArgs s_law) (defBody s_law) (defScope s_law) .none kVL dcL pmL anL cdL ctL,fun s v=>.of_eq rfl,fun base _ _=>ok_law FL T⟩
noncomputable def K (P:Params):PySem.W.Frag :=
 (nat_lit 3,⟨.type "dict",none,.dict #[⟨PyData.keyHash P "__name__",.str "__name__" 165,.str "law_onceform_k91_whole_words_added_and_multi" 503⟩,⟨PyData.keyHash P "__doc__",.str "__doc__" 166,.none⟩,⟨PyData.keyHash P "__package__",.str "__package__" 167,.none⟩,⟨PyData.keyHash P "__loader__",.str "__loader__" 168,.builtin "__main__.__loader__#opaque"⟩,⟨PyData.keyHash P "__spec__",.str "__spec__" 169,.none⟩,⟨PyData.keyHash P "__annotations__",.str "__annotations__" 170,.ref 6⟩,⟨PyData.keyHash P "__builtins__",.str "__builtins__" 171,.ref 4⟩,⟨PyData.keyHash P "__file__",.str "__file__" 173,.str "/claim/cut.py" 172⟩,⟨PyData.keyHash P "__cached__",.str "__cached__" 174,.none⟩,⟨PyData.keyHash P "doubled",.str "doubled" 197,.ref 21⟩,⟨PyData.keyHash P "bits_of",.str "bits_of" 207,.ref 28⟩,⟨PyData.keyHash P "given_of",.str "given_of" 216,.ref 35⟩,⟨PyData.keyHash P "form_from",.str "form_from" 224,.ref 40⟩,⟨PyData.keyHash P "made",.str "made" 234,.ref 47⟩,⟨PyData.keyHash P "plus",.str "plus" 242,.ref 54⟩,⟨PyData.keyHash P "less",.str "less" 250,.ref 61⟩,⟨PyData.keyHash P "times",.str "times" 264,.ref 68⟩,⟨PyData.keyHash P "scaled",.str "scaled" 270,.ref 73⟩,⟨PyData.keyHash P "worth",.str "worth" 276,.ref 78⟩,⟨PyData.keyHash P "unknowns",.str "unknowns" 286,.ref 85⟩,⟨PyData.keyHash P "without",.str "without" 294,.ref 90⟩,⟨PyData.keyHash P "freed",.str "freed" 300,.ref 95⟩,⟨PyData.keyHash P "put_in",.str "put_in" 310,.ref 102⟩,⟨PyData.keyHash P "first_set",.str "first_set" 317,.ref 109⟩,⟨PyData.keyHash P "gathered",.str "gathered" 325,.ref 114⟩,⟨PyData.keyHash P "table_of",.str "table_of" 331,.ref 119⟩,⟨PyData.keyHash P "paired_tables",.str "paired_tables" 340,.ref 126⟩,⟨PyData.keyHash P "form_of",.str "form_of" 346,.ref 131⟩,⟨PyData.keyHash P "bit_of_word",.str "bit_of_word" 356,.ref 138⟩,⟨PyData.keyHash P "form_of_word",.str "form_of_word" 362,.ref 143⟩,⟨PyData.keyHash P "joined",.str "joined" 373,.ref 150⟩,⟨PyData.keyHash P "bits_for",.str "bits_for" 381,.ref 155⟩,⟨PyData.keyHash P "single_wires",.str "single_wires" 387,.ref 160⟩,⟨PyData.keyHash P "gate_form",.str "gate_form" 393,.ref 165⟩,⟨PyData.keyHash P "read_back",.str "read_back" 402,.ref 172⟩,⟨PyData.keyHash P "steps_within",.str "steps_within" 416,.ref 179⟩,⟨PyData.keyHash P "VERY_MANY",.str "VERY_MANY" 420,.int 20000 419⟩,⟨PyData.keyHash P "form_of_formula",.str "form_of_formula" 429,.ref 186⟩,⟨PyData.keyHash P "word_form",.str "word_form" 435,.ref 191⟩,⟨PyData.keyHash P "product",.str "product" 441,.ref 196⟩,⟨PyData.keyHash P "worth_of",.str "worth_of" 451,.ref 203⟩,⟨PyData.keyHash P "judged",.str "judged" 463,.ref 210⟩,⟨PyData.keyHash P "claim_form",.str "claim_form" 470,.ref 217⟩,⟨PyData.keyHash P "first_left",.str "first_left" 476,.ref 222⟩,⟨PyData.keyHash P "is_nought",.str "is_nought" 484,.ref 229⟩,⟨PyData.keyHash P "first_wrong",.str "first_wrong" 496,.ref 236⟩,⟨PyData.keyHash P "walks",.str "walks" 502,.ref 241⟩,⟨PyData.keyHash P "_law_mixed",.str "_law_mixed" 513,.ref 248⟩,⟨PyData.keyHash P "_law_purse",.str "_law_purse" 523,.ref 255⟩,⟨PyData.keyHash P "_law_draw",.str "_law_draw" 532,.ref 262⟩,⟨PyData.keyHash P "_law_added",.str "_law_added" 538,.ref 267⟩,⟨PyData.keyHash P "_law_product",.str "_law_product" 552,.ref 274⟩,⟨PyData.keyHash P "_law_right",.str "_law_right" 564,.ref 281⟩,⟨PyData.keyHash P "law",.str "law" 570,.ref 286⟩] 54,#[]⟩) ::
 (nat_lit 20,⟨.type "code",none,.fields #[.str "doubled" 189,.str "doubled" 190,.str "/claim/cut.py" 191,.int 2 0,.int 1 0,.int 0 0,.int 0 0,.int 3 0,.ref 15,.bool true,.int 181 0,.ref 16,.none,.ref 17,.ref 18,.ref 19,.int 195 0,.int 2 0,.str "/claim/cut.py" 196],#[]⟩) ::
 (nat_lit 21,⟨.type "function",none,.func (PySem.W.fnOf "doubled" "doubled" (defArgs s_Z4) (defBody s_Z4) (defScope s_Z4) .none .none .none (.str "onceform.bits" 187) none (.ref 20) .none),#[]⟩) ::
 (nat_lit 39,⟨.type "code",none,.fields #[.str "form_from" 219,.str "form_from" 220,.str "/claim/cut.py" 221,.int 19 0,.int 1 0,.int 0 0,.int 0 0,.int 3 0,.ref 36,.bool true,.int 181 0,.ref 37,.none,.none,.none,.ref 38,.int 222 0,.int 19 0,.str "/claim/cut.py" 223],#[]⟩) ::
 (nat_lit 40,⟨.type "function",none,.func (PySem.W.fnOf "form_from" "form_from" (defArgs s_Z8) (defBody s_Z8) (defScope s_Z8) .none .none .none (.str "onceform.forms" 217) none (.ref 39) .none),#[]⟩) ::
 (nat_lit 46,⟨.type "code",none,.fields #[.str "made" 225,.str "made" 226,.str "/claim/cut.py" 227,.int 21 0,.int 1 0,.int 0 0,.int 0 0,.int 3 0,.ref 41,.bool true,.int 181 0,.ref 42,.none,.ref 43,.ref 44,.ref 45,.int 232 0,.int 21 0,.str "/claim/cut.py" 233],#[]⟩) ::
 (nat_lit 47,⟨.type "function",none,.func (PySem.W.fnOf "made" "made" (defArgs s_Z26) (defBody s_Z26) (defScope s_Z26) .none .none .none (.str "onceform.forms" 217) none (.ref 46) .none),#[]⟩) ::
 (nat_lit 53,⟨.type "code",none,.fields #[.str "plus" 235,.str "plus" 236,.str "/claim/cut.py" 237,.int 26 0,.int 2 0,.int 0 0,.int 0 0,.int 3 0,.ref 48,.bool true,.int 181 0,.ref 49,.none,.ref 50,.ref 51,.ref 52,.int 240 0,.int 26 0,.str "/claim/cut.py" 241],#[]⟩) ::
 (nat_lit 54,⟨.type "function",none,.func (PySem.W.fnOf "plus" "plus" (defArgs s_Z28) (defBody s_Z28) (defScope s_Z28) .none .none .none (.str "onceform.forms" 217) none (.ref 53) .none),#[]⟩) ::
 (nat_lit 60,⟨.type "code",none,.fields #[.str "less" 243,.str "less" 244,.str "/claim/cut.py" 245,.int 28 0,.int 2 0,.int 0 0,.int 0 0,.int 3 0,.ref 55,.bool true,.int 181 0,.ref 56,.none,.ref 57,.ref 58,.ref 59,.int 248 0,.int 28 0,.str "/claim/cut.py" 249],#[]⟩) ::
 (nat_lit 61,⟨.type "function",none,.func (PySem.W.fnOf "less" "less" (defArgs s_Z25) (defBody s_Z25) (defScope s_Z25) .none .none .none (.str "onceform.forms" 217) none (.ref 60) .none),#[]⟩) ::
 (nat_lit 67,⟨.type "code",none,.fields #[.str "times" 251,.str "times" 252,.str "/claim/cut.py" 253,.int 30 0,.int 2 0,.int 0 0,.int 0 0,.int 3 0,.ref 62,.bool true,.int 181 0,.ref 63,.none,.ref 64,.ref 65,.ref 66,.int 262 0,.int 30 0,.str "/claim/cut.py" 263],#[]⟩) ::
 (nat_lit 68,⟨.type "function",none,.func (PySem.W.fnOf "times" "times" (defArgs s_Z36) (defBody s_Z36) (defScope s_Z36) .none .none .none (.str "onceform.forms" 217) none (.ref 67) .none),#[]⟩) ::
 (nat_lit 72,⟨.type "code",none,.fields #[.str "scaled" 265,.str "scaled" 266,.str "/claim/cut.py" 267,.int 37 0,.int 2 0,.int 0 0,.int 0 0,.int 3 0,.ref 69,.bool true,.int 181 0,.ref 70,.none,.none,.none,.ref 71,.int 268 0,.int 37 0,.str "/claim/cut.py" 269],#[]⟩) ::
 (nat_lit 73,⟨.type "function",none,.func (PySem.W.fnOf "scaled" "scaled" (defArgs s_Z32) (defBody s_Z32) (defScope s_Z32) .none .none .none (.str "onceform.forms" 217) none (.ref 72) .none),#[]⟩) ::
 (nat_lit 84,⟨.type "code",none,.fields #[.str "unknowns" 277,.str "unknowns" 278,.str "/claim/cut.py" 279,.int 41 0,.int 1 0,.int 0 0,.int 0 0,.int 3 0,.ref 79,.bool true,.int 181 0,.ref 80,.none,.ref 81,.ref 82,.ref 83,.int 284 0,.int 41 0,.str "/claim/cut.py" 285],#[]⟩) ::
 (nat_lit 85,⟨.type "function",none,.func (PySem.W.fnOf "unknowns" "unknowns" (defArgs s_Z37) (defBody s_Z37) (defScope s_Z37) .none .none .none (.str "onceform.forms" 217) none (.ref 84) .none),#[]⟩) ::
 (nat_lit 89,⟨.type "code",none,.fields #[.str "without" 289,.str "without" 290,.str "/claim/cut.py" 291,.int 47 0,.int 2 0,.int 0 0,.int 0 0,.int 3 0,.ref 86,.bool true,.int 181 0,.ref 87,.none,.none,.none,.ref 88,.int 292 0,.int 47 0,.str "/claim/cut.py" 293],#[]⟩) ::
 (nat_lit 90,⟨.type "function",none,.func (PySem.W.fnOf "without" "without" (defArgs s_Z39) (defBody s_Z39) (defScope s_Z39) .none .none .none (.str "onceform.changes" 287) none (.ref 89) .none),#[]⟩) ::
 (nat_lit 94,⟨.type "code",none,.fields #[.str "freed" 295,.str "freed" 296,.str "/claim/cut.py" 297,.int 49 0,.int 2 0,.int 0 0,.int 0 0,.int 3 0,.ref 91,.bool true,.int 181 0,.ref 92,.none,.none,.none,.ref 93,.int 298 0,.int 49 0,.str "/claim/cut.py" 299],#[]⟩) ::
 (nat_lit 95,⟨.type "function",none,.func (PySem.W.fnOf "freed" "freed" (defArgs s_Z12) (defBody s_Z12) (defScope s_Z12) .none .none .none (.str "onceform.changes" 287) none (.ref 94) .none),#[]⟩) ::
 (nat_lit 101,⟨.type "code",none,.fields #[.str "put_in" 301,.str "put_in" 302,.str "/claim/cut.py" 303,.int 51 0,.int 3 0,.int 0 0,.int 0 0,.int 3 0,.ref 96,.bool true,.int 181 0,.ref 97,.none,.ref 98,.ref 99,.ref 100,.int 308 0,.int 51 0,.str "/claim/cut.py" 309],#[]⟩) ::
 (nat_lit 102,⟨.type "function",none,.func (PySem.W.fnOf "put_in" "put_in" (defArgs s_Z30) (defBody s_Z30) (defScope s_Z30) .none .none .none (.str "onceform.changes" 287) none (.ref 101) .none),#[]⟩) ::
 (nat_lit 108,⟨.type "code",none,.fields #[.str "first_set" 311,.str "first_set" 312,.str "/claim/cut.py" 313,.int 54 0,.int 1 0,.int 0 0,.int 0 0,.int 3 0,.ref 103,.bool true,.int 181 0,.ref 104,.none,.ref 105,.ref 106,.ref 107,.int 315 0,.int 54 0,.str "/claim/cut.py" 316],#[]⟩) ::
 (nat_lit 109,⟨.type "function",none,.func (PySem.W.fnOf "first_set" "first_set" (defArgs s_Z6) (defBody s_Z6) (defScope s_Z6) .none .none .none (.str "onceform.changes" 287) none (.ref 108) .none),#[]⟩) ::
 (nat_lit 113,⟨.type "code",none,.fields #[.str "gathered" 320,.str "gathered" 321,.str "/claim/cut.py" 322,.int 57 0,.int 2 0,.int 0 0,.int 0 0,.int 3 0,.ref 110,.bool true,.int 181 0,.ref 111,.none,.none,.none,.ref 112,.int 323 0,.int 57 0,.str "/claim/cut.py" 324],#[]⟩) ::
 (nat_lit 114,⟨.type "function",none,.func (PySem.W.fnOf "gathered" "gathered" (defArgs s_Z14) (defBody s_Z14) (defScope s_Z14) .none .none .none (.str "onceform.tables" 318) none (.ref 113) .none),#[]⟩) ::
 (nat_lit 118,⟨.type "code",none,.fields #[.str "table_of" 326,.str "table_of" 327,.str "/claim/cut.py" 328,.int 63 0,.int 2 0,.int 0 0,.int 0 0,.int 3 0,.ref 115,.bool true,.int 181 0,.ref 116,.none,.none,.none,.ref 117,.int 329 0,.int 63 0,.str "/claim/cut.py" 330],#[]⟩) ::
 (nat_lit 119,⟨.type "function",none,.func (PySem.W.fnOf "table_of" "table_of" (defArgs s_Z35) (defBody s_Z35) (defScope s_Z35) .none .none .none (.str "onceform.tables" 318) none (.ref 118) .none),#[]⟩) ::
 (nat_lit 125,⟨.type "code",none,.fields #[.str "paired_tables" 332,.str "paired_tables" 333,.str "/claim/cut.py" 334,.int 66 0,.int 2 0,.int 0 0,.int 0 0,.int 3 0,.ref 120,.bool true,.int 181 0,.ref 121,.none,.ref 122,.ref 123,.ref 124,.int 338 0,.int 66 0,.str "/claim/cut.py" 339],#[]⟩) ::
 (nat_lit 126,⟨.type "function",none,.func (PySem.W.fnOf "paired_tables" "paired_tables" (defArgs s_Z27) (defBody s_Z27) (defScope s_Z27) .none .none .none (.str "onceform.tables" 318) none (.ref 125) .none),#[]⟩) ::
 (nat_lit 130,⟨.type "code",none,.fields #[.str "form_of" 341,.str "form_of" 342,.str "/claim/cut.py" 343,.int 71 0,.int 1 0,.int 0 0,.int 0 0,.int 3 0,.ref 127,.bool true,.int 181 0,.ref 128,.none,.none,.none,.ref 129,.int 344 0,.int 71 0,.str "/claim/cut.py" 345],#[]⟩) ::
 (nat_lit 131,⟨.type "function",none,.func (PySem.W.fnOf "form_of" "form_of" (defArgs s_Z9) (defBody s_Z9) (defScope s_Z9) .none .none .none (.str "onceform.tables" 318) none (.ref 130) .none),#[]⟩) ::
 (nat_lit 142,⟨.type "code",none,.fields #[.str "form_of_word" 357,.str "form_of_word" 358,.str "/claim/cut.py" 359,.int 82 0,.int 2 0,.int 0 0,.int 0 0,.int 3 0,.ref 139,.bool true,.int 181 0,.ref 140,.none,.none,.none,.ref 141,.int 360 0,.int 82 0,.str "/claim/cut.py" 361],#[]⟩) ::
 (nat_lit 143,⟨.type "function",none,.func (PySem.W.fnOf "form_of_word" "form_of_word" (defArgs s_Z11) (defBody s_Z11) (defScope s_Z11) .none .none .none (.str "onceform.words" 347) none (.ref 142) .none),#[]⟩) ::
 (nat_lit 149,⟨.type "code",none,.fields #[.str "joined" 363,.str "joined" 364,.str "/claim/cut.py" 365,.int 89 0,.int 3 0,.int 0 0,.int 0 0,.int 3 0,.ref 144,.bool true,.int 181 0,.ref 145,.none,.ref 146,.ref 147,.ref 148,.int 371 0,.int 89 0,.str "/claim/cut.py" 372],#[]⟩) ::
 (nat_lit 150,⟨.type "function",none,.func (PySem.W.fnOf "joined" "joined" (defArgs s_Z17) (defBody s_Z17) (defScope s_Z17) .none .none .none (.str "onceform.words" 347) none (.ref 149) .none),#[]⟩) ::
 (nat_lit 159,⟨.type "code",none,.fields #[.str "single_wires" 382,.str "single_wires" 383,.str "/claim/cut.py" 384,.int 104 0,.int 1 0,.int 0 0,.int 0 0,.int 3 0,.ref 156,.bool true,.int 181 0,.ref 157,.none,.none,.none,.ref 158,.int 385 0,.int 104 0,.str "/claim/cut.py" 386],#[]⟩) ::
 (nat_lit 160,⟨.type "function",none,.func (PySem.W.fnOf "single_wires" "single_wires" (defArgs s_Z33) (defBody s_Z33) (defScope s_Z33) .none .none .none (.str "onceform.gates" 374) none (.ref 159) .none),#[]⟩) ::
 (nat_lit 164,⟨.type "code",none,.fields #[.str "gate_form" 388,.str "gate_form" 389,.str "/claim/cut.py" 390,.int 106 0,.int 2 0,.int 0 0,.int 0 0,.int 3 0,.ref 161,.bool true,.int 181 0,.ref 162,.none,.none,.none,.ref 163,.int 391 0,.int 106 0,.str "/claim/cut.py" 392],#[]⟩) ::
 (nat_lit 165,⟨.type "function",none,.func (PySem.W.fnOf "gate_form" "gate_form" (defArgs s_Z13) (defBody s_Z13) (defScope s_Z13) .none .none .none (.str "onceform.gates" 374) none (.ref 164) .none),#[]⟩) ::
 (nat_lit 171,⟨.type "code",none,.fields #[.str "read_back" 394,.str "read_back" 395,.str "/claim/cut.py" 396,.int 110 0,.int 3 0,.int 0 0,.int 0 0,.int 3 0,.ref 166,.bool true,.int 181 0,.ref 167,.none,.ref 168,.ref 169,.ref 170,.int 400 0,.int 110 0,.str "/claim/cut.py" 401],#[]⟩) ::
 (nat_lit 172,⟨.type "function",none,.func (PySem.W.fnOf "read_back" "read_back" (defArgs s_Z31) (defBody s_Z31) (defScope s_Z31) .none .none .none (.str "onceform.gates" 374) none (.ref 171) .none),#[]⟩) ::
 (nat_lit 178,⟨.type "code",none,.fields #[.str "steps_within" 403,.str "steps_within" 404,.str "/claim/cut.py" 405,.int 112 0,.int 4 0,.int 0 0,.int 0 0,.int 3 0,.ref 173,.bool true,.int 181 0,.ref 174,.none,.ref 175,.ref 176,.ref 177,.int 414 0,.int 112 0,.str "/claim/cut.py" 415],#[]⟩) ::
 (nat_lit 179,⟨.type "function",none,.func (PySem.W.fnOf "steps_within" "steps_within" (defArgs s_Z34) (defBody s_Z34) (defScope s_Z34) .none .none .none (.str "onceform.gates" 374) none (.ref 178) .none),#[]⟩) ::
 (nat_lit 185,⟨.type "code",none,.fields #[.str "form_of_formula" 421,.str "form_of_formula" 422,.str "/claim/cut.py" 423,.int 123 0,.int 1 0,.int 0 0,.int 0 0,.int 3 0,.ref 180,.bool true,.int 181 0,.ref 181,.none,.ref 182,.ref 183,.ref 184,.int 427 0,.int 123 0,.str "/claim/cut.py" 428],#[]⟩) ::
 (nat_lit 186,⟨.type "function",none,.func (PySem.W.fnOf "form_of_formula" "form_of_formula" (defArgs s_Z10) (defBody s_Z10) (defScope s_Z10) .none .none .none (.str "onceform.claims" 417) none (.ref 185) .none),#[]⟩) ::
 (nat_lit 190,⟨.type "code",none,.fields #[.str "word_form" 430,.str "word_form" 431,.str "/claim/cut.py" 432,.int 135 0,.int 2 0,.int 0 0,.int 0 0,.int 3 0,.ref 187,.bool true,.int 181 0,.ref 188,.none,.none,.none,.ref 189,.int 433 0,.int 135 0,.str "/claim/cut.py" 434],#[]⟩) ::
 (nat_lit 191,⟨.type "function",none,.func (PySem.W.fnOf "word_form" "word_form" (defArgs s_Z40) (defBody s_Z40) (defScope s_Z40) .none .none .none (.str "onceform.claims" 417) none (.ref 190) .none),#[]⟩) ::
 (nat_lit 195,⟨.type "code",none,.fields #[.str "product" 436,.str "product" 437,.str "/claim/cut.py" 438,.int 140 0,.int 2 0,.int 0 0,.int 0 0,.int 3 0,.ref 192,.bool true,.int 181 0,.ref 193,.none,.none,.none,.ref 194,.int 439 0,.int 140 0,.str "/claim/cut.py" 440],#[]⟩) ::
 (nat_lit 196,⟨.type "function",none,.func (PySem.W.fnOf "product" "product" (defArgs s_Z29) (defBody s_Z29) (defScope s_Z29) .none .none .none (.str "onceform.claims" 417) none (.ref 195) .none),#[]⟩) ::
 (nat_lit 209,⟨.type "code",none,.fields #[.str "judged" 452,.str "judged" 453,.str "/claim/cut.py" 454,.int 157 0,.int 3 0,.int 0 0,.int 0 0,.int 3 0,.ref 204,.bool true,.int 181 0,.ref 205,.none,.ref 206,.ref 207,.ref 208,.int 461 0,.int 157 0,.str "/claim/cut.py" 462],#[]⟩) ::
 (nat_lit 210,⟨.type "function",none,.func (PySem.W.fnOf "judged" "judged" (defArgs s_Z18) (defBody s_Z18) (defScope s_Z18) .none .none .none (.str "onceform.claims" 417) none (.ref 209) .none),#[]⟩) ::
 (nat_lit 216,⟨.type "code",none,.fields #[.str "claim_form" 464,.str "claim_form" 465,.str "/claim/cut.py" 466,.int 169 0,.int 1 0,.int 0 0,.int 0 0,.int 3 0,.ref 211,.bool true,.int 181 0,.ref 212,.none,.ref 213,.ref 214,.ref 215,.int 468 0,.int 169 0,.str "/claim/cut.py" 469],#[]⟩) ::
 (nat_lit 217,⟨.type "function",none,.func (PySem.W.fnOf "claim_form" "claim_form" (defArgs s_Z3) (defBody s_Z3) (defScope s_Z3) .none .none .none (.str "onceform.claims" 417) none (.ref 216) .none),#[]⟩) ::
 (nat_lit 221,⟨.type "code",none,.fields #[.str "first_left" 471,.str "first_left" 472,.str "/claim/cut.py" 473,.int 171 0,.int 2 0,.int 0 0,.int 0 0,.int 3 0,.ref 218,.bool true,.int 181 0,.ref 219,.none,.none,.none,.ref 220,.int 474 0,.int 171 0,.str "/claim/cut.py" 475],#[]⟩) ::
 (nat_lit 222,⟨.type "function",none,.func (PySem.W.fnOf "first_left" "first_left" (defArgs s_Z5) (defBody s_Z5) (defScope s_Z5) .none .none .none (.str "onceform.claims" 417) none (.ref 221) .none),#[]⟩) ::
 (nat_lit 228,⟨.type "code",none,.fields #[.str "is_nought" 477,.str "is_nought" 478,.str "/claim/cut.py" 479,.int 173 0,.int 2 0,.int 0 0,.int 0 0,.int 3 0,.ref 223,.bool true,.int 181 0,.ref 224,.none,.ref 225,.ref 226,.ref 227,.int 482 0,.int 173 0,.str "/claim/cut.py" 483],#[]⟩) ::
 (nat_lit 229,⟨.type "function",none,.func (PySem.W.fnOf "is_nought" "is_nought" (defArgs s_Z16) (defBody s_Z16) (defScope s_Z16) .none .none .none (.str "onceform.claims" 417) none (.ref 228) .none),#[]⟩) ::
 (nat_lit 235,⟨.type "code",none,.fields #[.str "first_wrong" 485,.str "first_wrong" 486,.str "/claim/cut.py" 487,.int 175 0,.int 3 0,.int 0 0,.int 0 0,.int 3 0,.ref 230,.bool true,.int 181 0,.ref 231,.none,.ref 232,.ref 233,.ref 234,.int 494 0,.int 175 0,.str "/claim/cut.py" 495],#[]⟩) ::
 (nat_lit 236,⟨.type "function",none,.func (PySem.W.fnOf "first_wrong" "first_wrong" (defArgs s_Z7) (defBody s_Z7) (defScope s_Z7) .none .none .none (.str "onceform.claims" 417) none (.ref 235) .none),#[]⟩) ::
 (nat_lit 240,⟨.type "code",none,.fields #[.str "walks" 497,.str "walks" 498,.str "/claim/cut.py" 499,.int 182 0,.int 4 0,.int 0 0,.int 0 0,.int 3 0,.ref 237,.bool true,.int 181 0,.ref 238,.none,.none,.none,.ref 239,.int 500 0,.int 182 0,.str "/claim/cut.py" 501],#[]⟩) ::
 (nat_lit 241,⟨.type "function",none,.func (PySem.W.fnOf "walks" "walks" (defArgs s_Z38) (defBody s_Z38) (defScope s_Z38) .none .none .none (.str "onceform.claims" 417) none (.ref 240) .none),#[]⟩) ::
 (nat_lit 247,⟨.type "code",none,.fields #[.str "_law_mixed" 505,.str "_law_mixed" 506,.str "/claim/cut.py" 507,.int 188 0,.int 2 0,.int 0 0,.int 0 0,.int 3 0,.ref 242,.bool true,.int 181 0,.ref 243,.none,.ref 244,.ref 245,.ref 246,.int 511 0,.int 188 0,.str "/claim/cut.py" 512],#[]⟩) ::
 (nat_lit 248,⟨.type "function",none,.func (PySem.W.fnOf "_law_mixed" "_law_mixed" (defArgs s_Z21) (defBody s_Z21) (defScope s_Z21) .none .none .none (.str "law_onceform_k91_whole_words_added_and_multi" 503) none (.ref 247) .none),#[]⟩) ::
 (nat_lit 254,⟨.type "code",none,.fields #[.str "_law_purse" 514,.str "_law_purse" 515,.str "/claim/cut.py" 516,.int 191 0,.int 1 0,.int 0 0,.int 0 0,.int 3 0,.ref 249,.bool true,.int 181 0,.ref 250,.none,.ref 251,.ref 252,.ref 253,.int 521 0,.int 191 0,.str "/claim/cut.py" 522],#[]⟩) ::
 (nat_lit 255,⟨.type "function",none,.func (PySem.W.fnOf "_law_purse" "_law_purse" (defArgs s_Z23) (defBody s_Z23) (defScope s_Z23) .none .none .none (.str "law_onceform_k91_whole_words_added_and_multi" 503) none (.ref 254) .none),#[]⟩) ::
 (nat_lit 261,⟨.type "code",none,.fields #[.str "_law_draw" 524,.str "_law_draw" 525,.str "/claim/cut.py" 526,.int 199 0,.int 2 0,.int 0 0,.int 0 0,.int 3 0,.ref 256,.bool true,.int 181 0,.ref 257,.none,.ref 258,.ref 259,.ref 260,.int 530 0,.int 199 0,.str "/claim/cut.py" 531],#[]⟩) ::
 (nat_lit 262,⟨.type "function",none,.func (PySem.W.fnOf "_law_draw" "_law_draw" (defArgs s_Z20) (defBody s_Z20) (defScope s_Z20) .none .none .none (.str "law_onceform_k91_whole_words_added_and_multi" 503) none (.ref 261) .none),#[]⟩) ::
 (nat_lit 266,⟨.type "code",none,.fields #[.str "_law_added" 533,.str "_law_added" 534,.str "/claim/cut.py" 535,.int 203 0,.int 4 0,.int 0 0,.int 0 0,.int 3 0,.ref 263,.bool true,.int 181 0,.ref 264,.none,.none,.none,.ref 265,.int 536 0,.int 203 0,.str "/claim/cut.py" 537],#[]⟩) ::
 (nat_lit 267,⟨.type "function",none,.func (PySem.W.fnOf "_law_added" "_law_added" (defArgs s_Z19) (defBody s_Z19) (defScope s_Z19) .none .none .none (.str "law_onceform_k91_whole_words_added_and_multi" 503) none (.ref 266) .none),#[]⟩) ::
 (nat_lit 273,⟨.type "code",none,.fields #[.str "_law_product" 539,.str "_law_product" 540,.str "/claim/cut.py" 541,.int 227 0,.int 4 0,.int 0 0,.int 0 0,.int 3 0,.ref 268,.bool true,.int 181 0,.ref 269,.none,.ref 270,.ref 271,.ref 272,.int 550 0,.int 227 0,.str "/claim/cut.py" 551],#[]⟩) ::
 (nat_lit 274,⟨.type "function",none,.func (PySem.W.fnOf "_law_product" "_law_product" (defArgs s_Z22) (defBody s_Z22) (defScope s_Z22) .none .none .none (.str "law_onceform_k91_whole_words_added_and_multi" 503) none (.ref 273) .none),#[]⟩) ::
 (nat_lit 280,⟨.type "code",none,.fields #[.str "_law_right" 553,.str "_law_right" 554,.str "/claim/cut.py" 555,.int 236 0,.int 3 0,.int 0 0,.int 0 0,.int 3 0,.ref 275,.bool true,.int 181 0,.ref 276,.none,.ref 277,.ref 278,.ref 279,.int 562 0,.int 236 0,.str "/claim/cut.py" 563],#[]⟩) ::
 (nat_lit 281,⟨.type "function",none,.func (PySem.W.fnOf "_law_right" "_law_right" (defArgs s_Z24) (defBody s_Z24) (defScope s_Z24) .none .none .none (.str "law_onceform_k91_whole_words_added_and_multi" 503) none (.ref 280) .none),#[]⟩) ::
 (nat_lit 285,⟨.type "code",none,.fields #[.str "law" 565,.str "law" 566,.str "/claim/cut.py" 567,.int 244 0,.int 1 0,.int 0 0,.int 0 0,.int 3 0,.ref 282,.bool true,.int 181 0,.ref 283,.none,.none,.none,.ref 284,.int 568 0,.int 244 0,.str "/claim/cut.py" 569],#[]⟩) ::
 (nat_lit 286,⟨.type "function",none,.func (PySem.W.fnOf "law" "law" (defArgs s_law) (defBody s_law) (defScope s_law) .none .none .none (.str "law_onceform_k91_whole_words_added_and_multi" 503) none (.ref 285) .none),#[]⟩) ::
 []
noncomputable abbrev Q : Program := PySem.W.view PySem.Challenge.rw_onceform_k91_whole_words_added_and_multi.row.toRowW.prog [1, 2, 3, 5, 6, 7, 8, 9, 10, 11, 12, 14, 15, 16, 17, 19, 20, 21, 22, 24, 25, 26, 28, 29, 30, 31, 32, 34, 35, 36, 37, 38, 39, 40, 41, 42, 43, 44, 46, 47, 48, 49, 50, 51, 52]
theorem as_is (P:Params):[3,20,21,39,40,46,47,53,54,60,61,67,68,72,73,84,85,89,90,94,95,101,102,108,109,113,114,118,119,125,126,130,131,142,143,149,150,159,160,164,165,171,172,178,179,185,186,190,191,195,196,209,210,216,217,221,222,228,229,235,236,240,241,247,248,254,255,261,262,266,267,273,274,280,281,285,286]=(K P).map (·.1):=by kernel_rfl
noncomputable abbrev Hk:PySem.W.Hook:=PySem.W.kHook K [3,20,21,39,40,46,47,53,54,60,61,67,68,72,73,84,85,89,90,94,95,101,102,108,109,113,114,118,119,125,126,130,131,142,143,149,150,159,160,164,165,171,172,178,179,185,186,190,191,195,196,209,210,216,217,221,222,228,229,235,236,240,241,247,248,254,255,261,262,266,267,273,274,280,281,285,286] as_is
noncomputable abbrev Xq : Shared → Bool := fun s => PySem.W.xlAt Q [] s && PySem.W.recOk (PySem.W.RowW.records PySem.Challenge.rw_onceform_k91_whole_words_added_and_multi.row.toRowW) s
set_option maxHeartbeats 0 in
theorem left : PySem.W.LeftO PySem.Challenge.rw_onceform_k91_whole_words_added_and_multi.row.toRowW.prog Q [] Xq Hk.obs Hk.val 2884 := OH.left (by kernel_rfl) (by decide) (fun s => by kernel_rfl) (fun w => by kernel_rfl)
set_option maxHeartbeats 0 in
theorem said : PySem.Challenge.rw_onceform_k91_whole_words_added_and_multi.wellSaid = true := (congrFun PySem.W.Fast.te9446332074065402090 _).trans (by kernel_rfl)
theorem walk {l:PySem.W.OpenLaw}{q:Program}{loose:List Str}{XP:(Str→Option Value)→Heap→Prop}{YP:World→Heap→Prop}{d:DefRec}{K:Params→PySem.W.Frag} (hn:l.most=some 63) (hdf:d.params.defaults=[])
  (hY:∀ (w:World) (h:Heap),YP w h→(K w.params).In h)
  (F:∀ (w:World) (mg:Str→Option Value) (fa:Addr) (h:Heap),(K w.params).In h→h.Ns mainGlobals mg→mg d.name=some (.ref fa) →
   ∃ fd:FuncData,(∀ (s:Shared) (u:Value),BindsTo s fd ⟨[u],[]⟩ [("_law_script",u)])∧∀ base:Heap,(K w.params).In base→base.Ns mainGlobals mg→FnOk l.prog w (K w.params) mg base CX0 21 fa fd ["_law_script"] (spLaw (K w.params))) :
  PySem.W.WalkO q loose XP YP l.row.toRowW d [] (fun f vs=>PySem.call f vs) :=
 L2.walk_ofB (n:=63) (k:=21) (x := "_law_script") (CX:=fun _=>CX0) (sp:=fun w=>spLaw (K w.params)) hn (by decide) hdf ⟨rfl,by decide,by decide⟩ hY F (fun _ _ a ns hl hb _ hS=>⟨a,ns,rfl,hS,hl,hb,fun _=>rfl⟩) fun _ _ _ _ _ z=>z
end My
open PySem PySem.W PyProof.Rows
set_option maxRecDepth 100000 in
set_option maxHeartbeats 0 in
theorem PySem.Challenge.cw_onceform_k91_whole_words_added_and_multi_holds : PySem.Challenge.rw_onceform_k91_whole_words_added_and_multi.Holds := by
 w_on
 refine PySem.W.holds_law My.said fun said=>?_
 refine PySem.W.holds_open (q:=My.Q) (loose:=[]) (Xt:=My.Xq) (XP:=PySem.W.XL My.Q []) (Yf:=My.Hk.obs) (Ya:=My.Hk.val) (YP:=PySem.W.InK My.K) (N:=2884) (d:=⟨"law",L2.defArgs My.s_law,L2.defBody My.s_law,L2.defScope My.s_law,My.defPos My.s_law⟩) (kwd:=[]) My.left My.Hk.of My.Hk.keeps
  (fun s e=>PySem.W.xl_of s (Bool.and_eq_true_iff.mp e).1) PySem.W.XL.keeps (by kernel_rfl) (by kernel_rfl) (by kernel_rfl) (fun s e=>PySem.W.recFacts_of (Bool.and_eq_true_iff.mp e).2) (by kernel_rfl) said (by decide +kernel) ⟨rfl,rfl,rfl,rfl,rfl,by decide +kernel⟩ ?hw ?hc
 case hw=>w_witness2
 k_fill
 refine My.walk (K := My.K) (l := PySem.Challenge.rw_onceform_k91_whole_words_added_and_multi) rfl rfl (fun w h Y => Y) ?F
 case F =>
  intro w mg fa h KX G hmg;refine' My.all_mk KX G hmg ?a0 ?l0 ?c0 ?k0 ?a1 ?l1 ?c1 ?k1 ?a2 ?l2 ?c2 ?k2 ?a3 ?l3 ?c3 ?k3 ?a4 ?l4 ?c4 ?k4 ?a5 ?l5 ?c5 ?k5 ?a6 ?l6 ?c6 ?k6 ?a7 ?l7 ?c7 ?k7 ?a8 ?l8 ?c8 ?k8 ?a9 ?l9 ?c9 ?k9 ?a10 ?l10 ?c10 ?k10 ?a11 ?l11 ?c11 ?k11 ?a12 ?l12 ?c12 ?k12 ?a13 ?l13 ?c13 ?k13 ?a14 ?l14 ?c14 ?k14 ?a15 ?l15 ?c15 ?k15 ?a16 ?l16 ?c16 ?k16 ?a17 ?l17 ?c17 ?k17 ?a18 ?l18 ?c18 ?k18 ?a19 ?l19 ?c19 ?k19 ?a20 ?l20 ?c20 ?k20 ?a21 ?l21 ?c21 ?k21 ?a22 ?l22 ?c22 ?k22 ?a23 ?l23 ?c23 ?k23 ?a24 ?l24 ?c24 ?k24 ?a25 ?l25 ?c25 ?k25 ?a26 ?l26 ?c26 ?k26 ?a27 ?l27 ?c27 ?k27 ?a28 ?l28 ?c28 ?k28 ?a29 ?l29 ?c29 ?k29 ?a30 ?l30 ?c30 ?k30 ?a31 ?l31 ?c31 ?k31 ?a32 ?l32 ?c32 ?k32 ?a33 ?l33 ?c33 ?k33 ?a34 ?l34 ?c34 ?k34 ?a35 ?l35 ?c35 ?k35 ?a36 ?l36 ?c36 ?k36 ?aL ?lL ?cL ?kL ?z_dict ?z_enumerate ?z_isinstance ?z_len ?z_list ?z_max ?z_range ?z_sorted ?z_tuple ?z_zip ?g_VERY_MANY
  (case a0=>k_is)
  (case l0=>k_is)
  (case c0=>k_is)
  (case k0=>k_is)
  (case a1=>k_is)
  (case l1=>k_is)
  (case c1=>k_is)
  (case k1=>k_is)
  (case a2=>k_is)
  (case l2=>k_is)
  (case c2=>k_is)
  (case k2=>k_is)
  (case a3=>k_is)
  (case l3=>k_is)
  (case c3=>k_is)
  (case k3=>k_is)
  (case a4=>k_is)
  (case l4=>k_is)
  (case c4=>k_is)
  (case k4=>k_is)
  (case a5=>k_is)
  (case l5=>k_is)
  (case c5=>k_is)
  (case k5=>k_is)
  (case a6=>k_is)
  (case l6=>k_is)
  (case c6=>k_is)
  (case k6=>k_is)
  (case a7=>k_is)
  (case l7=>k_is)
  (case c7=>k_is)
  (case k7=>k_is)
  (case a8=>k_is)
  (case l8=>k_is)
  (case c8=>k_is)
  (case k8=>k_is)
  (case a9=>k_is)
  (case l9=>k_is)
  (case c9=>k_is)
  (case k9=>k_is)
  (case a10=>k_is)
  (case l10=>k_is)
  (case c10=>k_is)
  (case k10=>k_is)
  (case a11=>k_is)
  (case l11=>k_is)
  (case c11=>k_is)
  (case k11=>k_is)
  (case a12=>k_is)
  (case l12=>k_is)
  (case c12=>k_is)
  (case k12=>k_is)
  (case a13=>k_is)
  (case l13=>k_is)
  (case c13=>k_is)
  (case k13=>k_is)
  (case a14=>k_is)
  (case l14=>k_is)
  (case c14=>k_is)
  (case k14=>k_is)
  (case a15=>k_is)
  (case l15=>k_is)
  (case c15=>k_is)
  (case k15=>k_is)
  (case a16=>k_is)
  (case l16=>k_is)
  (case c16=>k_is)
  (case k16=>k_is)
  (case a17=>k_is)
  (case l17=>k_is)
  (case c17=>k_is)
  (case k17=>k_is)
  (case a18=>k_is)
  (case l18=>k_is)
  (case c18=>k_is)
  (case k18=>k_is)
  (case a19=>k_is)
  (case l19=>k_is)
  (case c19=>k_is)
  (case k19=>k_is)
  (case a20=>k_is)
  (case l20=>k_is)
  (case c20=>k_is)
  (case k20=>k_is)
  (case a21=>k_is)
  (case l21=>k_is)
  (case c21=>k_is)
  (case k21=>k_is)
  (case a22=>k_is)
  (case l22=>k_is)
  (case c22=>k_is)
  (case k22=>k_is)
  (case a23=>k_is)
  (case l23=>k_is)
  (case c23=>k_is)
  (case k23=>k_is)
  (case a24=>k_is)
  (case l24=>k_is)
  (case c24=>k_is)
  (case k24=>k_is)
  (case a25=>k_is)
  (case l25=>k_is)
  (case c25=>k_is)
  (case k25=>k_is)
  (case a26=>k_is)
  (case l26=>k_is)
  (case c26=>k_is)
  (case k26=>k_is)
  (case a27=>k_is)
  (case l27=>k_is)
  (case c27=>k_is)
  (case k27=>k_is)
  (case a28=>k_is)
  (case l28=>k_is)
  (case c28=>k_is)
  (case k28=>k_is)
  (case a29=>k_is)
  (case l29=>k_is)
  (case c29=>k_is)
  (case k29=>k_is)
  (case a30=>k_is)
  (case l30=>k_is)
  (case c30=>k_is)
  (case k30=>k_is)
  (case a31=>k_is)
  (case l31=>k_is)
  (case c31=>k_is)
  (case k31=>k_is)
  (case a32=>k_is)
  (case l32=>k_is)
  (case c32=>k_is)
  (case k32=>k_is)
  (case a33=>k_is)
  (case l33=>k_is)
  (case c33=>k_is)
  (case k33=>k_is)
  (case a34=>k_is)
  (case l34=>k_is)
  (case c34=>k_is)
  (case k34=>k_is)
  (case a35=>k_is)
  (case l35=>k_is)
  (case c35=>k_is)
  (case k35=>k_is)
  (case a36=>k_is)
  (case l36=>k_is)
  (case c36=>k_is)
  (case k36=>k_is)
  (case aL=>k_is)
  (case lL=>k_is)
  (case cL=>k_is)
  (case kL=>k_is)
  (case z_dict=>k_is)
  (case z_enumerate=>k_is)
  (case z_isinstance=>k_is)
  (case z_len=>k_is)
  (case z_list=>k_is)
  (case z_max=>k_is)
  (case z_range=>k_is)
  (case z_sorted=>k_is)
  (case z_tuple=>k_is)
  (case z_zip=>k_is)
  (case g_VERY_MANY=>k_is)
#print axioms PySem.Challenge.cw_onceform_k91_whole_words_added_and_multi_holds
