import PyProof.Rows.All
import Wide.All
import OpenK.AllK
import Wide.FinOn
import Lean
import PyProof.EqAt
import PyProof.EqKinds
import PyProof.TupleCall
import PyProof.NeKinds
import PyProof.WalksEnum
import PyProof.EnumMake
import PyProof.AttrMissHeap
import KE.KDictOf
import PyProof.ListNew
import PyProof.ZipIter
import PyProof.Rows.ZipGen
import KE.KIntText
import PyProof.StrLawsTight
import KE.KRevIter
import KE.KDictList
import KE.KEqDict
import PyProof.DictCopy
import KE.KSortTup
import PySem.Challenge.RW_onceform_k81_texts_of_forms_read
set_option genSizeOf false
set_option Elab.async false
set_option linter.all false
set_option maxRecDepth 100000
set_option maxHeartbeats 4000000
namespace L2
open PySem PySem.Spec PyProof.Rows
noncomputable abbrev Key:=Sum Int Str
noncomputable def keyIs:Key→Value→Bool
 | .inl k,v=>Value.isInt k v
 | .inr x,v=>Value.isStrOf x v
noncomputable def keyH (w:World):Key→Int
 | .inl k=>hashInt k
 | .inr x=>hashStr w x
theorem keyIs_shape:∀ {k:Key}{v:Value},keyIs k v=true→(∃ i t,k=Sum.inl i∧v=Value.int i t)∨(∃ x t,k=Sum.inr x∧v=Value.str x t)
 | .inl i,v,h=>by
  obtain⟨t,e⟩:=Value.isInt_shape (k:=i) (v:=v) h;exact .inl ⟨i,t,rfl,e⟩
 | .inr x,v,h=>by
  obtain⟨t,e⟩:=Value.isStrOf_shape (x:=x) (v:=v) h;exact .inr ⟨x,t,rfl,e⟩
theorem keyIs_int (i:Int) (t:Tok):keyIs (.inl i) (.int i t)=true:=by simp[keyIs,Value.isInt]
theorem keyIs_str (x:Str) (t:Tok):keyIs (.inr x) (.str x t)=true:=by simp[keyIs,Value.isStrOf]
theorem key_ll (a b:Int):decide ((Sum.inl a:Key)=Sum.inl b)=(a == b):=by
 by_cases e:a=b
 ·subst e;simp
 ·have h:¬ (Sum.inl a:Key)=Sum.inl b:=fun q=>e (Sum.inl.inj q)
  rw[decide_eq_false h];exact (beq_eq_false_iff_ne.mpr e).symm
theorem key_rr (a b:Str):decide ((Sum.inr a:Key)=Sum.inr b)=decide (a=b):=by
 by_cases e:a=b
 ·subst e;simp
 ·have h:¬ (Sum.inr a:Key)=Sum.inr b:=fun q=>e (Sum.inr.inj q)
  rw[decide_eq_false h,decide_eq_false e]
theorem key_lr (a:Int) (b:Str):decide ((Sum.inl a:Key)=Sum.inr b)=false:=decide_eq_false (fun q=>nomatch q)
theorem key_rl (a:Str) (b:Int):decide ((Sum.inr a:Key)=Sum.inl b)=false:=decide_eq_false (fun q=>nomatch q)
noncomputable def mixKind (prog:Program) (w:World):PySem.KeyKind prog w Key where
 is:=keyIs
 hash:=keyH w
 inj:=fun v a b ha hb=>by
  rcases keyIs_shape ha with ⟨i,t,rfl,rfl⟩ | ⟨x,t,rfl,rfl⟩
  ·rcases keyIs_shape hb with ⟨j,u,rfl,e⟩ | ⟨y,u,rfl,e⟩
   ·injection e with e1 _;rw[e1]
   ·exact nomatch e
  ·rcases keyIs_shape hb with ⟨j,u,rfl,e⟩ | ⟨y,u,rfl,e⟩
   ·exact nomatch e
   ·injection e with e1 _;rw[e1]
 byValue:=fun k v h=>by
  rcases keyIs_shape h with ⟨i,t,rfl,rfl⟩ | ⟨x,t,rfl,rfl⟩ <;> rfl
 pyHash:=fun hv h=>by
  rcases keyIs_shape hv with ⟨i,t,rfl,rfl⟩ | ⟨x,t,rfl,rfl⟩
  ·exact wpAny_pyHash_int h
  ·exact wpAny_pyHash_str h
 eqBool:=fun hu hv h=>by
  rcases keyIs_shape hu with ⟨i,t,rfl,rfl⟩ | ⟨x,t,rfl,rfl⟩
  ·rcases keyIs_shape hv with ⟨j,u,rfl,rfl⟩ | ⟨y,u,rfl,rfl⟩
   ·rw[key_ll] at h;exact wpAny_eqBool_int h
   ·rw[key_lr] at h;exact SeqAt.EqAt.int_str i t y u _ _ _ _ h
  ·rcases keyIs_shape hv with ⟨j,u,rfl,rfl⟩ | ⟨y,u,rfl,rfl⟩
   ·rw[key_rl] at h;exact SeqAt.EqAt.str_int x t j u _ _ _ _ h
   ·rw[key_rr] at h;exact wpAny_eqBool_str h
 «strs» := fun k x t v h=>by
  rcases keyIs_shape h with ⟨i,u,rfl,e⟩ | ⟨y,u,rfl,e⟩
  ·exact nomatch e
  ·injection e with e1 _
   subst e1;cases v <;> rfl
theorem mixKind_int (prog:Program) (w:World) (i:Int) (t:Tok):(mixKind prog w).is (.inl i) (.int i t)=true:=keyIs_int i t
theorem mixKind_str (prog:Program) (w:World) (x:Str) (t:Tok):(mixKind prog w).is (.inr x) (.str x t)=true:=keyIs_str x t
end L2
namespace L2
open PySem PySem.Spec PyProof.Rows
inductive V where
 | non | bl (b:Bool) | int (i:Int) | str (x:Str) | byt (b:Array UInt8) | flt (b:UInt64) | ref (a:Addr) | ty (n:String)
 deriving DecidableEq
noncomputable def RelV:V→Value→Prop
 | .non,u=>u=Value.none
 | .bl b,u=>u=Value.bool b
 | .int i,u=>∃ t,u=Value.int i t
 | .str x,u=>∃ t,u=Value.str x t
 | .byt b,u=>∃ t,u=Value.bytes b t
 | .flt b,u=>∃ t,u=Value.float b t
 | .ref a,u=>u=Value.ref a
 | .ty n,u=>u=Value.type n
noncomputable abbrev Vals:List V→List Value→Prop:=Paired RelV
theorem Vals.length {xs:List V}{us:List Value} (r:Vals xs us):xs.length=us.length:=Paired.length r
theorem Vals.get:∀ {xs:List V}{us:List Value}{i:Nat}{x:V},Vals xs us→xs[i]? = some x→∃ u,us[i]? = some u∧RelV x u
 | _,_,_,_,.nil,e=>by simp at e
 | _,_,0,_,.cons r _,e=>by simp at e;subst e;exact⟨_,rfl,r⟩
 | _,_,i+1,x,.cons _ t,e=>by
  obtain⟨u,h1,h2⟩:=Vals.get (i:=i) (x:=x) t (by simpa using e);exact⟨u,by simpa using h1,h2⟩
theorem Vals.set {x:V}{u:Value} (r:RelV x u):∀ {xs:List V}{us:List Value} (i:Nat),Vals xs us→Vals (xs.set i x) (us.set i u)
 | _,_,_,.nil=>.nil
 | _,_,0,.cons _ t=>.cons r t
 | _,_,i+1,.cons q t=>.cons q (Vals.set r i t)
theorem Vals.append:∀ {xs ys:List V}{us ws:List Value},Vals xs us→Vals ys ws→Vals (xs++ys) (us++ws)
 | _,_,_,_,.nil,s=>s
 | _,_,_,_,.cons r t,s=>.cons r (Vals.append t s)
theorem Vals.take:∀ {xs:List V}{us:List Value} (n:Nat),Vals xs us→Vals (xs.take n) (us.take n)
 | _,_,0,_=>.nil
 | _,_,_+1,.nil=>.nil
 | _,_,n+1,.cons r t=>.cons r (Vals.take n t)
theorem Vals.drop:∀ {xs:List V}{us:List Value} (n:Nat),Vals xs us→Vals (xs.drop n) (us.drop n)
 | _,_,0,r=>r
 | _,_,_+1,.nil=>.nil
 | _,_,n+1,.cons _ t=>Vals.drop n t
noncomputable def RelO:Option V→Option Value→Prop
 | some v,some u=>RelV v u
 | none,none=>True
 | _,_=>False
noncomputable def KV {κ : Type}:List (κ × V)→List (κ × Value)→Prop:=Paired fun (p : κ × V) (q : κ × Value)=>p.1=q.1∧RelV p.2 q.2
noncomputable def kV:Key→V
 | .inl i=>.int i
 | .inr x=>.str x
inductive HO where
  | lst (xs:List V)
  | tup (xs:List V)
  | dK (kvs:List (Key × V)) | dT (kvs:List (List Key × V))
  | set (S:Int→Bool) (n:Nat)
  | ins (C dx:Addr) (fs:List (Str × V))
  | own (x:Addr)
  | xd (fs:List (Str × V))
  | met (f x:Addr)
  | rng (lo hi:Int)
  | frz (o:Obj) (u:HO)
  | tbl (ps:Array Value)
  | ext (φ : Heap→Prop)
noncomputable abbrev Hp:=Addr→Option HO
noncomputable def upd (H:Hp) (a:Addr) (o:HO):Hp:=fun b=>if b=a then some o else H b
theorem upd_same {H:Hp}{a:Addr}{o:HO}:upd H a o a=some o:=by unfold upd;rw[if_pos rfl]
theorem upd_ne {H:Hp}{a b:Addr}{o:HO} (h:b≠a):upd H a o b=H b:=by unfold upd;rw[if_neg h]
theorem upd_upd {H:Hp}{a:Addr}{o u:HO}:upd (upd H a o) a u=upd H a u:=by
 funext b;unfold upd;split <;> rfl
theorem ne_of {H:Hp}{a b:Addr}{o u:HO} (h:H a=some o) (h':H b=some u) (d:o≠u):a≠b:=by
 intro e;subst e;rw[h] at h';exact d (Option.some.inj h')
theorem ne_of_none {H:Hp}{a b:Addr}{o:HO} (h:H a=some o) (h':H b=none):a≠b:=by
 intro e;subst e;rw[h] at h';cases h'
section
variable (P:Program) (w:World)
noncomputable def ObjOk (H:Hp) (h:Heap) (a:Addr):HO→Prop
 | .lst xs=>xs.length≤sizeLine∧∃ (its:List Value) (n:Nat),Vals xs its∧h.get? a=some { cls := .type "list",data := .seq its.toArray n }
 | .tup xs=>xs.length≤sizeLine∧∃ its:List Value,Vals xs its∧IsTup h a its.toArray
 | .dK kvs=>kvs.length≤sizeLine∧(a == sysModules)=false∧∃ vs,KV kvs vs∧h.DictOf (mixKind P w) a vs
 | .dT kvs=>kvs.length≤sizeLine∧(a == sysModules)=false∧∃ xs:List (List Key × Addr × Value),
   Paired (fun (p:List Key × V) (q:List Key × Addr × Value)=>p.1=q.1∧H q.2.1=some (.tup (p.1.map kV))∧RelV p.2 q.2.2) kvs xs ∧
   ∃ o es ep,h.get? a=some o∧o.ExactDict∧o.data = .dict es ep∧es.toList=xs.map (entryOfKey (tupleKind (mixKind P w)))∧(xs.map (·.1)).Nodup
 | .set S n=>h.SetOf (intKind P w) a S n
 | .ins C dx fs=>H dx=some (.own a)∧fs.length≤1000∧dx≠a∧h.get? a=some (PySem.W.instObj C dx) ∧
   ∃ mA,h.Ns1 dx mA∧(∀ f,RelO (fs.lookup f) (mA f))∧PySem.Within mA (fs.map (·.1))
 | .own _=>∃ o,h.get? a=some o
 | .xd fs=>∃ mA,h.Ns1 a mA∧∀ f,RelO (fs.lookup f) (mA f)
 | .rng lo hi=>∃ t u v,h.get? a=some { cls := .type "range",data := .fields #[.int lo t,.int hi u,.int 1 v] }
 | .frz o u=>h.get? a=some o∧ObjOk H h a u
 | .tbl ps=>h.get? a=some { cls := .none,data := .fields ps }
 | .met f x=>h.get? a=some (PySem.W.methodObj (.ref f) (.ref x))
 | .ext φ => φ h∧(∃ o,h.get? a=some o)∧∀ h1 h2:Heap,φ h1→(∀ o,h1.get? a=some o→h2.get? a=some o) → φ h2
noncomputable def HOk (H:Hp) (h:Heap):Prop:=∀ a o,H a=some o→ObjOk P w H h a o
end
section
variable {P:Program}{w:World}{H H':Hp}{h h':Heap}{a:Addr}{o:HO}
theorem ObjOk.lt (x:ObjOk P w H h a o):a<h.objs.size:=by
 cases o with
 | lst xs=>obtain⟨_,_,_,_,e⟩:=x;exact Heap.lt_size e
 | tup xs=>obtain⟨_,_,_,p⟩:=x;exact p.lt
 | dK kvs=>obtain⟨_,_,_,_,o,_,_,e,_⟩:=x;exact Heap.lt_size e
 | dT kvs=>obtain⟨_,_,_,_,o,_,_,e,_⟩:=x;exact Heap.lt_size e
 | set S n=>obtain⟨o,_,_,_,e,_⟩:=x;exact Heap.lt_size e
 | ins C dx fs=>obtain⟨_,_,_,e,_⟩:=x;exact Heap.lt_size e
 | own y=>obtain⟨_,e⟩:=x;exact Heap.lt_size e
 | xd fs=>obtain⟨_,⟨_,_,_,e,_⟩,_⟩:=x;exact Heap.lt_size e
 | rng lo hi=>obtain⟨_,_,_,e⟩:=x;exact Heap.lt_size e
 | frz ob u=>obtain⟨e,_⟩:=x;exact Heap.lt_size e
 | tbl ps=>exact Heap.lt_size (show h.get? a=some _ from x)
 | met f y=>exact Heap.lt_size (show h.get? a=some _ from x)
 | ext φ => obtain⟨_,⟨_,e⟩,_⟩:=x;exact Heap.lt_size e
theorem Paired.mapP {α β : Type}{F G : α → β → Prop}:∀ {l₁:List α}{l₂:List β},Paired F l₁ l₂→(∀ a b,F a b→G a b)→Paired G l₁ l₂
 | _,_,.nil,_=>.nil
 | _,_,.cons r t,f=>.cons (f _ _ r) (Paired.mapP t f)
theorem ObjOk.stay (x:ObjOk P w H h a o) (k:∀ b u,(b=a∨H b=some (.own a))→h.get? b=some u→h'.get? b=some u)
  (ho:∀ b,H b=some (.own a)→H' b=some (.own a)) (ht:∀ b xs,H b=some (.tup xs)→H' b=some (.tup xs)):ObjOk P w H' h' a o:=by
 induction o with
 | lst xs=>obtain⟨z,its,n,r,e⟩:=x;exact⟨z,its,n,r,k _ _ (.inl rfl) e⟩
 | tup xs=>obtain⟨z,its,r,ob,e,c⟩:=x;exact⟨z,its,r,ob,k _ _ (.inl rfl) e,c⟩
 | dK kvs=>obtain⟨z,y,vs,r,ob,es,ep,e,c⟩:=x;exact⟨z,y,vs,r,ob,es,ep,k _ _ (.inl rfl) e,c⟩
 | dT kvs =>
  obtain⟨z,y,xs,r,ob,es,ep,e,c⟩:=x;exact⟨z,y,xs,Paired.mapP r fun p q z=>⟨z.1,ht _ _ z.2.1,z.2.2⟩,ob,es,ep,k _ _ (.inl rfl) e,c⟩
 | set S n=>obtain⟨ob,es,ep,t,e,c⟩:=x;exact⟨ob,es,ep,t,k _ _ (.inl rfl) e,c⟩
 | ins C dx fs =>
  obtain⟨d,z,ne,e,mA,⟨od,es,ep,e2,c⟩,r⟩:=x;exact⟨ho _ d,z,ne,k _ _ (.inl rfl) e,mA,⟨od,es,ep,k _ _ (.inr d) e2,c⟩,r⟩
 | own y=>obtain⟨ob,e⟩:=x;exact⟨ob,k _ _ (.inl rfl) e⟩
 | xd fs=>obtain⟨mA,⟨od,es,ep,e,c⟩,r⟩:=x;exact⟨mA,⟨od,es,ep,k _ _ (.inl rfl) e,c⟩,r⟩
 | rng lo hi=>obtain⟨t,u,v,e⟩:=x;exact⟨t,u,v,k _ _ (.inl rfl) e⟩
 | frz ob u ih=>obtain⟨e,q⟩:=x;exact⟨k _ _ (.inl rfl) e,ih q⟩
 | tbl ps =>
  have e:h.get? a=some { cls := .none,data := .fields ps }:=x;show h'.get? a=some { cls := .none,data := .fields ps };exact k a _ (.inl rfl) e
 | met f y =>
  have e:h.get? a=some (PySem.W.methodObj (.ref f) (.ref y)):=x;show h'.get? a=some (PySem.W.methodObj (.ref f) (.ref y));exact k a _ (.inl rfl) e
 | ext φ => obtain⟨p,⟨o,e⟩,st⟩:=x;exact⟨st _ _ p fun o q=>k _ _ (.inl rfl) q,⟨o,k _ _ (.inl rfl) e⟩,st⟩
theorem HOk.lt (x:HOk P w H h) (e:H a=some o):a<h.objs.size:=(x a o e).lt
theorem HOk.fresh (x:HOk P w H h) (e:h.objs.size≤a):H a=none:=by
 cases q:H a with
 | none=>rfl
 | some u=>exact absurd (Nat.lt_of_lt_of_le (x.lt q) e) (Nat.lt_irrefl _)
theorem HOk.kept (x:HOk P w H h) (k:∀ b u,h.get? b=some u→h'.get? b=some u):HOk P w H h':=fun a o e =>
 (x a o e).stay (fun b u _ q=>k b u q) (fun _ q=>q) fun _ _ q=>q
theorem HOk.laid (x:HOk P w H h) (k:∀ b u,h.get? b=some u→h'.get? b=some u) (hp:h.objs.size≤a) (new:ObjOk P w (upd H a o) h' a o):HOk P w (upd H a o) h':=fun b u e=>by
 have hn:=x.fresh hp;by_cases hb:b=a
 ·subst hb;rw[upd_same] at e;cases e;exact new
 ·rw[upd_ne hb] at e;exact (x b u e).stay (fun c v _ q=>k c v q) (fun c q=>by rw[upd_ne (ne_of_none q hn)];exact q) fun c xs q=>by rw[upd_ne (ne_of_none q hn)];exact q
end
noncomputable def Rd (H:Hp) (a:Addr) (u:HO):Prop:=H a=some u∨∃ o,H a=some (.frz o u)
theorem Rd.ok {P:Program}{w:World}{H:Hp}{h:Heap}{a:Addr}{u:HO} (r:Rd H a u) (x:HOk P w H h):ObjOk P w H h a u:=by
 rcases r with r | ⟨o,r⟩
 ·exact x a u r
 ·obtain⟨_,q⟩:=x a _ r;exact q
noncomputable def Mut:Option HO→Prop
 | some (.lst _)=>True
 | some (.dK _)=>True
 | some (.dT _)=>True
 | some (.set _ _)=>True
 | some (.ins _ _ _)=>True
 | some (.ext _)=>True
 | _=>False
section
variable {P:Program}{w:World}{H:Hp}{h h':Heap}{x e:Addr}{o':HO}
theorem HOk.write (ok:HOk P w H h) (mu:Mut (H x)) (he:e=x∨H e=some (.own x)) (k:∀ b u,b≠e→h.get? b=some u→h'.get? b=some u) (heo:∃ u,h'.get? e=some u)
  (new:ObjOk P w (upd H x o') h' x o'):HOk P w (upd H x o') h':=fun b u q=>by
 have nown:∀ c y,H c=some (.own y)→c≠x:=fun c y r z=>by subst z;rw[r] at mu;exact mu
 have ntup:∀ c xs,H c=some (.tup xs)→c≠x:=fun c xs r z=>by subst z;rw[r] at mu;exact mu
 by_cases hb:b=x
 ·subst hb;rw[upd_same] at q;cases q;exact new
 ·rw[upd_ne hb] at q;by_cases hbe:b=e
  ·have q':H b=some (.own x):=by
    rcases he with z | z
    ·exact absurd (hbe.trans z) hb
    ·rw[hbe];exact z
   rw[q] at q';cases q';obtain⟨v,hv⟩:=heo;exact⟨v,by rw[hbe];exact hv⟩
  ·refine (ok b u q).stay (fun c v hc r=>k c v ?_ r) (fun c r=>by rw[upd_ne (nown c b r)];exact r) fun c xs r=>by rw[upd_ne (ntup c xs r)];exact r
   rcases hc with rfl | hc
   ·exact hbe
   ·rintro rfl;rcases he with z | z
    ·exact nown c b hc z
    ·rw[hc] at z;cases z;exact hb rfl
end
structure Un (fs ex:List Addr) (H H':Hp) (h h':Heap):Prop where
 keep:∀ b o,h.get? b=some o→H b=none→b ∉ fs→b ∉ ex→h'.get? b=some o
 slot:∀ b o,h.get? b=some o→H b=none→b∈fs→b ∉ ex→∃ sl,h'.get? b=some { o with slots:=sl }
 free:∀ b o,h.get? b=some o→H b=none→b ∉ ex→H' b=none
 there:∀ b o,h.get? b=some o→b ∉ ex→∃ o',h'.get? b=some o'
 tups:∀ b xs,H b=some (.tup xs)→H' b=some (.tup xs)
 frzs:∀ b o u,H b=some (.frz o u)→H' b=some (.frz o u)
 tbls:∀ b ps,H b=some (.tbl ps)→∃ more,H' b=some (.tbl (ps++more))
section
variable {fs fs' ex ex':List Addr}{H H1 H2:Hp}{h h1 h2 h':Heap}{a x e:Addr}{o:HO}
theorem Un.any (u:Un fs ex H H1 h h1) {b:Addr}{ob:Obj} (q:h.get? b=some ob) (n:H b=none) (hx:b ∉ ex):∃ sl,h1.get? b=some { ob with slots:=sl }:=by
 by_cases hb:b∈fs
 ·exact u.slot b ob q n hb hx
 ·exact⟨ob.slots,u.keep b ob q n hb hx⟩
theorem Un.kept (k:∀ b u,h.get? b=some u→h'.get? b=some u):Un fs ex H H h h' :=
 ⟨fun b ob q _ _ _=>k b ob q,fun b ob q _ _ _=>⟨ob.slots,k b ob q⟩,fun _ _ _ n _=>n,fun b ob q _=>⟨ob,k b ob q⟩,fun _ _ q=>q,fun _ _ _ q=>q,fun _ ps q=>⟨#[],by rw[q];simp⟩⟩
theorem Un.refl:Un fs ex H H h h:=Un.kept fun _ _ q=>q
theorem Un.laid (k:∀ b u,h.get? b=some u→h'.get? b=some u) (hp:h.objs.size≤a) (hn:H a=none):Un fs ex H (upd H a o) h h' where
 keep:=fun b u q _ _ _=>k b u q
 slot:=fun b u q _ _ _=>⟨u.slots,k b u q⟩
 free:=fun b u q n _=>by rw[upd_ne (Nat.ne_of_lt (Nat.lt_of_lt_of_le (Heap.lt_size q) hp))];exact n
 there:=fun b u q _=>⟨u,k b u q⟩
 tups:=fun b xs q=>by rw[upd_ne (ne_of_none q hn)];exact q
 frzs:=fun b u xs q=>by rw[upd_ne (ne_of_none q hn)];exact q
 tbls:=fun b ps q=>⟨#[],by rw[upd_ne (ne_of_none q hn),q];simp⟩
theorem Un.write (mu:Mut (H x)) (he:e=x∨H e=some (.own x)) (k:∀ b u,b≠e→h.get? b=some u→h'.get? b=some u) (heo:∃ u,h'.get? e=some u):Un fs ex H (upd H x o) h h':=by
 have hx:∀ b,H b=none→b≠x:=fun b n z=>by subst z;rw[n] at mu;exact mu
 have hb:∀ b,H b=none→b≠e:=fun b n z=>by
  subst z;rcases he with r | r
  ·exact hx b n r
  ·rw[n] at r;cases r
 have hm:∀ b u,H b=some u→¬ Mut (some u)→b≠x:=fun b u q nm z=>by subst z;rw[q] at mu;exact nm mu
 refine⟨fun b u q n _ _=>k b u (hb b n) q,fun b u q n _ _=>⟨u.slots,k b u (hb b n) q⟩,fun b u q n _=>by rw[upd_ne (hx b n)];exact n,fun b u q _=>?_,
  fun b xs q=>by rw[upd_ne (hm b _ q fun z=>z)];exact q,fun b u xs q=>by rw[upd_ne (hm b _ q fun z=>z)];exact q,fun b ps q=>⟨#[],by rw[upd_ne (hm b _ q fun z=>z),q];simp⟩⟩
 by_cases hbe:b=e
 ·subst hbe;exact heo
 ·exact⟨u,k b u hbe q⟩
end
noncomputable def trk (h:Heap) (H:Hp):List Addr:=(List.range h.objs.size).filter fun a=>(H a).isSome
noncomputable def hidT (h:Heap) (H:Hp):Heap:=PySem.W.hideAll h (trk h H)
theorem hidT_size (h:Heap) (H:Hp):(hidT h H).objs.size=h.objs.size:=PySem.W.hideAll_size _ _
theorem hidT_get {h:Heap}{H:Hp}{b:Addr}{o:Obj} (e:h.get? b=some o) (n:H b=none):(hidT h H).get? b=some o :=
 PySem.W.hideAll_get _ e fun hm=>by
  have q:(H b).isSome=true:=(List.mem_filter.mp hm).2;rw[n] at q;simp at q
theorem of_hidT {h:Heap}{H:Hp}{b:Addr}{o:Obj} (e:(hidT h H).get? b=some o):h.get? b=some o∧H b=none:=by
 have e':h.get? b=some o:=PySem.W.of_hideAll (trk h H) e;refine⟨e',?_⟩;cases q:H b with
 | none=>rfl
 | some x =>
  have hm:b∈trk h H:=List.mem_filter.mpr ⟨List.mem_range.mpr (Heap.lt_size e'),by simp[q]⟩;have z:(hidT h H).get? b=none:=PySem.W.hideAll_none (trk h H) hm;rw[z] at e;cases e
end L2
namespace L2
open PySem PySem.Spec PyProof.Rows
structure Mod (K:PySem.W.Frag) (mg:Str→Option Value) (base:Heap):Prop where
 kin:K.In base
 glob:base.Ns mainGlobals mg
 blt:∃ mb,base.Ns builtinsNs mb∧∀ x:Str,x ≠ "__name__" → mb x=bootBuiltins x
 nolimit:base.NoLimit
structure Cx where
 prog:Program
 w:World
 K:PySem.W.Frag
 mg:Str→Option Value
 base:Heap
 A:Around
 N:List Str
 s₀:Shared
 H₀:Hp
 env:Env
 outer:List Env
 stack:List Env
 ex:List Addr
 fn:Str→Bool
 calm:Bool
 pn:List (Addr × Obj)
 xe:Value→Shared→Prop
noncomputable def frs (l:List Env):List Addr:=l.filterMap (·.frame)
noncomputable abbrev Cx.fs (X:Cx):List Addr:=frs X.outer
noncomputable def Vis (sc:Scope) (x:Str):Prop:=sc.names.lookup x=some .local∨sc.names.lookup x=some .cell∨sc.names.lookup x=some .free
noncomputable def Loc (sc:Scope) (x:Str):Prop:=sc.names.lookup x=some .local∨sc.names.lookup x=some .cell
noncomputable def Look (env:Env) (h:Heap) (m:Str→Option Value) (x:Str) (u:Value):Prop :=
 (env.kindOf x=some .local∧m x=some u)∨((env.kindOf x=some .cell∨env.kindOf x=some .free)∧∃ c,env.cells.lookup x=some c∧h.IsCell c (some u))
structure Cx.Ok (X:Cx):Prop where
 mod:Mod X.K X.mg X.base
 kind:X.env.scope.kind = .function
 glob:X.env.globals=mainGlobals
 blt:X.env.builtins=builtinsNs
 above:X.s₀.heap.objs.size≤X.env.locals
 inj:∀ x y c,X.env.cells.lookup x=some c→X.env.cells.lookup y=some c→x=y
 has:∀ x,(X.env.kindOf x=some .cell∨X.env.kindOf x=some .free)→∃ c,X.env.cells.lookup x=some c
 cab:∀ x c,X.fn x=true→X.env.cells.lookup x=some c→X.s₀.heap.objs.size≤c
 hd:X.calm=true→X.A.handled=none
 frames:X.A.frames=some X.stack
 stk:X.stack=X.outer∨(X.stack=X.env :: X.outer∧X.env.frame=some X.env.locals)
 exf:∀ b∈X.ex,b≠X.env.locals∧∀ x c,X.env.cells.lookup x=some c→c≠b
 bs:∀ b o,X.base.get? b=some o→X.s₀.heap.get? b=some o∧X.H₀ b=none
 bsz:X.base.objs.size≤X.s₀.heap.objs.size
 noex:∀ b o,X.base.get? b=some o→b ∉ X.ex
 exfs:∀ b∈X.ex,b ∉ X.fs
 funs:X.s₀.heap.FunFrames X.base X.outer
 frf:∀ b∈X.fs,X.H₀ b=none
structure Inv (X:Cx) (pins:List (Addr × Obj)) (σ:List (Option V)) (H:Hp) (s:Shared):Prop where
 ok:X.Ok
 os:s.os=X.s₀.os
 bare:AllBare s.gens
 base:Un X.fs X.ex X.H₀ H X.s₀.heap s.heap
 loc:∃ m,s.heap.Ns X.env.locals m∧∀ (i:Nat) (x:Str) (v:V),X.N[i]? = some x → σ[i]? = some (some v)→Vis X.env.scope x→∃ u,RelV v u∧Look X.env s.heap m x u
 cell:∀ x c,X.env.cells.lookup x=some c→∃ v,s.heap.IsCell c v
 free:H X.env.locals=none
 freeC:∀ x c,X.env.cells.lookup x=some c→H c=none
 pin:∀ p∈X.pn++pins,s.heap.get? p.1=some p.2∧H p.1=none∧p.1≠X.env.locals∧p.1 ∉ X.fs∧∀ v,p.2.data ≠ .cell v
 hok:HOk X.prog X.w H s.heap
 len : σ.length=X.N.length
section
variable {X:Cx}{pins:List (Addr × Obj)} {σ:List (Option V)}{H H':Hp}{s:Shared}{h':Heap}
theorem Cx.Ok.nofr (ok:X.Ok) {b:Addr}{o:Obj} (e:X.base.get? b=some o):b ∉ X.fs:=fun hb=>by
 have:=(ok.funs.mem hb).1
 rw[e] at this;cases this
theorem Inv.bs (I:Inv X pins σ H s):∀ b o,X.base.get? b=some o→s.heap.get? b=some o∧H b=none:=fun b o e =>
 ⟨I.base.keep b o (I.ok.bs b o e).1 (I.ok.bs b o e).2 (I.ok.nofr e) (I.ok.noex b o e),I.base.free b o (I.ok.bs b o e).1 (I.ok.bs b o e).2 (I.ok.noex b o e)⟩
theorem Inv.bk (I:Inv X pins σ H s):∀ b o,X.base.get? b=some o→s.heap.get? b=some o:=fun b o e=>(I.bs b o e).1
theorem Inv.mod (I:Inv X pins σ H s):Mod X.K X.mg X.base:=I.ok.mod
theorem Inv.kIn (I:Inv X pins σ H s):X.K.In s.heap:=I.ok.mod.kin.keeps I.bk
theorem Inv.lt (I:Inv X pins σ H s):X.env.locals<s.heap.objs.size:=let ⟨_,hn,_⟩:=I.loc;hn.lt
theorem Inv.sz (I:Inv X pins σ H s):X.s₀.heap.objs.size≤s.heap.objs.size:=Nat.le_trans I.ok.above (Nat.le_of_lt I.lt)
theorem Inv.nofs (I:Inv X pins σ H s) {a:Addr} (h:s.heap.objs.size≤a):a ∉ X.fs:=fun hb=>by
 obtain⟨_,o,ho,_⟩:=I.ok.funs.mem hb;exact absurd (Nat.lt_of_lt_of_le (Heap.lt_size ho) (Nat.le_trans I.sz h)) (Nat.lt_irrefl _)
theorem Inv.cne (I:Inv X pins σ H s):∀ x c,X.env.cells.lookup x=some c→c≠X.env.locals:=fun x c e z=>by
 obtain⟨v,o,ho,hd⟩:=I.cell x c e;obtain⟨m,⟨o',es,ep,ho',hd',_⟩,_⟩:=I.loc;rw[z,ho'] at ho;cases ho;rw[hd'] at hd;cases hd
theorem Inv.funs (I:Inv X pins σ H s):s.heap.FunFrames X.base X.outer:=by
 have all:∀ (l:List Env),(∀ b∈frs l,b∈X.fs)→X.s₀.heap.FunFrames X.base l→s.heap.FunFrames X.base l:=by
  intro l;induction l with
  | nil=>intro _ _;trivial
  | cons env r ih =>
   intro hs hl;obtain⟨hk,⟨L,o,hf,hn,ho,hd⟩,hr⟩:=hl;have hL:L∈X.fs:=hs L (by unfold frs;rw[List.filterMap_cons,hf];exact List.mem_cons_self);obtain⟨sl,e⟩:=I.base.slot L o ho (I.ok.frf L hL) hL fun z=>I.ok.exfs L z hL
   exact⟨hk,⟨L,_,hf,hn,e,hd⟩,ih (fun b hb=>hs b (by unfold frs;rw[List.filterMap_cons,hf];exact List.mem_cons_of_mem _ hb)) hr⟩
 exact all X.outer (fun _ hb=>hb) I.ok.funs
theorem Inv.stack (I:Inv X pins σ H s):s.heap.FunFrames X.base X.stack:=by
 rcases I.ok.stk with e | ⟨e,hf⟩
 ·rw[e];exact I.funs
 ·rw[e];obtain⟨m,hn,_⟩:=I.loc;refine .cons (by rw[I.ok.kind];decide) hf hn ?_ I.funs;exact Heap.get?_none_of_le (Nat.le_trans I.ok.bsz I.ok.above)
theorem Inv.stkSub (I:Inv X pins σ H s):∀ b∈frs X.stack,b∈X.env.locals :: X.fs:=fun b hb=>by
 rcases I.ok.stk with e | ⟨e,hf⟩
 ·rw[e] at hb;exact List.mem_cons_of_mem _ hb
 ·rw[e] at hb;unfold frs at hb;rw[List.filterMap_cons,hf] at hb;exact hb
theorem Inv.stkFree (I:Inv X pins σ H s):∀ b∈frs X.stack,H b=none:=fun b hb=>by
 rcases List.mem_cons.mp (I.stkSub b hb) with e | hb
 ·rw[e];exact I.free
 ·obtain⟨_,o,ho,_⟩:=I.ok.funs.mem hb;exact I.base.free b o ho (I.ok.frf b hb) fun z=>I.ok.exfs b z hb
theorem Inv.step {g':Array GenState}{t':Nat}{d':Drawn}{ch:List Addr} (I:Inv X pins σ H s)
  (hch:∀ b∈ch,(b∈X.ex∨X.s₀.heap.objs.size≤b)∧b≠X.env.locals∧(∀ x c,X.env.cells.lookup x=some c→c≠b)∧∀ p∈X.pn++pins,p.1≠b)
  (keep:∀ b o,b≠X.env.locals→b ∉ X.fs→b ∉ ch→s.heap.get? b=some o→H b=none→h'.get? b=some o)
  (slot:∀ b o,b≠X.env.locals→b∈X.fs→b ∉ ch→s.heap.get? b=some o→H b=none→∃ sl,h'.get? b=some { o with slots:=sl }) (free:∀ b o,b ∉ ch→s.heap.get? b=some o→H b=none→H' b=none)
  (there:∀ b o,b ∉ ch→s.heap.get? b=some o→∃ o',h'.get? b=some o')
  (tups:∀ b xs,H b=some (.tup xs)→H' b=some (.tup xs)) (frzs:∀ b o u,H b=some (.frz o u)→H' b=some (.frz o u)) (tbls:∀ b ps,H b=some (.tbl ps)→∃ more,H' b=some (.tbl (ps++more)))
  (ns:∀ m,s.heap.Ns X.env.locals m→h'.Ns X.env.locals m) (hok:HOk X.prog X.w H' h') (hg:AllBare g') :
  Inv X pins σ H' { s with heap:=h',gens:=g',drawn:=d',toks:=t' }:=by
 have neL:∀ b o,X.s₀.heap.get? b=some o→b≠X.env.locals:=fun b o e=>Nat.ne_of_lt (Nat.lt_of_lt_of_le (Heap.lt_size e) I.ok.above)
 have neC:∀ b o,X.s₀.heap.get? b=some o→b ∉ X.ex→b ∉ ch:=fun b o e hx hb=>by
  rcases (hch b hb).1 with z | z
  ·exact hx z
  ·exact absurd (Nat.lt_of_lt_of_le (Heap.lt_size e) z) (Nat.lt_irrefl _)
 have cellK:∀ x c,X.env.cells.lookup x=some c→∀ v,s.heap.IsCell c v→h'.IsCell c v:=fun x c e v ⟨o,ho,hd⟩=>by
  have nch:c ∉ ch:=fun z=>(hch c z).2.2.1 x c e rfl
  by_cases hc:c∈X.fs
  ·obtain⟨sl,q⟩:=slot c o (I.cne x c e) hc nch ho (I.freeC x c e);exact⟨_,q,hd⟩
  ·exact⟨o,keep c o (I.cne x c e) hc nch ho (I.freeC x c e),hd⟩
 refine⟨I.ok,I.os,hg,⟨fun b o e n hb hx=>?_,fun b o e n hb hx=>?_,fun b o e n hx=>?_,fun b o e hx=>?_,fun b xs e=>tups b xs (I.base.tups b xs e),fun b o xs e=>frzs b o xs (I.base.frzs b o xs e),fun b ps e=>?_⟩,?_,fun x c e=>?_,?_,fun x c e=>?_,fun p hp=>?_,hok,I.len⟩
 ·exact keep b o (neL b o e) hb (neC b o e hx) (I.base.keep b o e n hb hx) (I.base.free b o e n hx)
 ·obtain⟨sl,e1⟩:=I.base.slot b o e n hb hx;obtain⟨sl',e2⟩:=slot b _ (neL b o e) hb (neC b o e hx) e1 (I.base.free b o e n hx);exact⟨sl',e2⟩
 ·obtain⟨o',e1⟩:=I.base.there b o e hx;exact free b o' (neC b o e hx) e1 (I.base.free b o e n hx)
 ·obtain⟨o',e1⟩:=I.base.there b o e hx;exact there b o' (neC b o e hx) e1
 ·obtain⟨m1,e1⟩:=I.base.tbls b ps e;obtain⟨m2,e2⟩:=tbls b _ e1;exact⟨m1++m2,by rw[e2,Array.append_assoc]⟩
 ·obtain⟨m,hn,hl⟩:=I.loc;refine⟨m,ns m hn,fun i x v e1 e2 e3=>?_⟩;obtain⟨u,r,l⟩:=hl i x v e1 e2 e3;refine⟨u,r,?_⟩;rcases l with l | ⟨k,c,e,z⟩
  ·exact .inl l
  ·exact .inr ⟨k,c,e,cellK x c e _ z⟩
 ·obtain⟨v,z⟩:=I.cell x c e;exact⟨v,cellK x c e v z⟩
 ·obtain⟨m,⟨o,_,_,ho,_⟩,_⟩:=I.loc;exact free _ o (fun z=>(hch _ z).2.1 rfl) ho I.free
 ·obtain⟨v,o,ho,hd⟩:=I.cell x c e;exact free c o (fun z=>(hch c z).2.2.1 x c e rfl) ho (I.freeC x c e)
 ·obtain⟨e,n,ne,nf,d⟩:=I.pin p hp;have nch:p.1 ∉ ch:=fun z=>(hch p.1 z).2.2.2 p hp rfl
  exact⟨keep p.1 p.2 ne nf nch e n,free p.1 p.2 nch e n,ne,nf,d⟩
theorem Inv.un {t':Nat} (I:Inv X pins σ H s) (u:Un X.fs [] H H' s.heap h') (hok:HOk X.prog X.w H' h'):Inv X pins σ H' { s with heap:=h',toks:=t' }:=by
 obtain⟨m,⟨o,es,ep,ho,r⟩,_⟩:=id I.loc;obtain⟨sl,hL⟩:=u.any ho I.free (by simp);exact I.step (g':=s.gens) (d':=s.drawn) (ch:=[]) (fun _ z=>nomatch z) (fun b o _ hb _ e n=>u.keep b o e n hb (by simp)) (fun b o _ hb _ e n=>u.slot b o e n hb (by simp)) (fun b o _ e n=>u.free b o e n (by simp)) (fun b o _ e=>u.there b o e (by simp)) u.tups u.frzs u.tbls (fun m' hm=>by
  obtain⟨o',es',ep',ho',r'⟩:=hm;rw[ho] at ho';cases ho';exact⟨_,es',ep',hL,r'⟩) hok I.bare
theorem Inv.call {g':Array GenState}{t':Nat}{d':Drawn}{ch:List Addr} (I:Inv X pins σ H s) (u:Un (frs X.stack) ch H H' s.heap h') (hok:HOk X.prog X.w H' h') (hg:AllBare g')
  (hch:∀ b∈ch,(b∈X.ex∨X.s₀.heap.objs.size≤b)∧b≠X.env.locals∧(∀ x c,X.env.cells.lookup x=some c→c≠b)∧∀ p∈X.pn++pins,p.1≠b) :
  Inv X pins σ H' { s with heap:=h',gens:=g',drawn:=d',toks:=t' }:=by
 obtain⟨m,⟨o,es,ep,ho,r⟩,_⟩:=id I.loc;obtain⟨sl,hL⟩:=u.any ho I.free fun z=>(hch _ z).2.1 rfl
 exact I.step (ch:=ch) hch (fun b o hL hb hc e n=>u.keep b o e n (fun z=>(List.mem_cons.mp (I.stkSub b z)).elim hL hb) hc) (fun b o _ _ hc e n=>u.any e n hc) (fun b o hc e n=>u.free b o e n hc) (fun b o hc e=>u.there b o e hc) u.tups u.frzs u.tbls (fun m' hm=>by
  obtain⟨o',es',ep',ho',r'⟩:=hm;rw[ho] at ho';cases ho';exact⟨_,es',ep',hL,r'⟩) hok hg
theorem Inv.turned {t':Nat}{it:Addr} (I:Inv X pins σ H s) (k:∀ b o,b≠it→s.heap.get? b=some o→h'.get? b=some o) (hn:H it=none) (hL:it≠X.env.locals)
  (h1:it∈X.ex∨X.s₀.heap.objs.size≤it) (h2:∀ x c,X.env.cells.lookup x=some c→c≠it) (h3:∀ p∈X.pn++pins,p.1≠it):Inv X pins σ H { s with heap:=h',toks:=t' }:=by
 have nit:∀ b u,H b=some u→b≠it:=fun b u e z=>by rw[z,hn] at e;cases e
 refine I.step (g':=s.gens) (d':=s.drawn) (ch:=[it]) (fun b hb=>?_) (fun b o _ _ hc e _=>k b o (fun z=>hc (by simp[z])) e) (fun b o _ _ hc e _=>⟨o.slots,k b o (fun z=>hc (by simp[z])) e⟩) (fun _ _ _ _ n=>n)
  (fun b o hc e=>⟨o,k b o (fun z=>hc (by simp[z])) e⟩) (fun _ _ e=>e) (fun _ _ _ e=>e) (fun b ps e=>⟨#[],by rw[e];simp⟩) (fun m hm=>?_) (fun b u e=>?_) I.bare
 ·have e:b=it:=by simpa using hb
  subst e;exact⟨h1,hL,h2,h3⟩
 ·obtain⟨o,es,ep,ho,r⟩:=hm;exact⟨o,es,ep,k _ o (Ne.symm hL) ho,r⟩
 ·refine (I.hok b u e).stay (fun c v hc q=>k c v ?_ q) (fun _ q=>q) fun _ _ q=>q
  rcases hc with z | z
  ·rw[z];exact nit b u e
  ·exact nit c _ z
theorem Inv.tok (I:Inv X pins σ H s) (t:Nat):Inv X pins σ H { s with toks:=t }:=I.un (h':=s.heap) (t':=t) Un.refl I.hok
theorem Inv.kept {t':Nat} (I:Inv X pins σ H s) (k:∀ b u,s.heap.get? b=some u→h'.get? b=some u):Inv X pins σ H { s with heap:=h',toks:=t' }:=I.un (Un.kept k) (I.hok.kept k)
theorem Inv.laid {a:Addr}{o:HO}{t':Nat} (I:Inv X pins σ H s) (k:∀ b u,s.heap.get? b=some u→h'.get? b=some u) (hp:s.heap.objs.size≤a) (new:ObjOk X.prog X.w (upd H a o) h' a o) :
  Inv X pins σ (upd H a o) { s with heap:=h',toks:=t' }:=I.un (Un.laid k hp (I.hok.fresh hp)) (I.hok.laid k hp new)
theorem Inv.write {x e:Addr}{o:HO}{t':Nat} (I:Inv X pins σ H s) (mu:Mut (H x)) (he:e=x∨H e=some (.own x)) (k:∀ b u,b≠e→s.heap.get? b=some u→h'.get? b=some u) (heo:∃ u,h'.get? e=some u)
  (new:ObjOk X.prog X.w (upd H x o) h' x o):Inv X pins σ (upd H x o) { s with heap:=h',toks:=t' }:=I.un (Un.write mu he k heo) (I.hok.write mu he k heo new)
theorem Inv.pins_of {pins':List (Addr × Obj)} (I:Inv X pins σ H s) (h:∀ p∈pins',s.heap.get? p.1=some p.2∧H p.1=none∧p.1≠X.env.locals∧p.1 ∉ X.fs∧∀ v,p.2.data ≠ .cell v):Inv X pins' σ H s :=
 ⟨I.ok,I.os,I.bare,I.base,I.loc,I.cell,I.free,I.freeC,fun p hp=>(List.mem_append.mp hp).elim (fun z=>I.pin p (List.mem_append_left _ z)) (h p),I.hok,I.len⟩
theorem nodup_ix {N:List Str} (hN:N.Nodup) {i j:Nat}{x:Str} (a:N[i]? = some x) (b:N[j]? = some x):i=j:=by
 obtain⟨h1,e1⟩:=List.getElem?_eq_some_iff.mp a;obtain⟨h2,e2⟩:=List.getElem?_eq_some_iff.mp b;exact (List.getElem_inj hN).mp (e1.trans e2.symm)
theorem store_ok2 {M:Model}{A:Around}{E:Value→Shared→Prop}{i:Nat}{x:Str}{v:V}{u:Value}{Q:Unit→Shared→Prop} (I:Inv X pins σ H s) (hN:X.N.Nodup) (hi:X.N[i]? = some x) (hx:Loc X.env.scope x) (r:RelV v u)
  (h:∀ s',Inv X pins (σ.set i (some v)) H s'→(∃ a,Heap.SameBut a s.heap s'.heap∧(a=X.env.locals∨X.env.cells.lookup x=some a))→Q () s') (hf:X.fn x=true∨X.env.scope.names.lookup x=some .local:=by first | exact .inl rfl | exact .inr rfl | assumption):wpAny M A (storeName X.env x u) Q E s:=by
 obtain⟨m,hn,hl⟩:=id I.loc;have hcls:(X.env.scope.kind == .class || (X.env.scope.kind == .module && X.env.locals != X.env.globals))=false:=by rw[I.ok.kind];rfl
 have hiσ:i < σ.length:=by rw[I.len];exact (List.getElem?_eq_some_iff.mp hi).1
 have cne:=I.cne;have tracked:∀ {a:Addr}{h':Heap},(∃ o,s.heap.get? a=some o∧H a=none)→Heap.SameBut a s.heap h'→HOk X.prog X.w H h':=fun {a h'} ha hs b ob e=>by
  obtain⟨_,_,hfree⟩:=ha;refine (I.hok b ob e).stay (fun c w' hc q=>(hs.2 c ?_).trans q) (fun _ q=>q) fun _ _ q=>q
  rintro rfl;rcases hc with rfl | hc
  ·rw[hfree] at e;cases e
  ·rw[hfree] at hc;cases hc
 rcases hx with hk | hk
 ·refine wpAny_storeName_local hk hn (fun h' hn' hs=>?_) hcls;obtain⟨oL,_,_,hoL,_⟩:=id hn;refine h _ ⟨I.ok,I.os,I.bare,⟨fun b o e n hb hx=>?_,fun b o e n hb hx=>?_,I.base.free,fun b o e hx=>?_,I.base.tups,I.base.frzs,I.base.tbls⟩,⟨_,hn',fun j y v' e1 e2 e3=>?_⟩,fun y c e=>?_,I.free,I.freeC,fun p hp=>?_,tracked ⟨oL,hoL,I.free⟩ hs,by simpa using I.len⟩ ⟨_,hs,.inl rfl⟩
  ·exact (hs.2 b (Nat.ne_of_lt (Nat.lt_of_lt_of_le (Heap.lt_size e) I.ok.above))).trans (I.base.keep b o e n hb hx)
  ·obtain⟨sl,e1⟩:=I.base.slot b o e n hb hx;exact⟨sl,(hs.2 b (Nat.ne_of_lt (Nat.lt_of_lt_of_le (Heap.lt_size e) I.ok.above))).trans e1⟩
  ·obtain⟨o',e1⟩:=I.base.there b o e hx;exact⟨o',(hs.2 b (Nat.ne_of_lt (Nat.lt_of_lt_of_le (Heap.lt_size e) I.ok.above))).trans e1⟩
  ·by_cases hj:j=i
   ·subst hj;rw[hi] at e1;cases e1;rw[List.getElem?_set_self hiσ] at e2;cases e2;exact⟨u,r,.inl ⟨hk,by simp⟩⟩
   ·rw[List.getElem?_set_ne (Ne.symm hj)] at e2;obtain⟨u',r',q⟩:=hl j y v' e1 e2 e3;refine⟨u',r',?_⟩;rcases q with ⟨k,e⟩ | ⟨k,c,e,z⟩
    ·refine .inl ⟨k,?_⟩
     have:y≠x:=fun e=>hj (nodup_ix hN e1 (e ▸ hi))
     simp[this,e]
    ·exact .inr ⟨k,c,e,z.sameBut hs (cne y c e)⟩
  ·obtain⟨w',z⟩:=I.cell y c e;exact⟨w',z.sameBut hs (cne y c e)⟩
  ·obtain⟨e,n,ne,nf,d⟩:=I.pin p hp;exact⟨(hs.2 p.1 ne).trans e,n,ne,nf,d⟩
 ·have hfn:X.fn x=true:=by
   rcases hf with z | z
   ·exact z
   ·rw[z] at hk;cases hk
  obtain⟨c,hc⟩:=I.ok.has x (.inl hk);obtain⟨w',z⟩:=I.cell x c hc;refine wpAny_storeName_cell I.ok.kind hk hc z (fun h' hc' hs=>?_);obtain⟨oc,hoc,hocd⟩:=id z;refine h { s with heap:=h' } ⟨I.ok,I.os,I.bare,⟨fun b o e n hb hx=>?_,fun b o e n hb hx=>?_,I.base.free,fun b o e hx=>?_,I.base.tups,I.base.frzs,I.base.tbls⟩,⟨m,hn.sameBut hs (Ne.symm (cne x c hc)),fun j y v' e1 e2 e3=>?_⟩,fun y c' e=>?_,I.free,I.freeC,fun p hp=>?_,tracked ⟨oc,hoc,I.freeC x c hc⟩ hs,by simpa using I.len⟩ ⟨c,hs,.inr hc⟩
  ·exact (hs.2 b (Nat.ne_of_lt (Nat.lt_of_lt_of_le (Heap.lt_size e) (I.ok.cab x c hfn hc)))).trans (I.base.keep b o e n hb hx)
  ·obtain⟨sl,e1⟩:=I.base.slot b o e n hb hx;exact⟨sl,(hs.2 b (Nat.ne_of_lt (Nat.lt_of_lt_of_le (Heap.lt_size e) (I.ok.cab x c hfn hc)))).trans e1⟩
  ·obtain⟨o',e1⟩:=I.base.there b o e hx;exact⟨o',(hs.2 b (Nat.ne_of_lt (Nat.lt_of_lt_of_le (Heap.lt_size e) (I.ok.cab x c hfn hc)))).trans e1⟩
  ·by_cases hj:j=i
   ·subst hj;rw[hi] at e1;cases e1;rw[List.getElem?_set_self hiσ] at e2;cases e2;exact⟨u,r,.inr ⟨.inl hk,c,hc,hc'⟩⟩
   ·rw[List.getElem?_set_ne (Ne.symm hj)] at e2;obtain⟨u',r',q⟩:=hl j y v' e1 e2 e3;refine⟨u',r',?_⟩;rcases q with q | ⟨k,c',e,z'⟩
    ·exact .inl q
    ·refine .inr ⟨k,c',e,z'.sameBut hs ?_⟩;rintro rfl;exact hj (nodup_ix hN e1 (I.ok.inj _ _ _ e hc ▸ hi))
  ·by_cases hcc:c'=c
   ·subst hcc;exact⟨_,hc'⟩
   ·obtain⟨w2,z2⟩:=I.cell y c' e;exact⟨w2,z2.sameBut hs hcc⟩
  ·obtain⟨e,n,ne,nf,d⟩:=I.pin p hp;refine⟨(hs.2 p.1 ?_).trans e,n,ne,nf,d⟩;intro q;rw[q,hoc] at e;have q':oc=p.2:=Option.some.inj e;exact d w' (by rw[← q'];exact hocd)
theorem store_ok {M:Model}{A:Around}{E:Value→Shared→Prop}{i:Nat}{x:Str}{v:V}{u:Value}{Q:Unit→Shared→Prop} (I:Inv X pins σ H s) (hN:X.N.Nodup) (hi:X.N[i]? = some x) (hx:Loc X.env.scope x) (r:RelV v u)
  (h:∀ s',Inv X pins (σ.set i (some v)) H s'→Q () s') (hf:X.fn x=true∨X.env.scope.names.lookup x=some .local:=by first | exact .inl rfl | exact .inr rfl | assumption):wpAny M A (storeName X.env x u) Q E s :=
 store_ok2 I hN hi hx r (fun s' I' _=>h s' I') hf
theorem Inv.call' {s':Shared}{ch:List Addr} (I:Inv X pins σ H s) (ho:s'.os=s.os) (u:Un (frs X.stack) ch H H' s.heap s'.heap) (hok:HOk X.prog X.w H' s'.heap) (hg:AllBare s'.gens)
  (hch:∀ b∈ch,(b∈X.ex∨X.s₀.heap.objs.size≤b)∧b≠X.env.locals∧(∀ x c,X.env.cells.lookup x=some c→c≠b)∧∀ p∈X.pn++pins,p.1≠b):Inv X pins σ H' s':=by
 obtain⟨h',g',d',t',o'⟩:=s';have e:o'=s.os:=ho;subst e;exact I.call (g':=g') (t':=t') (d':=d') u hok hg hch
end
noncomputable abbrev XK:=Value→Option Addr→Hp→Prop
noncomputable abbrev St:=List (Option V)
noncomputable abbrev VK:=V→Hp→Prop
noncomputable abbrev TE:=St→Hp→VK→Prop
noncomputable abbrev TT:=St→Hp→(Bool→Hp→Prop)→Prop
noncomputable abbrev TA:=St→Hp→(List V→Hp→Prop)→Prop
structure Ends where
 nx:St→Hp→Prop
 rt:VK
 bk:St→Hp→Prop:=fun _ _=>False
 ct:St→Hp→Prop:=fun _ _=>False
noncomputable abbrev TS:=Ends→St→Hp→Prop
noncomputable def EP (X:Cx) (pins:List (Addr × Obj)) (σ:St) (Q:VK) (u:Value) (s':Shared):Prop:=∃ v H',Inv X pins σ H' s'∧RelV v u∧Q v H'
noncomputable def TP (X:Cx) (pins:List (Addr × Obj)) (σ:St) (Q:Bool→Hp→Prop) (b:Bool) (s':Shared):Prop:=∃ H',Inv X pins σ H' s'∧Q b H'
noncomputable def AP (X:Cx) (pins:List (Addr × Obj)) (σ:St) (Q:List V→Hp→Prop) (us:List Value) (s':Shared):Prop:=∃ vs H',Inv X pins σ H' s'∧Vals vs us∧Q vs H'
noncomputable def SP (X:Cx) (pins:List (Addr × Obj)) (D:Ends) (f:Flow) (s':Shared):Prop :=
 match f with
 | .next=>∃ σ' H',Inv X pins σ' H' s'∧D.nx σ' H'
 | .brk=>∃ σ' H',Inv X pins σ' H' s'∧D.bk σ' H'
 | .cont=>∃ σ' H',Inv X pins σ' H' s'∧D.ct σ' H'
 | .ret u=>∃ v σ' H',Inv X pins σ' H' s'∧RelV v u∧D.rt v H'
noncomputable def PE (X:Cx) (e:Expr) (t:TE):Prop :=
 ∀ (pins:List (Addr × Obj)) (s:Shared) (σ:St) (H:Hp) (Q:VK),Inv X pins σ H s→t σ H Q→wpAny (model X.prog X.w) X.A (eval e X.env) (EP X pins σ Q) X.xe s
noncomputable def PT (X:Cx) (e:Expr) (t:TT):Prop :=
 ∀ (pins:List (Addr × Obj)) (s:Shared) (σ:St) (H:Hp) (Q:Bool→Hp→Prop),Inv X pins σ H s→t σ H Q→wpAny (model X.prog X.w) X.A (isTrue e X.env (eval e X.env)) (TP X pins σ Q) X.xe s
noncomputable def PW (X:Cx) (e:Expr) (t:TT):Prop :=
 ∀ (whole:Sem Value) (pins:List (Addr × Obj)) (s:Shared) (σ:St) (H:Hp) (Q:Bool→Hp→Prop),Inv X pins σ H s→t σ H Q→wpAny (model X.prog X.w) X.A (isTrue e X.env whole) (TP X pins σ Q) X.xe s
theorem PW.pt {X:Cx}{e:Expr}{t:TT} (h:PW X e t):PT X e t:=h _
noncomputable def PA (X:Cx) (es:List Expr) (t:TA):Prop :=
 ∀ (pos:Pos) (pins:List (Addr × Obj)) (s:Shared) (σ:St) (H:Hp) (Q:List V→Hp→Prop),Inv X pins σ H s→t σ H Q→wpAny (model X.prog X.w) X.A (spliced (backTo pos (starEach es X.env))) (AP X pins σ Q) X.xe s
noncomputable def PS (X:Cx) (st:Stmt) (t:TS):Prop :=
 ∀ (pins:List (Addr × Obj)) (s:Shared) (σ:St) (H:Hp) (D:Ends),Inv X pins σ H s→t D σ H→wpAny (model X.prog X.w) X.A (exec st X.env) (SP X pins D) X.xe s
noncomputable def PSs (X:Cx) (st:List Stmt) (t:TS):Prop :=
 ∀ (pins:List (Addr × Obj)) (s:Shared) (σ:St) (H:Hp) (D:Ends),Inv X pins σ H s→t D σ H→wpAny (model X.prog X.w) X.A (execs st X.env) (SP X pins D) X.xe s
theorem thn {α : Type}{t:Sem α}{Q Q' : α → Shared→Prop}{M:Model}{A:Around}{E:Value→Shared→Prop}{s:Shared} (h:wpAny M A t Q E s) (hQ:∀ a s,Q a s→Q' a s):wpAny M A t Q' E s:=wpAny_mono h hQ fun _ _ x=>x
end L2
namespace L2
open PySem PySem.Spec PyProof.Rows
section
variable {X:Cx}
noncomputable def tVar (i:Nat):TE:=fun σ H Q=>∃ v,σ[i]? = some (some v)∧Q v H
noncomputable def tC (v:V):TE:=fun _ H Q=>Q v H
theorem pe_var {i:Nat}{x:Str}{pos:Pos} (hN:X.N[i]? = some x) (hv:Vis X.env.scope x) (hd:(x == ("__debug__" : Str))=false:=by decide) (hcd:(x == ("__classdict__" : Str))=false:=by decide):PE X (.Name x pos) (tVar i):=by
 intro pins s σ H Q I h;obtain⟨v,e,h⟩:=h;obtain⟨m,hn,hl⟩:=I.loc;obtain⟨u,r,l⟩:=hl i x v hN e hv;have fin:EP X pins σ Q u s:=⟨v,H,I,r,h⟩;rcases l with ⟨hk,hm⟩ | ⟨hk,c,hc,hcell⟩
 ·exact wpAny_Name (wpAny_loadName_local I.ok.kind hk hn hm fin) hd
 ·rcases hk with hk | hk
  ·exact wpAny_Name (wpAny_loadName_cell I.ok.kind hk hc hcell fin) hd
  ·exact wpAny_Name (wpAny_loadName_free I.ok.kind hk hc hcell fin hcd) hd
theorem pe_int {i j pos}:PE X (.Constant (.int i) j pos) (tC (.int i)):=fun _ _ _ H _ I h=>wpAny_Constant_int ⟨.int i,H,I.tok _,⟨_,rfl⟩,h⟩
theorem pe_bl {b j pos}:PE X (.Constant (.bool b) j pos) (tC (.bl b)):=fun _ _ _ H _ I h=>Constant_bool ⟨.bl b,H,I,rfl,h⟩
theorem pe_non {j pos}:PE X (.Constant .none j pos) (tC .non):=fun _ _ _ H _ I h=>Constant_none ⟨.non,H,I,rfl,h⟩
theorem pe_str {x j pos}:PE X (.Constant (.str x) j pos) (tC (.str x)):=fun _ _ _ H _ I h=>Calls.Constant_str ⟨.str x,H,I.tok _,⟨_,rfl⟩,h⟩
noncomputable def Gl (X:Cx) (x:Str):Prop:=X.env.kindOf x=some .globalImplicit
theorem ld_glob {E:Value→Shared→Prop}{pins:List (Addr × Obj)}{s:Shared} {σ:St}{H:Hp}{x:Str}{u:Value}{pos:Pos}{Q:Value→Shared→Prop} (I:Inv X pins σ H s) (hg:Gl X x) (hm:X.mg x=some u) (h:Q u s)
  (hd:(x == ("__debug__" : Str))=false:=by decide):wpAny (model X.prog X.w) X.A (eval (.Name x pos) X.env) Q E s :=
 Calls.Name_function_global I.ok.kind hg (Calls.loadGlobal_global (by rw[I.ok.glob];exact I.mod.glob.keeps I.bk) hm h) hd
theorem ld_blt {E:Value→Shared→Prop}{pins:List (Addr × Obj)}{s:Shared} {σ:St}{H:Hp}{x:Str}{u:Value}{pos:Pos}{Q:Value→Shared→Prop} (I:Inv X pins σ H s) (hg:Gl X x) (hm:X.mg x=none) (hv:bootBuiltins x=some u) (h:Q u s)
  (hn:x ≠ "__name__" := by decide) (hd:(x == ("__debug__" : Str))=false:=by decide):wpAny (model X.prog X.w) X.A (eval (.Name x pos) X.env) Q E s:=by
 obtain⟨mb,h1,h2⟩:=I.mod.blt;exact Calls.Name_function_global I.ok.kind hg (Calls.loadGlobal_builtin (by rw[I.ok.glob];exact I.mod.glob.keeps I.bk) hm (by rw[I.ok.blt];exact h1.keeps I.bk) ((h2 x hn).trans hv) h) hd
theorem pe_glob {x:Str}{v:V}{u:Value}{pos:Pos} (hg:Gl X x) (hm:X.mg x=some u) (r:RelV v u) (hd:(x == ("__debug__" : Str))=false:=by decide):PE X (.Name x pos) (tC v) :=
 fun _ _ _ H _ I h=>ld_glob I hg hm ⟨v,H,I,r,h⟩ hd
theorem pe_bltn {x:Str}{v:V}{u:Value}{pos:Pos} (hg:Gl X x) (hm:X.mg x=none) (hv:bootBuiltins x=some u) (r:RelV v u) (hn:x ≠ "__name__" := by decide) (hd:(x == ("__debug__" : Str))=false:=by decide):PE X (.Name x pos) (tC v) :=
 fun _ _ _ H _ I h=>ld_blt I hg hm hv ⟨v,H,I,r,h⟩ hn hd
variable {a b:Expr}{ta tb:TE}{pos:Pos}
noncomputable def tB (t:TE):TT:=fun σ H Q=>t σ H fun x H1=>∃ c,x = .bl c∧Q c H1
theorem pt_val {e:Expr}{t:TE} (h:PE X e t) (he:∀ whole,isTrue e X.env whole=(do let v ← whole;standAt e.pos;holding [v] (truthy v)):=by intro _;rfl):PT X e (tB t):=by
 intro pins s σ H Q I hw;refine isTrue_plain (thn (h pins s σ H _ I hw) fun v s1 ⟨x,H1,I1,r1,q1⟩=>?_) (he _);obtain⟨d,rfl,q⟩:=q1;cases r1;exact wpAny_truthy_bool ⟨H1,I1,q⟩
variable {tA tB':TT}{rest:List Expr}
noncomputable def tAnd (t u:TT):TT:=fun σ H Q=>t σ H fun c H1=>if c=true then u σ H1 Q else Q false H1
noncomputable def tOr (t u:TT):TT:=fun σ H Q=>t σ H fun c H1=>if c=true then Q true H1 else u σ H1 Q
noncomputable def tNot (t:TT):TT:=fun σ H Q=>t σ H fun c H1=>Q (!c) H1
theorem pw_and1 (ha:PT X a tA):PW X (.BoolOp .And [a] pos) tA:=by
 intro wh pins s σ H Q I h;refine isTrue_and (thn (ha pins s σ H Q I h) fun c s1 e=>?_);cases c with
 | true=>exact isTrue_and_nil e
 | false=>exact e
theorem pw_or1 (ha:PT X a tA):PW X (.BoolOp .Or [a] pos) tA:=by
 intro wh pins s σ H Q I h;refine isTrue_or (thn (ha pins s σ H Q I h) fun c s1 e=>?_);cases c with
 | false=>exact isTrue_or_nil e
 | true=>exact e
theorem pw_and (ha:PT X a tA) (hb:PW X (.BoolOp .And (b :: rest) pos) tB'):PW X (.BoolOp .And (a :: b :: rest) pos) (tAnd tA tB'):=by
 intro wh pins s σ H Q I h;refine isTrue_and (thn (ha pins s σ H _ I h) fun c s1 ⟨H1,I1,q1⟩=>?_);cases c with
 | true=>exact hb wh pins s1 σ H1 Q I1 q1
 | false=>exact⟨H1,I1,q1⟩
theorem pw_or (ha:PT X a tA) (hb:PW X (.BoolOp .Or (b :: rest) pos) tB'):PW X (.BoolOp .Or (a :: b :: rest) pos) (tOr tA tB'):=by
 intro wh pins s σ H Q I h;refine isTrue_or (thn (ha pins s σ H _ I h) fun c s1 ⟨H1,I1,q1⟩=>?_);cases c with
 | true=>exact⟨H1,I1,q1⟩
 | false=>exact hb wh pins s1 σ H1 Q I1 q1
theorem pt_not (ha:PT X a tA):PT X (.UnaryOp .Not a pos) (tNot tA):=by
 intro pins s σ H Q I h;exact isTrue_not (ha pins s σ H (fun c H1=>Q (!c) H1) I h)
noncomputable def tAndV (ta tb:TE):TE:=fun σ H Q=>ta σ H fun x H1=>∃ c,x = .bl c∧if c=true then tb σ H1 Q else Q (.bl false) H1
theorem pe_one {op}{t:TE} (h:PE X a t):PE X (.BoolOp op [a] pos) t:=fun pins s σ H Q I hw=>BoolOp_one (h pins s σ H Q I hw)
theorem pe_and (ha:PE X a ta) (hb:PE X (.BoolOp .And (b :: rest) pos) tb):PE X (.BoolOp .And (a :: b :: rest) pos) (tAndV ta tb):=by
 intro pins s σ H Q I h;refine BoolOp_and (thn (ha pins s σ H _ I h) fun v s1 ⟨x,H1,I1,r1,q1⟩=>?_);obtain⟨c,rfl,q1⟩:=q1;cases r1;refine wpAny_truthy_bool ?_;cases c with
 | true=>exact hb pins s1 σ H1 Q I1 q1
 | false=>exact⟨.bl false,H1,I1,rfl,q1⟩
noncomputable def tIf (t:TT) (ta tb:TE):TE:=fun σ H Q=>t σ H fun c H1=>if c=true then ta σ H1 Q else tb σ H1 Q
theorem pe_ifExp {c:Expr} (hc:PT X c tA) (ha:PE X a ta) (hb:PE X b tb):PE X (.IfExp c a b pos) (tIf tA ta tb):=by
 intro pins s σ H Q I h;refine wpAny_IfExp (thn (hc pins s σ H _ I h) fun d s1 ⟨H1,I1,q1⟩=>?_);cases d with
 | true=>exact ha pins s1 σ H1 Q I1 q1
 | false=>exact hb pins s1 σ H1 Q I1 q1
end
end L2
namespace L2
open PySem PySem.Spec PyProof.Rows
noncomputable def SqL (K:PySem.W.Frag) (H:Hp) (a:Addr) (xs:List V):Prop :=
 Rd H a (.lst xs) ∨
  ∃ (o:Obj) (its:Array Value) (n:Nat),K.lookup a=some o∧o.cls = .type "list" ∧ o.dict=none∧o.data = .seq its n∧its.size≤sizeLine∧Vals xs its.toList
noncomputable def SqT (K:PySem.W.Frag) (H:Hp) (a:Addr) (xs:List V):Prop :=
 Rd H a (.tup xs) ∨
  ∃ (o:Obj) (its:Array Value) (n:Nat),K.lookup a=some o∧o.cls = .type "tuple" ∧ o.data = .seq its n∧its.size≤sizeLine∧Vals xs its.toList
noncomputable def absV:Value→Option V
 | .none=>some .non
 | .bool b=>some (.bl b)
 | .int i _=>some (.int i)
 | .str x _=>some (.str x)
 | .bytes b _=>some (.byt b)
 | .float b _=>some (.flt b)
 | .ref a=>some (.ref a)
 | .type n=>some (.ty n)
 | _=>none
theorem RelV.abs {x:V}{u:Value} (r:RelV x u):absV u=some x:=by
 cases x with
 | non=>cases r;rfl
 | bl _=>cases r;rfl
 | int _=>obtain⟨t,rfl⟩:=r;rfl
 | str _=>obtain⟨t,rfl⟩:=r;rfl
 | byt _=>obtain⟨t,rfl⟩:=r;rfl
 | flt _=>obtain⟨t,rfl⟩:=r;rfl
 | ref _=>cases r;rfl
 | ty _=>cases r;rfl
theorem RelV.inj {x y:V}{u:Value} (r:RelV x u) (q:RelV y u):x=y:=Option.some.inj (r.abs.symm.trans q.abs)
theorem Vals.inj {xs ys:List V}{us:List Value} (h:Vals xs us) (h':Vals ys us):xs=ys:=by
 induction h generalizing ys with
 | nil=>cases h';rfl
 | cons r t ih=>cases h' with | cons r' t'=>rw[r.inj r',ih t']
section
variable {X:Cx}{pins:List (Addr × Obj)} {σ:St}{H:Hp}{s:Shared}{a:Addr}{xs ys:List V}
theorem SqL.of {K:PySem.W.Frag} (h:H a=some (.lst xs)):SqL K H a xs := .inl (.inl h)
theorem SqT.of {K:PySem.W.Frag} (h:H a=some (.tup xs)):SqT K H a xs := .inl (.inl h)
theorem Inv.list (I:Inv X pins σ H s) (h:SqL X.K H a xs):∃ its:List Value,Vals xs its∧PlainL s.heap a its.toArray∧xs.length≤sizeLine:=by
 rcases h with h | ⟨o,its,n,hk,hc,hd,hs,hz,r⟩
 ·obtain⟨z,its,n,r,e⟩:=h.ok I.hok;exact⟨its,r,⟨_,n,e,rfl,rfl,rfl⟩,z⟩
 ·refine⟨its.toList,r,⟨o,n,I.kIn a o hk,hc,hd,by simpa using hs⟩,?_⟩;have e:=r.length;simp only[Array.length_toList] at e;omega
theorem Inv.tuple (I:Inv X pins σ H s) (h:SqT X.K H a xs):∃ its:List Value,Vals xs its∧IsTup s.heap a its.toArray∧xs.length≤sizeLine:=by
 rcases h with h | ⟨o,its,n,hk,hc,hs,hz,r⟩
 ·obtain⟨z,its,r,p⟩:=h.ok I.hok;exact⟨its,r,p,z⟩
 ·refine⟨its.toList,r,⟨o,I.kIn a o hk,hc,n,by simpa using hs⟩,?_⟩;have e:=r.length;simp only[Array.length_toList] at e;omega
theorem Inv.list_inj (I:Inv X pins σ H s) (h:SqL X.K H a xs) (h':SqL X.K H a ys):xs=ys:=by
 obtain⟨its,r,⟨o,n,e,_,_,d⟩,_⟩:=I.list h;obtain⟨its',r',⟨o',n',e',_,_,d'⟩,_⟩:=I.list h';rw[e] at e';cases e';rw[d] at d';injection d' with d1 _
 have:its=its':=by simpa using congrArg Array.toList d1
 subst this;exact r.inj r'
end
noncomputable abbrev Cx.wish (X:Cx) (E:Value→Shared→Prop):Cx:={ X with xe:=E }
noncomputable abbrev Cx.nox (X:Cx):Cx:=X.wish fun _ _=>False
theorem Cx.Ok.wish {X:Cx} (ok:X.Ok) (E:Value→Shared→Prop):(X.wish E).Ok :=
 ⟨ok.mod,ok.kind,ok.glob,ok.blt,ok.above,ok.inj,ok.has,ok.cab,ok.hd,ok.frames,ok.stk,ok.exf,ok.bs,ok.bsz,ok.noex,ok.exfs,ok.funs,ok.frf⟩
theorem Cx.Ok.unwish {X:Cx}{E:Value→Shared→Prop} (ok:(X.wish E).Ok):X.Ok :=
 ⟨ok.mod,ok.kind,ok.glob,ok.blt,ok.above,ok.inj,ok.has,ok.cab,ok.hd,ok.frames,ok.stk,ok.exf,ok.bs,ok.bsz,ok.noex,ok.exfs,ok.funs,ok.frf⟩
section
variable {X:Cx}{pins:List (Addr × Obj)} {σ:St}{H:Hp}{s:Shared}{E:Value→Shared→Prop}
theorem Inv.wish (I:Inv X pins σ H s) (E:Value→Shared→Prop):Inv (X.wish E) pins σ H s:=⟨I.ok.wish E,I.os,I.bare,I.base,I.loc,I.cell,I.free,I.freeC,I.pin,I.hok,I.len⟩
theorem Inv.unwish (I:Inv (X.wish E) pins σ H s):Inv X pins σ H s:=⟨I.ok.unwish,I.os,I.bare,I.base,I.loc,I.cell,I.free,I.freeC,I.pin,I.hok,I.len⟩
theorem SP.unwish {D:Ends}{f:Flow}{s':Shared} (h:SP (X.wish E) pins D f s'):SP X pins D f s':=by
 cases f with
 | next=>obtain⟨σ',H',I,q⟩:=h;exact⟨σ',H',I.unwish,q⟩
 | brk=>obtain⟨σ',H',I,q⟩:=h;exact⟨σ',H',I.unwish,q⟩
 | cont=>obtain⟨σ',H',I,q⟩:=h;exact⟨σ',H',I.unwish,q⟩
 | ret u=>obtain⟨v,σ',H',I,r,q⟩:=h;exact⟨v,σ',H',I.unwish,r,q⟩
theorem PSs.nox {st:List Stmt}{t:TS} (h:PSs X.nox st t):PSs X st t:=fun pins s σ H D I hw =>
 wpAny_mono (h pins s σ H D (I.wish _) hw) (fun _ _ q=>q.unwish) fun _ _ z=>False.elim z
end
section
variable {X:Cx}{st:Stmt}{rest:List Stmt}{t u:TS}{e:Expr}{te:TE}{pos:Pos}
noncomputable def tNext:TS:=fun D σ H=>D.nx σ H
noncomputable def tSeq (t u:TS):TS:=fun D σ H=>t { D with nx:=u D } σ H
theorem pss_nil:PSs X [] tNext:=fun _ _ σ H _ I h=>wpAny_execs_nil ⟨σ,H,I,h⟩
theorem pss_cons (h1:PS X st t) (h2:PSs X rest u):PSs X (st :: rest) (tSeq t u):=by
 intro pins s σ H D I h;refine wpAny_execs_cons (thn (h1 pins s σ H { D with nx:=u D } I h) fun f s1 q=>?_);cases f with
 | next =>
  obtain⟨σ',H',I',q⟩:=q;exact h2 pins s1 σ' H' D I' q
 | ret v=>exact q
 | brk=>exact q
 | cont=>exact q
theorem pss_one (h1:PS X st t):PSs X [st] t:=by
 intro pins s σ H D I h;refine wpAny_execs_cons (thn (h1 pins s σ H D I h) fun f s1 q=>?_);cases f with
 | next=>exact wpAny_execs_nil q
 | ret v=>exact q
 | brk=>exact q
 | cont=>exact q
theorem Inv.quiet {pins:List (Addr × Obj)} {σ:St}{H:Hp}{s:Shared} (I:Inv X pins σ H s):interactive X.env=false:=by simp[interactive,I.ok.kind]
noncomputable def tDrop (te:TE):TS:=fun D σ H=>te σ H fun _ H1=>D.nx σ H1
theorem ps_expr (he:PE X e te) (hs:swapsWith e none pos.line X.env=pure false:=by rfl):PS X (.Expr e pos) (tDrop te):=by
 intro pins s σ H D I h;exact wpAny_Expr_any (thn (he pins s σ H _ I h) fun v s1 ⟨x,H1,I1,r1,q1⟩=>⟨σ,H1,I1,q1⟩) I.quiet hs
noncomputable def tRet (te:TE):TS:=fun D σ H=>te σ H D.rt
theorem ps_ret (he:PE X e te):PS X (.Return (some e) pos) (tRet te):=by
 intro pins s σ H D I h;exact wpAny_Return_some (thn (he pins s σ H _ I h) fun v s1 ⟨x,H1,I1,r1,q1⟩=>⟨x,σ,H1,I1,r1,q1⟩)
noncomputable def tIfS (c:TT) (t u:TS):TS:=fun D σ H=>c σ H fun b H1=>if b=true then t D σ H1 else u D σ H1
theorem ps_if {c:Expr}{a b:List Stmt}{tc:TT} (hc:PT X c tc) (ha:PSs X a t) (hb:PSs X b u):PS X (.If c a b pos) (tIfS tc t u):=by
 intro pins s σ H D I h;refine wpAny_If (thn (hc pins s σ H _ I h) fun d s1 ⟨H1,I1,q1⟩=>?_);cases d with
 | true=>exact ha pins s1 σ H1 D I1 q1
 | false=>exact hb pins s1 σ H1 D I1 q1
end
noncomputable abbrev TG:=V→St→Hp→(St→Hp→Prop)→Prop
noncomputable abbrev TGs:=List V→St→Hp→(St→Hp→Prop)→Prop
noncomputable def PG (X:Cx) (target:Expr) (t:TG):Prop :=
 ∀ (pins:List (Addr × Obj)) (s:Shared) (σ:St) (H:Hp) (v:V) (u:Value) (Q:St→Hp→Prop),Inv X pins σ H s→RelV v u→t v σ H Q →
  wpAny (model X.prog X.w) X.A (assign target X.env u) (fun _ s'=>∃ σ' H',Inv X pins σ' H' s'∧Q σ' H') X.xe s
noncomputable def PGs (X:Cx) (ts:List Expr) (t:TGs):Prop :=
 ∀ (pins:List (Addr × Obj)) (s:Shared) (σ:St) (H:Hp) (vs:List V) (us:List Value) (Q:St→Hp→Prop),Inv X pins σ H s→Vals vs us→t vs σ H Q →
  wpAny (model X.prog X.w) X.A (assignInOrder ((assignEach ts X.env).map (·.2)) us) (fun _ s'=>∃ σ' H',Inv X pins σ' H' s'∧Q σ' H') X.xe s
noncomputable abbrev TSet:=V→V→V→Hp→(Hp→Prop)→Prop
noncomputable def PSet (X:Cx) (t:TSet):Prop :=
 ∀ (pins:List (Addr × Obj)) (s:Shared) (σ:St) (H:Hp) (o i v:V) (ov iv u:Value) (Q:Hp→Prop),Inv X pins σ H s→RelV o ov→RelV i iv→RelV v u→t o i v H Q →
  wpAny (model X.prog X.w) X.A (setItem ov iv u) (fun _ s'=>∃ H',Inv X pins σ H' s'∧Q H') X.xe s
section
variable {X:Cx}{pos:Pos}
noncomputable def gName (i:Nat):TG:=fun v σ H Q=>Q (σ.set i (some v)) H
theorem pg_name {i:Nat}{x:Str} (hN:X.N.Nodup) (hi:X.N[i]? = some x) (hx:Loc X.env.scope x) (hf:X.fn x=true∨X.env.scope.names.lookup x=some .local:=by first | exact .inl rfl | exact .inr rfl | assumption):PG X (.Name x pos) (gName i):=by
 intro pins s σ H v u Q I r h;exact wpAny_assign_Name (store_ok I hN hi hx r (fun s' I'=>⟨_,H,I',h⟩) hf)
noncomputable def gNil:TGs:=fun vs σ H Q=>vs=[]∧Q σ H
noncomputable def gCons (t:TG) (u:TGs):TGs:=fun vs σ H Q=>∃ v r,vs=v :: r∧t v σ H fun σ' H'=>u r σ' H' Q
theorem pgs_nil:PGs X [] gNil:=by
 intro pins s σ H vs us Q I r h;obtain⟨e,h⟩:=h;subst e;cases r;exact assignInOrder_nil ⟨σ,H,I,h⟩
theorem pgs_cons {e:Expr}{es:List Expr}{t:TG}{u:TGs} (h1:PG X e t) (h2:PGs X es u)
  (hs:(assignEach (e :: es) X.env).map (·.2)=assign e X.env :: (assignEach es X.env).map (·.2):=by rfl):PGs X (e :: es) (gCons t u):=by
 intro pins s σ H vs us Q I r h;obtain⟨v,vr,e1,h⟩:=h;subst e1;cases r with
 | cons r rr =>
  rw[hs];refine assignInOrder_cons (thn (h1 pins s σ H _ _ _ I r h) fun _ s1 ⟨σ1,H1,I1,q1⟩=>?_);exact h2 pins s1 σ1 H1 _ _ Q I1 rr q1
noncomputable def gTup (K:PySem.W.Frag) (n:Nat) (t:TGs):TG:=fun v σ H Q=>∃ a xs,v = .ref a∧SqT K H a xs∧xs.length=n∧t xs σ H Q
theorem pg_tup {es:List Expr}{k:Nat}{t:TGs}{n:Nat} (hc:X.calm=true) (h:PGs X es t)
  (hn:(assignEach es X.env).length=n:=by rfl) (hst:(assignEach es X.env).findIdx? (·.1)=none:=by rfl):PG X (.Tuple es k pos) (gTup X.K n t):=by
 intro pins s σ H v u Q I r hw;obtain⟨a,xs,e1,hq,hl,hw⟩:=hw;subst e1;cases r;obtain⟨its,rv,ht,hz⟩:=I.tuple hq;refine assign_Tuple_tuple (I.ok.hd hc) ht (by simp[hn,← hl,rv.length]) hst fun h' hx=>?_
 have I1:Inv X pins σ H { s with heap:=h' }:=I.kept (t':=s.toks) fun b o e=>hx b o (Nat.ne_of_lt (Heap.lt_size e)) e
 exact h pins _ σ H xs _ Q I1 (by simpa using rv) hw
noncomputable def gSub (to ti:TE) (t:TSet):TG:=fun v σ H Q=>to σ H fun o H1=>ti σ H1 fun i H2=>t o i v H2 fun H3=>Q σ H3
theorem pg_sub {o i:Expr}{to ti:TE}{t:TSet} (ho:PE X o to) (hi:PE X i ti) (hs:PSet X t)
  (ha:∀ v,assign (.Subscript o i pos) X.env v=(do
   let ov ← holding [v] (eval o X.env)
   let iv ← holding [v,ov] (eval i X.env)
   standAt pos
   holding [v,ov,iv] (setItem ov iv v)
   release [v,ov,iv] []):=by intro _;rfl):PG X (.Subscript o i pos) (gSub to ti t):=by
 intro pins s σ H v u Q I r h;rw[ha];refine wpAny_bind (wpAny_holding (thn (ho pins s σ H _ I h) fun ov s1 ⟨x,H1,I1,r1,q1⟩=>?_));refine wpAny_bind (wpAny_holding (thn (hi pins s1 σ H1 _ I1 q1) fun iv s2 ⟨y,H2,I2,r2,q2⟩=>?_));refine wpAny_bind (wpAny_standAt (wpAny_bind (wpAny_holding (thn (hs pins s2 σ H2 x y v ov iv u _ I2 r1 r2 r q2) fun _ s3 ⟨H3,I3,q3⟩=>?_))));exact wpAny_release ⟨σ,H3,I3,q3⟩
noncomputable def tAsg (te:TE) (g:TG):TS:=fun D σ H=>te σ H fun x H1=>g x σ H1 D.nx
theorem ps_asg {tg e:Expr}{te:TE}{g:TG} (he:PE X e te) (hg:PG X tg g) (hs:swapsWithSole [tg] e pos.line X.env=pure false:=by rfl) (hw:swappedStores [tg] e X.env=pure none:=by rfl)
  (h1:(assignEach [tg] X.env).map (·.2)=[assign tg X.env]:=by rfl):PS X (.Assign [tg] e pos) (tAsg te g):=by
 intro pins s σ H D I h;refine wpAny_Assign_stores (thn (he pins s σ H _ I h) fun v s1 ⟨x,H1,I1,r1,q1⟩=>?_) hs hw;rw[h1];exact thn (hg pins s1 σ H1 x v _ I1 r1 q1) fun _ s2 q=>q
theorem ps_set {i:Nat}{x:Str}{e:Expr}{te:TE}{pos':Pos} (hN:X.N.Nodup) (hi:X.N[i]? = some x) (hx:Loc X.env.scope x) (he:PE X e te) (hs:swapsWith e (some (.Name x pos')) pos.line X.env=pure false:=by rfl) (hf:X.fn x=true∨X.env.scope.names.lookup x=some .local:=by first | exact .inl rfl | exact .inr rfl | assumption) :
  PS X (.Assign [.Name x pos'] e pos) (tAsg te (gName i)):=by
 intro pins s σ H D I h;refine wpAny_Assign_Name (thn (he pins s σ H _ I h) fun v s1 ⟨y,H1,I1,r1,q1⟩=>?_) hs;exact store_ok I1 hN hi hx r1 (fun s2 I2=>⟨_,H1,I2,q1⟩) hf
end
structure It where
 go:Nat→Hp→Prop
 yld:Nat→Hp→V→Hp→Prop
 stop:Nat→Hp→Prop
noncomputable def FpOk (X:Cx) (pins:List (Addr × Obj)) (H:Hp) (b:Addr):Prop :=
 H b=none∧b≠X.env.locals∧b ∉ X.fs∧(b∈X.ex∨X.s₀.heap.objs.size≤b)∧(∀ x c,X.env.cells.lookup x=some c→c≠b)∧∀ p∈X.pn++pins,p.1≠b
theorem Inv.fpOk {X:Cx}{pins:List (Addr × Obj)} {σ:St}{H H':Hp}{s:Shared}{b:Addr} (I:Inv X pins σ H s) (hb:s.heap.objs.size≤b) (hn:H' b=none):FpOk X pins H' b:=by
 refine⟨hn,Nat.ne_of_gt (Nat.lt_of_lt_of_le I.lt hb),I.nofs hb,.inr (Nat.le_trans I.sz hb),fun x c e z=>?_,fun p hp z=>?_⟩
 ·obtain⟨v,q⟩:=I.cell x c e;exact absurd (Nat.lt_of_lt_of_le q.lt (by rw[z];exact hb)) (Nat.lt_irrefl _)
 ·exact absurd (Nat.lt_of_lt_of_le (Heap.lt_size (I.pin p hp).1) (by rw[z];exact hb)) (Nat.lt_irrefl _)
structure Turn (P:Program) (w:World) (K:PySem.W.Frag) (tg:Expr) (J:It) (fp:List Addr) (it:Addr) (tn:Nat→Heap→Prop):Prop where
 mem:it∈fp
 obj:∀ i h,tn i h→∀ b∈fp,∃ o,h.get? b=some o∧∀ v,o.data ≠ .cell v
 keep:∀ i h h',tn i h→(∀ b∈fp,∀ o,h.get? b=some o→h'.get? b=some o)→tn i h'
 item:∀ (X:Cx),X.prog=P→X.w=w→X.K=K→X.calm=true→∀ (i:Nat) (pins:List (Addr × Obj)) (s:Shared) (σ:St) (H:Hp) (E:Value→Shared→Prop),Inv X pins σ H s→(∀ b∈fp,FpOk X pins H b)→tn i s.heap→J.go i H →
  wpAny (model P w) X.A (pyNext (.ref it)) (fun r s1=>∃ u,r=some u ∧
   wpAny (model P w) X.A (letOwnedTupleGo tg (.ref it) u) (fun _ s2=>∃ x H',Inv X pins σ H' s2∧RelV x u∧J.yld i H x H'∧tn (i+1) s2.heap∧∀ b∈fp,H' b=none) E s1) E s
 done:∀ (X:Cx),X.prog=P→X.w=w→X.K=K→X.calm=true→∀ (i:Nat) (pins:List (Addr × Obj)) (s:Shared) (σ:St) (H:Hp) (E:Value→Shared→Prop),Inv X pins σ H s→(∀ b∈fp,FpOk X pins H b)→tn i s.heap→J.stop i H →
  wpAny (model P w) X.A (pyNext (.ref it)) (fun r s1=>r=none∧Inv X pins σ H s1) E s
 self:∀ (A:Around) (i:Nat) (s:Shared) (Q:Value→Shared→Prop) (E:Value→Shared→Prop),tn i s.heap→Q (.ref it) s→wpAny (model P w) A (pyIter (.ref it)) Q E s
noncomputable abbrev TI:=St→Hp→(It→Hp→Prop)→Prop
noncomputable def PIE (X:Cx) (pins:List (Addr × Obj)) (σ:St) (tg:Expr) (R:It→Hp→Prop) (itv:Value) (s2:Shared):Prop :=
 ∃ (it:Addr) (fp:List Addr) (tn:Nat→Heap→Prop) (J:It) (H':Hp),itv = .ref it∧Inv X pins σ H' s2∧Turn X.prog X.w X.K tg J fp it tn∧tn 0 s2.heap∧(∀ b∈fp,FpOk X pins H' b)∧R J H'
noncomputable def PI (X:Cx) (tg iter:Expr) (wi:TI):Prop :=
 ∀ (pins:List (Addr × Obj)) (s:Shared) (σ:St) (H:Hp) (R:It→Hp→Prop),Inv X pins σ H s→wi σ H R →
  wpAny (model X.prog X.w) X.A (eval iter X.env) (fun v s1=>wpAny (model X.prog X.w) X.A (pyIter v) (PIE X pins σ tg R) X.xe s1) X.xe s
theorem go_of {M:Model}{A:Around}{E:Value→Shared→Prop}{s:Shared}{tg:Expr}{it:Addr}{u:Value}{o:Obj}{n:String}{vs:Array Value}{Q:Unit→Shared→Prop} (ho:s.heap.get? it=some o) (hc:o.cls = .type n) (hd:o.data = .fields vs)
    (hn : ["enumerate", "zip", "dict_itemiterator", "dict_reverseitemiterator", "odict_iterator", "itertools.zip_longest", "itertools.pairwise"].contains n=false) (hQ:Q () s) : wpAny M A (letOwnedTupleGo tg (.ref it) u) Q E s:=by
  unfold letOwnedTupleGo;cases tg <;> first
    | exact wpAny_pure hQ
    | (cases u <;> first
        | exact wpAny_pure hQ
        | (refine wpAny_bind (wpAny_load ho ?_)
           rw [hc,hd]
           show wpAny M A (if (["enumerate", "zip", "dict_itemiterator", "dict_reverseitemiterator", "odict_iterator", "itertools.zip_longest", "itertools.pairwise"].contains n && vs[0]? == some (rawInt _))=true then _ else _) Q E s
           rw [if_neg (by intro h;rw [hn,Bool.false_and] at h;cases h)]
           exact wpAny_pure hQ))
noncomputable def Itl (K:PySem.W.Frag) (a:Addr):It :=
 ⟨fun i H=>∃ xs x,SqL K H a xs∧xs[i]? = some x,fun i H x H'=>H'=H∧∀ xs,SqL K H a xs→xs[i]? = some x,fun i H=>∃ xs,SqL K H a xs∧xs.length≤i⟩
noncomputable def Itr (lo:Int) (n:Nat):It:=⟨fun i _=>i<n,fun i H x H'=>H'=H∧x = .int (lo+i),fun i _=>n≤i⟩
theorem turn_list {P:Program}{w:World}{K:PySem.W.Frag}{tg:Expr} (a it:Addr):Turn P w K tg (Itl K a) [it] it (fun i h=>h.IsListIter it a i) where
 mem:=by simp
 obj:=fun i h st b hb=>by
  have e:b=it:=by simpa using hb
  subst e;obtain⟨o,e,c,d⟩:=st;exact⟨o,e,fun v z=>by rw[d] at z;cases z⟩
 keep:=fun i h h' st k=>st.at fun o e=>k it (by simp) o e
 item:=by
  intro X hP hw hK hc i pins s σ H E I hf st hg;subst hP hw hK;obtain⟨xs,x,hq,hx⟩:=hg;obtain⟨its,rv,p,hz⟩:=I.list hq;obtain⟨u,hu,ru⟩:=rv.get hx;obtain⟨f0,f1,f2,f3,f4,f5⟩:=hf it (by simp);refine wpAny_pyNext_list_item st p.isList (x:=u) (by simpa using hu) fun h' st' sb=>?_
  have I1:Inv X pins σ H { s with heap:=h' }:=I.turned (t':=s.toks) (fun b o hb e=>(sb.2 b hb).trans e) f0 f1 f3 f4 f5;obtain⟨o,e,c,d⟩:=id st';exact⟨u,rfl,go_of (s:={ s with heap:=h' }) e c d (by decide) ⟨x,H,I1,ru,⟨rfl,fun ys hy=>by rw[I.list_inj hy hq];exact hx⟩,st',fun b hb=>(hf b hb).1⟩⟩
 done:=by
  intro X hP hw hK hc i pins s σ H E I hf st hg;subst hP hw hK;obtain⟨xs,hq,hx⟩:=hg;obtain⟨its,rv,p,hz⟩:=I.list hq;obtain⟨f0,f1,f2,f3,f4,f5⟩:=hf it (by simp);have hl:=rv.length;exact wpAny_pyNext_list_end (I.ok.hd hc) st p.isList (by simp;omega) fun h' eb=>⟨rfl,I.turned (t':=s.toks) (fun b o hb e=>eb b o hb e) f0 f1 f3 f4 f5⟩
 self:=fun _ _ _ _ _ st h=>wpAny_pyIter_listiter st h
theorem turn_range {P:Program}{w:World}{K:PySem.W.Frag}{tg:Expr} (it:Addr) (lo:Int) (n:Nat):Turn P w K tg (Itr lo n) [it] it (fun i h=>IsRangeIter h it (lo+(i:Nat) * 1) ((n:Int)-(i:Nat)) 1) where
 mem:=by simp
 obj:=fun i h st b hb=>by
  have e:b=it:=by simpa using hb
  subst e;exact⟨_,st,fun v z=>by
   have z':Data.fields _=Data.cell v:=z;cases z'⟩
 keep:=fun i h h' st k=>k it (by simp) _ st
 item:=by
  intro X hP hw hK hc i pins s σ H E I hf st hg;subst hP hw hK;obtain⟨f0,f1,f2,f3,f4,f5⟩:=hf it (by simp);have W:=Walks.range (prog:=X.prog) (w:=X.w) (I.ok.hd hc) it lo 1 n;refine W.item i s _ _ hg st fun v h' tk hv st' kk=>?_
  obtain⟨t,rfl⟩:=hv;have I1:Inv X pins σ H { s with heap:=h',toks:=tk }:=I.turned (fun b o hb e=>kk b o (by simpa using hb) e) f0 f1 f3 f4 f5;refine⟨_,rfl,go_of (s:={ s with heap:=h',toks:=tk }) (n := "range_iterator") st' rfl rfl (by decide) ⟨.int (lo+i),H,I1,⟨t,?_⟩,⟨rfl,rfl⟩,st',fun b hb=>(hf b hb).1⟩⟩;rw[Int.mul_one]
 done:=by
  intro X hP hw hK hc i pins s σ H E I hf st hg;subst hP hw hK;obtain⟨f0,f1,f2,f3,f4,f5⟩:=hf it (by simp);exact wpAny_pyNext_range_end (I.ok.hd hc) st (by have:n≤i:=hg;omega) fun h' eb=>⟨rfl,I.turned (t':=s.toks) (fun b o hb e=>eb b o hb e) f0 f1 f3 f4 f5⟩
 self:=fun _ _ _ _ _ st h=>wpAny_pyIter_rangeiter st h
end L2
namespace L2
open PySem PySem.Spec PyProof.Rows
section
variable {X:Cx}{tg:Expr}
noncomputable def iList (K:PySem.W.Frag) (tl:TE):TI:=fun σ H R=>tl σ H fun x H1=>∃ a,x = .ref a∧(∃ xs,SqL K H1 a xs)∧R (Itl K a) H1
theorem pi_list {l:Expr}{tl:TE} (hl:PE X l tl):PI X tg l (iList X.K tl):=by
 intro pins s σ H R I h;refine thn (hl pins s σ H _ I h) fun v s1 ⟨x,H1,I1,r1,q1⟩=>?_
 obtain⟨a,e,⟨xs,hq⟩,q⟩:=q1;subst e;cases r1;obtain⟨its,rv,p,hz⟩:=I1.list hq;refine wpAny_pyIter_list p.isList ?_;refine⟨s1.heap.objs.size,[s1.heap.objs.size],_,_,H1,rfl,I1.kept (t':=s1.toks) fun b o e=>Heap.get?_push_of_some _ e,turn_list a _,⟨_,Heap.get?_push_size _ rfl,rfl,rfl⟩,fun b hb=>?_,q⟩;have e:b=s1.heap.objs.size:=by simpa using hb
 subst e;exact I1.fpOk (Nat.le_refl _) (I1.hok.fresh (Nat.le_refl _))
theorem range_it {pins:List (Addr × Obj)} {σ:St}{H:Hp}{s:Shared}{R:It→Hp→Prop}{E:Value→Shared→Prop}{lo hi:Int}{t u v:Tok}{tk:Nat} (I:Inv X pins σ H s) (h1 : -(2^62)≤lo) (h2:lo<2^62) (h3 : -(2^62)≤hi) (h4:hi<2^62)
  (q:R (Itr lo (hi-lo).toNat) H):wpAny (model X.prog X.w) X.A (pyIter (.ref s.heap.objs.size)) (PIE X pins σ tg R) E { s with heap:=s.heap.push { cls := .type "range",data := .fields #[.int lo t,.int hi u,.int 1 v] },toks:=tk }:=by
 refine wpAny_pyIter_range (IsRange.new ..) (small_one h1 h2 h3 h4) ?_;have I1:Inv X pins σ H { s with heap:=s.heap.push { cls := .type "range",data := .fields #[.int lo t,.int hi u,.int 1 v] },toks:=tk }:=I.kept fun b o e=>Heap.get?_push_of_some _ e
 refine⟨(s.heap.push { cls := .type "range",data := .fields #[.int lo t,.int hi u,.int 1 v] }).objs.size,[(s.heap.push { cls := .type "range",data := .fields #[.int lo t,.int hi u,.int 1 v] }).objs.size],_,_,H,rfl,
  I1.kept (t':=tk) fun b o e=>Heap.get?_push_of_some _ e,turn_range _ lo (hi-lo).toNat,?_,fun b hb=>?_,q⟩
 ·have e1:lo+((0:Nat):Int) * 1=lo:=by simp
  have e2:(((hi-lo).toNat:Nat):Int)-((0:Nat):Int)=Builtin.Range.rangeSize lo hi 1:=by rw[rangeSize_one];split <;> omega
  show IsRangeIter _ _ (lo+((0:Nat):Int) * 1) ((((hi-lo).toNat:Nat):Int)-((0:Nat):Int)) 1;rw[e1,e2];exact Heap.get?_push_size _ rfl
 ·have e:b=(s.heap.push { cls := .type "range",data := .fields #[.int lo t,.int hi u,.int 1 v] }).objs.size:=by simpa using hb
  subst e;exact I1.fpOk (Nat.le_refl _) (I1.hok.fresh (Nat.le_refl _))
noncomputable def iRng1 (ta:TA):TI:=fun σ H R=>ta σ H fun vs H1=>∃ j:Int,vs=[.int j] ∧ -(2^62)≤j∧j<2^62∧R (Itr 0 j.toNat) H1
theorem pi_range1 {a:Expr}{ta:TA}{p pos:Pos} (hg:Gl X "range") (hm:X.mg "range" = none) (ha:PA X [a] ta) (hs:starEach [a] X.env=[(false,eval a X.env)]:=by rfl):PI X tg (.Call (.Name "range" p) [a] [] pos) (iRng1 ta):=by
 intro pins s σ H R I h;refine Call_ (ld_blt I hg hm boot_range (PyProof.Rows.callWith_type1 (thn (ha pos pins s σ H _ I h) fun us s1 ⟨vs,H1,I1,r1,q1⟩=>?_) hs rfl));obtain⟨j,e,q1,q2,q⟩:=q1;subst e;cases r1 with
 | cons r rr =>
  cases rr;obtain⟨t,rfl⟩:=r;exact call_range_1 (range_it I1 (by omega) (by omega) q1 q2 (by simpa using q))
noncomputable def tFor (wi:TI) (g:TG) (tb:TS):TS:=fun D σ H=>wi σ H fun J H1=>∃ W:Nat→Nat→St→Hp→Prop,(∃ m,W 0 m σ H1)∧∀ i m σ H,W i m σ H →
 (J.stop i H∧D.nx σ H)∨(J.go i H∧∃ N:St→Hp→Prop,(∀ σ' H',N σ' H'→∃ m',m'<m∧W (i+1) m' σ' H')∧∀ x H',J.yld i H x H'→g x σ H' fun σ2 H2=>tb { D with nx:=N,ct:=N,bk:=D.nx } σ2 H2)
noncomputable def pinsAt (fp:List Addr) (h:Heap):List (Addr × Obj):=fp.filterMap fun b=>(h.get? b).map fun o=>(b,o)
theorem mem_pinsAt {fp:List Addr}{h:Heap}{b:Addr}{o:Obj} (hb:b∈fp) (e:h.get? b=some o):(b,o)∈pinsAt fp h:=List.mem_filterMap.mpr ⟨b,hb,by rw[e];rfl⟩
theorem of_pinsAt {fp:List Addr}{h:Heap}{p:Addr × Obj} (hp:p∈pinsAt fp h):p.1∈fp∧h.get? p.1=some p.2:=by
 obtain⟨b,hb,e⟩:=List.mem_filterMap.mp hp;cases q:h.get? b with
 | none=>rw[q] at e;cases e
 | some o =>
  rw[q] at e;have e':(b,o)=p:=Option.some.inj e;subst e';exact⟨hb,q⟩
theorem Inv.pinned {pins:List (Addr × Obj)} {σ:St}{H:Hp}{s:Shared}{fp:List Addr} (I:Inv X pins σ H s) (hf:∀ b∈fp,FpOk X pins H b) (ho:∀ b∈fp,∃ o,s.heap.get? b=some o∧∀ v,o.data ≠ .cell v):Inv X (pins++pinsAt fp s.heap) σ H s :=
 I.pins_of fun p hp=>(List.mem_append.mp hp).elim (fun z=>I.pin p (List.mem_append_right _ z)) fun z=>by
  obtain⟨hb,e⟩:=of_pinsAt z;obtain⟨f0,f1,f2,_⟩:=hf p.1 hb;obtain⟨o,e',d⟩:=ho p.1 hb;rw[e] at e';cases e';exact⟨e,f0,f1,f2,d⟩
theorem Inv.unpinned {pins pl:List (Addr × Obj)} {σ:St}{H:Hp}{s:Shared} (I:Inv X (pins++pl) σ H s):Inv X pins σ H s:=I.pins_of fun p hp=>I.pin p (List.mem_append_right _ (List.mem_append_left _ hp))
theorem ps_for {iter:Expr}{body:List Stmt}{wi:TI}{g:TG}{tb:TS}{pos:Pos} (hp:PassesOwn (model X.prog X.w) X.A X.env X.xe) (hc:X.calm=true) (hi:PI X tg iter wi) (hg:PG X tg g) (hb:PSs X body tb)
  (hs:∀ x,foldedSetIterable iter X.env x=pure x:=by intro _;rfl):PS X (.For tg iter body [] pos) (tFor wi g tb):=by
 intro pins s σ H D I h;refine wpAny_For (thn (hi pins s σ H _ I h) fun v s1 h1=>thn h1 fun itv s2 h2=>?_) hs;obtain⟨it,fp,tn,J,H2,e,I2,T,st2,f2,W,⟨m0,w0⟩,turn⟩:=h2;subst e;have stat:∀ {H':Hp},(∀ b∈fp,H' b=none)→∀ b∈fp,FpOk X pins H' b:=fun hn b hb=>⟨hn b hb,(f2 b hb).2⟩
 refine codeAny_forLoop_any (fun n s'=>∃ i σ' H',Inv X pins σ' H' s'∧tn i s'.heap∧(∀ b∈fp,H' b=none)∧W i n σ' H') ?_ m0 ⟨0,σ,H2,I2,st2,fun b hb=>(f2 b hb).1,w0⟩;rintro n s3 ⟨i,σ3,H3,I3,st3,fr3,w3⟩;rcases turn i n σ3 H3 w3 with ⟨stop,qn⟩ | ⟨go,N,hN,step⟩
 ·refine wpAny_passesOwn hp (thn (T.done X rfl rfl rfl hc i pins s3 σ3 H3 X.xe I3 (stat fr3) st3 stop) fun r s4 ⟨hr,I4⟩=>?_);subst hr;exact wpAny_execs_nil ⟨σ3,H3,I4,qn⟩
 ·refine wpAny_passesOwn hp (thn (T.item X rfl rfl rfl hc i pins s3 σ3 H3 X.xe I3 (stat fr3) st3 go) fun r s4 ⟨u,hr,h4⟩=>?_);subst hr;refine wpAny_passesOwn hp (thn h4 fun _ s5 ⟨x,H5,I5,r5,y5,st5,fr5⟩=>?_);have I5':=I5.pinned (stat fr5) (T.obj _ _ st5);refine wpAny_passesOwn hp (thn (hg _ s5 σ3 H5 x u _ I5' r5 (step x H5 y5)) fun _ s6 ⟨σ6,H6,I6,q6⟩=>?_);refine wpAny_passesOwn hp (thn (hb _ s6 σ6 H6 _ I6 q6) fun f s7 q7=>?_);have again:∀ {σ7:St}{H7:Hp},Inv X (pins++pinsAt fp s5.heap) σ7 H7 s7→N σ7 H7→∃ m,m<n∧∃ i σ' H',Inv X pins σ' H' s7∧tn i s7.heap∧(∀ b∈fp,H' b=none)∧W i m σ' H':=fun {σ7 H7} I7 n7=>by
   obtain⟨m',hm,w7⟩:=hN σ7 H7 n7;refine⟨m',hm,i+1,σ7,H7,I7.unpinned,T.keep _ _ _ st5 fun b hb o e=>(I7.pin (b,o) (List.mem_append_right _ (List.mem_append_right _ (mem_pinsAt hb e)))).1,fun b hb=>?_,w7⟩;obtain⟨o,e,d⟩:=T.obj _ _ st5 b hb;exact (I7.pin (b,o) (List.mem_append_right _ (List.mem_append_right _ (mem_pinsAt hb e)))).2.1
  cases f with
  | next=>obtain⟨σ7,H7,I7,n7⟩:=q7;exact again I7 n7
  | cont=>obtain⟨σ7,H7,I7,n7⟩:=q7;exact again I7 n7
  | brk=>obtain⟨σ7,H7,I7,q7⟩:=q7;exact⟨σ7,H7,I7.unpinned,q7⟩
  | ret v=>obtain⟨x7,σ7,H7,I7,r7,q7⟩:=q7;exact⟨x7,σ7,H7,I7.unpinned,r7,q7⟩
end
theorem for_list {K:PySem.W.Frag}{a:Addr}{xs:List V}{g:TG}{tb:TS}{D:Ends} {σ:St}{H:Hp} (Pv:Nat→St→Hp→Prop) (h0:Pv 0 σ H) (hl:∀ i σ H,i≤xs.length→Pv i σ H→SqL K H a xs)
  (hs:∀ i x σ H,xs[i]? = some x→Pv i σ H→g x σ H fun σ2 H2=>tb { D with nx:=Pv (i+1),ct:=Pv (i+1),bk:=D.nx } σ2 H2) (hd:∀ σ H,Pv xs.length σ H→D.nx σ H) :
  ∃ W:Nat→Nat→St→Hp→Prop,(∃ m,W 0 m σ H)∧∀ i m σ H,W i m σ H →
   ((Itl K a).stop i H∧D.nx σ H)∨((Itl K a).go i H∧∃ N:St→Hp→Prop,(∀ σ' H',N σ' H'→∃ m',m'<m∧W (i+1) m' σ' H')∧∀ x H',(Itl K a).yld i H x H'→g x σ H' fun σ2 H2=>tb { D with nx:=N,ct:=N,bk:=D.nx } σ2 H2):=by
 refine⟨fun i m σ H=>m=xs.length-i∧i≤xs.length∧Pv i σ H,⟨xs.length,by simp,Nat.zero_le _,h0⟩,?_⟩;rintro i m σ H ⟨rfl,hi,p⟩;have q:=hl i σ H hi p;by_cases hlt:i<xs.length
 ·refine .inr ⟨⟨xs,xs[i],q,by simp[hlt]⟩,Pv (i+1),fun σ' H' p'=>⟨xs.length-(i+1),by omega,rfl,hlt,p'⟩,fun x H' y=>?_⟩;obtain⟨e,y⟩:=y;subst e;exact hs i x σ _ (y xs q) p
 ·have e:i=xs.length:=by omega
  subst e;exact .inl ⟨⟨xs,q,Nat.le_refl _⟩,hd σ H p⟩
theorem for_range {lo:Int}{n:Nat}{g:TG}{tb:TS}{D:Ends} {σ:St}{H:Hp} (Pv:Nat→St→Hp→Prop) (h0:Pv 0 σ H)
  (hs:∀ i σ H,i<n→Pv i σ H→g (.int (lo+i)) σ H fun σ2 H2=>tb { D with nx:=Pv (i+1),ct:=Pv (i+1),bk:=D.nx } σ2 H2) (hd:∀ σ H,Pv n σ H→D.nx σ H) :
  ∃ W:Nat→Nat→St→Hp→Prop,(∃ m,W 0 m σ H)∧∀ i m σ H,W i m σ H →
   ((Itr lo n).stop i H∧D.nx σ H)∨((Itr lo n).go i H∧∃ N:St→Hp→Prop,(∀ σ' H',N σ' H'→∃ m',m'<m∧W (i+1) m' σ' H')∧∀ x H',(Itr lo n).yld i H x H'→g x σ H' fun σ2 H2=>tb { D with nx:=N,ct:=N,bk:=D.nx } σ2 H2):=by
 refine⟨fun i m σ H=>m=n-i∧i≤n∧Pv i σ H,⟨n,by simp,Nat.zero_le _,h0⟩,?_⟩;rintro i m σ H ⟨rfl,hi,p⟩;by_cases hlt:i<n
 ·refine .inr ⟨hlt,Pv (i+1),fun σ' H' p'=>⟨n-(i+1),by omega,rfl,hlt,p'⟩,fun x H' y=>?_⟩;obtain⟨e,y⟩:=y;subst e y;exact hs i σ _ hlt p
 ·have e:i=n:=by omega
  subst e;exact .inl ⟨Nat.le_refl _,hd σ H p⟩
end L2
namespace L2
open PySem PySem.Spec PyProof.Rows
noncomputable abbrev R2:=V→V→Hp→VK→Prop
noncomputable def OpR (X:Cx) (f:Value→Value→Sem Value) (r:R2):Prop :=
 ∀ (pins:List (Addr × Obj)) (s:Shared) (σ:St) (H:Hp) (x y:V) (v u:Value) (Q:VK),Inv X pins σ H s→RelV x v→RelV y u→r x y H Q →
  wpAny (model X.prog X.w) X.A (f v u) (EP X pins σ Q) X.xe s
noncomputable def UnR (X:Cx) (f:Value→Sem Value) (r:V→Hp→VK→Prop):Prop :=
 ∀ (pins:List (Addr × Obj)) (s:Shared) (σ:St) (H:Hp) (x:V) (v:Value) (Q:VK),Inv X pins σ H s→RelV x v→r x H Q →
  wpAny (model X.prog X.w) X.A (f v) (EP X pins σ Q) X.xe s
noncomputable def CallR (X:Cx) (f:Value) (r:List V→Hp→VK→Prop):Prop :=
 ∀ (pins:List (Addr × Obj)) (s:Shared) (σ:St) (H:Hp) (xs:List V) (us:List Value) (Q:VK),Inv X pins σ H s→Vals xs us→r xs H Q →
  wpAny (model X.prog X.w) X.A (call f us) (EP X pins σ Q) X.xe s
noncomputable def tOp (r:R2) (ta tb:TE):TE:=fun σ H Q=>ta σ H fun x H1=>tb σ H1 fun y H2=>r x y H2 Q
noncomputable def tUn (r:V→Hp→VK→Prop) (ta:TE):TE:=fun σ H Q=>ta σ H fun x H1=>r x H1 Q
noncomputable def rI (C:Int→Int→Prop) (g:Int→Int→V):R2:=fun x y H Q=>∃ i j,x = .int i∧y = .int j∧C i j∧Q (g i j) H
noncomputable def rI0 (g:Int→Int→V):R2:=fun x y H Q=>∃ i j,x = .int i∧y = .int j∧Q (g i j) H
noncomputable def rU (g:Int→V):V→Hp→VK→Prop:=fun x H Q=>∃ i,x = .int i∧Q (g i) H
section
variable {X:Cx}{a b c:Expr}{ta tb tc:TE}{pos:Pos}
theorem binT (ha:PE X a ta) (hb:PE X b tb) {pins:List (Addr × Obj)}{s:Shared} {σ:St}{H:Hp}{R:V→V→Hp→Prop} (I:Inv X pins σ H s)
  (h:ta σ H fun x H1=>tb σ H1 fun y H2=>R x y H2) {Q:Value→Shared→Prop}{f:Value→Value→Sem Value}
  (hf:∀ v u s2 x y H2,Inv X pins σ H2 s2→RelV x v→RelV y u→R x y H2→wpAny (model X.prog X.w) X.A (f v u) Q X.xe s2) :
  wpAny (model X.prog X.w) X.A (eval a X.env) (fun v s₁=>wpAny (model X.prog X.w) X.A (eval b X.env) (fun u s₂=>wpAny (model X.prog X.w) X.A (f v u) Q X.xe s₂) X.xe s₁) X.xe s:=by
 refine thn (ha pins s σ H _ I h) fun v s1 ⟨x,H1,I1,r1,q1⟩=>?_
 refine thn (hb pins s1 σ H1 _ I1 q1) fun u s2 ⟨y,H2,I2,r2,q2⟩=>?_
 exact hf v u s2 x y H2 I2 r1 r2 q2
theorem pe_op {op:Operator}{r:R2} (ho:OpR X (binaryOp op) r) (ha:PE X a ta) (hb:PE X b tb):PE X (.BinOp a op b pos) (tOp r ta tb):=by
 intro pins s σ H Q I h;exact wpAny_BinOp (binT ha hb I h fun v u s2 x y H2 I2 rx ry q=>ho pins s2 σ H2 x y v u Q I2 rx ry q)
theorem pe_un {op:UnaryOp}{r:V→Hp→VK→Prop} (ho:UnR X (unaryOp op) r) (ha:PE X a ta):PE X (.UnaryOp op a pos) (tUn r ta):=by
 intro pins s σ H Q I h;exact UnaryOp_ (thn (ha pins s σ H _ I h) fun v s1 ⟨x,H1,I1,r1,q1⟩=>ho pins s1 σ H1 x v Q I1 r1 q1)
theorem opI {f:Value→Value→Sem Value}{C:Int→Int→Prop}{g:Int→Int→Int}
  (rule:∀ (i j:Int) (t u:Tok) (s:Shared) (Q:Value→Shared→Prop) (E:Value→Shared→Prop),C i j→Q (.int (g i j) s.toks) { s with toks:=s.toks+1 }→wpAny (model X.prog X.w) X.A (f (.int i t) (.int j u)) Q E s) :
  OpR X f (rI C fun i j=>.int (g i j)):=by
 intro pins s σ H x y v u Q I rx ry h;obtain⟨i,j,rfl,rfl,hc,q⟩:=h;obtain⟨t,rfl⟩:=rx;obtain⟨t',rfl⟩:=ry;exact rule i j t t' s _ _ hc ⟨.int (g i j),H,I.tok _,⟨_,rfl⟩,q⟩
theorem opI0 {f:Value→Value→Sem Value}{g:Int→Int→Int}
  (rule:∀ (i j:Int) (t u:Tok) (s:Shared) (Q:Value→Shared→Prop) (E:Value→Shared→Prop),Q (.int (g i j) s.toks) { s with toks:=s.toks+1 }→wpAny (model X.prog X.w) X.A (f (.int i t) (.int j u)) Q E s) :
  OpR X f (rI0 fun i j=>.int (g i j)):=by
 intro pins s σ H x y v u Q I rx ry h;obtain⟨i,j,rfl,rfl,q⟩:=h;obtain⟨t,rfl⟩:=rx;obtain⟨t',rfl⟩:=ry;exact rule i j t t' s _ _ ⟨.int (g i j),H,I.tok _,⟨_,rfl⟩,q⟩
theorem opB0 {f:Value→Value→Sem Value}{g:Int→Int→Bool}
  (rule:∀ (i j:Int) (t u:Tok) (s:Shared) (Q:Value→Shared→Prop) (E:Value→Shared→Prop),Q (.bool (g i j)) s→wpAny (model X.prog X.w) X.A (f (.int i t) (.int j u)) Q E s) :
  OpR X f (rI0 fun i j=>.bl (g i j)):=by
 intro pins s σ H x y v u Q I rx ry h;obtain⟨i,j,rfl,rfl,q⟩:=h;obtain⟨t,rfl⟩:=rx;obtain⟨t',rfl⟩:=ry;exact rule i j t t' s _ _ ⟨.bl (g i j),H,I,rfl,q⟩
noncomputable def CPow (i j:Int):Prop:=0≤j∧j≤1000000∧i.natAbs<2^64
noncomputable def CMul (i j:Int):Prop:=(-(2^64)<i∧i<2^64)∨(-(2^64)<j∧j<2^64)
theorem CMul.ok {i j:Int} (h:CMul i j):IntMulOk i j:=by
 rcases h with ⟨h1,h2⟩ | ⟨h1,h2⟩
 ·exact .of_left (intBits_le_64 h1 h2)
 ·exact .of_right (intBits_le_64 h1 h2)
theorem op_add:OpR X (binaryOp .Add) (rI0 fun i j=>.int (i+j)):=opI0 fun _ _ _ _ _ _ _ q=>add_int q
theorem op_sub:OpR X (binaryOp .Sub) (rI0 fun i j=>.int (i-j)):=opI0 fun _ _ _ _ _ _ _ q=>sub_int q
theorem op_mod:OpR X (binaryOp .Mod) (rI (fun _ j=>0<j) fun i j=>.int (i % j)):=opI fun i j _ _ _ _ _ hc q=>by
 have h1:(0:Int)<j:=hc;exact mod_int' (by omega) (by rw[Int.fmod_eq_emod_of_nonneg i (by omega)];exact q)
theorem op_pow:OpR X (binaryOp .Pow) (rI CPow fun i j=>.int (i^j.toNat)):=opI fun _ _ _ _ _ _ _ hc q=>pow_int_small hc.1 hc.2.1 hc.2.2 q
theorem op_shl:OpR X (binaryOp .LShift) (rI CPow fun i j=>.int (i * 2^j.toNat)):=opI fun _ _ _ _ _ _ _ hc q=>lshift_int_small hc.1 hc.2.1 hc.2.2 q
theorem op_and:OpR X (binaryOp .BitAnd) (rI0 fun i j=>.int (Builtin.bitAnd i j)):=opI0 fun _ _ _ _ _ _ _ q=>and_int q
theorem unI {f:Value→Sem Value}{g:Int→Int}
  (rule:∀ (i:Int) (t:Tok) (s:Shared) (Q:Value→Shared→Prop) (E:Value→Shared→Prop),Q (.int (g i) s.toks) { s with toks:=s.toks+1 }→wpAny (model X.prog X.w) X.A (f (.int i t)) Q E s) :
  UnR X f (rU fun i=>.int (g i)):=by
 intro pins s σ H x v Q I rx h;obtain⟨i,rfl,q⟩:=h;obtain⟨t,rfl⟩:=rx;exact rule i t s _ _ ⟨.int (g i),H,I.tok _,⟨_,rfl⟩,q⟩
theorem un_neg:UnR X (unaryOp .USub) (rU fun i=>.int (-i)):=unI fun _ _ _ _ _ q=>neg_int q
end
noncomputable def scal:V→V→Bool
 | .non,.non=>true | .non,.int _=>true | .int _,.non=>true | .non,.bl _=>true | .bl _,.non=>true | .non,.str _=>true | .str _,.non=>true
 | .int _,.int _=>true | .bl _,.bl _=>true | .str _,.str _=>true | .byt _,.byt _=>true
 | .int _,.str _=>true | .str _,.int _=>true | .bl _,.str _=>true | .str _,.bl _=>true
 | _,_=>false
noncomputable def rEq:R2:=fun x y H Q=>scal x y=true∧Q (.bl (decide (x=y))) H
noncomputable def rNe:R2:=fun x y H Q=>scal x y=true∧Q (.bl (!decide (x=y))) H
theorem dec_int {i j:Int}:decide (V.int i=V.int j)=(i == j):=by
 rw[Bool.eq_iff_iff];simp
theorem dec_bl {i j:Bool}:decide (V.bl i=V.bl j)=(i == j):=by
 rw[Bool.eq_iff_iff];simp
theorem dec_str {i j:Str}:decide (V.str i=V.str j)=(i == j):=by
 rw[Bool.eq_iff_iff];simp
theorem dec_byt {i j:Array UInt8}:decide (V.byt i=V.byt j)=(i.toList == j.toList):=by
 rw[Bool.eq_iff_iff];cases i;cases j;simp
section
variable {X:Cx}{a b c:Expr}{ta tb tc:TE}{pos:Pos}
theorem fin_bl {pins:List (Addr × Obj)} {σ:St}{H:Hp}{s:Shared}{Q:VK}{k k':Bool} (I:Inv X pins σ H s) (q:Q (.bl k) H) (e:k=k'):EP X pins σ Q (.bool k') s:=by
 subst e;exact⟨.bl k,H,I,rfl,q⟩
theorem op_eq:OpR X (compareOp .Eq) rEq:=by
 intro pins s σ H x y v u Q I rx ry h;obtain⟨hs,q⟩:=h;cases x with
 | non =>
  cases rx;cases y with
  | non=>cases ry;exact PySem.EqNone.eq_none_none (fin_bl I q (by simp))
  | bl j=>cases ry;exact PySem.EqNone.eq_none_bool (fin_bl I q (by simp))
  | int j=>obtain⟨t',rfl⟩:=ry;exact PySem.EqNone.eq_none_int (fin_bl I q (by simp))
  | str j=>obtain⟨t',rfl⟩:=ry;exact PySem.EqNone.eq_none_str (fin_bl I q (by simp))
  | _=>exact absurd (show false=true from hs) Bool.false_ne_true
 | bl i =>
  cases rx;cases y with
  | non=>cases ry;exact PySem.EqNone.eq_bool_none (fin_bl I q (by simp))
  | bl j=>cases ry;exact eq_bool (fin_bl I q dec_bl)
  | str j=>obtain⟨t',rfl⟩:=ry;exact PySem.EqMixed.eq_bool_str (fin_bl I q (by simp))
  | _=>exact absurd (show false=true from hs) Bool.false_ne_true
 | int i =>
  obtain⟨t,rfl⟩:=rx;cases y with
  | non=>cases ry;exact PySem.EqNone.eq_int_none (fin_bl I q (by simp))
  | int j=>obtain⟨t',rfl⟩:=ry;exact eq_int (fin_bl I q dec_int)
  | str j=>obtain⟨t',rfl⟩:=ry;exact PySem.EqMixed.eq_int_str (fin_bl I q (by simp))
  | _=>exact absurd (show false=true from hs) Bool.false_ne_true
 | str i =>
  obtain⟨t,rfl⟩:=rx;cases y with
  | non=>cases ry;exact PySem.EqNone.eq_str_none (fin_bl I q (by simp))
  | bl j=>cases ry;exact PySem.EqMixed.eq_str_bool (fin_bl I q (by simp))
  | int j=>obtain⟨t',rfl⟩:=ry;exact PySem.EqMixed.eq_str_int (fin_bl I q (by simp))
  | str j=>obtain⟨t',rfl⟩:=ry;exact eq_str (fin_bl I q dec_str)
  | _=>exact absurd (show false=true from hs) Bool.false_ne_true
 | byt i =>
  obtain⟨t,rfl⟩:=rx;cases y with
  | byt j=>obtain⟨t',rfl⟩:=ry;exact PySem.W.eq_bytes (fin_bl I q dec_byt)
  | _=>exact absurd (show false=true from hs) Bool.false_ne_true
 | _=>cases y <;> exact absurd (show false=true from hs) Bool.false_ne_true
theorem op_ne:OpR X (compareOp .NotEq) rNe:=by
 intro pins s σ H x y v u Q I rx ry h;obtain⟨hs,q⟩:=h;cases x with
 | non =>
  cases rx;cases y with
  | non=>cases ry;exact PySem.EqNone.ne_none_none (fin_bl I q (by simp))
  | bl j=>cases ry;exact PySem.EqNone.ne_none_bool (fin_bl I q (by simp))
  | int j=>obtain⟨t',rfl⟩:=ry;exact PySem.EqNone.ne_none_int (fin_bl I q (by simp))
  | str j=>obtain⟨t',rfl⟩:=ry;exact PySem.EqNone.ne_none_str (fin_bl I q (by simp))
  | _=>exact absurd (show false=true from hs) Bool.false_ne_true
 | bl i =>
  cases rx;cases y with
  | non=>cases ry;exact PySem.EqNone.ne_bool_none (fin_bl I q (by simp))
  | bl j=>cases ry;exact ne_bool (fin_bl I q (congrArg not dec_bl))
  | str j=>obtain⟨t',rfl⟩:=ry;exact PySem.EqMixed.ne_bool_str (fin_bl I q (by simp))
  | _=>exact absurd (show false=true from hs) Bool.false_ne_true
 | int i =>
  obtain⟨t,rfl⟩:=rx;cases y with
  | non=>cases ry;exact PySem.EqNone.ne_int_none (fin_bl I q (by simp))
  | int j=>obtain⟨t',rfl⟩:=ry;exact ne_int (fin_bl I q (congrArg not dec_int))
  | str j=>obtain⟨t',rfl⟩:=ry;exact PySem.EqMixed.ne_int_str (fin_bl I q (by simp))
  | _=>exact absurd (show false=true from hs) Bool.false_ne_true
 | str i =>
  obtain⟨t,rfl⟩:=rx;cases y with
  | non=>cases ry;exact PySem.EqNone.ne_str_none (fin_bl I q (by simp))
  | bl j=>cases ry;exact PySem.EqMixed.ne_str_bool (fin_bl I q (by simp))
  | int j=>obtain⟨t',rfl⟩:=ry;exact PySem.EqMixed.ne_str_int (fin_bl I q (by simp))
  | str j=>obtain⟨t',rfl⟩:=ry;exact ne_str (fin_bl I q (congrArg not dec_str))
  | _=>exact absurd (show false=true from hs) Bool.false_ne_true
 | byt i =>
  obtain⟨t,rfl⟩:=rx;cases y with
  | byt j=>obtain⟨t',rfl⟩:=ry;exact PySem.W.ne_bytes (fin_bl I q (congrArg not dec_byt))
  | _=>exact absurd (show false=true from hs) Bool.false_ne_true
 | _=>cases y <;> exact absurd (show false=true from hs) Bool.false_ne_true
theorem op_lt:OpR X (compareOp .Lt) (rI0 fun i j=>.bl (decide (i<j))):=opB0 fun _ _ _ _ _ _ _ q=>lt_int q
theorem op_le:OpR X (compareOp .LtE) (rI0 fun i j=>.bl (decide (i≤j))):=opB0 fun _ _ _ _ _ _ _ q=>le_int q
theorem op_gt:OpR X (compareOp .Gt) (rI0 fun i j=>.bl (decide (j<i))):=opB0 fun _ _ _ _ _ _ _ q=>gt_int q
theorem op_ge:OpR X (compareOp .GtE) (rI0 fun i j=>.bl (decide (j≤i))):=opB0 fun _ _ _ _ _ _ _ q=>ge_int q
theorem op_in_str:OpR X (compareOp .In) (fun x y H Q=>∃ i j,x = .str i∧y = .str j∧Q (.bl (!(Builtin.Str.occurrences j i 0 j.length 1).isEmpty)) H):=by
 intro pins s σ H x y v u Q I rx ry h;obtain⟨i,j,rfl,rfl,q⟩:=h;obtain⟨t,rfl⟩:=rx;obtain⟨t',rfl⟩:=ry;exact in_str (fin_bl I q rfl)
theorem op_isN:OpR X (compareOp .Is) (fun x y H Q=>y = .non∧Q (.bl (decide (x = .non))) H):=by
 intro pins s σ H x y v u Q I rx ry h;obtain⟨rfl,q⟩:=h;cases ry;refine is_none_gen (fin_bl I q ?_);cases x <;> first
  | (cases rx;rfl)
  | (obtain⟨t,rfl⟩:=rx;rfl)
theorem op_notN:OpR X (compareOp .IsNot) (fun x y H Q=>y = .non∧Q (.bl (!decide (x = .non))) H):=by
 intro pins s σ H x y v u Q I rx ry h;obtain⟨rfl,q⟩:=h;cases ry;refine isnot_none_gen (fin_bl I q ?_);cases x <;> first
  | (cases rx;rfl)
  | (obtain⟨t,rfl⟩:=rx;rfl)
theorem nomark (b:Expr) {op:CmpOp} (h:op ≠ .In:=by decide) (h2:op ≠ .NotIn:=by decide):behindInMarks op b=false:=by
 have e1:(op == CmpOp.In)=false:=by cases op <;> first | rfl | exact absurd rfl h
 have e2:(op == CmpOp.NotIn)=false:=by cases op <;> first | rfl | exact absurd rfl h2
 cases b with
 | Set elts k pos=>show (k == 0 && (op == CmpOp.In || op == CmpOp.NotIn) && _)=false;rw[e1,e2,Bool.or_false,Bool.and_false,Bool.false_and]
 | _=>rfl
theorem pe_cmpR {op:CmpOp}{r:R2} (ho:OpR X (compareOp op) r) (ha:PE X a ta) (hb:PE X b tb) (hm:behindInMarks op b=false):PE X (.Compare a [op] [b] pos) (tOp r ta tb):=by
 intro pins s σ H Q I h;exact wpAny_Compare1 (binT ha hb I h fun v u s2 x y H2 I2 rx ry q=>ho pins s2 σ H2 x y v u Q I2 rx ry q) hm
noncomputable def tTest (t:TE):TT:=fun σ H Q=>t σ H fun x H'=>∃ k,x = .bl k∧Q k H'
theorem pt_cmpR {op:CmpOp}{r:R2} (ho:OpR X (compareOp op) r) (ha:PE X a ta) (hb:PE X b tb) (hm:behindInMarks op b=false):PT X (.Compare a [op] [b] pos) (tTest (tOp r ta tb)):=by
 intro pins s σ H Q I h;refine wpAny_isTrue_Compare1 (thn (ha pins s σ H _ I h) fun v s1 ⟨x,H1,I1,r1,q1⟩=>thn (hb pins s1 σ H1 _ I1 q1) fun u s2 ⟨y,H2,I2,r2,q2⟩ =>
  thn (ho pins s2 σ H2 x y v u _ I2 r1 r2 q2) fun c s3 ⟨z,H3,I3,r3,k,e,q3⟩=>?_) hm
 subst e;cases r3;exact wpAny_truthy_bool ⟨H3,I3,q3⟩
theorem line63:(sizeLine:Nat)<2^63:=by rw[sizeLine_eq];decide
theorem op_add_str:OpR X (binaryOp .Add) (fun x y H Q=>∃ i j,x = .str i∧y = .str j∧i.length+j.length≤sizeLine∧Q (.str (i++j)) H):=by
 intro pins s σ H x y v u Q I rx ry h;obtain⟨i,j,rfl,rfl,hz,q⟩:=h;obtain⟨t,rfl⟩:=rx;obtain⟨t',rfl⟩:=ry;exact add_str (fun t' tk=>⟨.str (i++j),H,I.tok _,⟨_,rfl⟩,q⟩) hz
theorem vals1 {x:V}{us:List Value} (r:Vals [x] us):∃ u,us=[u]∧RelV x u:=by
 cases r with
 | cons r1 r2=>cases r2;exact⟨_,rfl,r1⟩
theorem vals2 {x y:V}{us:List Value} (r:Vals [x,y] us):∃ u w',us=[u,w']∧RelV x u∧RelV y w':=by
 cases r with
 | cons r1 r2 =>
  cases r2 with
  | cons r3 r4=>cases r4;exact⟨_,_,rfl,r1,r3⟩
theorem call_abs:CallR X (.builtin "abs") (fun xs H Q=>∃ i,xs=[.int i]∧Q (.int (if i<0 then -i else i)) H):=by
 intro pins s σ H xs us Q I r h;obtain⟨i,rfl,q⟩:=h;obtain⟨u,rfl,t,rfl⟩:=vals1 r;exact call_abs_int fun u tk=>⟨.int (if i<0 then -i else i),H,I.tok _,⟨_,rfl⟩,q⟩
theorem call_int1:CallR X (.type "int") (fun xs H Q=>(∃ i,xs=[.int i]∧Q (.int i) H)∨∃ k,xs=[.bl k]∧Q (.int (if k then 1 else 0)) H):=by
 intro pins s σ H xs us Q I r h;rcases h with ⟨i,rfl,q⟩ | ⟨k,rfl,q⟩
 ·obtain⟨u,rfl,t,rfl⟩:=vals1 r;exact call_int_int ⟨.int i,H,I,⟨_,rfl⟩,q⟩
 ·obtain⟨u,rfl,r1⟩:=vals1 r;cases r1;exact call_int_bool ⟨.int (if k then 1 else 0),H,I.tok _,⟨_,rfl⟩,q⟩
theorem call_str_int:CallR X (.type "str") (fun xs H Q=>∃ i,xs=[.int i]∧i.natAbs.log2<1920∧Q (.str (toString i)) H):=by
 intro pins s σ H xs us Q I r h;obtain⟨i,rfl,hz,q⟩:=h;obtain⟨u,rfl,t,rfl⟩:=vals1 r;exact PySem.P.str_of_int hz ⟨.str _,H,I.tok _,⟨_,rfl⟩,q⟩
end
end L2
namespace L2
open PySem PySem.Spec PyProof.Rows
theorem RelO.some_of {v:V}{o:Option Value} (r:RelO (some v) o):∃ u,o=some u∧RelV v u:=by
 cases o with
 | none=>exact (show False from r).elim
 | some u=>exact⟨u,rfl,r⟩
end L2
namespace L2
open PySem PySem.Spec PyProof.Rows
structure Room (k:Nat) (A:Around):Prop where
 hd:A.handled=none
 dp:A.depth+3 * k+5<recursionLimit
 un:A.units+16 * k+200<cLine
theorem Room.mono {j k:Nat}{A:Around} (r:Room k A) (h:j≤k):Room j A:=⟨r.hd,by have:=r.dp;omega,by have:=r.un;omega⟩
theorem Room.deeper {k:Nat}{A:Around} (r:Room (k+1) A) (env:Env):Room k (A.deeper env) :=
 ⟨r.hd,by have:=r.dp;show A.depth+1+3 * k+5<_;omega,by have:=r.un;show A.units+3+16 * k+200<_;omega⟩
theorem Room.depth {k:Nat}{A:Around} (r:Room k A):A.depth<recursionLimit:=by have:=r.dp;omega
theorem Room.units {k:Nat}{A:Around} (r:Room k A):A.units+64<cLine:=by have:=r.un;omega
noncomputable def tNil:TA:=fun _ H Q=>Q [] H
noncomputable def tCons (ta:TE) (tr:TA):TA:=fun σ H Q=>ta σ H fun x H1=>tr σ H1 fun xs H2=>Q (x :: xs) H2
section
variable {X:Cx}{e:Expr}{es:List Expr}{te:TE}{t:TA}{pos:Pos}
theorem pa_nil:PA X [] tNil:=fun _ _ _ _ H Q I h=>Calls.spliced_nil ⟨[],H,I,.nil,h⟩
theorem pa_cons (ha:PE X e te) (hr:PA X es t) (hs:starEach (e :: es) X.env=(false,eval e X.env) :: starEach es X.env:=by rfl):PA X (e :: es) (tCons te t):=by
 intro pos pins s σ H Q I h;rw[hs];show wpAny _ _ (spliced ((false,eval e X.env) :: backTo pos (starEach es X.env))) _ _ s;refine Calls.spliced_cons (thn (ha pins s σ H _ I h) fun u s1 ⟨x,H1,I1,r1,q1⟩=>?_);exact thn (hr pos pins s1 σ H1 _ I1 q1) fun us s2 ⟨xs,H2,I2,r2,q2⟩=>⟨x :: xs,H2,I2,.cons r1 r2,q2⟩
noncomputable def tTup (t:TA):TE:=fun σ H Q=>t σ H fun xs H1=>xs.length≤sizeLine∧∀ p,H1 p=none→Q (.ref p) (upd H1 p (.tup xs))
noncomputable def tLst (t:TA):TE:=fun σ H Q=>t σ H fun xs H1=>xs.length≤sizeLine∧∀ p,H1 p=none→Q (.ref p) (upd H1 p (.lst xs))
theorem pe_tup {x1} (h:PA X es t):PE X (.Tuple es x1 pos) (tTup t):=by
 intro pins s σ H Q I hq;refine wpAny_Tuple_spliced (thn (h pos pins s σ H _ I hq) fun us s1 ⟨xs,H1,I1,r,z,q⟩=>⟨by rw[← r.length];exact z,?_⟩);have hf:H1 s1.heap.objs.size=none:=I1.hok.fresh (Nat.le_refl _);refine⟨.ref s1.heap.objs.size,upd H1 s1.heap.objs.size (.tup xs),I1.laid (t':=s1.toks) (fun b u e=>Heap.get?_push_of_some _ e) (Nat.le_refl _) ?_,rfl,q _ hf⟩;exact⟨z,us,r,⟨_,Heap.get?_push_size _ rfl,rfl,_,rfl⟩⟩
theorem pe_lst (h:PA X es t):PE X (.List es pos) (tLst t):=by
 intro pins s σ H Q I hq;refine wpAny_List_spliced (thn (h pos pins s σ H _ I hq) fun us s1 ⟨xs,H1,I1,r,z,q⟩=>⟨by rw[← r.length];exact z,?_⟩);have hf:H1 s1.heap.objs.size=none:=I1.hok.fresh (Nat.le_refl _);refine⟨.ref s1.heap.objs.size,upd H1 s1.heap.objs.size (.lst xs),I1.laid (t':=s1.toks) (fun b u e=>Heap.get?_push_of_some _ e) (Nat.le_refl _) ?_,rfl,q _ hf⟩;exact⟨z,us,0,r,Heap.get?_push_size _ rfl⟩
end
noncomputable abbrev Sp:=List V→Hp→VK→XK→Prop
noncomputable abbrev CXT:=List Env→Hp→Shared→XK→Value→Shared→Prop
structure Env0 (P:Program) (w:World) (K:PySem.W.Frag) (mg:Str→Option Value) (base:Heap) (A:Around) (outer:List Env) (s:Shared) (H:Hp):Prop where
 frames:A.frames=some outer
 mod:Mod K mg base
 bs:∀ b o,base.get? b=some o→s.heap.get? b=some o∧H b=none
 bsz:base.objs.size≤s.heap.objs.size
 funs:s.heap.FunFrames base outer
 frf:∀ b∈frs outer,H b=none
 hok:HOk P w H s.heap
 bare:AllBare s.gens
noncomputable def CE (outer:List Env) (P:Program) (w:World) (H:Hp) (s:Shared) (Q:VK) (u:Value) (s':Shared):Prop :=
 ∃ v H',s'.os=s.os∧AllBare s'.gens∧Un (frs outer) [] H H' s.heap s'.heap∧HOk P w H' s'.heap∧RelV v u∧Q v H'
noncomputable def CR (CX:CXT) (outer:List Env) (P:Program) (w:World) (H:Hp) (s:Shared) (Q:VK) (E:XK) (r:Result) (s':Shared):Prop :=
 match r with
 | .ok (.ret u)=>CE outer P w H s Q u s'
 | .ok _=>False
 | .error e=>CX outer H s E e s'
structure FnOk (P:Program) (w:World) (K:PySem.W.Frag) (mg:Str→Option Value) (base:Heap) (CX:CXT) (k:Nat) (f:Addr) (fd:FuncData) (ps:List Str) (sp:Sp):Prop where
 len:∀ vs H Q E,sp vs H Q E→vs.length=ps.length
 run:∀ (A:Around) (outer:List Env) (s:Shared) (H:Hp) (args:Args) (us:List Value) (vs:List V) (Q:VK) (E:XK),Room k A→Env0 P w K mg base A outer s H→BindsTo s fd args (ps.zip us)→Vals vs us→sp vs H Q E →
  codeAny (model P w) A (.call (.ref f) args) (CR CX outer P w H s Q E) s
section
variable {X:Cx}{pins:List (Addr × Obj)} {σ:St}{H:Hp}{s s':Shared}
theorem Inv.env0 (I:Inv X pins σ H s):Env0 X.prog X.w X.K X.mg X.base X.A X.stack s H :=
 ⟨I.ok.frames,I.ok.mod,I.bs,Nat.le_trans I.ok.bsz I.sz,I.stack,I.stkFree,I.hok,I.bare⟩
theorem Inv.after {Q:VK}{u:Value} (I:Inv X pins σ H s) (h:CE X.stack X.prog X.w H s Q u s'):EP X pins σ Q u s':=by
 obtain⟨v,H',os,bare,un,hok,r,q⟩:=h;obtain⟨hh,g,d,t,os'⟩:=s';obtain rfl:os'=s.os:=os;exact⟨v,H',I.call (h':=hh) (g':=g) (d':=d) (t':=t) (ch:=[]) un hok bare (fun b z=>absurd z (by simp)),r,q⟩
end
noncomputable def tCall (sp:Sp) (dvs:List V) (E:XK) (t:TA):TE:=fun σ H Q=>t σ H fun vs H1=>sp (vs++dvs) H1 Q E
noncomputable def Binds (K:PySem.W.Frag) (fd:FuncData) (ps:List Str) (ds:List Value):Prop :=
 ∀ (s:Shared) (us:List Value),K.In s.heap→(us++ds).length=ps.length→BindsTo s fd ⟨us,[]⟩ (ps.zip (us++ds))
theorem Binds.all {K:PySem.W.Frag}{fd:FuncData}{ps:List Str} (h:∀ us:List Value,us.length=ps.length→bindArgs fd ⟨us,[]⟩=pure (ps.zip us)):Binds K fd ps []:=fun s us _ hl=>by
 rw[List.append_nil] at hl ⊢;exact .of_eq (h us hl)
noncomputable def Passes (CX:CXT) (X:Cx) (E:XK):Prop:=∀ (pins:List (Addr × Obj)) (σ:St) (H:Hp) (s:Shared) (e:Value) (s':Shared),Inv X pins σ H s→CX X.stack H s E e s'→X.xe e s'
section
variable {X:Cx}{CX:CXT}{k:Nat}{f C:Addr}{fd:FuncData}{ps:List Str}{sp:Sp}{dvs:List V}{ds:List Value}{E:XK}{x m:Str}{p pos apos:Pos}{e o:Expr}{es:List Expr}{ta:TE}{t:TA}
theorem run_fn {pins:List (Addr × Obj)} {σ:St}{H:Hp}{s:Shared}{Q:VK}{us:List Value}{vs:List V} (F:FnOk X.prog X.w X.K X.mg X.base CX k f fd ps sp) (hr:Room k X.A) (hb:Binds X.K fd ps ds) (hd:Vals dvs ds) (hx:Passes CX X E)
  (I:Inv X pins σ H s) (r:Vals vs us) (h:sp (vs++dvs) H Q E):wpAny (model X.prog X.w) X.A (call (.ref f) us) (EP X pins σ Q) X.xe s:=by
 have r2:Vals (vs++dvs) (us++ds):=r.append hd;have hl:(us++ds).length=ps.length:=by rw[← r2.length];exact F.len _ _ _ _ h
 refine wpAny_call (codeAny_mono (F.run X.A X.stack s H ⟨us,[]⟩ (us++ds) (vs++dvs) Q E hr I.env0 (hb s us I.kIn hl) r2 h) fun r s' hq=>?_);cases r with
 | error e=>exact hx pins σ H s e s' I hq
 | ok fl =>
  cases fl with
  | ret u=>exact I.after hq
  | next=>exact False.elim hq
  | brk=>exact False.elim hq
  | cont=>exact False.elim hq
theorem pe_call (F:FnOk X.prog X.w X.K X.mg X.base CX k f fd ps sp) (hr:Room k X.A) (hg:Gl X x) (hm:X.mg x=some (.ref f)) (hk:PySem.W.keepIn X.K (.ref f)=true) (hb:Binds X.K fd ps ds) (hd:Vals dvs ds) (hx:Passes CX X E)
  (ha:PA X (e :: es) t) (hdb:(x == ("__debug__" : Str))=false:=by decide) (he:starEach (e :: es) X.env=(false,eval e X.env) :: starEach es X.env:=by rfl) (hpl:(backTo pos (starEach es X.env)).any (·.1)=false:=by rfl) :
  PE X (.Call (.Name x p) (e :: es) [] pos) (tCall sp dvs E t):=by
 intro pins s σ H Q I h;refine wpAny_Call_Name_kw (ld_glob I hg hm ?_ hdb);refine PySem.W.callWith_K (h₀:=X.base) I.ok.mod.kin hk (thn (ha pos pins s σ H _ I h) fun us s1 ⟨vs,H1,I1,r,q⟩=>⟨I1.kIn,?_⟩) he hpl;exact run_fn F hr hb hd hx I1 r q
end
structure FnScope (N P:List Str) (sc:Scope):Prop where
 kind:sc.kind = .function
 co:sc.isCoroutine=false
 gen:sc.isGenerator=false
 nd:N.Nodup
 pre:N.take P.length=P
 par:∀ x∈P,sc.names.lookup x=some .local∨sc.names.lookup x=some .cell
 nofree:∀ y∈sc.names,y.2 ≠ .free
theorem bindL_out {kindOf:Str→Option NameKind}{x:Str}:∀ {binds:List (Str × Value)}{m:Str→Option Value},(∀ v,(x,v) ∉ binds)→bindL kindOf binds m x=m x
 | [],_,_=>rfl
 | (n,v) :: r,m,h=>by
  unfold bindL;rw[bindL_out fun w hw=>h w (List.mem_cons_of_mem _ hw)];split
  ·have:x≠n:=by rintro rfl;exact h v List.mem_cons_self
   simp[this]
  ·rfl
theorem bindC_out {kindOf:Str→Option NameKind}{x:Str}:∀ {binds:List (Str × Value)}{m:Str→Option Value},(∀ v,(x,v) ∉ binds)→bindC kindOf binds m x=m x
 | [],_,_=>rfl
 | (n,v) :: r,m,h=>by
  unfold bindC;rw[bindC_out fun w hw=>h w (List.mem_cons_of_mem _ hw)];split
  ·rfl
  ·have:x≠n:=by rintro rfl;exact h v List.mem_cons_self
   simp[this]
theorem bindL_get {kindOf:Str→Option NameKind}{x:Str}{v:Value}:∀ {P:List Str}{vs:List Value}{i:Nat}{m:Str→Option Value},P.Nodup→P[i]? = some x→vs[i]? = some v→kindOf x=some .local →
  bindL kindOf (P.zip vs) m x=some v
 | [],_,_,_,_,h,_,_=>by simp at h
 | _ :: _,[],_,_,_,_,h,_=>by simp at h
 | p :: P,w :: vs,0,m,nd,h1,h2,hk=>by
  simp at h1 h2;subst h1;subst h2;show bindL kindOf ((p,w) :: P.zip vs) m p=_;unfold bindL;rw[bindL_out fun v hv=>(List.nodup_cons.mp nd).1 (List.of_mem_zip hv).1,if_pos hk];simp
 | p :: P,w :: vs,i+1,m,nd,h1,h2,hk=>by
  show bindL kindOf ((p,w) :: P.zip vs) m x=_;unfold bindL;exact bindL_get (i:=i) (List.nodup_cons.mp nd).2 (by simpa using h1) (by simpa using h2) hk
theorem bindC_get {kindOf:Str→Option NameKind}{x:Str}{v:Value}:∀ {P:List Str}{vs:List Value}{i:Nat}{m:Str→Option Value},P.Nodup→P[i]? = some x→vs[i]? = some v→kindOf x≠some .local →
  bindC kindOf (P.zip vs) m x=some v
 | [],_,_,_,_,h,_,_=>by simp at h
 | _ :: _,[],_,_,_,_,h,_=>by simp at h
 | p :: P,w :: vs,0,m,nd,h1,h2,hk=>by
  simp at h1 h2;subst h1;subst h2;show bindC kindOf ((p,w) :: P.zip vs) m p=_;unfold bindC;rw[bindC_out fun v hv=>(List.nodup_cons.mp nd).1 (List.of_mem_zip hv).1,if_neg hk];simp
 | p :: P,w :: vs,i+1,m,nd,h1,h2,hk=>by
  show bindC kindOf ((p,w) :: P.zip vs) m x=_;unfold bindC;exact bindC_get (i:=i) (List.nodup_cons.mp nd).2 (by simpa using h1) (by simpa using h2) hk
noncomputable def start (N:List Str) (vs:List V):St:=vs.map some++List.replicate (N.length-vs.length) none
noncomputable def cxOf (CX:CXT) (P:Program) (w:World) (K:PySem.W.Frag) (mg:Str→Option Value) (base:Heap) (N:List Str) (qual:Str) (scope:Scope) (f:Addr) (cd:Value) (A:Around) (outer:List Env) (s:Shared) (H:Hp) (E:XK):Cx where
 prog:=P
 w:=w
 K:=K
 mg:=mg
 base:=base
 A:=A.deeper (envOfC qual scope s.heap.objs.size f cd)
 N:=N
 s₀:=s
 H₀:=H
 env:=envOfC qual scope s.heap.objs.size f cd
 outer:=outer
 stack:=envOfC qual scope s.heap.objs.size f cd :: outer
 ex:=[]
 calm:=true
 fn:=fun _=>true
 pn:=[]
 xe:=fun e s'=>wpAny (model P w) (A.deeper (envOfC qual scope s.heap.objs.size f cd)) (leaving (envOfC qual scope s.heap.objs.size f cd) e) (fun _ s''=>CX outer H s E e s'') (fun e' s''=>CX outer H s E e' s'') s'
theorem cell_has {sc:Scope}{n:Nat}{x:Str} (h:sc.names.lookup x=some .cell):∃ c,(cellsFrom n sc.names []).lookup x=some c:=by
 have q:=PySem.W.cellsFrom_some sc.names n [] (.inl h);exact Option.isSome_iff_exists.mp q
theorem inv_start {CX:CXT}{P:Program}{w:World}{K:PySem.W.Frag}{mg:Str→Option Value}{base:Heap}{N ps:List Str}{qual:Str}{scope:Scope}{f:Addr}{cd:Value}{A:Around}{outer:List Env}{s s1:Shared}{H:Hp}{E:XK}{us:List Value}{vs:List V}
  (S:FnScope N ps scope) (hd:A.handled=none) (e0:Env0 P w K mg base A outer s H) (hl:vs.length=ps.length) (r:Vals vs us)
  (x:InCallC s s.heap.objs.size (bindL (envOfC qual scope s.heap.objs.size f cd).kindOf (ps.zip us) fun _=>none) (cellsFrom (s.heap.objs.size+1) scope.names []) (bindC (envOfC qual scope s.heap.objs.size f cd).kindOf (ps.zip us) fun _=>none) s1) :
  Inv (cxOf CX P w K mg base N qual scope f cd A outer s H E) [] (start N vs) H s1:=by
 have hpl:ps.length≤N.length:=by have:=congrArg List.length S.pre;rw[List.length_take] at this;omega
 obtain⟨h1,tk,rfl,hk⟩:=x.done;have noA:∀ b:Addr,b ∉ (cxOf CX P w K mg base N qual scope f cd A outer s H E).ex:=fun b z=>absurd (show b∈([]:List Addr) from z) (by simp)
 refine⟨⟨e0.mod,S.kind,rfl,rfl,Nat.le_refl _,fun y z c h1 h2=>?_,fun y hy=>?_,fun y c _ h=>?_,fun _=>hd,Around.frames_deeper e0.frames,.inr ⟨rfl,rfl⟩,fun b z=>absurd z (noA b),e0.bs,e0.bsz,fun b _ _=>noA b,fun b z=>absurd z (noA b),e0.funs,e0.frf⟩,
  rfl,e0.bare,Un.kept hk,⟨_,x.toInCall.ns,fun i y v h1 h2 h3=>?_⟩,fun y c h=>⟨_,x.cell y c h⟩,e0.hok.fresh (Nat.le_refl _),fun y c h=>?_,fun p hp=>absurd (show p∈([]:List (Addr × Obj)) from hp) (by simp),e0.hok.kept hk,?_⟩
 ·exact name_of_addr x.apart (PySem.mem_of_lookup h1) (PySem.mem_of_lookup h2)
 ·have hy:scope.names.lookup y=some .cell∨scope.names.lookup y=some .free:=hy;rcases hy with hy | hy
  ·exact cell_has hy
  ·exact absurd rfl (S.nofree _ (PySem.mem_of_lookup hy))
 ·exact Nat.le_of_lt (x.above y c (PySem.mem_of_lookup h))
 ·have hi:i<vs.length:=by
   unfold start at h2;by_cases hi:i<vs.length
   ·exact hi
   ·rw[List.getElem?_append_right (by simpa using hi)] at h2;rw[List.getElem?_replicate] at h2;split at h2 <;> cases h2
  have ha:vs[i]? = some v:=by
   unfold start at h2;rw[List.getElem?_append_left (by simpa using hi),List.getElem?_map] at h2;cases e:vs[i]? with
   | none=>rw[e] at h2;cases h2
   | some a=>rw[e] at h2;cases h2;rfl
  obtain⟨u,hu,rv⟩:=r.get ha;have hp:ps[i]? = some y:=by
   rw[← S.pre,List.getElem?_take_of_lt (by omega)];exact h1
  have ndP:ps.Nodup:=by rw[← S.pre];exact S.nd.sublist (List.take_sublist _ _)
  refine⟨u,rv,?_⟩;rcases S.par y (List.mem_of_getElem? hp) with k | k
  ·exact .inl ⟨k,bindL_get ndP hp hu k⟩
  ·obtain⟨c,e⟩:=cell_has (n:=s.heap.objs.size+1) k;refine .inr ⟨.inl k,c,e,?_⟩;have q:=x.cell y c e;rw[bindC_get ndP hp hu (by show scope.names.lookup y≠_;rw[k];decide)] at q;exact q
 ·exact e0.hok.fresh (Nat.le_of_lt (x.above y c (PySem.mem_of_lookup h)))
 ·unfold start;show _=N.length;rw[List.length_append,List.length_map,List.length_replicate];omega
theorem fn_of {CX:CXT}{P:Program}{w:World}{K:PySem.W.Frag}{mg:Str→Option Value}{base:Heap}{k:Nat}{f:Addr}{name qual:Str}{params:Arguments}{body:List Stmt}{scope:Scope}{dV kV doc pm cdv ct oc:Value}{an od:Option Addr}
  {osl:Array (Option Value)}{N ps:List Str}{sp:Sp} (lk:K.lookup f=some ⟨oc,od,.func (PySem.W.fnOf name qual params body scope dV kV doc pm an cdv ct),osl⟩) (hcd:PySem.W.codeIn K cdv qual=true) (S:FnScope N ps scope)
  (len:∀ vs H Q E,sp vs H Q E→vs.length=ps.length)
  (hbody:∀ (A:Around) (outer:List Env) (s:Shared) (H:Hp) (vs:List V) (Q:VK) (E:XK),Room k (A.deeper (envOfC qual scope s.heap.objs.size f cdv))→sp vs H Q E →
   ∃ t,PSs (cxOf CX P w K mg base N qual scope f cdv A outer s H E) body t∧t { nx:=fun _ H'=>Q .non H',rt:=Q } (start N vs) H) :
  FnOk P w K mg base CX (k+1) f (PySem.W.fnOf name qual params body scope dV kV doc pm an cdv ct) ps sp:=by
 refine⟨len,fun A outer s H args us vs Q E hr e0 hb r hsp=>?_⟩;have hl:=len _ _ _ _ hsp;have KX:K.In s.heap:=e0.mod.kin.keeps fun b o e=>(e0.bs b o e).1
 have lim:s.heap.NoLimit:=e0.mod.nolimit.keeps fun b o e=>(e0.bs b o e).1
 have hkind:∀ y∈ps.zip us,scope.names.lookup y.1=some .local∨(scope.names.lookup y.1=some .cell∧((cellsFrom (s.heap.objs.size+1) scope.names []).lookup y.1).isSome=true):=fun ⟨n,v⟩ hy=>by
  rcases S.par n (List.of_mem_zip hy).1 with q | q
  ·exact .inl q
  ·exact .inr ⟨q,PySem.W.cellsFrom_some _ _ _ (.inl q)⟩
 refine codeAny_call_function hr.depth (KX _ _ lk) rfl S.co S.gen rfl (PySem.W.codeRec_of KX hcd) (hb _ _ _ _ ?_);refine wpAny_newFunctionEnv_cells S.kind hkind fun env he s1 x=>?_
 subst he;refine⟨lim.keeps x.toInCall.keep,codeAny_func ?_⟩;obtain⟨t,ht,hq⟩:=hbody A outer s H vs Q E (hr.deeper _) hsp;have I:Inv (cxOf CX P w K mg base N qual scope f cdv A outer s H E) [] (start N vs) H s1:=inv_start S hr.hd e0 hl r x;refine wpAny_mono (ht [] s1 (start N vs) H _ I hq) (fun fl s' hs=>?_) fun e s' hs=>hs
 have fin:∀ {σ':St}{H':Hp}{v:V}{u:Value},Inv (cxOf CX P w K mg base N qual scope f cdv A outer s H E) [] σ' H' s'→RelV v u→Q v H'→CE outer P w H s Q u s' :=
  fun {σ' H' v u} J rv q=>⟨v,H',J.os,J.bare,J.base,J.hok,rv,q⟩
 cases fl with
 | ret u =>
  obtain⟨v,σ',H',J,rv,q⟩:=hs;exact fin J rv q
 | next =>
  obtain⟨σ',H',J,q⟩:=hs;exact fin (v:=V.non) (u:=Value.none) J rfl q
 | brk =>
  obtain⟨_,_,_,q⟩:=hs;exact False.elim q
 | cont =>
  obtain⟨_,_,_,q⟩:=hs;exact False.elim q
end L2
namespace L2
open PySem PySem.Spec PyProof.Rows
section
variable {X:Cx}{x:Str}{p pos:Pos}{e:Expr}{es:List Expr}{t:TA}{id T:String}{r:List V→Hp→VK→Prop}
noncomputable def tCB (r:List V→Hp→VK→Prop) (t:TA):TE:=fun σ H Q=>t σ H fun vs H1=>r vs H1 Q
theorem pe_callB (hc:CallR X (.builtin id) r) (hg:Gl X x) (hm:X.mg x=none) (hv:bootBuiltins x=some (.builtin id)) (ha:PA X (e :: es) t) (hn:x ≠ "__name__" := by decide) (hdb:(x == ("__debug__" : Str))=false:=by decide)
  (he:starEach (e :: es) X.env=(false,eval e X.env) :: starEach es X.env:=by rfl) (hpl:(backTo pos (starEach es X.env)).any (·.1)=false:=by rfl):PE X (.Call (.Name x p) (e :: es) [] pos) (tCB r t):=by
 intro pins s σ H Q I h;refine wpAny_Call_Name_kw (ld_blt I hg hm hv ?_ hn hdb);exact PyProof.Rows.callWith_builtin1 (thn (ha pos pins s σ H _ I h) fun us s1 ⟨vs,H1,I1,r1,q1⟩=>hc pins s1 σ H1 vs us Q I1 r1 q1) he hpl
theorem pe_callTy (hc:CallR X (.type T) r) (hg:Gl X x) (hm:X.mg x=none) (hv:bootBuiltins x=some (.type T)) (ha:PA X (e :: es) t) (hn:x ≠ "__name__" := by decide) (hdb:(x == ("__debug__" : Str))=false:=by decide)
  (he:starEach (e :: es) X.env=(false,eval e X.env) :: starEach es X.env:=by rfl) (hpl:(backTo pos (starEach es X.env)).any (·.1)=false:=by rfl):PE X (.Call (.Name x p) (e :: es) [] pos) (tCB r t):=by
 intro pins s σ H Q I h;refine wpAny_Call_Name_kw (ld_blt I hg hm hv ?_ hn hdb);exact PyProof.Rows.callWith_type1 (thn (ha pos pins s σ H _ I h) fun us s1 ⟨vs,H1,I1,r1,q1⟩=>hc pins s1 σ H1 vs us Q I1 r1 q1) he hpl
end
end L2
namespace HT
open PySem PyProof.Rows
section
variable {prog:Program}{w:World}{A:Around}{E:Value→Shared→Prop}{s:Shared}
noncomputable def sIx (n d:Nat):Option Int→Nat
 | none=>d
 | some v=>if v<0 then (v+(n:Int)).toNat else min v.toNat n
theorem sIx_none (n d:Nat):sIx n d none=d:=rfl
theorem sIx_nat (n d k:Nat):sIx n d (some (k:Int))=min k n:=by
 show (if (k:Int)<0 then ((k:Int)+(n:Int)).toNat else min (k:Int).toNat n)=min k n;rw[if_neg (by omega),Int.toNat_natCast]
end
end HT
namespace L2
open PySem PySem.Spec PyProof.Rows
noncomputable abbrev TO:=St→Hp→(Option Int→Hp→Prop)→Prop
noncomputable def PO (X:Cx) (e:Option Expr) (t:TO):Prop :=
 ∀ (pins:List (Addr × Obj)) (s:Shared) (σ:St) (H:Hp) (Q:Option Int→Hp→Prop),Inv X pins σ H s→t σ H Q →
  wpAny (model X.prog X.w) X.A (evalPart e X.env) (fun u s'=>∃ o H',Inv X pins σ H' s'∧IsPart u o∧Q o H') X.xe s
noncomputable def tNoPart:TO:=fun _ H Q=>Q none H
noncomputable def tPart (t:TE):TO:=fun σ H Q=>t σ H fun x H1=>∃ i,x = .int i∧Q (some i) H1
theorem intsAre_of {ns:List Int}:∀ {us:List Value},Vals (ns.map V.int) us→IntsAre us ns:=by
 induction ns with
 | nil=>intro us r;rw[List.map_nil] at r;cases r;exact .nil
 | cons n ns ih =>
  intro us r;rw[List.map_cons] at r;cases r with
  | cons r1 r2 =>
   obtain⟨t,e⟩:=r1;subst e;exact .cons n t (ih r2)
section
variable {X:Cx}{e:Expr}{te:TE}{lo hi:Option Expr}{tl th:TO}{pos p2:Pos}
theorem po_none:PO X none tNoPart:=by
 intro pins s σ H Q I h;rw[evalPart_none];exact wpAny_pure ⟨none,H,I,.none,h⟩
theorem po_some (h:PE X e te):PO X (some e) (tPart te):=by
 intro pins s σ H Q I hw;rw[evalPart_some];refine thn (h pins s σ H _ I hw) fun u s1 ⟨x,H1,I1,r1,q1⟩=>?_
 obtain⟨i,rfl,q⟩:=q1;obtain⟨t,rfl⟩:=r1;exact⟨some i,H1,I1,.int i t,q⟩
noncomputable def SlR (X:Cx) (r:V→Option Int→Option Int→Hp→VK→Prop):Prop :=
 ∀ (pins:List (Addr × Obj)) (s:Shared) (σ:St) (H:Hp) (x:V) (v vl vu:Value) (lo hi:Option Int) (sl:Addr) (Q:VK),Inv X pins σ H s→RelV x v→s.heap.IsSliceOf sl vl vu .none→IsPart vl lo→IsPart vu hi→r x lo hi H Q →
  ∃ T id,typeLookup (.type T) "__getitem__" = pure (some (.builtin id))∧s.TypeIs v T∧wpAny (model X.prog X.w) X.A (getItem v (.ref sl)) (EP X pins σ Q) X.xe s
noncomputable def tSl (r:V→Option Int→Option Int→Hp→VK→Prop) (te:TE) (tl th:TO):TE:=fun σ H Q=>te σ H fun x H1=>tl σ H1 fun l H2=>th σ H2 fun u H3=>r x l u H3 Q
theorem pe_slice {r:V→Option Int→Option Int→Hp→VK→Prop} (hr:SlR X r) (he:PE X e te) (hl:PO X lo tl) (hu:PO X hi th):PE X (.Subscript e (.Slice lo hi none p2) pos) (tSl r te tl th):=by
 intro pins s σ H Q I h;refine Subscript_ (thn (he pins s σ H _ I h) fun v s1 ⟨x,H1,I1,r1,q1⟩=>?_);refine wpAny_Slice (thn (hl pins s1 σ H1 _ I1 q1) fun vl s2 ⟨l,H2,I2,pl,q2⟩=>thn (hu pins s2 σ H2 _ I2 q2) fun vu s3 ⟨u,H3,I3,pu,q3⟩=>?_);rw[evalPart_none];refine wpAny_pure ?_;have I4:Inv X pins σ H3 { s3 with heap:=s3.heap.push { cls := .type "slice",data := .fields #[vl,vu,.none] } }:=I3.kept (t':=s3.toks) fun b ob q=>Heap.get?_push_of_some _ q
 obtain⟨T,id,hT,ht,hg⟩:=hr pins { s3 with heap:=s3.heap.push { cls := .type "slice",data := .fields #[vl,vu,.none] } } σ H3 x v vl vu l u s3.heap.objs.size Q I4 r1 (Heap.IsSliceOf.new ..) pl pu q3;show wpAny (model X.prog X.w) X.A (subscriptTail e (.Slice lo hi none p2) v (.ref s3.heap.objs.size)) (EP X pins σ Q) X.xe { s3 with heap:=s3.heap.push { cls := .type "slice",data := .fields #[vl,vu,.none] } };exact tail_any (ops:=[.ref s3.heap.objs.size,v]) ht hT hg (by with_unfolding_all rfl)
noncomputable def cutV (xs:List V) (lo hi:Option Int):List V:=(xs.drop (HT.sIx xs.length 0 lo)).take (HT.sIx xs.length xs.length hi-HT.sIx xs.length 0 lo)
theorem cutV_length (xs:List V) (lo hi:Option Int):(cutV xs lo hi).length≤xs.length:=by
 unfold cutV;rw[List.length_take,List.length_drop];exact Nat.le_trans (Nat.min_le_right _ _) (Nat.sub_le _ _)
end
end L2
namespace L2
open PySem PySem.Spec PyProof.Rows
noncomputable def ixN (n:Nat) (i:Int):Option Nat:=if 0≤i then (if i<n then some i.toNat else none) else if -(n:Int)≤i then some (i+n).toNat else none
noncomputable def atI {α : Type} (xs:List α) (i:Int):Option α := (ixN xs.length i).bind fun j=>xs[j]?
theorem ixN_seq {n:Nat}{i:Int}{j:Nat} (h:ixN n i=some j):seqIndex? i n=some j∧j<n ∧ -(n:Int)≤i∧i<n:=by
 unfold ixN at h;by_cases h0:0≤i
 ·rw[if_pos h0] at h;by_cases h1:i<n
  ·rw[if_pos h1] at h;have e:i.toNat=j:=Option.some.inj h;exact⟨by rw[seqIndex_of h0 h1,e],by omega,by omega,h1⟩
  ·rw[if_neg h1] at h;cases h
 ·rw[if_neg h0] at h;by_cases h1 : -(n:Int)≤i
  ·rw[if_pos h1] at h;have e:(i+n).toNat=j:=Option.some.inj h;exact⟨by rw[seqIndex_neg (by omega) h1,e],by omega,h1,by omega⟩
  ·rw[if_neg h1] at h;cases h
theorem atI_get {α : Type}{xs:List α}{i:Int}{v : α} (h:atI xs i=some v):∃ j,seqIndex? i xs.length=some j∧xs[j]? = some v∧j<xs.length ∧ -(xs.length:Int)≤i∧i<xs.length:=by
 unfold atI at h;cases e:ixN xs.length i with
 | none=>rw[e] at h;cases h
 | some j =>
  rw[e] at h;obtain⟨h1,h2,h3,h4⟩:=ixN_seq e;exact⟨j,h1,h,h2,h3,h4⟩
theorem atI_nat {α : Type}{xs:List α}{j:Nat}{v : α} (h:xs[j]? = some v):atI xs (j:Int)=some v:=by
 have hj:j<xs.length:=(List.getElem?_eq_some_iff.mp h).1;have e:ixN xs.length (j:Int)=some j:=by
  unfold ixN;rw[if_pos (by omega),if_pos (by omega)];simp
 unfold atI;rw[e];exact h
noncomputable def PlainIx (b:Expr):Prop:=∀ o i,subscripted b false o i=operate [o,i] (getItem o i)
noncomputable def IxR (X:Cx) (r:R2):Prop :=
 ∀ (value slice:Expr) (pins:List (Addr × Obj)) (s:Shared) (σ:St) (H:Hp) (x y:V) (v u:Value) (Q:VK),Inv X pins σ H s→RelV x v→RelV y u→r x y H Q →
  subscripted slice false v u=operate [v,u] (getItem v u)→wpAny (model X.prog X.w) X.A (subscriptTail value slice v u) (EP X pins σ Q) X.xe s
noncomputable def MtR (X:Cx) (id:String) (r:V→List V→Hp→VK→Prop):Prop :=
 ∀ (pins:List (Addr × Obj)) (s:Shared) (σ:St) (H:Hp) (x:V) (xs:List V) (v:Value) (us:List Value) (Q:VK),Inv X pins σ H s→RelV x v→Vals xs us→r x xs H Q →
  wpAny (model X.prog X.w) X.A (call (.builtin id) (v :: us)) (EP X pins σ Q) X.xe s
section
variable {X:Cx}{a b:Expr}{ta tb:TE}{pos:Pos}
theorem pe_ix {r:R2} (hr:IxR X r) (ha:PE X a ta) (hb:PE X b tb) (hs:PlainIx b):PE X (.Subscript a b pos) (tOp r ta tb):=by
 intro pins s σ H Q I h;exact Subscript_ (binT ha hb I h fun v u s2 x y H2 I2 rx ry q=>hr a b pins s2 σ H2 x y v u Q I2 rx ry q (hs _ _))
noncomputable def rIxL (K:PySem.W.Frag):R2:=fun x y H Q=>∃ p xs i v,x = .ref p∧y = .int i∧SqL K H p xs∧atI xs i=some v∧Q v H
noncomputable def rIxT (K:PySem.W.Frag):R2:=fun x y H Q=>∃ p xs i v,x = .ref p∧y = .int i∧SqT K H p xs∧atI xs i=some v∧Q v H
noncomputable def rIxS:R2:=fun x y H Q=>∃ z i c,x = .str z∧y = .int i∧z.length≤sizeLine∧atI z.cps.toList i=some c∧Q (.str ⟨#[c]⟩) H
theorem ix_list:IxR X (rIxL X.K):=by
 intro value slice pins s σ H x y v u Q I rx ry h hs;obtain⟨p,xs,i,z,rfl,rfl,hq,he,q⟩:=h;cases rx;obtain⟨t,rfl⟩:=ry;obtain⟨its,r,pl,hz⟩:=I.list hq;obtain⟨j,h1,h2,h3,h4,h5⟩:=atI_get he;obtain⟨w,ew,rw'⟩:=r.get h2;have hl:=r.length;have hn:=line63;have fin:EP X pins σ Q w s:=⟨z,H,I,rw',q⟩;by_cases h0:0≤i
 ·have hj:i.toNat=j:=by
   rw[seqIndex_of h0 h5] at h1;exact Option.some.inj h1
  exact item_listR pl.isList h0 (by omega) (by rw[hj];simpa using ew) fin hs
 ·have hj:(i+(its.toArray.size:Int)).toNat=j:=by
   rw[seqIndex_neg (by omega) h4] at h1;rw[List.size_toArray,← hl];exact Option.some.inj h1
  exact subscriptTail_builtinR (x:=w) pl.isList.typeIs slot_list_getitem.lookup
   (wpAny_getItem_list_neg (Q:=fun r s'=>r=w∧EP X pins σ Q r s') pl.isList (by omega) (by rw[List.size_toArray] <;> omega) (by omega) (by rw[hj];simpa using ew) ⟨rfl,fin⟩) hs
theorem ix_tup:IxR X (rIxT X.K):=by
 intro value slice pins s σ H x y v u Q I rx ry h hs;obtain⟨p,xs,i,z,rfl,rfl,hq,he,q⟩:=h;cases rx;obtain⟨t,rfl⟩:=ry;obtain⟨its,r,pl,hz⟩:=I.tuple hq;obtain⟨j,h1,h2,h3,h4,h5⟩:=atI_get he;obtain⟨w,ew,rw'⟩:=r.get h2;have hl:=r.length;have hn:=line63;have fin:EP X pins σ Q w s:=⟨z,H,I,rw',q⟩;exact subscriptTail_builtinR (x:=w) pl.typeIs slot_tuple_getitem.lookup
  (getItem_tuple (j:=j) (Q:=fun r s'=>r=w∧EP X pins σ Q r s') pl (by omega) (by omega) (by rw[List.size_toArray,← hl];exact h1) (by simpa using ew) ⟨rfl,fin⟩) hs
theorem ix_str:IxR X rIxS:=by
 intro value slice pins s σ H x y v u Q I rx ry h hs;obtain⟨z,i,c,rfl,rfl,hz,he,q⟩:=h;obtain⟨t,rfl⟩:=rx;obtain⟨t',rfl⟩:=ry;obtain⟨j,h1,h2,h3,h4,h5⟩:=atI_get he;have hl:z.cps.toList.length=z.length:=by simp[Str.length]
 rw[hl] at h1 h4 h5;have hn:=line63;exact tail_any (typeIs_str s z t) slot_str_getitem.lookup (getItem_str (c:=c) (by
  have e1:decide (i < -(2^63:Int))=false:=decide_eq_false (by omega);have e2:decide (i ≥ 2^63)=false:=decide_eq_false (by omega);rw[e1,e2,Bool.or_false]) (by rw[h1];simpa using h2) ⟨.str ⟨#[c]⟩,H,I.tok _,⟨_,rfl⟩,q⟩) hs
theorem mapSeq_set (its:List Value) (n j:Nat) (u:Value):Obj.mapSeq (·.setIfInBounds j u) { cls := .type "list",data := .seq its.toArray n }={ cls := .type "list",data := .seq (its.set j u).toArray n }:=by
 simp[Obj.mapSeq]
theorem Inv.lst {pins:List (Addr × Obj)} {σ:St}{H:Hp}{s:Shared}{p:Addr}{xs:List V} (I:Inv X pins σ H s) (h:H p=some (.lst xs)) :
  ∃ (its:List Value) (n:Nat),Vals xs its∧s.heap.get? p=some { cls := .type "list",data := .seq its.toArray n }∧xs.length≤sizeLine:=by
 obtain⟨z,its,n,r,e⟩:=I.hok p _ h;exact⟨its,n,r,e,z⟩
theorem Inv.lstUpd {pins:List (Addr × Obj)} {σ:St}{H:Hp}{s:Shared}{p:Addr}{xs ys:List V}{its its':List Value}{n n':Nat}{f:Obj→Obj} (I:Inv X pins σ H s) (h:H p=some (.lst xs))
  (ho:s.heap.get? p=some { cls := .type "list",data := .seq its.toArray n }) (hf:f { cls := .type "list",data := .seq its.toArray n }={ cls := .type "list",data := .seq its'.toArray n' }) (r:Vals ys its') (hz:ys.length≤sizeLine) (t:Nat) :
  Inv X pins σ (upd H p (.lst ys)) { s with heap:=s.heap.update p f,toks:=t }:=by
 have e:(s.heap.update p f).get? p=some { cls := .type "list",data := .seq its'.toArray n' }:=by
  rw[Heap.get?_update_self f ho (by rw[hf] <;> rfl),hf]
 refine I.write (x:=p) (e:=p) (by rw[h];trivial) (.inl rfl) (fun b u hb q=>(Heap.get?_update_other _ _ (Ne.symm hb)).trans q) ⟨_,e⟩ ?_;exact⟨hz,its',n',r,e⟩
noncomputable def rSetL:V→V→V→Hp→(Hp→Prop)→Prop:=fun o i v H Q=>∃ p xs k j,o = .ref p∧i = .int k∧H p=some (.lst xs)∧ixN xs.length k=some j∧Q (upd H p (.lst (xs.set j v)))
theorem set_list:PSet X rSetL:=by
 intro pins s σ H o i v ov iv u Q I ro ri rv h;obtain⟨p,xs,k,j,rfl,rfl,hp,hj,q⟩:=h;cases ro;obtain⟨t,rfl⟩:=ri;obtain⟨its,n,r,ho,hz⟩:=I.lst hp;obtain⟨h1,h2,h3,h4⟩:=ixN_seq hj;have hl:=r.length;have hn:=line63;have I':Inv X pins σ (upd H p (.lst (xs.set j v))) { s with heap:=s.heap.update p (Obj.mapSeq (·.setIfInBounds j u)) } :=
  I.lstUpd hp ho (mapSeq_set its n j u) (r.set rv j) (by rw[List.length_set];exact hz) s.toks
 by_cases h0:0≤k
 ·have hk:k.toNat=j:=by
   rw[seqIndex_of h0 h4] at h1;exact Option.some.inj h1
  exact PySem.W.ki_setAt ho h0 (by omega) (by rw[List.size_toArray,← hl];exact h4) (by rw[hk];exact⟨_,I',q⟩)
 ·have hk:(k+(its.toArray.size:Int)).toNat=j:=by
   rw[seqIndex_neg (by omega) h3] at h1;rw[List.size_toArray,← hl];exact Option.some.inj h1
  exact PySem.W.ki_setBack ho (by omega) (by rw[List.size_toArray,← hl];exact h3) (by omega) (by rw[hk];exact⟨_,I',q⟩)
theorem sb_neg {i:Int}{n:Nat} (h:i<0):max 0 (min (i+(n:Int)) n)=(((i+n).toNat:Nat):Int):=by
 rw[Int.min_eq_left (by omega),Int.ofNat_toNat,Int.max_comm]
theorem sb_pos {i:Int}{n:Nat} (h:¬ i<0):max 0 (min i (n:Int))=((min i.toNat n:Nat):Int):=by
 obtain⟨k,rfl⟩:=Int.eq_ofNat_of_zero_le (Int.not_lt.mp h);rw[Int.toNat_natCast];rcases Nat.le_total k n with h | h
 ·rw[Nat.min_eq_left h,Int.min_eq_left (Int.ofNat_le.mpr h),Int.max_eq_right (Int.natCast_nonneg _)]
 ·rw[Nat.min_eq_right h,Int.min_eq_right (Int.ofNat_le.mpr h),Int.max_eq_right (Int.natCast_nonneg _)]
theorem slice_bounds (lo hi:Option Int) (n:Nat):(sliceBounds lo hi none n).1=((HT.sIx n 0 lo:Nat):Int)∧(sliceBounds lo hi none n).2.1=((HT.sIx n n hi:Nat):Int)∧(sliceBounds lo hi none n).2.2=1:=by
 refine⟨?_,?_,rfl⟩
 ·cases lo with
  | none=>simp[sliceBounds,HT.sIx]
  | some i =>
   simp only[sliceBounds,HT.sIx,Option.getD_none,show (1:Int) > 0 by decide,if_true];by_cases h:i<0
   ·simp only[h,if_true];exact sb_neg h
   ·simp only[h,if_false];exact sb_pos h
 ·cases hi with
  | none=>simp[sliceBounds,HT.sIx]
  | some i =>
   simp only[sliceBounds,HT.sIx,Option.getD_none,show (1:Int) > 0 by decide,if_true];by_cases h:i<0
   ·simp only[h,if_true];exact sb_neg h
   ·simp only[h,if_false];exact sb_pos h
theorem slicePick_cut (its:List Value) (lo hi:Option Int):slicePick its.toArray lo hi none=((its.drop (HT.sIx its.length 0 lo)).take (HT.sIx its.length its.length hi-HT.sIx its.length 0 lo)).toArray:=by
 obtain⟨h1,h2,h3⟩:=slice_bounds lo hi its.toArray.size;unfold slicePick;rw[h1,h2,h3];simp only[sliceRange_one,pick_run,List.size_toArray] <;> rfl
noncomputable def rSlL (K:PySem.W.Frag):V→Option Int→Option Int→Hp→VK→Prop:=fun x lo hi H Q=>∃ a xs,x = .ref a∧SqL K H a xs∧∀ p,H p=none→Q (.ref p) (upd H p (.lst (cutV xs lo hi)))
theorem sl_list:SlR X (rSlL X.K):=by
 intro pins s σ H x v vl vu lo hi sl Q I rx hs pl pu h;obtain⟨a,xs,rfl,hx,q⟩:=h;cases rx;obtain⟨its,r,ht,hz⟩:=I.list hx;have hlen:=r.length;refine⟨"list",_,slot_list_getitem.lookup,ht.isList.typeIs,?_⟩;refine wpAny_getItem_list_slice ht.isList hs pl pu .none (by simp) ?_ (by rw[List.size_toArray] <;> omega);rw[slicePick_cut,← hlen];refine⟨.ref s.heap.objs.size,_,I.laid (t':=s.toks) (o := .lst (cutV xs lo hi)) (fun b ob q=>Heap.get?_push_of_some _ q) (Nat.le_refl _) ?_,rfl,q _ (I.hok.fresh (Nat.le_refl _))⟩;exact⟨Nat.le_trans (cutV_length xs lo hi) hz,_,0,(r.drop (HT.sIx xs.length 0 lo)).take (HT.sIx xs.length xs.length hi-HT.sIx xs.length 0 lo),Heap.get?_push_size _ rfl⟩
noncomputable def flatV:V→Bool
 | .non=>true
 | .bl _=>true
 | .int _=>true
 | .str _=>true
 | _=>false
noncomputable def eqV:V→V→Bool
 | .non,.non=>true
 | .bl a,.bl b=>a == b
 | .bl a,.int b=>(if a then 1 else 0) == b
 | .int a,.bl b=>a == (if b then 1 else 0)
 | .int a,.int b=>a == b
 | .str a,.str b=>a == b
 | _,_=>false
theorem eqAt_V {A:Around}{s:Shared}{y x:V}{u v:Value} (ry:RelV y u) (rx:RelV x v) (fy:flatV y=true) (fx:flatV x=true):SeqAt.EqAt A s u v (eqV y x):=by
 cases y with
 | non =>
  cases ry;cases x with
  | non=>cases rx;exact SeqAt.EqAt.same _
  | bl b=>cases rx;exact SeqAt.EqAt.none_bool b
  | int b=>obtain⟨t,rfl⟩:=rx;exact SeqAt.EqAt.none_int b t
  | str b=>obtain⟨t,rfl⟩:=rx;exact SeqAt.EqAt.none_str b t
  | _=>exact absurd (show false=true from fx) Bool.false_ne_true
 | bl a =>
  cases ry;cases x with
  | non=>cases rx;exact SeqAt.EqAt.bool_none a
  | bl b=>cases rx;exact SeqAt.EqAt.bool_bool a b
  | int b=>obtain⟨t,rfl⟩:=rx;exact SeqAt.EqAt.bool_int a b t
  | str b=>obtain⟨t,rfl⟩:=rx;exact SeqAt.EqAt.bool_str a b t
  | _=>exact absurd (show false=true from fx) Bool.false_ne_true
 | int a =>
  obtain⟨t',rfl⟩:=ry;cases x with
  | non=>cases rx;exact SeqAt.EqAt.int_none a t'
  | bl b=>cases rx;exact SeqAt.EqAt.int_bool a t' b
  | int b=>obtain⟨t,rfl⟩:=rx;exact SeqAt.EqAt.int_int a t' b t
  | str b=>obtain⟨t,rfl⟩:=rx;exact SeqAt.EqAt.int_str a t' b t
  | _=>exact absurd (show false=true from fx) Bool.false_ne_true
 | str a =>
  obtain⟨t',rfl⟩:=ry;cases x with
  | non=>cases rx;exact SeqAt.EqAt.str_none a t'
  | bl b=>cases rx;exact SeqAt.EqAt.str_bool a t' b
  | int b=>obtain⟨t,rfl⟩:=rx;exact SeqAt.EqAt.str_int a t' b t
  | str b=>obtain⟨t,rfl⟩:=rx;exact SeqAt.EqAt.str_str a t' b t
  | _=>exact absurd (show false=true from fx) Bool.false_ne_true
 | _=>exact absurd (show false=true from fy) Bool.false_ne_true
noncomputable def eqU (x:V) (u:Value):Bool:=match u with
 | .none=>eqV .non x
 | .bool b=>eqV (.bl b) x
 | .int i _=>eqV (.int i) x
 | .str z _=>eqV (.str z) x
 | _=>false
theorem eqU_of {x y:V}{u:Value} (r:RelV y u) (f:flatV y=true):eqU x u=eqV y x:=by
 cases y with
 | non=>cases r;rfl
 | bl b=>cases r;rfl
 | int i=>obtain⟨t,rfl⟩:=r;rfl
 | str z=>obtain⟨t,rfl⟩:=r;rfl
 | _=>exact absurd (show false=true from f) Bool.false_ne_true
theorem any_eqU {x:V}:∀ {xs:List V}{us:List Value},Vals xs us→xs.all flatV=true→us.any (eqU x)=xs.any fun y=>eqV y x
 | _,_,.nil,_=>rfl
 | y :: xs,u :: us,.cons r t,f=>by
  rw[List.all_cons,Bool.and_eq_true] at f;rw[List.any_cons,List.any_cons,eqU_of r f.1,any_eqU t f.2]
theorem mem_eqAt {A:Around}{s:Shared}{x:V}{v:Value} (rx:RelV x v) (fx:flatV x=true):∀ {xs:List V}{us:List Value},Vals xs us→xs.all flatV=true→∀ u∈us,SeqAt.EqAt A s u v (eqU x u)
 | _,_,.nil,_=>fun u hu=>by cases hu
 | y :: xs,u :: us,.cons r t,f=>fun u' hu=>by
  rw[List.all_cons,Bool.and_eq_true] at f;rcases List.mem_cons.mp hu with rfl | hu
  ·rw[eqU_of r f.1];exact eqAt_V r rx f.1 fx
  ·exact mem_eqAt rx fx t f.2 u' hu
noncomputable def inV (x:V) (xs:List V):Bool:=xs.any fun y=>eqV y x
noncomputable def rIn (K:PySem.W.Frag) (neg:Bool):R2:=fun x y H Q=>∃ p xs,y = .ref p∧(SqL K H p xs∨SqT K H p xs)∧flatV x=true∧xs.all flatV=true∧Q (.bl (if neg then !inV x xs else inV x xs)) H
theorem op_notIn_seq:OpR X (compareOp .NotIn) (rIn X.K true):=by
 intro pins s σ H x y v u Q I rx ry h;obtain⟨p,xs,rfl,hq,fx,fs,q⟩:=h;cases ry;rcases hq with hq | hq
 ·obtain⟨its,r,pl,hz⟩:=I.list hq;refine SeqAt.notIn_listAt (eqU x) pl.isList (fun w hw=>mem_eqAt rx fx r fs w (by simpa using hw)) ⟨.bl _,H,I,rfl,?_⟩;rw[show its.toArray.any (eqU x)=its.any (eqU x) by simp,any_eqU r fs];exact q
 ·obtain⟨its,r,pl,hz⟩:=I.tuple hq;refine SeqAt.notIn_tupleAt (eqU x) pl (fun w hw=>mem_eqAt rx fx r fs w (by simpa using hw)) ⟨.bl _,H,I,rfl,?_⟩;rw[show its.toArray.any (eqU x)=its.any (eqU x) by simp,any_eqU r fs];exact q
theorem call_len_seq:CallR X (.builtin "len") (fun xs H Q=>∃ p ys,xs=[.ref p]∧(SqL X.K H p ys∨SqT X.K H p ys)∧Q (.int ys.length) H):=by
 intro pins s σ H xs us Q I r h;obtain⟨p,ys,rfl,hq,q⟩:=h;obtain⟨u,rfl,rx⟩:=vals1 r;cases rx;have hn:=line63;rcases hq with hq | hq
 ·obtain⟨its,r',pl,hz⟩:=I.list hq;have hlen:=r'.length;exact Calls.call_len_list pl.isList (by simp only[List.size_toArray] <;> omega) ⟨.int ys.length,H,I.tok _,⟨s.toks+1,by rw[List.size_toArray,hlen]⟩,q⟩
 ·obtain⟨its,r',pl,hz⟩:=I.tuple hq;have hlen:=r'.length;exact len_tuple pl (by simp only[List.size_toArray] <;> omega) ⟨.int ys.length,H,I.tok _,⟨s.toks+1,by rw[List.size_toArray,hlen]⟩,q⟩
theorem call_len_str:CallR X (.builtin "len") (fun xs H Q=>∃ z,xs=[.str z]∧z.length≤sizeLine∧Q (.int z.length) H):=by
 intro pins s σ H xs us Q I r h;obtain⟨z,rfl,hz,q⟩:=h;obtain⟨u,rfl,t,rfl⟩:=vals1 r;have hn:=line63;exact len_str (by omega) ⟨.int z.length,H,I.tok _,⟨_,rfl⟩,q⟩
noncomputable def tyV (K:PySem.W.Frag) (T:String) (x:V) (H:Hp):Prop:=match x with
 | .str _=>T = "str"
 | .int _=>T = "int"
 | .ref p=>(T = "list" ∧ ∃ xs,SqL K H p xs)∨(T = "tuple" ∧ ∃ o,K.lookup p=some o∧o.cls = .type "tuple" ∧ o.dict=none) ∨
   (T = "dict" ∧ ((∃ kvs,H p=some (.dK kvs))∨∃ kvs,H p=some (.dT kvs)))∨(T = "set" ∧ ∃ S n,H p=some (.set S n))
 | _=>False
theorem tyV_is {pins:List (Addr × Obj)} {σ:St}{H:Hp}{s:Shared}{T:String}{x:V}{v:Value} (I:Inv X pins σ H s) (r:RelV x v) (ty:tyV X.K T x H) :
  s.TypeIs v T∧∀ a,v = .ref a→∃ ob,s.heap.get? a=some ob∧ob.dict=none:=by
 cases x with
 | str z =>
  obtain⟨t,rfl⟩:=r;cases (show T = "str" from ty);exact⟨typeIs_str s z t,fun _ e=>nomatch e⟩
 | int i =>
  obtain⟨t,rfl⟩:=r;cases (show T = "int" from ty);exact⟨typeIs_int s i t,fun _ e=>nomatch e⟩
 | ref p =>
  cases r;rcases ty with ⟨rfl,xs,hq⟩ | ⟨rfl,o,hk,hc,hd⟩ | ⟨rfl,hk⟩ | ⟨rfl,S,n,hk⟩
  ·obtain⟨its,_,pl,_⟩:=I.list hq;refine⟨pl.isList.typeIs,fun a e=>?_⟩;cases e;obtain⟨o,n,e,c,hd,_⟩:=pl;exact⟨o,e,hd⟩
  ·refine⟨⟨o,I.kIn p o hk,hc⟩,fun a e=>?_⟩;cases e;exact⟨o,I.kIn _ o hk,hd⟩
  ·have z:∃ o,s.heap.get? p=some o∧o.ExactDict:=by
    rcases hk with ⟨kvs,hk⟩ | ⟨kvs,hk⟩
    ·obtain⟨_,_,_,_,o,_,_,e,ex,_⟩:=I.hok p _ hk;exact⟨o,e,ex⟩
    ·obtain⟨_,_,_,_,o,_,_,e,ex,_⟩:=I.hok p _ hk;exact⟨o,e,ex⟩
   obtain⟨o,e,ex⟩:=z;refine⟨⟨o,e,ex.1⟩,fun a e2=>?_⟩;cases e2;exact⟨o,e,ex.2.1⟩
  ·obtain⟨o,_,_,_,e,ex,_⟩:=I.hok p _ hk;refine⟨⟨o,e,ex.1⟩,fun a e2=>?_⟩;cases e2;exact⟨o,e,ex.2.1⟩
 | _=>exact False.elim ty
noncomputable def tBM (K:PySem.W.Frag) (T:String) (r:V→List V→Hp→VK→Prop) (to:TE) (t:TA):TE:=fun σ H Q=>to σ H fun x H1=>tyV K T x H1∧t σ H1 fun xs H2=>r x xs H2 Q
variable {o e:Expr}{es:List Expr}{to:TE}{t:TA}{name:Str}{apos cpos:Pos}{T id:String}{r:V→List V→Hp→VK→Prop}
theorem pe_bm (pa:PlainAttrs T) (slot:Slot T name id) (hty:typeOf (.builtin id)=pure (.type "method_descriptor")) (hm:MtR X id r) (ho:PE X o to) (ha:PA X (e :: es) t)
  (hbase:attributeBase o name X.env (eval o X.env)=eval o X.env:=by rfl)
  (hfew:((backTo cpos (starEach (e :: es) X.env)).all (fun x => !x.1) && (backToKw cpos (keywordEach [] X.env)).all (fun x=>x.1.isSome)
   && decide ((e :: es).length+([]:List Keyword).length+(if ([]:List Keyword).isEmpty then 0 else 1)<30))=true:=by rfl)
  (hline:(apos.endLine == cpos.line)=true:=by rfl) (hs:starEach (e :: es) X.env=(false,eval e X.env) :: starEach es X.env:=by rfl) (hplain:(backTo cpos (starEach es X.env)).any (·.1)=false:=by rfl) :
  PE X (.Call (.Attribute o name apos) (e :: es) [] cpos) (tBM X.K T r to t):=by
 intro pins s σ H Q I h;refine wpAny_Call_method_late hbase hfew hline rfl (thn (ho pins s σ H _ I h) fun v s1 ⟨x,H1,I1,r1,ty,q1⟩=>?_);obtain⟨h1,h2⟩:=tyV_is I1 r1 ty;refine⟨T,id,pa,slot,hty,h1,h2,?_⟩;have hA:=ha cpos pins s1 σ H1 _ I1 q1;rw[hs] at hA ⊢;refine Calls.callWith_builtin (by show (false || (backTo cpos (starEach es X.env)).any (·.1))=false;rw[hplain] <;> rfl) (Calls.evalArgs_plain ?_);exact thn hA fun us s2 ⟨vs,H2,I2,r2,q2⟩=>hm pins s2 σ H2 x vs v us Q I2 r1 r2 q2
end
end L2
namespace L2
open PySem PySem.Spec PyProof.Rows
noncomputable def MtM (X:Cx) (id:String) (r:V→List V→Hp→VK→Prop):Prop :=
 ∀ (pins:List (Addr × Obj)) (s:Shared) (σ:St) (H:Hp) (x:V) (xs:List V) (v:Value) (us:List Value) (Q:VK),Inv X pins σ H s→RelV x v→Vals xs us→r x xs H Q →
  wpAny (model X.prog X.w) X.A (call (.builtin id) (v :: us)) (EP X pins σ Q) X.xe s
theorem Vals.one {x:V}{us:List Value} (h:Vals [x] us):∃ u,us=[u]∧RelV x u:=by
 cases h with | cons r t=>cases t;exact⟨_,rfl,r⟩
theorem Vals.two {x y:V}{us:List Value} (h:Vals [x,y] us):∃ u v,us=[u,v]∧RelV x u∧RelV y v:=by
 cases h with | cons r t=>cases t with | cons q t=>cases t;exact⟨_,_,rfl,r,q⟩
section
variable {X:Cx}{pins:List (Addr × Obj)} {σ:St}{H:Hp}{s:Shared}{l b:Addr}{xs ys zs:List V}
theorem Inv.lset {its its':List Value}{n:Nat}{f:Array Value→Array Value}{t':Nat} (I:Inv X pins σ H s) (hH:H l=some (.lst xs))
  (e:s.heap.get? l=some { cls := .type "list",data := .seq its.toArray n }) (hf:f its.toArray=its'.toArray) (hv:Vals ys its') (hz:ys.length≤sizeLine) :
  Inv X pins σ (upd H l (.lst ys)) { s with heap:=s.heap.update l (Obj.mapSeq f),toks:=t' }:=by
 have q:=PySem.IsL.update e f;rw[hf] at q;refine I.write (x:=l) (e:=l) (by rw[hH];exact trivial) (.inl rfl) (fun b' u hb hu=>(Heap.get?_update_other s.heap (Obj.mapSeq f) (Ne.symm hb)).trans hu) ⟨_,q⟩ ?_;exact⟨hz,its',_,hv,q⟩
theorem Inv.lnew {its:List Value}{t':Nat} (I:Inv X pins σ H s) (hv:Vals ys its) (hz:ys.length≤sizeLine) :
  Inv X pins σ (upd H s.heap.objs.size (.lst ys)) { s with heap:=s.heap.push { cls := .type "list",data := .seq its.toArray },toks:=t' } :=
 I.laid (fun _ _ q=>Heap.get?_push_of_some _ q) (Nat.le_refl _) ⟨hz,its,0,hv,Heap.get?_push_size _ rfl⟩
theorem Inv.fresh (I:Inv X pins σ H s):H s.heap.objs.size=none:=I.hok.fresh (Nat.le_refl _)
theorem Inv.lstM (I:Inv X pins σ H s) (hH:H l=some (.lst xs)):xs.length≤sizeLine∧∃ (its:List Value) (n:Nat),Vals xs its∧xs.length=its.length∧s.heap.get? l=some { cls := .type "list",data := .seq its.toArray n }:=by
 obtain⟨z,its,n,r,e⟩:=I.hok l _ hH;exact⟨z,its,n,r,r.length,e⟩
end
section
variable {X:Cx}
noncomputable def rAppend:V→List V→Hp→VK→Prop:=fun x vs H Q=>∃ l xs y,x = .ref l∧vs=[y]∧H l=some (.lst xs)∧xs.length<sizeLine∧Q .non (upd H l (.lst (xs ++ [y])))
theorem mt_append:MtM X "list.append" rAppend:=by
 intro pins s σ H x vs v us Q I rx rv h;obtain⟨l,xs,y,rfl,rfl,hH,hz,q⟩:=h;cases rx;obtain⟨u,rfl,ru⟩:=rv.one;obtain⟨z,its,n,r,hl,e⟩:=I.lstM hH;refine call_meets F.slot_list_append ⟨_,e,rfl⟩ F.entry_list_append (F.args_list_append_2 _ _) (PySem.list_append l its.toArray n u (by rw[List.size_toArray];omega)) ⟨e,?_⟩;refine⟨.non,_,I.lset (its':=its ++ [u]) hH e (by simp) (r.append (.cons ru .nil)) ?_,rfl,q⟩;rw[List.length_append,List.length_singleton];omega
noncomputable def rCat:R2:=fun x y H Q=>∃ l b xs zs,x = .ref l∧y = .ref b∧H l=some (.lst xs)∧H b=some (.lst zs)∧xs.length+zs.length≤sizeLine∧∀ p,H p=none→Q (.ref p) (upd H p (.lst (xs++zs)))
theorem op_cat:OpR X (binaryOp .Add) rCat:=by
 intro pins s σ H x y v u Q I rx ry h;obtain⟨l,b,xs,zs,rfl,rfl,hH,hB,hz,q⟩:=h;cases rx;cases ry;obtain⟨z,its,n,r,hl,e⟩:=I.lstM hH;obtain⟨z2,its2,n2,r2,hl2,e2⟩:=I.lstM hB;refine PySem.P.add_list e e2 ?_ (by rw[List.size_toArray,List.size_toArray];omega);have ea:its.toArray++its2.toArray=(its++its2).toArray:=by simp
 rw[ea];exact⟨.ref _,_,I.lnew (t':=s.toks) (r.append r2) (by rw[List.length_append];omega),rfl,q _ I.fresh⟩
end
end L2
namespace L2
open PySem PySem.Spec PyProof.Rows
section
variable {κ : Type} [DecidableEq κ]
noncomputable def valV (kvs:List (κ × V)) (k : κ):Option V:=(kvs.find? fun kv=>decide (kv.1=k)).map (·.2)
noncomputable def putK (kvs:List (κ × V)) (k : κ) (v:V):List (κ × V) :=
 if (kvs.any fun kv=>decide (kv.1=k))=true then kvs.map (fun kv=>if kv.1=k then (kv.1,v) else kv) else kvs ++ [(k,v)]
theorem valV_pos {p : κ × V}{r:List (κ × V)}{k : κ} (e:p.1=k):valV (p :: r) k=some p.2:=by simp[valV,List.find?_cons,e]
theorem valV_neg {p : κ × V}{r:List (κ × V)}{k : κ} (e:¬ p.1=k):valV (p :: r) k=valV r k:=by simp[valV,List.find?_cons,e]
theorem valV_any (k : κ):∀ kvs:List (κ × V),(kvs.any fun kv=>decide (kv.1=k))=(valV kvs k).isSome
 | []=>rfl
 | p :: r=>by
  rw[List.any_cons];by_cases e:p.1=k
  ·simp only[valV_pos e,decide_eq_true e,Bool.true_or,Option.isSome_some]
  ·rw[valV_neg e,decide_eq_false e,Bool.false_or];exact valV_any k r
theorem length_putK (kvs:List (κ × V)) (k : κ) (v:V):(putK kvs k v).length≤kvs.length+1:=by
 unfold putK;split
 ·rw[List.length_map];omega
 ·rw[List.length_append,List.length_cons,List.length_nil];omega
theorem RelO.isSome_eq {o:Option V}{u:Option Value} (r:RelO o u):o.isSome=u.isSome:=by
 cases o with
 | none=>cases u with
  | none=>rfl
  | some _=>exact (show False from r).elim
 | some _=>cases u with
  | none=>exact (show False from r).elim
  | some _=>rfl
theorem RelO.getD {o:Option V}{u:Option Value}{d:V}{d':Value} (r:RelO o u) (rd:RelV d d'):RelV (o.getD d) (u.getD d'):=by
 cases o with
 | none=>cases u with
  | none=>exact rd
  | some _=>exact (show False from r).elim
 | some _=>cases u with
  | none=>exact (show False from r).elim
  | some _=>exact r
theorem KV.val {kvs:List (κ × V)}{vs:List (κ × Value)} (r:KV kvs vs) (k : κ):RelO (valV kvs k) (valueAt vs k):=by
 unfold KV at r;induction r with
 | nil=>exact True.intro
 | @cons p q ps qs h t ih =>
  obtain⟨h1,h2⟩:=h;by_cases e:p.1=k
  ·have e':q.1=k:=h1.symm.trans e;have b:valueAt (q :: qs) k=some q.2:=by simp[valueAt,List.find?_cons,e']
   rw[valV_pos e,b];exact h2
  ·have e':¬ q.1=k:=fun z=>e (h1.trans z)
   have b:valueAt (q :: qs) k=valueAt qs k:=by simp[valueAt,List.find?_cons,e']
   rw[valV_neg e,b];exact ih
theorem KV.any {kvs:List (κ × V)}{vs:List (κ × Value)} (r:KV kvs vs) (k : κ):(kvs.any fun kv=>decide (kv.1=k))=vs.any fun kv=>decide (kv.1=k):=by
 unfold KV at r;induction r with
 | nil=>rfl
 | cons h t ih=>rw[List.any_cons,List.any_cons,ih,h.1]
theorem KV.repl {kvs:List (κ × V)}{vs:List (κ × Value)} (r:KV kvs vs) (k : κ) {y:V}{u:Value} (ry:RelV y u) :
  KV (kvs.map fun kv=>if kv.1=k then (kv.1,y) else kv) (vs.map fun kv=>if kv.1=k then (kv.1,u) else kv):=by
 unfold KV at r ⊢;induction r with
 | nil=>exact .nil
 | @cons p q ps qs h t ih =>
  rw[List.map_cons,List.map_cons];refine .cons ?_ ih;obtain⟨h1,h2⟩:=h;by_cases e:p.1=k
  ·rw[if_pos e,if_pos (h1.symm.trans e)];exact⟨h1,ry⟩
  ·rw[if_neg e,if_neg (fun z=>e (h1.trans z))];exact⟨h1,h2⟩
theorem KV.put {kvs:List (κ × V)}{vs:List (κ × Value)} (r:KV kvs vs) (k : κ) {y:V}{u:Value} (ry:RelV y u):KV (putK kvs k y) (stored vs k u):=by
 unfold putK stored;rw[r.any k];by_cases e:(vs.any fun kv=>decide (kv.1=k))=true
 ·rw[if_pos e,if_pos e];exact r.repl k ry
 ·rw[if_neg e,if_neg e];exact Paired.snoc r ⟨rfl,ry⟩
theorem KV.keys {kvs:List (κ × V)}{vs:List (κ × Value)} (r:KV kvs vs):kvs.map (·.1)=vs.map (·.1):=by
 unfold KV at r;induction r with
 | nil=>rfl
 | cons h t ih=>rw[List.map_cons,List.map_cons,ih,h.1]
theorem KV.length {kvs:List (κ × V)}{vs:List (κ × Value)} (r:KV kvs vs):kvs.length=vs.length:=Paired.length r
end
theorem kV_is {P:Program}{w:World}{k:Key}{u:Value} (r:RelV (kV k) u):(mixKind P w).is k u=true:=by
 cases k with
 | inl i=>obtain⟨t,e⟩:=(show ∃ t,u=Value.int i t from r);subst e;exact mixKind_int P w i t
 | inr x=>obtain⟨t,e⟩:=(show ∃ t,u=Value.str x t from r);subst e;exact mixKind_str P w x t
theorem items_are {P:Program}{w:World}:∀ {ks:List Key}{us:List Value},Vals (ks.map kV) us→ItemsAre (mixKind P w) ks us
 | [],_,r=>by rw[List.map_nil] at r;cases r;exact .nil
 | k :: ks,_,r=>by
  rw[List.map_cons] at r;cases r with
  | cons h t=>exact .cons (kV_is h) (items_are t)
noncomputable abbrev KT (H:Hp):List (List Key × V)→List (List Key × Addr × Value)→Prop:=Paired fun p q=>p.1=q.1∧H q.2.1=some (.tup (p.1.map kV))∧RelV p.2 q.2.2
theorem KT.val {H:Hp}{kvs:List (List Key × V)}{xs:List (List Key × Addr × Value)} (r:KT H kvs xs) (k:List Key):RelO (valV kvs k) ((atKey xs k).map (·.2)):=by
 induction r with
 | nil=>exact True.intro
 | @cons p q ps qs h t ih =>
  obtain⟨h1,_,h2⟩:=h;by_cases e:p.1=k
  ·have e':q.1=k:=h1.symm.trans e;have b:atKey (q :: qs) k=some q.2:=by simp[atKey,List.find?_cons,e']
   rw[valV_pos e,b];exact h2
  ·have e':¬ q.1=k:=fun z=>e (h1.trans z)
   have b:atKey (q :: qs) k=atKey qs k:=by simp[atKey,List.find?_cons,e']
   rw[valV_neg e,b];exact ih
theorem KT.repl {H:Hp}{kvs:List (List Key × V)}{xs:List (List Key × Addr × Value)} (r:KT H kvs xs) (k:List Key) {y:V}{u:Value} (ry:RelV y u) :
  KT H (kvs.map fun kv=>if kv.1=k then (kv.1,y) else kv) (xs.map (putAt k u)):=by
 induction r with
 | nil=>exact .nil
 | @cons p q ps qs h t ih =>
  rw[List.map_cons,List.map_cons];refine .cons ?_ ih;obtain⟨h1,h2,h3⟩:=h;unfold putAt;by_cases e:p.1=k
  ·rw[if_pos e,if_pos (h1.symm.trans e)];exact⟨h1,h2,ry⟩
  ·rw[if_neg e,if_neg (fun z=>e (h1.trans z))];exact⟨h1,h2,h3⟩
theorem KT.put {H:Hp}{kvs:List (List Key × V)}{xs:List (List Key × Addr × Value)} (r:KT H kvs xs) (k:List Key) {b:Addr}{y:V}{u:Value} (hb:H b=some (.tup (k.map kV))) (ry:RelV y u) :
  KT H (putK kvs k y) (storedH xs k b u):=by
 have e:(kvs.any fun kv=>decide (kv.1=k))=(atKey xs k).isSome:=by
  rw[valV_any,(r.val k).isSome_eq,Option.isSome_map]
 unfold putK storedH;rw[e];by_cases q:(atKey xs k).isSome=true
 ·rw[if_pos q,if_pos q];exact r.repl k ry
 ·rw[if_neg q,if_neg q];exact Paired.snoc r ⟨rfl,hb,ry⟩
theorem KT.keeps {H H':Hp}{kvs:List (List Key × V)}{xs:List (List Key × Addr × Value)} (r:KT H kvs xs) (ht:∀ b ys,H b=some (.tup ys)→H' b=some (.tup ys)):KT H' kvs xs :=
 Paired.mapP r fun _ _ z=>⟨z.1,ht _ _ z.2.1,z.2.2⟩
section
variable {P:Program}{w:World}{H:Hp}{h:Heap}{a:Addr}
theorem rd_of {u:HO} (ok:HOk P w H h) (e:Rd H a u):ObjOk P w H h a u:=e.ok ok
theorem dk_rd {kvs:List (Key × V)} (ok:HOk P w H h) (e:Rd H a (.dK kvs)):kvs.length≤sizeLine∧(a == sysModules)=false∧∃ vs,KV kvs vs∧h.DictOf (mixKind P w) a vs :=
 show ObjOk P w H h a (.dK kvs) from rd_of ok e
theorem dk_of {kvs:List (Key × V)} (ok:HOk P w H h) (e:H a=some (.dK kvs)):kvs.length≤sizeLine∧(a == sysModules)=false∧∃ vs,KV kvs vs∧h.DictOf (mixKind P w) a vs:=dk_rd ok (.inl e)
theorem key_of {ks:List Key} (ok:HOk P w H h) (e:H a=some (.tup (ks.map kV))):(tupleKind (mixKind P w)).is h ks a:=by
 obtain⟨_,its,r,o,h1,h2,n,h3⟩:=(show ObjOk P w H h a (.tup (ks.map kV)) from ok a _ e);exact⟨o,its.toArray,n,h1,h2,h3,by simpa using items_are r⟩
theorem dt_rd {kvs:List (List Key × V)} (ok:HOk P w H h) (e:Rd H a (.dT kvs)):kvs.length≤sizeLine∧(a == sysModules)=false ∧
  ∃ xs,KT H kvs xs∧h.DictOfH (tupleKind (mixKind P w)) a xs:=by
 obtain⟨z,y,xs,r,o,es,ep,h1,h2,h3,h4,h5⟩:=(show ObjOk P w H h a (.dT kvs) from rd_of ok e);refine⟨z,y,xs,r,o,es,ep,h1,h2,h3,h4,fun x hx=>?_,h5⟩;have all:∀ {l:List (List Key × V)}{m:List (List Key × Addr × Value)},KT H l m→∀ x∈m,(tupleKind (mixKind P w)).is h x.1 x.2.1:=by
  intro l m q;induction q with
  | nil=>intro x hx;exact nomatch hx
  | @cons p q ps qs hq t ih =>
   intro x hx;rcases List.mem_cons.mp hx with e | hx
   ·subst e;exact key_of ok (by rw[← hq.1];exact hq.2.1)
   ·exact ih x hx
 exact all r x hx
theorem dt_of {kvs:List (List Key × V)} (ok:HOk P w H h) (e:H a=some (.dT kvs)):kvs.length≤sizeLine∧(a == sysModules)=false ∧
  ∃ xs,KT H kvs xs∧h.DictOfH (tupleKind (mixKind P w)) a xs:=dt_rd ok (.inl e)
end
noncomputable def DGet (H:Hp) (a:Addr) (y:V) (r:Option V):Prop :=
 (∃ kvs k,Rd H a (.dK kvs)∧y=kV k∧r=valV kvs k)∨∃ kvs k b,Rd H a (.dT kvs)∧y = .ref b∧H b=some (.tup (k.map kV))∧r=valV kvs k
noncomputable def DPut (H:Hp) (a:Addr) (y v:V) (H':Hp):Prop :=
 (∃ kvs k,H a=some (.dK kvs)∧y=kV k∧kvs.length<sizeLine∧H'=upd H a (.dK (putK kvs k v))) ∨
 ∃ kvs k b,H a=some (.dT kvs)∧y = .ref b∧H b=some (.tup (k.map kV))∧kvs.length<sizeLine∧H'=upd H a (.dT (putK kvs k v))
theorem DGet.k {H:Hp}{a:Addr}{kvs:List (Key × V)}{k:Key} (e:H a=some (.dK kvs)):DGet H a (kV k) (valV kvs k) := .inl ⟨kvs,k,.inl e,rfl,rfl⟩
theorem DPut.k {H:Hp}{a:Addr}{kvs:List (Key × V)}{k:Key}{v:V} (e:H a=some (.dK kvs)) (hl:kvs.length<sizeLine):DPut H a (kV k) v (upd H a (.dK (putK kvs k v))) := .inl ⟨kvs,k,e,rfl,hl,rfl⟩
section
variable {X:Cx}{pins:List (Addr × Obj)} {σ:St}{H:Hp}{s:Shared}{a:Addr}{y v:V}{u r:Value}{o:Option V}{A:Around}{E:Value→Shared→Prop}
theorem Inv.big (I:Inv X pins σ H s):sysModules<s.heap.objs.size:=by
 have h:mainGlobals<s.heap.objs.size:=(I.mod.glob.keeps I.bk).lt;exact Nat.lt_trans (by decide) h
theorem d_getItem {Q:Value→Shared→Prop} (hu:A.units+1<cLine) (I:Inv X pins σ H s) (g:DGet H a y (some v)) (ry:RelV y u) (h:∀ w' s',Inv X pins σ H s'→RelV v w'→Q w' s') :
  wpAny (model X.prog X.w) A (getItem (.ref a) u) Q E s:=by
 rcases g with ⟨kvs,k,e,ey,l⟩ | ⟨kvs,k,b,e,ey,eb,l⟩
 ·subst ey;obtain⟨z,hd,vs,rel,dd⟩:=dk_rd I.hok e;obtain⟨w',hw,rw'⟩:=RelO.some_of (v:=v) (o:=valueAt vs k) (by rw[l];exact rel.val k);exact wpAny_getItem_of (kV_is ry) dd.mapOf hw (h w' _ (I.tok _) rw')
 ·subst ey;cases (show u=Value.ref b from ry);obtain⟨z,hd,xs,rel,dd⟩:=dt_rd I.hok e;obtain⟨w',hw,rw'⟩:=RelO.some_of (v:=v) (o:=(atKey xs k).map (·.2)) (by rw[l];exact rel.val k);obtain⟨p,hp,hp2⟩:=Option.map_eq_some_iff.mp hw;refine wpAny_getItem_heap (tupleKind_room_in1 hu) (key_of I.hok eb) dd hp ?_;rw[hp2];exact h w' _ (I.tok _) rw'
theorem d_write {h':Heap}{t':Nat}{ob:HO} (I:Inv X pins σ H s) (mu:Mut (H a)) (hs:Heap.SameBut a s.heap h') (he:∃ q,h'.get? a=some q) (new:ObjOk X.prog X.w (upd H a ob) h' a ob) :
  Inv X pins σ (upd H a ob) { s with heap:=h',toks:=t' } :=
 I.write (x:=a) (e:=a) mu (.inl rfl) (fun b q hb z=>(hs.2 b hb).trans z) he new
theorem dk_new {P:Program}{w:World}{H':Hp}{h':Heap}{kvs:List (Key × V)}{vs:List (Key × Value)} (z:kvs.length≤sizeLine) (hd:(a == sysModules)=false) (rel:KV kvs vs) (dd:h'.DictOf (mixKind P w) a vs) :
  ObjOk P w H' h' a (.dK kvs):=⟨z,hd,vs,rel,dd⟩
theorem d_setItem {H':Hp}{Q:Unit→Shared→Prop} (hu:A.units+1<cLine) (I:Inv X pins σ H s) (g:DPut H a y v H') (ry:RelV y u) (rv:RelV v r) (h:∀ s',Inv X pins σ H' s'→Q () s') :
  wpAny (model X.prog X.w) A (setItem (.ref a) u r) Q E s:=by
 rcases g with ⟨kvs,k,e,ey,l,eH⟩ | ⟨kvs,k,b,e,ey,eb,l,eH⟩
 ·subst ey eH;obtain⟨z,hd,vs,rel,dd⟩:=dk_of I.hok e;have hz:vs.length≤sizeLine:=by rw[← rel.length];exact z
  have hl:(putK kvs k v).length≤sizeLine:=by have:=length_putK kvs k v;omega
  refine wpAny_setItem_pairs (hsz:=hz) (kV_is ry) dd fun h' dd' hs=>h _ ?_
  have he:∃ q,h'.get? a=some q:=let ⟨q,_,_,hq,_⟩:=dd'; ⟨q,hq⟩
  exact d_write I (by rw[e];exact True.intro) hs he (dk_new hl hd (rel.put k rv) dd')
 ·subst ey eH;cases (show u=Value.ref b from ry);obtain⟨z,hd,xs,rel,dd⟩:=dt_of I.hok e;have hz:xs.length≤sizeLine:=by rw[← Paired.length rel];exact z
  have hl:(putK kvs k v).length≤sizeLine:=by have:=length_putK kvs k v;omega
  refine wpAny_setItem_heap (hsz:=hz) (tupleKind_room_in1 hu) (key_of I.hok eb) dd fun h' dd' hs=>h _ ?_
  obtain⟨q,es,ep,hq,h2,h3,h4,_,h5⟩:=dd';refine d_write I (by rw[e];exact True.intro) hs ⟨q,hq⟩ ⟨hl,hd,_,(rel.put k eb rv).keeps fun c ys ec=>?_,q,es,ep,hq,h2,h3,h4,h5⟩;rw[upd_ne (ne_of ec e (fun z=>nomatch z))];exact ec
end
noncomputable def NoSl (i:Expr):Prop:=∀ ov iv,subscripted i false ov iv=operate [ov,iv] (getItem ov iv)
theorem subD_of {prog:Program}{w:World}{A:Around}{E:Value→Shared→Prop}{s:Shared}{env:Env}{value slice:Expr}{pos:Pos}{T id:String}{Q:Value→Shared→Prop}
  (hl:typeLookup (.type T) "__getitem__" = pure (some (.builtin id))) (hs:NoSl slice)
  (h:wpAny (model prog w) A (eval value env) (fun o s₁=>wpAny (model prog w) A (eval slice env) (fun i s₂=>s₂.TypeIs o T∧wpAny (model prog w) A (getItem o i) Q E s₂) E s₁) E s) :
  wpAny (model prog w) A (eval (.Subscript value slice pos) env) Q E s:=by
 refine Subscript_ (wpAny_mono h (fun o s₁ h₁=>wpAny_mono h₁ (fun i s₂ h₂=>?_) fun _ _ x=>x) fun _ _ x=>x);obtain⟨hT,h₂⟩:=h₂;unfold subscriptTail;refine wpAny_bind ?_;rw[getitemInPython_of_ne hT.not_modules];refine wpAny_bind (wpAny_specialOf hT hl ?_);have fin:wpAny (model prog w) A (subscripted slice false o i) (fun r s₃=>wpAny (model prog w) A (letTemporaryGo value o r >>= fun _=>pure r) Q E s₃) E s₂:=by
  rw[hs o i];exact wpAny_operating (wpAny_mono h₂ (fun r s₃ h₃=>wpAny_bind (wpAny_letTemporaryGo (wpAny_pure h₃))) fun _ _ x=>x)
 first
  | exact wpAny_pure (wpAny_bind fin)
  | exact wpAny_bind (wpAny_pure (wpAny_bind fin))
  | exact wpAny_bind fin
theorem dict_typeIs {X:Cx}{pins:List (Addr × Obj)} {σ:St}{H:Hp}{s:Shared}{a:Addr}{y:V}{o:Option V} (I:Inv X pins σ H s) (g:DGet H a y o):s.TypeIs (.ref a) "dict" := by
 rcases g with ⟨kvs,k,e,_,_⟩ | ⟨kvs,k,b,e,_,_,_⟩
 ·obtain⟨_,_,vs,_,dd⟩:=dk_rd I.hok e;exact dd.typeIs
 ·obtain⟨_,_,xs,_,dd⟩:=dt_rd I.hok e;exact dd.typeIs
noncomputable def tDGet (td ty:TE):TE:=fun σ H Q=>td σ H fun x H1=>ty σ H1 fun y H2=>∃ a v,x = .ref a∧DGet H2 a y (some v)∧Q v H2
noncomputable def sDPut (td ty tv:TE):TS:=fun D σ H=>tv σ H fun v H1=>td σ H1 fun x H2=>ty σ H2 fun y H3=>∃ a H4,x = .ref a∧DPut H3 a y v H4∧D.nx σ H4
section
variable {X:Cx}{o i e value:Expr}{pos pos' tpos:Pos}{td ty tv:TE}
theorem pe_dget (hu:X.A.units+1<cLine) (ho:PE X o td) (hi:PE X i ty) (hs:NoSl i):PE X (.Subscript o i pos) (tDGet td ty):=by
 intro pins s σ H Q I h;refine subD_of PySem.F.slot_dict_getitem.lookup hs (thn (ho pins s σ H _ I h) fun u s1 ⟨x,H1,I1,rx,q1⟩=>thn (hi pins s1 σ H1 _ I1 q1) fun iv s2 ⟨y,H2,I2,ry,a,v,ex,g,q2⟩=>?_);subst ex;obtain rfl:u=Value.ref a:=rx;exact⟨dict_typeIs I2 g,d_getItem hu I2 g ry fun w' s3 I3 rw'=>⟨v,H2,I3,rw',q2⟩⟩
theorem ps_dput (hu:X.A.units+1<cLine) (ho:PE X o td) (hi:PE X i ty) (hv:PE X value tv) (hs:swapsWith value (some (.Subscript o i pos')) pos.line X.env=pure false) :
  PS X (.Assign [.Subscript o i pos'] value pos) (sDPut td ty tv):=by
 intro pins s σ H D I h;refine wpAny_Assign_Subscript (thn (hv pins s σ H _ I h) fun r s1 ⟨v,H1,I1,rv,q1⟩=>thn (ho pins s1 σ H1 _ I1 q1) fun u s2 ⟨x,H2,I2,rx,q2⟩=>thn (hi pins s2 σ H2 _ I2 q2) fun iv s3 ⟨y,H3,I3,ry,a,H4,ex,g,q3⟩=>?_) hs;subst ex;obtain rfl:u=Value.ref a:=rx;exact d_setItem hu I3 g ry rv fun s4 I4=>⟨σ,H4,I4,q3⟩
end
theorem dk_empty {P:Program}{w:World}{H:Hp} (h:Heap) (hb:sysModules<h.objs.size):ObjOk P w H (h.push { cls := .type "dict",data := .dict #[] }) h.objs.size (.dK []) :=
 ⟨Nat.zero_le _,beq_eq_false_iff_ne.mpr (Ne.symm (Nat.ne_of_lt hb)),[],.nil,Heap.DictOf.new h⟩
noncomputable def tDNewK:TE:=fun _ H Q=>∀ p,H p=none→Q (.ref p) (upd H p (.dK []))
section
variable {X:Cx}{pos:Pos}
theorem pe_dnewK:PE X (.Dict [] [] pos) tDNewK:=fun pins s σ H Q I h =>
 wpAny_Dict_empty ⟨.ref s.heap.objs.size,_,I.laid (a:=s.heap.objs.size) (o := .dK []) (t':=s.toks) (fun _ _ q=>Heap.get?_push_of_some _ q) (Nat.le_refl _) (dk_empty s.heap I.big),rfl,h _ (I.hok.fresh (Nat.le_refl _))⟩
end
structure M2 (X:Cx) (o:Expr) (m:Str) (apos:Pos) (e f:Expr) (cpos:Pos):Prop where
 base:attributeBase o m X.env (eval o X.env)=eval o X.env
 few:((backTo cpos (starEach [e,f] X.env)).all (fun x => !x.1) && (backToKw cpos (keywordEach [] X.env)).all (fun x=>x.1.isSome)
  && decide (([e,f]:List Expr).length+([]:List Keyword).length+(if ([]:List Keyword).isEmpty then 0 else 1)<30))=true
 line:(apos.endLine == cpos.line)=true
 trees:backTo cpos (starEach [e,f] X.env)=[(false,eval e X.env),(false,eval f X.env)]
noncomputable def IsD (H:Hp) (a:Addr):Prop:=(∃ kvs,Rd H a (.dK kvs))∨∃ kvs,Rd H a (.dT kvs)
theorem isD_at {X:Cx}{pins:List (Addr × Obj)} {σ:St}{H:Hp}{s:Shared}{a:Addr} (I:Inv X pins σ H s) (d:IsD H a) :
  s.TypeIs (.ref a) "dict" ∧ (∀ b,Value.ref a = .ref b→∃ ob,s.heap.get? b=some ob∧ob.dict=none)∧(a == sysModules)=false:=by
 rcases d with ⟨kvs,e⟩ | ⟨kvs,e⟩
 ·obtain⟨_,hd,vs,_,dd⟩:=dk_rd I.hok e;refine⟨dd.typeIs,fun b q=>?_,hd⟩;cases q;obtain⟨ob,_,_,h1,h2,_⟩:=dd;exact⟨ob,h1,h2.2.1⟩
 ·obtain⟨_,hd,xs,_,dd⟩:=dt_rd I.hok e;refine⟨dd.typeIs,fun b q=>?_,hd⟩;cases q;obtain⟨ob,_,_,h1,h2,_⟩:=dd;exact⟨ob,h1,h2.2.1⟩
section
variable {X:Cx}{pins:List (Addr × Obj)} {σ:St}{H:Hp}{s:Shared}{a:Addr}{y d:V}{u r:Value}{o:Option V}{A:Around}{E:Value→Shared→Prop}
theorem d_get2 {Q:Value→Shared→Prop} (hu:A.units+1<cLine) (I:Inv X pins σ H s) (g:DGet H a y o) (ry:RelV y u) (rd:RelV d r) (h:∀ w' s',Inv X pins σ H s'→RelV (o.getD d) w'→Q w' s') :
  wpAny (model X.prog X.w) A (call (.builtin "dict.get") [.ref a,u,r]) Q E s:=by
 rcases g with ⟨kvs,k,e,ey,l⟩ | ⟨kvs,k,b,e,ey,eb,l⟩
 ·subst ey;obtain⟨z,hd,vs,rel,dd⟩:=dk_rd I.hok e;refine call_meetsIn PySem.F.slot_dict_get dd.typeIs PySem.F.entry_dict_get (PySem.F.args_dict_get_3 _ _ _) (meets_dict_get_default (mixKind X.prog X.w) a (kV_is ry) hd r) ⟨_,dd.mapOf,h _ _ (I.tok _) ?_⟩;rw[l];exact (rel.val k).getD rd
 ·subst ey;cases (show u=Value.ref b from ry);obtain⟨z,hd,xs,rel,dd⟩:=dt_rd I.hok e;refine call_meetsIn PySem.F.slot_dict_get dd.typeIs PySem.F.entry_dict_get (PySem.F.args_dict_get_3 _ _ _) (meetsH_dict_get_default (tupleKind (mixKind X.prog X.w)) a b hd r) ⟨tupleKind_room_in1 hu,k,xs,key_of I.hok eb,dd,h _ _ (I.tok _) ?_⟩;rw[l];exact (rel.val k).getD rd
end
noncomputable def tDGet2 (td ty tx:TE):TE:=fun σ H Q=>td σ H fun x H1=>∃ a,x = .ref a∧IsD H1 a∧ty σ H1 fun y H2=>tx σ H2 fun z H3=>∃ o,DGet H3 a y o∧Q (o.getD z) H3
section
variable {X:Cx}{o e f:Expr}{apos cpos:Pos}{td ty tx:TE}
theorem pe_dget2 (hu:X.A.units+1<cLine) (ho:PE X o td) (he:PE X e ty) (hf:PE X f tx) (m:M2 X o "get" apos e f cpos):PE X (.Call (.Attribute o "get" apos) [e,f] [] cpos) (tDGet2 td ty tx):=by
 intro pins s σ H Q I h;refine wpAny_Call_method m.base m.few m.line PySem.F.plainAttrs_dict PySem.F.slot_dict_get PySem.F.type_dict_get (thn (ho pins s σ H _ I h) fun u s1 ⟨x,H1,I1,rx,a,ex,d,q1⟩=>?_);subst ex;obtain rfl:u=Value.ref a:=rx;obtain⟨t1,t2,_⟩:=isD_at I1 d;refine⟨t1,t2,?_⟩;rw[m.trees];refine Calls.callWith_builtin rfl (Calls.evalArgs_plain (Calls.spliced_cons (thn (he pins s1 σ H1 _ I1 q1) fun iv s2 ⟨y,H2,I2,ry,q2⟩ =>
  Calls.spliced_cons (thn (hf pins s2 σ H2 _ I2 q2) fun fv s3 ⟨z,H3,I3,rz,ov,g,q3⟩=>Calls.spliced_nil ?_))))
 exact d_get2 hu I3 g ry rz fun w' s4 I4 rw'=>⟨_,H3,I4,rw',q3⟩
end
end L2
namespace Att
open PySem PySem.W PySem.Calls PyProof.Rows
theorem ints_of_wellAll {P:Params}{h:Heap}:∀ (ns:List Int) (vs:List Value),WellAll P h vs (ns.map WData.int)→IntsAre vs ns:=by
 intro ns;induction ns with
 | nil =>
  intro vs w;rw[List.map_nil] at w;cases w;exact .nil
 | cons n ns ih =>
  intro vs w;rw[List.map_cons] at w;cases w with
  | cons a b =>
   cases a;exact .cons _ _ (ih _ b)
theorem script_of {l:OpenLaw}{n:Nat} (hn:l.most=some n) {P:Params}{h:Heap}{args:List WData}{vals:List Value}
  (hpre:l.row.toRowW.claim.pre args=true) (hwl:WellAll P h vals args) :
  ∃ a vs ns,vals=[Value.ref a]∧args=[WData.list (ns.map WData.int)]∧h.get? a=some { cls := .type "list",data := .seq vs.toArray }∧IntsAre vs ns∧ns.length≤n:=by
 have hsh:WShape.hasAll [] args [.list .int]=true:=(pre_splitW hpre).1;have hc:l.pre.holds [] { args:=args }=true:=(pre_splitW hpre).2;obtain⟨d,r,rfl,h1,h2⟩:=hasAllW_cons hsh;obtain rfl:=hasAllW_nil h2;obtain⟨xs,rfl,h3⟩:=hasW_list h1;obtain⟨ns,rfl⟩:=items_int h3;have hlen:ns.length≤n:=by
  unfold OpenLaw.pre at hc;have h4:(WTm.not (.lt (.lit (.int (n:Int))) (.len (.arg 0)))).holds [] { args:=[.list (ns.map .int)] }=true:=by
   have h4:=(holds_andW hc).1;rw[hn] at h4;exact h4
  have h5:=condW_of h4 (w_not (w_lt w_lit (w_len_list (w_arg rfl))));rw[List.length_map] at h5;refine Nat.le_of_not_lt fun q=>?_
  have q':(n:Int)<((ns.length:Nat):Int):=by omega
  first
   | (rw[decide_eq_true q'] at h5;exact absurd h5 (by decide))
   | (simp at h5;omega)
 cases hwl with
 | cons w1 w2 =>
  cases w2;cases w1 with
  | list ho hall=>exact⟨_,_,ns,rfl,rfl,ho,ints_of_wellAll ns _ hall,hlen⟩
theorem post_true (l:OpenLaw) (args:List WData):l.row.toRowW.claim.post args (.bool true) args=true :=
 postW_of (r:=l.row.toRowW) (X:=(true == true))
  (show WShape.has [] (.bool true) .bool=true by first | rfl | decide | simp[WShape.has,WShape.arms,WShape.armsAll])
  (show (WTm.eq .res (.lit (.bool true))).value [] { args:=args,res:=some (.bool true),after:=args }=some (.bool (true == true)) from w_eq_bool (w_res rfl) w_lit) rfl
end Att
namespace L2
open PySem PySem.Spec PyProof.Rows
theorem vals_ints:∀ {vs:List Value}{ns:List Int},IntsAre vs ns→Vals (ns.map V.int) vs
 | _,_,.nil=>.nil
 | _,_,.cons n t h=>.cons ⟨t,rfl⟩ (vals_ints h)
noncomputable def Only (H:Hp):Prop:=∀ b,H b=none∨∃ o xs,H b=some (.frz o (.lst xs))
theorem law_call {P:Program}{w:World}{K:PySem.W.Frag}{mg mb:Str→Option Value}{CX:CXT}{k:Nat}{fa a:Addr}{fd:FuncData}{x:Str}{sp:Sp}{s₁:Shared}{vs:List Value}{ns:List Int}
  (KX:K.In s₁.heap) (hns:s₁.heap.Ns mainGlobals mg) (hb:s₁.heap.Ns builtinsNs mb) (hbb:∀ x:Str,x ≠ "__name__" → mb x=bootBuiltins x) (hlim:s₁.heap.NoLimit) (hg:s₁.gens = #[])
  (ha:s₁.heap.get? a=some { cls := .type "list",data := .seq vs.toArray }) (hi:IntsAre vs ns) (hl:ns.length≤sizeLine) (hr:Room k callerA)
  (F:∀ base:Heap,K.In base→base.Ns mainGlobals mg→FnOk P w K mg base CX k fa fd [x] sp) (hbind:∀ (s:Shared) (u:Value),BindsTo s fd ⟨[u],[]⟩ [(x,u)])
  (hsp:∀ H:Hp,Only H→SqL K H a (ns.map V.int)→sp [.ref a] H (fun v _=>v = .bl true) fun _ _ _=>False)
  (hCX:∀ H e s',CX [] H s₁ (fun _ _ _=>False) e s'→False) :
  codeAny (model P w) callerA (.call (.ref fa) ⟨[.ref a],[]⟩) (fun r s'=>r = .ok (.ret (.bool true))∧OldK s₁.heap s'.heap∧s'.os=s₁.os∧AllBare s'.gens) s₁:=by
 have rv:=vals_ints hi;have lenV:=hi.length;have core:∀ H:Hp,Only H→SqL K H a (ns.map V.int)→HOk P w H s₁.heap→(∀ b,H b≠none→b=a)→(H a≠none→K.lookup a=none) →
   codeAny (model P w) callerA (.call (.ref fa) ⟨[.ref a],[]⟩) (fun r s'=>r = .ok (.ret (.bool true))∧OldK s₁.heap s'.heap∧s'.os=s₁.os∧AllBare s'.gens) s₁:=by
  intro H hO hS hok hA hK;have base_of:∀ {b:Addr}{o:Obj},s₁.heap.get? b=some o→H b=none→(hidT s₁.heap H).get? b=some o:=fun e n=>hidT_get e n
  have noA:∀ {b:Addr}{o:Obj}{es:Array DictEntry}{ep:Nat},s₁.heap.get? b=some o→o.data = .dict es ep→H b=none:=fun {b o es ep} e d=>by
   cases q:H b with
   | none=>rfl
   | some u =>
    have e':b=a:=hA b (by rw[q];simp);subst e';rw[ha] at e;cases e;have d':Data.seq vs.toArray _=Data.dict es ep:=d;cases d'
  have nsK:∀ {b:Addr}{m:Str→Option Value},s₁.heap.Ns b m→(hidT s₁.heap H).Ns b m:=fun {b m} ⟨o,es,ep,e,d,r⟩=>⟨o,es,ep,base_of e (noA e d),d,r⟩
  have hKb:K.In (hidT s₁.heap H):=fun b o e=>base_of (KX b o e) (by
   cases q:H b with
   | none=>rfl
   | some u =>
    have e':b=a:=hA b (by rw[q];simp);subst e';rw[hK (by rw[q];simp)] at e;cases e)
  have hM:Mod K mg (hidT s₁.heap H):=⟨hKb,nsK hns,⟨mb,nsK hb,hbb⟩,let ⟨mc,h1,h2⟩:=hlim; ⟨mc,nsK h1,h2⟩⟩;have e0:Env0 P w K mg (hidT s₁.heap H) callerA [] s₁ H:=⟨rfl,hM,fun b o e=>of_hidT e,Nat.le_of_eq (hidT_size _ _),trivial,fun b hb=>absurd (show b∈([]:List Addr) from hb) (by simp),hok,.of_eq hg⟩;refine codeAny_mono ((F _ hKb (nsK hns)).run callerA [] s₁ H ⟨[.ref a],[]⟩ [.ref a] [.ref a] _ _ hr e0 (hbind s₁ (.ref a)) (.cons rfl .nil) (hsp H hO hS)) fun r s' h=>?_
  cases r with
  | error e=>exact (hCX H e s' h).elim
  | ok fl =>
   cases fl with
   | next=>exact False.elim h
   | brk=>exact False.elim h
   | cont=>exact False.elim h
   | ret u =>
    obtain⟨v,H',os,bare,un,hok',r',q⟩:=h;have q':v = .bl true:=q;subst q';obtain rfl:u=Value.bool true:=r';refine⟨rfl,OldK.of_keep fun b o e=>?_,os,bare⟩;cases q:H b with
    | none=>exact un.keep b o e q (by intro z;exact absurd (show b∈([]:List Addr) from z) (by simp)) (by simp)
    | some u =>
     rcases hO b with z | ⟨ob,xs,z⟩
     ·rw[q] at z;cases z
     ·have z2:=un.frzs b ob _ z;obtain⟨e1,_⟩:=hok b _ z;obtain⟨e2,_⟩:=hok' b _ z2;rw[e] at e1;cases e1;exact e2
 cases hk:K.lookup a with
 | some o =>
  have e:=KX a o hk;rw[ha] at e;cases e;refine core (fun _=>none) (fun _=>.inl rfl) (.inr ⟨_,vs.toArray,_,hk,rfl,rfl,rfl,by rw[List.size_toArray,lenV];exact hl,by simpa using rv⟩) (fun b u z=>by have z':(none:Option HO)=some u:=z;cases z') (fun b z=>absurd rfl z) fun z=>absurd rfl z
 | none =>
  refine core (fun b=>if b=a then some (.frz { cls := .type "list",data := .seq vs.toArray } (.lst (ns.map V.int))) else none) (fun b=>?_) (.inl (.inr ⟨{ cls := .type "list",data := .seq vs.toArray },if_pos rfl⟩)) (fun b u z=>?_) (fun b z=>?_) fun _=>hk
  ·by_cases hb:b=a
   ·exact .inr ⟨_,_,if_pos hb⟩
   ·exact .inl (if_neg hb)
  ·by_cases hb:b=a
   ·have z':=(if_pos hb).symm.trans z;cases z';subst hb;exact⟨ha,by rw[List.length_map];exact hl,vs,_,rv,ha⟩
   ·have z':=(if_neg hb).symm.trans z;cases z'
  ·by_cases hb:b=a
   ·exact hb
   ·exact absurd (if_neg hb) z
end L2
namespace L2
open PySem PySem.Spec PyProof.Rows
noncomputable def defArgs (s:Stmt):Arguments:=match s with
 | .FunctionDef _ a _ _ _ _ _ _ _ _=>a
 | _=>{ posonlyargs:=[],args:=[],vararg:=none,kwonlyargs:=[],kw_defaults:=[],kwarg:=none,defaults:=[] }
noncomputable def defBody (s:Stmt):List Stmt:=match s with
 | .FunctionDef _ _ b _ _ _ _ _ _ _=>b
 | _=>[]
noncomputable def defScope (s:Stmt):Scope:=match s with
 | .FunctionDef _ _ _ _ _ _ sc _ _ _=>sc
 | _=>{ kind := .function,names:=[],isGenerator:=false,isCoroutine:=false }
noncomputable abbrev CX0:CXT:=fun _ _ _ _ _ _=>False
noncomputable abbrev E0:XK:=fun _ _ _=>False
theorem pass0 {X:Cx}:Passes CX0 X E0:=fun _ _ _ _ _ _ _ h=>h.elim
structure Fun (K:PySem.W.Frag) (x qual:Str) (st:Stmt) (f:Addr) (fd:FuncData):Prop where
 ex:∃ (oc:Value) (od:Option Addr) (kV doc pm:Value) (an:Option Addr) (cdv ct:Value) (osl:Array (Option Value)),
  fd=PySem.W.fnOf x qual (defArgs st) (defBody st) (defScope st) .none kV doc pm an cdv ct∧K.lookup f=some ⟨oc,od,.func fd,osl⟩∧PySem.W.codeIn K cdv qual=true
 kp:PySem.W.keepIn K (.ref f)=true
section
variable {P:Program}{w:World}{K:PySem.W.Frag}{mg:Str→Option Value}{base:Heap}
theorem Fun.ok {x qual:Str}{st:Stmt}{f:Addr}{fd:FuncData}{N ps:List Str}{k:Nat}{sp:Sp} (F:Fun K x qual st f fd) (S:FnScope N ps (defScope st)) (len:∀ vs H Q E,sp vs H Q E→vs.length=ps.length)
  (hbody:∀ (cdv:Value) (A:Around) (outer:List Env) (s:Shared) (H:Hp) (vs:List V) (Q:VK) (E:XK),Room k (A.deeper (envOfC qual (defScope st) s.heap.objs.size f cdv))→sp vs H Q E →
   ∃ t,PSs (cxOf CX0 P w K mg base N qual (defScope st) f cdv A outer s H E).nox (defBody st) t∧t { nx:=fun _ H'=>Q .non H',rt:=Q } (start N vs) H):FnOk P w K mg base CX0 (k+1) f fd ps sp:=by
 obtain⟨oc,od,kV,doc,pm,an,cdv,ct,osl,rfl,lk,hcd⟩:=F.ex;refine fn_of lk hcd S len fun A outer s H vs Q E hr hsp=>?_
 obtain⟨t,h,q⟩:=hbody cdv A outer s H vs Q E hr hsp;exact⟨t,h.nox,q⟩
theorem Fun.binds {x qual:Str}{st:Stmt}{f:Addr}{fd:FuncData}{ps:List Str} (F:Fun K x qual st f fd)
  (h:∀ (kV doc pm:Value) (an:Option Addr) (cdv ct:Value) (us:List Value),us.length=ps.length→bindArgs (PySem.W.fnOf x qual (defArgs st) (defBody st) (defScope st) .none kV doc pm an cdv ct) ⟨us,[]⟩=pure (ps.zip us)):Binds K fd ps []:=by
 obtain⟨oc,od,kV,doc,pm,an,cdv,ct,osl,rfl,lk,hcd⟩:=F.ex;exact .all (h kV doc pm an cdv ct)
theorem fun_mk {x qual:Str}{st:Stmt}{f:Addr}{oc:Value}{od an:Option Addr}{osl:Array (Option Value)}{kV doc pm cdv ct:Value} (l:K.lookup f=some ⟨oc,od,.func (PySem.W.fnOf x qual (defArgs st) (defBody st) (defScope st) .none kV doc pm an cdv ct),osl⟩)
  (c:PySem.W.codeIn K cdv qual=true) (k:PySem.W.keepIn K (.ref f)=true):Fun K x qual st f (PySem.W.fnOf x qual (defArgs st) (defBody st) (defScope st) .none kV doc pm an cdv ct):=⟨⟨oc,od,kV,doc,pm,an,cdv,ct,osl,rfl,l,c⟩,k⟩
end
theorem hu_of {A:Around}{k:Nat} (hr:Room k A):A.units+1<cLine:=Nat.lt_of_le_of_lt (Nat.add_le_add_left (by decide:1≤64) _) hr.units
section
variable {X:Cx}
theorem pv (i:Nat) {x:Str}{pos:Pos} (hN:X.N[i]? = some x:=by rfl) (hv:Vis X.env.scope x:=by first | exact Or.inl rfl | exact Or.inr (Or.inl rfl) | exact Or.inr (Or.inr rfl)) (hd:(x == ("__debug__" : Str))=false:=by decide)
  (hcd:(x == ("__classdict__" : Str))=false:=by decide):PE X (.Name x pos) (tVar i):=pe_var hN hv hd hcd
end
theorem iteF {A B:Prop} (h:B):if false=true then A else B:=by
 rw[if_neg Bool.false_ne_true];exact h
theorem iteT {A B:Prop} (h:A):if true=true then A else B:=by
 rw[if_pos rfl];exact h
theorem ite2 {c A B:Prop} [Decidable c] (h1:c→A) (h2:¬ c→B):if c then A else B:=by
 by_cases h:c
 ·rw[if_pos h];exact h1 h
 ·rw[if_neg h];exact h2 h
theorem iteNS {c A B:Prop} [Decidable c] (hc:c) (h:B):if (!decide c)=true then A else B:=by
 rw[decide_eq_true hc];exact iteF h
noncomputable def Same (H H':Hp):Prop:=∀ b o,H b=some o→H' b=some o
theorem Same.refl (H:Hp):Same H H:=fun _ _ h=>h
theorem Same.trans {H H1 H2:Hp} (a:Same H H1) (b:Same H1 H2):Same H H2:=fun c o h=>b c o (a c o h)
theorem Same.free {H H':Hp} (e:Same H H') {l:Addr} (h:H' l=Option.none):H l=Option.none:=by
 cases q:H l with
 | none=>rfl
 | some o =>
  rw[e l o q] at h;cases h
theorem Same.seq {K:PySem.W.Frag}{H H':Hp}{a:Addr}{xs:List V} (e:Same H H') (h:SqL K H a xs):SqL K H' a xs:=by
 rcases h with (h | ⟨o,h⟩) | h
 ·exact .inl (.inl (e _ _ h))
 ·exact .inl (.inr ⟨o,e _ _ h⟩)
 ·exact .inr h
end L2
namespace OF
noncomputable abbrev Terms:=List (Int × Int)
noncomputable def coef:Terms→Int→Int
 | [],_=>0
 | p :: r,k=>(if p.1=k then p.2 else 0)+coef r k
structure IsForm (f:Terms):Prop where
 rise:f.Pairwise (fun a b=>a.1<b.1)
 nz:∀ p∈f,p.2≠0
theorem coef_append:∀ (a b:Terms) (k:Int),coef (a++b) k=coef a k+coef b k
 | [],b,k=>by simp[coef]
 | p :: r,b,k=>by
  have ih:=coef_append r b k;simp only[List.cons_append,coef,ih];omega
theorem coef_snoc (a:Terms) (p:Int × Int) (k:Int):coef (a ++ [p]) k=coef a k+(if p.1=k then p.2 else 0):=by
 rw[coef_append];simp[coef]
theorem coef_none:∀ (a:Terms) (k:Int),(∀ p∈a,p.1≠k)→coef a k=0
 | [],_,_=>rfl
 | p :: r,k,h=>by
  have h1:¬ p.1=k:=h p (by simp);simp only[coef,if_neg h1,coef_none r k fun q hq=>h q (by simp[hq])];rfl
theorem coef_head {p:Int × Int}{r:Terms} (h:∀ q∈r,p.1<q.1):coef (p :: r) p.1=p.2:=by
 simp only[coef,if_pos];rw[coef_none r p.1 fun q hq=>Int.ne_of_gt (h q hq)];omega
noncomputable def look:Terms→Int→Option Int
 | [],_=>none
 | p :: r,k=>if p.1=k then some p.2 else look r k
noncomputable def getI (d:Terms) (k:Int):Int:=(look d k).getD 0
noncomputable def putI (d:Terms) (k v:Int):Terms:=if (d.any fun p=>decide (p.1=k))=true then d.map (fun p=>if p.1=k then (p.1,v) else p) else d ++ [(k,v)]
theorem look_any (k:Int):∀ d:Terms,(d.any fun p=>decide (p.1=k))=(look d k).isSome
 | []=>rfl
 | p :: r=>by
  rw[List.any_cons,look];by_cases e:p.1=k
  ·simp[e]
  ·simp[e,look_any k r]
theorem look_map (k j v:Int):∀ d:Terms,look (d.map fun p=>if p.1=k then (p.1,v) else p) j=(look d j).map fun x=>if j=k then v else x
 | []=>rfl
 | p :: r=>by
  have ih:=look_map k j v r;rw[List.map_cons];by_cases h:p.1=k
  ·rw[if_pos h];by_cases e:p.1=j
   ·simp[look,e,show j=k from e.symm.trans h]
   ·simp[look,e,ih]
  ·rw[if_neg h];by_cases e:p.1=j
   ·simp[look,e,show ¬ j=k from fun z=>h (e.trans z)]
   ·simp[look,e,ih]
theorem look_snoc (k j v:Int):∀ d:Terms,look d k=none→look (d ++ [(k,v)]) j=if j=k then some v else look d j
 | [],_=>by
  by_cases e:k=j
  ·simp[look,e]
  ·simp[look,e,show ¬ j=k from fun z=>e z.symm]
 | p :: r,hn=>by
  have hk:¬ p.1=k:=fun z=>by simp[look,z] at hn
  have hn':look r k=none:=by simpa [look,hk] using hn
  have ih:=look_snoc k j v r hn';rw[List.cons_append];by_cases e:p.1=j
  ·simp[look,e,show ¬ j=k from fun z=>hk (e.trans z)]
  ·simp[look,e,ih]
theorem look_put (d:Terms) (k j v:Int):look (putI d k v) j=if j=k then some v else look d j:=by
 unfold putI;by_cases a:(d.any fun p=>decide (p.1=k))=true
 ·rw[if_pos a,look_map];rw[look_any] at a;by_cases e:j=k
  ·obtain⟨x,hx⟩:=Option.isSome_iff_exists.mp a;rw[e,hx];simp
  ·rw[if_neg e];cases look d j <;> simp[e]
 ·rw[if_neg a];refine look_snoc k j v d ?_;rw[look_any] at a;cases q:look d k with
  | none=>rfl
  | some x=>rw[q] at a;exact (a rfl).elim
theorem length_put (d:Terms) (k v:Int):(putI d k v).length≤d.length+1:=by
 unfold putI;split
 ·rw[List.length_map];omega
 ·simp
theorem look_mem {d:Terms}{k:Int}:look d k≠none↔k∈d.map (·.1):=by
 induction d with
 | nil=>simp[look]
 | cons p r ih =>
  rw[List.map_cons,List.mem_cons,look];by_cases e:p.1=k
  ·simp[e]
  ·have e':¬ k=p.1:=fun z=>e z.symm
   simp only[if_neg e];rw[ih];simp[e']
theorem keys_put (d:Terms) (k v:Int):(putI d k v).map (·.1)=if (look d k).isSome then d.map (·.1) else d.map (·.1) ++ [k]:=by
 unfold putI;rw[look_any];by_cases a:(look d k).isSome=true
 ·rw[if_pos a,if_pos a,List.map_map];congr 1
  funext p
  simp only[Function.comp];split <;> rfl
 ·rw[if_neg a,if_neg a,List.map_append];rfl
theorem nodup_put {d:Terms} (k v:Int) (h:(d.map (·.1)).Nodup):((putI d k v).map (·.1)).Nodup:=by
 rw[keys_put];by_cases a:(look d k).isSome=true
 ·rw[if_pos a];exact h
 ·rw[if_neg a];have hk:¬ k∈d.map (·.1):=fun m=>a (by
   have:=look_mem.mpr m
   cases q:look d k with
   | none=>exact (this q).elim
   | some x=>rfl)
  exact List.nodup_append.mpr ⟨h,by simp,fun a ha b hb=>by
   have:b=k:=by simpa using hb
   subst this;intro e;subst e;exact hk ha⟩
theorem getI_put (d:Terms) (k j v:Int):getI (putI d k v) j=if j=k then v else getI d j:=by
 unfold getI;rw[look_put];split <;> rfl
structure DictOf (d l:Terms):Prop where
 nd:(d.map (·.1)).Nodup
 len:d.length≤l.length
 val:∀ k,getI d k=coef l k
 src:∀ k∈d.map (·.1),k∈l.map (·.1)
theorem dictOf_nil:DictOf [] []:=⟨List.nodup_nil,Nat.le_refl _,fun _=>rfl,fun _ h=>h⟩
theorem DictOf.snoc {d l:Terms} (h:DictOf d l) (p:Int × Int):DictOf (putI d p.1 (getI d p.1+p.2)) (l ++ [p]):=by
 refine⟨nodup_put _ _ h.nd,?_,fun k=>?_,fun k hk=>?_⟩
 ·have:=length_put d p.1 (getI d p.1+p.2);have:=h.len;simp;omega
 ·rw[getI_put,coef_snoc,← h.val];by_cases e:k=p.1
  ·subst e;simp
  ·simp[e,show ¬ p.1=k from fun z=>e z.symm]
 ·rw[keys_put] at hk;rw[List.map_append,List.mem_append];split at hk
  ·exact .inl (h.src k hk)
  ·rcases List.mem_append.mp hk with hk | hk
   ·exact .inl (h.src k hk)
   ·exact .inr (by simpa using hk)
noncomputable def formOf (d:Terms) (ks:List Int):Terms:=(ks.filter fun k=>decide (getI d k≠0)).map fun k=>(k,getI d k)
theorem coef_formOf (d:Terms):∀ (ks:List Int),ks.Nodup→∀ k,coef (formOf d ks) k=if k∈ks then getI d k else 0
 | [],_,k=>by simp[formOf,coef]
 | a :: r,hn,k=>by
  have h1:=List.nodup_cons.mp hn;have ih:=coef_formOf d r h1.2 k;have e0:formOf d (a :: r)=if getI d a≠0 then (a,getI d a) :: formOf d r else formOf d r:=by
   unfold formOf;rw[List.filter_cons];by_cases e:getI d a=0 <;> simp[e]
  rw[e0];by_cases e:a=k
  ·subst e;have:¬ a∈r:=h1.1;by_cases z:getI d a=0
   ·simp[z,ih,this]
   ·simp[z,coef,ih,this]
  ·have e':¬ k=a:=fun z=>e z.symm
   by_cases z:getI d a=0
   ·simp[z,ih,e']
   ·simp[z,coef,ih,e,e']
theorem formOf_isForm (d:Terms) {ks:List Int} (h:ks.Pairwise (· < ·)):IsForm (formOf d ks):=by
 refine⟨?_,fun p hp=>?_⟩
 ·unfold formOf;rw[List.pairwise_map];exact (h.filter _)
 ·unfold formOf at hp;obtain⟨k,hk,e⟩:=List.mem_map.mp hp;subst e;simpa using (List.mem_filter.mp hk).2
theorem lt_of_le_nodup:∀ {ks:List Int},ks.Pairwise (· ≤ ·)→ks.Nodup→ks.Pairwise (· < ·)
 | [],_,_=>.nil
 | a :: r,h,n=>by
  have h1:=List.pairwise_cons.mp h;have n1:=List.nodup_cons.mp n;refine .cons (fun b hb=>?_) (lt_of_le_nodup h1.2 n1.2)
  have:=h1.1 b hb
  have:a≠b:=fun e=>n1.1 (e ▸ hb)
  omega
structure FormOf (f l:Terms):Prop extends IsForm f where
 val:∀ k,coef f k=coef l k
 src:∀ p∈f,p.1∈l.map (·.1)
theorem formOf_ok {d l:Terms}{ks:List Int} (h:DictOf d l) (hp:ks.Perm (d.map (·.1))) (hs:ks.Pairwise (· ≤ ·)):FormOf (formOf d ks) l:=by
 have nd:ks.Nodup:=hp.nodup_iff.mpr h.nd;refine⟨formOf_isForm d (lt_of_le_nodup hs nd),fun k=>?_,fun p hq=>?_⟩
 ·rw[coef_formOf d ks nd,← h.val];split
  ·rfl
  ·rename_i hk;unfold getI
   have:look d k=none:=by
    cases q:look d k with
    | none=>rfl
    | some x=>exact (hk (hp.mem_iff.mpr (look_mem.mp (by rw[q];simp)))).elim
   rw[this];rfl
 ·unfold formOf at hq;obtain⟨k,hk,e⟩:=List.mem_map.mp hq;subst e;exact h.src k (hp.mem_iff.mp (List.mem_filter.mp hk).1)
theorem formOf_length (d:Terms) (ks:List Int):(formOf d ks).length≤ks.length:=by
 unfold formOf;rw[List.length_map];exact List.length_filter_le _ _
end OF
namespace L2
open PySem PySem.Spec PyProof.Rows
section
variable {X:Cx}
noncomputable def CDivG (i j:Int):Prop:=0<j∧j.natAbs.log2<9000
theorem op_fdivG:OpR X (binaryOp .FloorDiv) (rI CDivG fun i j=>.int (i / j)):=opI fun i j _ _ _ _ _ hc q=>by
 have h1:(0:Int)<j:=hc.1;have e:i.fdiv j=i / j:=Int.fdiv_eq_ediv_of_nonneg i (Int.le_of_lt h1);exact floordiv_int (Int.ne_of_gt h1) (by rw[e];exact q) (.inl (PyProof.noPylong_of_log2 hc.2))
theorem op_mulO:OpR X (binaryOp .Mult) (rI IntMulOk fun i j=>.int (i * j)):=opI fun _ _ _ _ _ _ _ hc q=>mul_int q hc
theorem divG_of {j:Int} (h1:0<j) (h2:j<2^250):0<j∧j.natAbs.log2<9000:=by
 refine⟨h1,?_⟩;have h3:j.natAbs<2^250:=by
  have e:(j.natAbs:Int)=j:=by omega
  have:((j.natAbs:Nat):Int)<((2^250:Nat):Int):=by rw[e]; (have q:((2^250:Nat):Int)=(2:Int)^250:=by norm_cast);rw[q];exact h2
  exact Int.ofNat_lt.mp this
 have h4:j.natAbs≠0:=by omega
 have:=(Nat.log2_lt h4).mpr h3
 omega
theorem call_sumL (hc:X.calm=true):CallR X (.builtin "sum") (fun xs H Q=>∃ (a:Addr) (ns:List Int),xs=[.ref a]∧SqL X.K H a (ns.map V.int)∧Q (.int ns.sum) H):=by
 intro pins s σ H xs us Q I r h;obtain⟨a,ns,rfl,hq,q⟩:=h;obtain⟨u,rfl,ru⟩:=vals1 r;cases (show u=Value.ref a from ru);obtain⟨its,rv,p,hz⟩:=I.list hq;have hi:=intsAre_of rv;obtain⟨zs,hzs⟩:=hi.allInts.items;have hs:(PySem.numsOf its.toArray.toList).sum=ns.sum:=by rw[show its.toArray.toList=its from rfl,hi.numsOf]
 rw[hzs,PySem.nums_intItems] at hs;refine sum_intListG (I.ok.hd hc) (hzs ▸ p.isList) fun h' tk t' hk=>?_
 refine⟨.int ns.sum,H,I.kept (t':=tk) hk,⟨t',?_⟩,q⟩;rw[preSum_eq,List.take_of_length_le (by simp),hs]
noncomputable def rInsert:V→List V→Hp→VK→Prop:=fun x vs H Q=>∃ l xs k y,x = .ref l∧vs=[.int (k:Nat),y]∧H l=some (.lst xs)∧k≤xs.length∧xs.length<sizeLine∧Q .non (upd H l (.lst (xs.take k++y :: xs.drop k)))
theorem mt_insert:MtM X "list.insert" rInsert:=by
 intro pins s σ H x vs v us Q I rx rv h;obtain⟨l,xs,k,y,rfl,rfl,hH,hk,hz,q⟩:=h;cases rx;obtain⟨u,w',rfl,ru,rw'⟩:=rv.two;obtain⟨t,rfl⟩:=ru;obtain⟨z,its,n,r,hl,e⟩:=I.lstM hH;have hlen:=r.length;have hc0:¬ (!Builtin.List.listFitsIndex (k:Int))=true:=by
  have h1:(k:Int)<2^63:=by
   have:=line63
   have:k<2^63:=by omega
   exact_mod_cast this
  have h0:(0:Int)≤(k:Int):=Int.natCast_nonneg _;simp[Builtin.List.listFitsIndex];omega
 have hsz:its.toArray.size≤sizeLine:=by rw[List.size_toArray];omega
 obtain⟨x,hx⟩:∃ x:Int,x=(k:Int):=⟨_,rfl⟩;rw[← hx] at hc0 ⊢;have M:=AutoSeq1.list_insert_list_int_val_1 l its.toArray n x t w' hc0 hsz;refine call_meets F.slot_list_insert ⟨_,e,rfl⟩ F.entry_list_insert (F.args_list_insert_3 _ _ _) M ⟨e,?_⟩;refine⟨.non,_,I.lset (its':=its.take k++w' :: its.drop k) hH e ?_ (Vals.append (r.take k) (.cons rw' (r.drop k))) ?_,rfl,q⟩
 ·have h1:¬ (x<0):=by omega
  have h2:min x.toNat its.toArray.size=k:=by rw[List.size_toArray];omega
  apply Array.ext';simp only[if_neg h1,h2];simp[List.extract_eq_take_drop];rw[List.take_of_length_le (by rw[List.length_drop];exact Nat.le_refl _)]
 ·rw[List.length_append,List.length_cons,List.length_take,List.length_drop];omega
end
end L2
namespace L2
open PySem PySem.Spec PyProof.Rows
theorem ObjOk.there {P:Program}{w:World}{H:Hp}{h:Heap}{a:Addr}{o:HO} (x:ObjOk P w H h a o):∃ ob,h.get? a=some ob:=by
 cases o with
 | lst xs=>obtain⟨_,_,_,_,e⟩:=x;exact⟨_,e⟩
 | tup xs=>obtain⟨_,_,_,o,e,_⟩:=x;exact⟨_,e⟩
 | dK kvs=>obtain⟨_,_,_,_,o,_,_,e,_⟩:=x;exact⟨_,e⟩
 | dT kvs=>obtain⟨_,_,_,_,o,_,_,e,_⟩:=x;exact⟨_,e⟩
 | set S n=>obtain⟨o,_,_,_,e,_⟩:=x;exact⟨_,e⟩
 | ins C dx fs=>obtain⟨_,_,_,e,_⟩:=x;exact⟨_,e⟩
 | own y=>exact x
 | xd fs=>obtain⟨_,⟨_,_,_,e,_⟩,_⟩:=x;exact⟨_,e⟩
 | rng lo hi=>obtain⟨_,_,_,e⟩:=x;exact⟨_,e⟩
 | frz ob u=>obtain⟨e,_⟩:=x;exact⟨_,e⟩
 | tbl ps=>exact⟨_,x⟩
 | met f y=>exact⟨_,x⟩
 | ext φ => obtain⟨_,e,_⟩:=x;exact e
theorem Inv.laidN {X:Cx}{pins:List (Addr × Obj)} {σ:St}{H:Hp}{s:Shared}{h':Heap}{a:Addr}{o:HO}{t':Nat} (I:Inv X pins σ H s) (k:∀ b u,s.heap.get? b=some u→h'.get? b=some u) (hn:s.heap.get? a=none)
  (new:ObjOk X.prog X.w (upd H a o) h' a o):Inv X pins σ (upd H a o) { s with heap:=h',toks:=t' }:=by
 have hH:H a=none:=by
  cases q:H a with
  | none=>rfl
  | some u =>
   obtain⟨ob,e⟩:=(I.hok a u q).there;rw[hn] at e;cases e
 refine I.un ⟨fun b u q _ _ _=>k b u q,fun b u q _ _ _=>⟨u.slots,k b u q⟩,fun b u q n _=>?_,fun b u q _=>⟨u,k b u q⟩,fun b xs q=>?_,fun b u xs q=>?_,fun b ps q=>⟨#[],?_⟩⟩ fun b u e=>?_
 ·rw[upd_ne (by intro z;rw[z,hn] at q;cases q)];exact n
 ·rw[upd_ne (ne_of_none q hH)];exact q
 ·rw[upd_ne (ne_of_none q hH)];exact q
 ·rw[upd_ne (ne_of_none q hH),q];simp
 ·by_cases hb:b=a
  ·subst hb;rw[upd_same] at e;cases e;exact new
  ·rw[upd_ne hb] at e;exact (I.hok b u e).stay (fun c v _ q=>k c v q) (fun c q=>by rw[upd_ne (ne_of_none q hH)];exact q) fun c xs q=>by rw[upd_ne (ne_of_none q hH)];exact q
theorem closureFor_of {env:Env}:∀ (names:List (Str × NameKind)) (acc:List (Str × Addr)),(∀ x,(x,NameKind.free)∈names→∃ c,env.cells.lookup x=some c) →
  ∃ cl,(forIn names acc fun (x:Str × NameKind) (cs:List (Str × Addr))=>(if (x.2 == NameKind.free)=true then (do let a ← cellOf env x.1;pure (ForInStep.yield ((x.1,a) :: cs))) else pure (ForInStep.yield cs):Sem (ForInStep (List (Str × Addr)))))=pure cl ∧
   ∀ x,cl.lookup x=(if (x,NameKind.free)∈names then env.cells.lookup x else acc.lookup x)
 | [],acc,_=>⟨acc,rfl,fun x=>by simp⟩
 | (n,k) :: r,acc,h=>by
  by_cases hk:k=NameKind.free
  ·subst hk;obtain⟨c,hc⟩:=h n (by simp);obtain⟨cl,e,l⟩:=closureFor_of (env:=env) r ((n,c) :: acc) fun x hx=>h x (by simp[hx])
   refine⟨cl,?_,fun x=>?_⟩
   ·rw[List.forIn_cons];have hcell:cellOf env n=pure c:=by unfold cellOf;rw[hc]
    simp only[beq_self_eq_true,if_true,hcell,pure_bind];exact e
   ·rw[l x];by_cases hx:(x,NameKind.free)∈r
    ·simp[hx]
    ·by_cases hn:x=n
     ·subst hn;simp[hx,hc]
     ·have hb:(x == n)=false:=by simpa using hn
      simp[hx,hn,List.lookup_cons,hb]
  ·have hb:(k == NameKind.free)=false:=by simpa using hk
   obtain⟨cl,e,l⟩:=closureFor_of (env:=env) r acc fun x hx=>h x (by simp[hx])
   refine⟨cl,?_,fun x=>?_⟩
   ·rw[List.forIn_cons];simp only[hb,Bool.false_eq_true,if_false,pure_bind];exact e
   ·rw[l x];have:¬ ((x,NameKind.free)=(n,k)):=fun z=>hk (by injection z with _ z2;exact z2.symm)
    simp[List.mem_cons,this]
theorem lookup_relabel (env:Env) (x:Str):∀ (names:List (Str × NameKind)),(names.map fun (n,k)=>if (k == NameKind.free && env.scope.kind == .function && env.kindOf n == some .cell) then (n,NameKind.cell) else (n,k)).lookup x =
  (names.lookup x).map fun k=>if (k == NameKind.free && env.scope.kind == .function && env.kindOf x == some .cell) then NameKind.cell else k
 | []=>rfl
 | (n,k) :: r=>by
  have ih:=lookup_relabel env x r;show List.lookup x ((if (k == NameKind.free && env.scope.kind == .function && env.kindOf n == some .cell)=true then (n,NameKind.cell) else (n,k)) :: _)=_;by_cases hx:x=n
  ·subst hx;split <;> simp_all [List.lookup_cons]
  ·have hb:(x == n)=false:=by simpa using hx
   split
   ·simp only[List.lookup_cons,hb];exact ih
   ·simp only[List.lookup_cons,hb];exact ih
noncomputable abbrev cxComp (X:Cx) (N':List Str) (scope:Scope) (cl:List (Str × Addr)) (C:Addr) (s₀:Shared) (H₀:Hp) (fp:List Addr):Cx :=
 { X with N:=N',s₀:=s₀,H₀:=H₀,env:=compEnvC scope cl C X.env,outer:=X.stack,ex:=fp,fn:=fun _=>false,pn:=[],xe:=fun _ _=>False }
structure CompSc (X:Cx) (scope:Scope) (N':List Str) (nT:Nat) (js:List Nat):Prop where
 kind:scope.kind = .function
 nocell:∀ y∈scope.names,y.2 ≠ .cell
 names:∀ y∈scope.names,y.2 = .local→scope.names.lookup y.1=some .local
 len:N'.length=nT+js.length
 frees:∀ (k j:Nat) (x:Str),js[k]? = some j→N'[nT+k]? = some x→X.N[j]? = some x
 kinds:∀ y∈scope.names,y.2 = .free→X.env.scope.names.lookup y.1=some .cell
 vis:∀ x∈N'.drop nT,scope.names.lookup x=some .free
noncomputable def startC (nT:Nat) (js:List Nat) (σ:St):St:=List.replicate nT none++js.map fun j=>(σ[j]?).join
noncomputable def tComp (wi:TI) (nT:Nat) (js:List Nat) (g:TG) (tc:TT) (te:TE):TE:=fun σ H Q=>wi σ H fun J H1=>∃ W:Nat→Nat→List V→St→Hp→Prop,(∃ m,W 0 m [] (startC nT js σ) H1)∧∀ i m ys σ H,W i m ys σ H →
 (J.stop i H∧∀ D,H D=none→Q (.ref D) (upd H D (.lst ys))) ∨
 (J.go i H∧ys.length<sizeLine∧∃ N:List V→St→Hp→Prop,(∀ ys' σ' H',N ys' σ' H'→∃ m',m'<m∧W (i+1) m' ys' σ' H') ∧
  ∀ x H',J.yld i H x H'→g x σ H' fun σ2 H2=>tc σ2 H2 fun b H3=>if b=true then te σ2 H3 fun y H4=>N (ys ++ [y]) σ2 H4 else N ys σ2 H3)
noncomputable def PTs (X:Cx) (ifs:List Expr) (t:TT):Prop :=
 ∀ (pins:List (Addr × Obj)) (s:Shared) (σ:St) (H:Hp) (Q:Bool→Hp→Prop),Inv X pins σ H s→t σ H Q →
  wpAny (model X.prog X.w) X.A (forIn ifs true fun c r=>if r=true then do let ok ← isTrue c X.env (eval c X.env);pure (ForInStep.yield ok) else pure (ForInStep.yield r)) (TP X pins σ Q) X.xe s
noncomputable def tTrue:TT:=fun _ H Q=>Q true H
theorem pts_nil {X:Cx}:PTs X [] tTrue:=fun _ _ _ H _ I h=>wpAny_tests_nil ⟨H,I,h⟩
theorem pts_one {X:Cx}{c:Expr}{t:TT} (h:PT X c t):PTs X [c] t:=fun pins s σ H Q I q=>wpAny_tests_one (h pins s σ H Q I q)
section
variable {prog:Program}{w:World}{A:Around}{R:Result→Shared→Prop}{s:Shared}
theorem compLoop_any {elt target iter:Expr}{ifs:List Expr}{scope:Scope}{pos:Pos}{it acc:Value}{env:Env} (I:Nat→Shared→Prop)
  (turn:∀ n s,I n s→wpAny (model prog w) A (pyNext it) (fun r s₁=>match r with
   | none=>R (.ok .next) s₁
   | some v=>wpAny (model prog w) A (letOwnedTupleGo target it v) (fun _ s₁'=>wpAny (model prog w) A (assign target env v) (fun _ s₂ =>
     wpAny (model prog w) A (forIn ifs true fun c r=>if r=true then do let ok ← isTrue c env (eval c env);pure (ForInStep.yield ok) else pure (ForInStep.yield r)) (fun ok s₃ =>
      if ok=true then wpAny (model prog w) A (eval elt env) (fun x s₄ =>
       wpAny (model prog w) A (call (.builtin "list.append") [acc,x]) (fun _ s₅=>∃ m,m<n∧I m s₅) (fun _ _=>False) s₄) (fun _ _=>False) s₃
      else ∃ m,m<n∧I m s₃) (fun _ _=>False) s₂) (fun _ _=>False) s₁') (fun _ _=>False) s₁) (fun _ _=>False) s)
  (n:Nat) (h:I n s) :
  codeAny (model prog w) A (.compLoop (.ListComp elt [⟨target,iter,ifs,0⟩] scope pos) 0 it acc env) R s:=by
 refine codeAny_loop rfl I (fun n s hI=>?_) n h;show wpAny _ A ((compTurn (.ListComp elt [⟨target,iter,ifs,0⟩] scope pos) 0 it acc env).onRaise (fun x=>do noteFrame x env;theTreesLotGoes x)) _ _ s;refine wpAny_noted ?_;rw[compTurn_list];refine wpAny_bind (wpAny_standAt (wpAny_bind (wpAny_mono (turn n s hI) (fun r s₁ h₁=>?_) fun _ _ h'=>h'.elim)));cases r with
 | none=>exact wpAny_pure h₁
 | some v =>
  refine wpAny_bind (wpAny_mono h₁ (fun _ s₁' h₁'=>?_) fun _ _ h'=>h'.elim);refine wpAny_bind (wpAny_mono h₁' (fun _ s₂ h₂=>wpAny_bind (wpAny_mono h₂ (fun ok s₃ h₃=>?_) fun _ _ h'=>h'.elim)) fun _ _ h'=>h'.elim);cases ok with
  | false=>exact wpAny_pure ⟨rfl,h₃⟩
  | true =>
   exact wpAny_bind (wpAny_bind (wpAny_mono h₃ (fun x s₄ h₄=>wpAny_bind (wpAny_mono h₄ (fun _ s₅ h₅=>wpAny_pure (wpAny_pure ⟨rfl,h₅⟩)) fun _ _ h'=>h'.elim)) fun _ _ h'=>h'.elim))
end
set_option maxHeartbeats 4000000 in
theorem comp_core {X:Cx}{tg iter elt:Expr}{ifs:List Expr}{scope:Scope}{pos:Pos}{N':List Str}{nT:Nat}{js:List Nat}{g:TG}{tc:TT}{te:TE}{RR:Value→Addr→Result→Shared→Prop}
  (hc:X.calm=true) (S:CompSc X scope N' nT js) {pins:List (Addr × Obj)} {σ:St}{H2:Hp}{s2:Shared}{cl:List (Str × Addr)}{it:Addr}{fp:List Addr}{tn:Nat→Heap→Prop}{J:It}
  (hcl:∀ x,cl.lookup x=(if (x,NameKind.free)∈scope.names then X.env.cells.lookup x else none))
  (hg:∀ C s₀ H₀ fp,PG (cxComp X N' scope cl C s₀ H₀ fp) tg g) (ht:∀ C s₀ H₀ fp,PTs (cxComp X N' scope cl C s₀ H₀ fp) ifs tc) (he:∀ C s₀ H₀ fp,PE (cxComp X N' scope cl C s₀ H₀ fp) elt te)
  (I2:Inv X pins σ H2 s2) (T:Turn X.prog X.w X.K tg J fp it tn) (st2:tn 0 s2.heap) (f2:∀ b∈fp,FpOk X pins H2 b) {QQ:Addr→List V→Hp→Prop}
  (W:Nat→Nat→List V→St→Hp→Prop) (w0:∃ m,W 0 m [] (startC nT js σ) H2)
  (turn:∀ i m ys σ H,W i m ys σ H→(J.stop i H∧∀ D,H D=none→QQ D ys H) ∨
   (J.go i H∧ys.length<sizeLine∧∃ N:List V→St→Hp→Prop,(∀ ys' σ' H',N ys' σ' H'→∃ m',m'<m∧W (i+1) m' ys' σ' H') ∧
    ∀ x H',J.yld i H x H'→g x σ H' fun σ2 H2=>tc σ2 H2 fun b H3=>if b=true then te σ2 H3 fun y H4=>N (ys ++ [y]) σ2 H4 else N ys σ2 H3))
  (hRR:∀ (D C:Addr) (s':Shared) (ys:List V) (H':Hp) (m:Str→Option Value),QQ D ys H'→s'.heap.Ns C m→s2.heap.get? C=none→s2.heap.objs.size≤C→D≠C→H' C=none→(∀ h',Heap.SameBut C s'.heap h'→Inv X pins σ (upd H' D (.lst ys)) { s' with heap:=h' })→RR (.ref D) C (.ok .next) s') :
  wpAny (model X.prog X.w) X.A (newList []) (fun acc s₃=>wpAny (model X.prog X.w) X.A (newFunctionEnv scope X.env.globals cl [] X.env.qual none .none (some X.env)) (fun cenv s₄ =>
   codeAny (model X.prog X.w) X.A (.compStart (.ListComp elt [⟨tg,iter,ifs,0⟩] scope pos) 0 (.ref it) acc { cenv with scope:=relabel scope X.env }) (RR acc cenv.locals) s₄) (fun _ _=>False) s₃) (fun _ _=>False) s2:=by
 refine wpAny_newObj_type (wpAny_newFunctionEnv S.nocell (by intro y hy;simp at hy) (fun h₁ hns₁ hsb₁=>?_) S.kind);dsimp only at hns₁ hsb₁ ⊢;generalize hH2:s2.heap.push { cls := .type "list",dict:=none,data := .seq ([]:List Value).toArray }=G2 at hns₁ hsb₁ ⊢;have hC:G2.objs.size=s2.heap.objs.size+1:=by rw[← hH2,Heap.size_push]
 generalize hCC:G2.objs.size=C at hns₁ hsb₁ hC ⊢;generalize hDD:s2.heap.objs.size=D at hC ⊢;have hDC:D≠C:=by omega
 have below:∀ b o,s2.heap.get? b=some o→b≠C∧b≠D:=fun b o e=>by
  have h:@LT.lt Nat _ b s2.heap.objs.size:=Heap.lt_size e;exact⟨fun z=>by have z':@Eq Nat b C:=z;omega,fun z=>by have z':@Eq Nat b D:=z;omega⟩
 have old:∀ b o,s2.heap.get? b=some o→h₁.get? b=some o:=fun b o e=>hsb₁.extBut b o (below b o e).1 (Heap.get?_push_of_some _ (hH2 ▸ Heap.get?_push_of_some _ e))
 have hacc:h₁.get? D=some { cls := .type "list",data := .seq ([]:List Value).toArray }:=hsb₁.extBut _ _ hDC (Heap.get?_push_of_some _ (by rw[← hH2,← hDD];exact Heap.get?_push_size _ rfl));have nC:s2.heap.get? C=none:=Heap.get?_none_of_le (by omega);have nD:s2.heap.get? D=none:=Heap.get?_none_of_le (by omega);have fC:H2 C=none:=I2.hok.fresh (by omega);have fD:H2 D=none:=I2.hok.fresh (by omega);have fpl:∀ b∈fp,b≠C∧b≠D:=fun b hb=>by obtain⟨o,e,_⟩:=T.obj _ _ st2 b hb;exact below b o e
 have nstk:∀ b∈fp,b ∉ frs X.stack:=fun b hb z=>by
  obtain⟨_,f1,f3,_⟩:=f2 b hb;rcases List.mem_cons.mp (I2.stkSub b z) with e | e
  ·exact f1 e
  ·exact f3 e
 have clO:∀ x c,cl.lookup x=some c→X.env.cells.lookup x=some c∧(x,NameKind.free)∈scope.names:=fun x c e=>by
  rw[hcl] at e;split at e
  ·rename_i hm;exact⟨e,hm⟩
  ·cases e
 have stkD:∀ b∈frs X.stack,b≠D∧b≠C:=fun b hb=>by
  have h:=I2.stkSub b hb;rcases List.mem_cons.mp h with e | e
  ·have h1:@LT.lt Nat _ X.env.locals s2.heap.objs.size:=I2.lt;have h2:@Eq Nat b X.env.locals:=e;exact⟨fun z=>by have z':@Eq Nat b D:=z;omega,fun z=>by have z':@Eq Nat b C:=z;omega⟩
  ·obtain⟨_,o,ho,_⟩:=I2.ok.funs.mem e;have h1:@LT.lt Nat _ b X.s₀.heap.objs.size:=Heap.lt_size ho;have h2:=I2.sz;exact⟨fun z=>by have z':@Eq Nat b D:=z;omega,fun z=>by have z':@Eq Nat b C:=z;omega⟩
 have ok':(cxComp X N' scope cl C s2 H2 fp).Ok:=by
  refine⟨I2.ok.mod,S.kind,I2.ok.glob,I2.ok.blt,(by show s2.heap.objs.size≤C;omega),fun x y c h1 h2=>I2.ok.inj x y c (clO x c h1).1 (clO y c h2).1,fun x hx=>?_,fun x c hx _=>(Bool.false_ne_true hx).elim,fun _=>I2.ok.hd hc,I2.ok.frames,.inl rfl,
   fun b hb=>⟨(fpl b hb).1,fun x c e=>(f2 b hb).2.2.2.2.1 x c (clO x c e).1⟩,I2.bs,Nat.le_trans I2.ok.bsz I2.sz,fun b o e hb=>?_,nstk,I2.stack,I2.stkFree⟩
  ·have hx':(relabel scope X.env).names.lookup x=some .cell∨(relabel scope X.env).names.lookup x=some .free:=hx;have hk:(relabel scope X.env).names.lookup x=_:=lookup_relabel X.env x scope.names;rw[hk] at hx';have hf:(x,NameKind.free)∈scope.names:=by
    cases q:scope.names.lookup x with
    | none=>rw[q] at hx';rcases hx' with z | z <;> cases z
    | some k =>
     have hm:=PySem.mem_of_lookup q;cases k with
     | free=>exact hm
     | cell=>exact absurd rfl (S.nocell _ hm)
     | _=>rw[q] at hx';rcases hx' with z | z <;> simp at z
   obtain⟨c,e⟩:=I2.ok.has x (.inl (S.kinds _ hf rfl));exact⟨c,by show cl.lookup x=some c;rw[hcl,if_pos hf];exact e⟩
  ·rcases (f2 b hb).2.2.2.1 with z | z
   ·exact I2.ok.noex b o e z
   ·have h1:@LT.lt Nat _ b X.s₀.heap.objs.size:=Heap.lt_size (I2.ok.bs b o e).1;have h2:@LE.le Nat _ X.s₀.heap.objs.size b:=z;omega
 have I0:Inv (cxComp X N' scope cl C s2 H2 fp) [] (startC nT js σ) H2 { s2 with heap:=h₁,toks:=s2.toks+([]:List (Str × Value)).length }:=by
  refine⟨ok',rfl,I2.bare,Un.kept old,⟨_,hns₁,fun i x v e1 e2 e3=>?_⟩,fun x c e=>?_,fC,fun x c e=>I2.freeC x c (clO x c e).1,fun p hp=>absurd (show p∈([]:List (Addr × Obj)) from hp) (by simp),I2.hok.kept old,?_⟩
  ·unfold startC at e2;by_cases hi:i<nT
   ·rw[List.getElem?_append_left (by simpa using hi),List.getElem?_replicate,if_pos hi] at e2;cases e2
   ·rw[List.getElem?_append_right (by simpa using hi),List.length_replicate,List.getElem?_map] at e2;obtain⟨k,hk⟩:∃ k,i=nT+k:=⟨i-nT,by omega⟩;subst hk;rw[Nat.add_sub_cancel_left] at e2;cases q:js[k]? with
    | none=>rw[q] at e2;cases e2
    | some j =>
     rw[q] at e2;have e2':(σ[j]?).join=some v:=Option.some.inj e2;have e3' : σ[j]? = some (some v):=by
      cases z : σ[j]? with
      | none=>rw[z] at e2';cases e2'
      | some a=>rw[z] at e2';exact congrArg some e2'
     have hxN:=S.frees k j x q e1;have hlk:scope.names.lookup x=some .free:=S.vis x (by
      rw[List.mem_iff_getElem?];exact⟨k,by rw[List.getElem?_drop];exact e1⟩)
     have hfree:(x,NameKind.free)∈scope.names:=PySem.mem_of_lookup hlk;have hcell:=S.kinds _ hfree rfl;obtain⟨m,hn,hl⟩:=I2.loc;obtain⟨u,r,l⟩:=hl j x v hxN e3' (.inr (.inl hcell));refine⟨u,r,?_⟩;rcases l with ⟨l,_⟩ | ⟨_,c,ec,ic⟩
     ·have l':X.env.scope.names.lookup x=some .local:=l;rw[hcell] at l';cases l'
     ·refine .inr ⟨?_,c,?_,?_⟩
      ·left;show (relabel scope X.env).names.lookup x=some .cell;have hk:(relabel scope X.env).names.lookup x=_:=lookup_relabel X.env x scope.names;have hkind:X.env.scope.kind = .function:=I2.ok.kind;have hko:X.env.kindOf x=some .cell:=hcell;rw[hk,hlk,Option.map_some,hkind,hko];rfl
      ·show cl.lookup x=some c;rw[hcl,if_pos hfree];exact ec
      ·exact ic.keeps old
  ·obtain⟨v,q⟩:=I2.cell x c (clO x c e).1;exact⟨v,q.keeps old⟩
  ·unfold startC;rw[List.length_append,List.length_replicate,List.length_map];exact S.len.symm
 have lp:∀ s₃:Shared,s₃={ s2 with heap:=h₁,toks:=s2.toks+([]:List (Str × Value)).length } →
   codeAny (model X.prog X.w) X.A (.compLoop (.ListComp elt [⟨tg,iter,ifs,0⟩] scope pos) 0 (.ref it) (.ref D) (compEnvC scope cl C X.env)) (RR (.ref D) C) s₃:=by
  rintro s₃ rfl;obtain⟨m0,w0⟩:=w0;refine compLoop_any (fun n s'=>∃ (i:Nat) (ys:List V) (its:List Value) (no:Nat) (σ':St) (H':Hp),Inv (cxComp X N' scope cl C s2 H2 fp) [(D,{ cls := .type "list",data := .seq its.toArray no })] σ' H' s'∧Vals ys its∧tn i s'.heap∧(∀ b∈fp,H' b=none)∧ys.length≤sizeLine∧W i n ys σ' H') ?_ m0
   ⟨0,[],[],0,startC nT js σ,H2,I0.pins_of fun p hp=>?_,.nil,T.keep _ _ _ st2 fun b _ o e=>old b o e,fun b hb=>(f2 b hb).1,Nat.zero_le _,w0⟩
  ·rintro n s3 ⟨i,ys,its,no,σ3,H3,I3,rv,st3,fr3,hz,w3⟩;have fpk:∀ {H':Hp},(∀ b∈fp,H' b=none)→∀ b∈fp,FpOk (cxComp X N' scope cl C s2 H2 fp) [(D,{ cls := .type "list",data := .seq its.toArray no })] H' b:=fun hn b hb =>
    ⟨hn b hb,(fpl b hb).1,nstk b hb,.inl hb,fun x c e=>(f2 b hb).2.2.2.2.1 x c (clO x c e).1,fun p hp=>by
     have e:p=(D,{ cls := .type "list",data := .seq its.toArray no }):=by simpa using hp
     rw[e];exact Ne.symm (fpl b hb).2⟩
   rcases turn i n ys σ3 H3 w3 with ⟨stop,q⟩ | ⟨go,hlt,N,hN,step⟩
   ·refine wpAny_mono (T.done (cxComp X N' scope cl C s2 H2 fp) rfl rfl rfl hc i _ s3 σ3 H3 (fun _ _=>False) I3 (fpk fr3) st3 stop) (fun r s4 ⟨hr,I4⟩=>?_) fun _ _ h=>h
    subst hr;obtain⟨pD1,pD2,pD3,pD4,_⟩:=I4.pin (D,{ cls := .type "list",data := .seq its.toArray no }) (by simp);obtain⟨m,hn,_⟩:=I4.loc;have fC4:H3 C=none:=I4.free;refine hRR D C s4 ys H3 m (q D pD2) hn nC (by omega) hDC fC4 fun h' sb=>?_
    have k4:∀ b o,b≠C→s4.heap.get? b=some o→h'.get? b=some o:=fun b o hb e=>sb.extBut b o hb e
    have tne:∀ b u,H3 b=some u→b≠D:=fun b u e=>ne_of_none e pD2
    refine I2.call' (s':={ s4 with heap:=h' }) (ch:=fp) I4.os ⟨fun b o e n hb hx=>k4 b o (below b o e).1 (I4.base.keep b o e n hb hx),fun b o e n hb hx=>?_,fun b o e n hx=>?_,fun b o e hx=>?_,fun b xs e=>?_,fun b o u e=>?_,fun b ps e=>?_⟩ (fun b u e=>?_) I4.bare fun b hb=>?_
    ·obtain⟨sl,e'⟩:=I4.base.slot b o e n hb hx;exact⟨sl,k4 b _ (below b o e).1 e'⟩
    ·rw[upd_ne (below b o e).2];exact I4.base.free b o e n hx
    ·obtain⟨o',e'⟩:=I4.base.there b o e hx;exact⟨o',k4 b o' (below b o e).1 e'⟩
    ·have e':=I4.base.tups b xs e;rw[upd_ne (tne b _ e')];exact e'
    ·have e':=I4.base.frzs b o u e;rw[upd_ne (tne b _ e')];exact e'
    ·obtain⟨more,e'⟩:=I4.base.tbls b ps e;exact⟨more,by rw[upd_ne (tne b _ e')];exact e'⟩
    ·by_cases hb:b=D
     ·subst hb;rw[upd_same] at e;cases e;exact⟨hz,its,no,rv,k4 b _ hDC pD1⟩
     ·rw[upd_ne hb] at e;refine (I4.hok b u e).stay (fun c v hcc z=>k4 c v ?_ z) (fun c z=>by rw[upd_ne (tne c _ z)];exact z) fun c xs z=>by rw[upd_ne (tne c _ z)];exact z
      rcases hcc with rfl | hcc
      ·exact ne_of_none e fC4
      ·exact ne_of_none hcc fC4
    ·obtain⟨_,g1,_,g3,g4,g5⟩:=f2 b hb;exact⟨g3,g1,g4,g5⟩
   ·refine wpAny_mono (T.item (cxComp X N' scope cl C s2 H2 fp) rfl rfl rfl hc i _ s3 σ3 H3 (fun _ _=>False) I3 (fpk fr3) st3 go) (fun r s4 ⟨u,hr,h4⟩=>?_) fun _ _ h=>h
    subst hr;refine wpAny_mono h4 (fun _ s5 ⟨x,H5,I5,r5,y5,st5,fr5⟩=>?_) fun _ _ h=>h
    have I5':=I5.pinned (fpk fr5) (T.obj _ _ st5);refine wpAny_mono (hg C s2 H2 fp _ s5 σ3 H5 x u _ I5' r5 (step x H5 y5)) (fun _ s6 ⟨σ6,H6,I6,q6⟩=>?_) fun _ _ h=>h
    refine wpAny_mono (ht C s2 H2 fp _ s6 σ6 H6 _ I6 q6) (fun ok s7 ⟨H7,I7,q7⟩=>?_) fun _ _ h=>h
    have back:∀ {pp:List (Addr × Obj)}{s':Shared} {σ':St}{H':Hp},(∀ b∈fp,∀ o,s5.heap.get? b=some o→(b,o)∈pp)→Inv (cxComp X N' scope cl C s2 H2 fp) pp σ' H' s'→tn (i+1) s'.heap∧∀ b∈fp,H' b=none:=fun {pp s' σ' H'} hpp I'=>by
     refine⟨T.keep _ _ _ st5 fun b hb o e=>(I'.pin (b,o) (List.mem_append_right _ (hpp b hb o e))).1,fun b hb=>?_⟩;obtain⟨o,e,d⟩:=T.obj _ _ st5 b hb;exact (I'.pin (b,o) (List.mem_append_right _ (hpp b hb o e))).2.1
    have inpp:∀ b∈fp,∀ o,s5.heap.get? b=some o→(b,o)∈[(D,({ cls := .type "list",data := .seq its.toArray no }:Obj))]++pinsAt fp s5.heap:=fun b hb o e=>List.mem_append_right _ (mem_pinsAt hb e)
    cases ok with
    | false =>
     rw[if_neg Bool.false_ne_true];rw[if_neg Bool.false_ne_true] at q7;obtain⟨m',hm,w7⟩:=hN _ _ _ q7;obtain⟨b1,b2⟩:=back inpp I7;exact⟨m',hm,i+1,ys,its,no,σ6,H7,I7.unpinned,rv,b1,b2,hz,w7⟩
    | true =>
     rw[if_pos rfl];rw[if_pos rfl] at q7;refine wpAny_mono (he C s2 H2 fp _ s7 σ6 H7 _ I7 q7) (fun v8 s8 ⟨y,H8,I8,r8,q8⟩=>?_) fun _ _ h=>h
     obtain⟨eD,nD8,neL,nf,_⟩:=I8.pin (D,{ cls := .type "list",data := .seq its.toArray no }) (List.mem_append_right _ (List.mem_append_left _ (by simp)));have hlen:=rv.length;refine call_meets F.slot_list_append ⟨_,eD,rfl⟩ F.entry_list_append (F.args_list_append_2 _ _) (PySem.list_append D its.toArray no v8 (by rw[List.size_toArray];omega)) ⟨eD,?_⟩;obtain⟨m',hm,w8⟩:=hN _ _ _ q8;have I9:Inv (cxComp X N' scope cl C s2 H2 fp) (pinsAt fp s5.heap) σ6 H8 s8:=I8.pins_of fun p hp=>I8.pin p (List.mem_append_right _ (List.mem_append_right _ hp))
     have hup:=get?_update_seq eD (fun a=>a.push v8);have I10:=I9.turned (h':=s8.heap.update D (Obj.mapSeq fun a=>a.push v8)) (t':=s8.toks) (it:=D) (fun b o hb e=>(Heap.get?_update_ne _ _ _ _ hb).trans e) nD8 neL (.inr (by show s2.heap.objs.size≤D;omega))
      (fun x c e z=>by
       obtain⟨v,oc,hoc,hdc⟩:=I8.cell x c e;rw[z,eD] at hoc;cases hoc;cases hdc) (fun p hp z=>by
        have hp':p∈pinsAt fp s5.heap:=by simpa using hp
        exact (fpl p.1 (of_pinsAt hp').1).2 z)
     obtain⟨b1,b2⟩:=back (fun b hb o e=>mem_pinsAt hb e) I10;refine⟨m',hm,i+1,ys ++ [y],its ++ [v8],(if ((its.toArray.push v8).size == its.toArray.size)=true then no else no+1),σ6,H8,I10.pins_of fun p hp=>?_,rv.append (.cons r8 .nil),b1,b2,(by rw[List.length_append];simp;omega),w8⟩;obtain rfl:=List.mem_singleton.mp hp;refine⟨?_,nD8,neL,nf,fun v z=>by cases z⟩;refine hup.trans ?_;rw[List.push_toArray]
  ·have e:p=(D,{ cls := .type "list",data := .seq ([]:List Value).toArray }):=by simpa using hp
   subst e;exact⟨hacc,fD,hDC,fun z=>(stkD D z).1 rfl,fun v z=>by cases z⟩
 exact codeAny_compStart_list (lp _ rfl) (T.self _ 0 _ _ _ (T.keep _ _ _ st2 fun b _ o e=>old b o e) (lp _ rfl))
theorem pe_comp {X:Cx}{tg iter elt:Expr}{ifs:List Expr}{scope:Scope}{pos:Pos} (N':List Str) (nT:Nat) (js:List Nat) {wi:TI}{g:TG}{tc:TT}{te:TE}
  (hc:X.calm=true) (S:CompSc X.nox scope N' nT js) (hi:PI X.nox tg iter wi)
  (hg:∀ cl C s₀ H₀ fp,PG (cxComp X.nox N' scope cl C s₀ H₀ fp) tg g) (ht:∀ cl C s₀ H₀ fp,PTs (cxComp X.nox N' scope cl C s₀ H₀ fp) ifs tc) (he:∀ cl C s₀ H₀ fp,PE (cxComp X.nox N' scope cl C s₀ H₀ fp) elt te)
  (hs:∀ x,foldedSetIterable iter X.env x=pure x:=by intro _;rfl) :
  PE X.nox (.ListComp elt [⟨tg,iter,ifs,0⟩] scope pos) (tComp wi nT js g tc te):=by
 intro pins s σ H Q I h;rw[eval_ListComp];obtain⟨cl,e,l⟩:=closureFor_of (env:=X.env) scope.names [] fun x hx=>I.ok.has x (.inl (S.kinds _ hx rfl))
 have hclos:closureFor scope X.env=pure cl:=by
  unfold closureFor;show (forIn scope.names [] fun (x:Str × NameKind) (cs:List (Str × Addr))=>(if (x.2 == NameKind.free)=true then (do let a ← cellOf X.env x.1;pure (ForInStep.yield ((x.1,a) :: cs))) else pure (ForInStep.yield cs):Sem (ForInStep (List (Str × Addr))))) >>= (fun s=>pure s)=pure cl;rw[e,pure_bind]
 refine wpAny_comprehension_free (cl:=cl) (use:=none) rfl hs hclos S.kind S.names ?_;refine thn (hi pins s σ H _ I h) fun v s1 h1=>thn h1 fun itv s2 h2=>?_
 obtain⟨it,fp,tn,J,H2,rfl,I2,T,st2,f2,W,w0,turn⟩:=h2;refine comp_core (X:=X.nox) (QQ:=fun D ys H'=>Q (.ref D) (upd H' D (.lst ys))) (RR:=fun acc C=>compPost (model X.prog X.w) X.A (fun _ _=>False) none (EP X.nox pins σ Q) acc C) hc S (fun x=>by rw[l x];rfl) (hg cl) (ht cl) (he cl) I2 T st2 f2 W w0 turn fun D C s' ys H' m q hn nC _ _ _ fin=>?_
 exact⟨m,hn,fun h' sb=>⟨.ref D,_,fin h' sb,rfl,q⟩⟩
theorem comp_list {K:PySem.W.Frag}{a:Addr}{xs:List V}{g:TG}{tc:TT}{te:TE} {σ:St}{H:Hp}{R:List V→Hp→Addr→Prop} (Pv:Nat→List V→St→Hp→Prop) (h0:Pv 0 [] σ H) (hl:∀ i ys σ H,i≤xs.length→Pv i ys σ H→SqL K H a xs∧ys.length≤i) (hz:xs.length≤sizeLine)
  (hs:∀ i x ys σ H,xs[i]? = some x→Pv i ys σ H→g x σ H fun σ2 H2=>tc σ2 H2 fun b H3=>if b=true then te σ2 H3 fun y H4=>Pv (i+1) (ys ++ [y]) σ2 H4 else Pv (i+1) ys σ2 H3)
  (hd:∀ ys σ H,Pv xs.length ys σ H→∀ D,H D=none→R ys H D) :
  ∃ W:Nat→Nat→List V→St→Hp→Prop,(∃ m,W 0 m [] σ H)∧∀ i m ys σ H,W i m ys σ H →
   ((Itl K a).stop i H∧∀ D,H D=none→R ys H D) ∨
   ((Itl K a).go i H∧ys.length<sizeLine∧∃ N:List V→St→Hp→Prop,(∀ ys' σ' H',N ys' σ' H'→∃ m',m'<m∧W (i+1) m' ys' σ' H') ∧
    ∀ x H',(Itl K a).yld i H x H'→g x σ H' fun σ2 H2=>tc σ2 H2 fun b H3=>if b=true then te σ2 H3 fun y H4=>N (ys ++ [y]) σ2 H4 else N ys σ2 H3):=by
 refine⟨fun i m ys σ H=>m=xs.length-i∧i≤xs.length∧Pv i ys σ H,⟨xs.length,by simp,Nat.zero_le _,h0⟩,?_⟩;rintro i m ys σ H ⟨rfl,hi,p⟩;have q:=hl i ys σ H hi p;by_cases hlt:i<xs.length
 ·refine .inr ⟨⟨xs,xs[i],q.1,by simp[hlt]⟩,(by omega),Pv (i+1),fun ys' σ' H' p'=>⟨xs.length-(i+1),by omega,rfl,hlt,p'⟩,fun x H' y=>?_⟩;obtain⟨e,y⟩:=y;subst e;exact hs i x ys σ _ (y xs q.1) p
 ·have e:i=xs.length:=by omega
  subst e;exact .inl ⟨⟨xs,q.1,Nat.le_refl _⟩,hd ys σ H p⟩
theorem comp_range {lo:Int}{n:Nat}{g:TG}{tc:TT}{te:TE} {σ:St}{H:Hp}{R:List V→Hp→Addr→Prop} (Pv:Nat→List V→St→Hp→Prop) (h0:Pv 0 [] σ H) (hl:∀ i ys σ H,Pv i ys σ H→ys.length≤i) (hz:n≤sizeLine)
  (hs:∀ i ys σ H,i<n→Pv i ys σ H→g (.int (lo+i)) σ H fun σ2 H2=>tc σ2 H2 fun b H3=>if b=true then te σ2 H3 fun y H4=>Pv (i+1) (ys ++ [y]) σ2 H4 else Pv (i+1) ys σ2 H3)
  (hd:∀ ys σ H,Pv n ys σ H→∀ D,H D=none→R ys H D) :
  ∃ W:Nat→Nat→List V→St→Hp→Prop,(∃ m,W 0 m [] σ H)∧∀ i m ys σ H,W i m ys σ H →
   ((Itr lo n).stop i H∧∀ D,H D=none→R ys H D) ∨
   ((Itr lo n).go i H∧ys.length<sizeLine∧∃ N:List V→St→Hp→Prop,(∀ ys' σ' H',N ys' σ' H'→∃ m',m'<m∧W (i+1) m' ys' σ' H') ∧
    ∀ x H',(Itr lo n).yld i H x H'→g x σ H' fun σ2 H2=>tc σ2 H2 fun b H3=>if b=true then te σ2 H3 fun y H4=>N (ys ++ [y]) σ2 H4 else N ys σ2 H3):=by
 refine⟨fun i m ys σ H=>m=n-i∧i≤n∧Pv i ys σ H,⟨n,by simp,Nat.zero_le _,h0⟩,?_⟩;rintro i m ys σ H ⟨rfl,hi,p⟩;have q:=hl i ys σ H p;by_cases hlt:i<n
 ·refine .inr ⟨hlt,(by omega),Pv (i+1),fun ys' σ' H' p'=>⟨n-(i+1),by omega,rfl,hlt,p'⟩,fun x H' y=>?_⟩;obtain⟨e,y⟩:=y;subst e y;exact hs i ys σ _ hlt p
 ·have e:i=n:=by omega
  subst e;exact .inl ⟨Nat.le_refl _,hd ys σ H p⟩
end L2
namespace OS
open PySem PyProof.Rows
class KO where
 num:Value→Int
 ok:Value→Prop
 kind:SortKind
class KL [KO] (prog:Program) (w:World) (A:Around) (s:Shared):Prop where
 lt:∀ {E:Value→Shared→Prop}{Q:Bool→Shared→Prop}{u v:Value},KO.ok u→KO.ok v→Q (decide (KO.num u<KO.num v)) s→wpAny (model prog w) A (keyLt' KO.kind u v) Q E s
variable [KO]
end OS
namespace L2
open PySem PySem.Spec PyProof.Rows
noncomputable def Tups (H:Hp):List Addr→List (Int × Int)→Prop:=Paired fun p t=>H p=some (.tup [.int t.1,.int t.2])
theorem Tups.length {H:Hp}{ps:List Addr}{l:List (Int × Int)} (h:Tups H ps l):ps.length=l.length:=Paired.length h
theorem Tups.keep {H H':Hp}{ps:List Addr}{l:List (Int × Int)} (h:Tups H ps l) (k:∀ b xs,H b=some (.tup xs)→H' b=some (.tup xs)):Tups H' ps l:=Paired.mapP h fun p t e=>k p _ e
theorem Tups.at:∀ {H:Hp}{ps:List Addr}{l:List (Int × Int)}{i:Nat}{t:Int × Int},Tups H ps l→l[i]? = some t→∃ p,ps[i]? = some p∧H p=some (.tup [.int t.1,.int t.2])
 | _,_,_,_,_,.nil,e=>by simp at e
 | _,_,_,0,_,.cons r _,e=>by simp at e;subst e;exact⟨_,rfl,r⟩
 | _,_,_,i+1,t,.cons _ q,e=>by
  obtain⟨p,h1,h2⟩:=Tups.at (i:=i) (t:=t) q (by simpa using e);exact⟨p,by simpa using h1,h2⟩
theorem Tups.at' {H:Hp}{ps:List Addr}{l:List (Int × Int)}{i:Nat}{p:Addr} (h:Tups H ps l) (e:ps[i]? = some p):∃ t,l[i]? = some t∧H p=some (.tup [.int t.1,.int t.2]):=by
 have hi:i<l.length:=by
  have:=(List.getElem?_eq_some_iff.mp e).1
  have:=h.length
  omega
 obtain⟨q,h1,h2⟩:=h.at (i:=i) (t:=l[i]) (by simp[hi]);rw[e] at h1;cases h1;exact⟨l[i],by simp[hi],h2⟩
theorem Tups.append:∀ {H:Hp}{ps qs:List Addr}{l m:List (Int × Int)},Tups H ps l→Tups H qs m→Tups H (ps++qs) (l++m)
 | _,_,_,_,_,.nil,s=>s
 | _,_,_,_,_,.cons r t,s=>.cons r (Tups.append t s)
theorem Tups.snoc {H:Hp}{ps:List Addr}{l:List (Int × Int)}{p:Addr}{t:Int × Int} (h:Tups H ps l) (e:H p=some (.tup [.int t.1,.int t.2])):Tups H (ps ++ [p]) (l ++ [t]):=Tups.append h (.cons e .nil)
noncomputable def TL (K:PySem.W.Frag) (H:Hp) (a:Addr) (l:List (Int × Int)):Prop:=∃ ps:List Addr,SqL K H a (ps.map V.ref)∧Tups H ps l
noncomputable def TLo (H:Hp) (a:Addr) (l:List (Int × Int)):Prop:=∃ ps:List Addr,H a=some (.lst (ps.map V.ref))∧Tups H ps l
theorem TLo.keep {H H':Hp}{a:Addr}{l:List (Int × Int)} (h:TLo H a l) (k:Same H H'):TLo H' a l:=let ⟨ps,h1,h2⟩:=h; ⟨ps,k _ _ h1,h2.keep fun b xs e=>k b _ e⟩
theorem Same.upd {p:Addr}{H:Hp}{o:HO} (h:H p=none):Same H (upd H p o):=fun c o' e=>by rw[upd_ne (ne_of_none e h)];exact e
end L2
namespace L2
open PySem PySem.Spec PyProof.Rows
theorem bits_of_weight:∀ (ns:List Int),PySem.W.WData.weightAll (ns.map PySem.W.WData.int)≤2^20→∀ n∈ns,Builtin.Int.intBits n≤2^20
 | [],_,_,h=>by simp at h
 | m :: r,hw,n,hn=>by
  have e:PySem.W.WData.weightAll ((m :: r).map PySem.W.WData.int)=PySem.W.WData.weight (.int m)+1+PySem.W.WData.weightAll (r.map PySem.W.WData.int):=rfl;rw[e] at hw;rcases List.mem_cons.mp hn with z | z
  ·subst z;have e2:PySem.W.WData.weight (.int n)=if n == 0 then 0 else n.natAbs.log2+1:=rfl
   rw[e2] at hw;unfold Builtin.Int.intBits;split at hw <;> split <;> simp_all <;> omega
  ·exact bits_of_weight r (by omega) n z
theorem walk_ofB {l:PySem.W.OpenLaw}{n k:Nat}{q:Program}{loose:List Str}{XP:(Str→Option Value)→Heap→Prop}{YP:World→Heap→Prop}{d:DefRec}{K:Params→PySem.W.Frag}{CX:World→CXT}{sp:World→Sp}{x:Str}
  (hn:l.most=some n) (hn2:n≤sizeLine) (hdf:d.params.defaults=[]) (hr:Room k callerA)
  (hY:∀ (w:World) (h:Heap),YP w h→(K w.params).In h)
  (F:∀ (w:World) (mg:Str→Option Value) (fa:Addr) (h:Heap),(K w.params).In h→h.Ns mainGlobals mg→mg d.name=some (.ref fa) →
   ∃ fd:FuncData,(∀ (s:Shared) (u:Value),BindsTo s fd ⟨[u],[]⟩ [(x,u)]) ∧
    ∀ base:Heap,(K w.params).In base→base.Ns mainGlobals mg→FnOk l.prog w (K w.params) mg base (CX w) k fa fd [x] (sp w))
  (hsp:∀ (w:World) (H:Hp) (a:Addr) (ns:List Int),ns.length≤n→(∀ z∈ns,Builtin.Int.intBits z≤2^20)→Only H→SqL (K w.params) H a (ns.map V.int)→sp w [.ref a] H (fun v _=>v = .bl true) fun _ _ _=>False)
  (hCX:∀ (w:World) (H:Hp) (s:Shared) (e:Value) (s':Shared),CX w [] H s (fun _ _ _=>False) e s'→False) :
  PySem.W.WalkO q loose XP YP l.row.toRowW d [] (fun f vs=>PySem.call f vs):=by
 intro w s₀ s₁ mg mb G Y fa o pm cd doc dV kV ho hd hcd hD hmg hg args vals as hpre hlay hrd hwl hlo;obtain rfl:dV = .none:=PySem.W.Dflts.none hD hdf;obtain rfl:kV = .none:=PySem.W.Dflts.noKw hD;obtain⟨a,vs,ns,rfl,rfl,hobj,hints,hlen⟩:=Att.script_of hn hpre hwl;have hbits:∀ z∈ns,Builtin.Int.intBits z≤2^20:=by
  have h1:(PySem.W.WData.list (ns.map PySem.W.WData.int)).layable=true:=List.all_eq_true.mp hlay _ (by simp);have h2:=of_decide_eq_true (Bool.and_eq_true_iff.mp h1).2;exact bits_of_weight ns h2
 have KX:=hY w _ Y;obtain⟨fd,hb,hF⟩:=F w mg fa _ KX G.T.g hmg;refine PySem.W.enter_call (codeAny_mono (law_call KX G.T.g G.T.b G.T.builtins G.T.nolimit hg hobj hints (Nat.le_trans hlen hn2) hr hF hb (fun H hO hS=>hsp w H a ns hlen hbits hO hS) fun H e s'=>hCX w H s₁ e s') fun r s' hq=>?_);obtain⟨rfl,h2,h3,h4⟩:=hq;exact⟨.inl ⟨.bool true,.bool true,[],rfl,fun _=>rfl,.bool true,Att.post_true l _,fun _=>⟨List.Pairwise.nil,fun _ hm=>(nomatch hm)⟩⟩,h2,h3,h4⟩
noncomputable def encP (p:Int × Int):Key × V:=(Sum.inl p.1,V.int p.2)
theorem valV_enc (k:Int):∀ d:OF.Terms,valV (d.map encP) (Sum.inl k)=(OF.look d k).map V.int
 | []=>rfl
 | p :: r=>by
  rw[List.map_cons,OF.look];by_cases e:p.1=k
  ·rw[valV_pos (show (encP p).1=Sum.inl k by simp[encP,e]),if_pos e];rfl
  ·rw[valV_neg (show ¬ (encP p).1=Sum.inl k by simp[encP,e]),if_neg e];exact valV_enc k r
theorem putK_enc (d:OF.Terms) (k v:Int):putK (d.map encP) (Sum.inl k:Key) (V.int v)=(OF.putI d k v).map encP:=by
 unfold putK OF.putI;rw[valV_any,valV_enc,OF.look_any,Option.isSome_map];split
 ·rw[List.map_map,List.map_map];congr 1
  funext p
  simp only[Function.comp,encP];by_cases e:p.1=k
  ·simp[e]
  ·simp[e]
 ·rw[List.map_append];rfl
theorem keys_enc (d:OF.Terms):(d.map encP).map (·.1)=(d.map (·.1)).map Sum.inl:=by
 rw[List.map_map,List.map_map];rfl
end L2
namespace L2
open PySem PySem.Spec PyProof.Rows
theorem iteN {c A B:Prop} [Decidable c] (h:¬ c) (b:B):if c then A else B:=by rw[if_neg h];exact b
theorem iteY {c A B:Prop} [Decidable c] (h:c) (a:A):if c then A else B:=by rw[if_pos h];exact a
theorem CompSc.of {X:Cx}{scope:Scope}{N':List Str}{nT:Nat}{js:List Nat} (sc₀:Scope) (N₀:List Str) (h1:X.env.scope=sc₀) (h2:X.N=N₀) (hk:scope.kind = .function)
  (hall:(scope.names.all fun y=>y.2 != .cell && (y.2 != .local || scope.names.lookup y.1 == some .local) && (y.2 != .free || sc₀.names.lookup y.1 == some .cell))=true)
  (hlen:N'.length=nT+js.length) (hf:(js.map fun j=>N₀[j]?)=(N'.drop nT).map some) (hv:((N'.drop nT).all fun x=>scope.names.lookup x == some .free)=true):CompSc X scope N' nT js:=by
 have hall':=List.all_eq_true.mp hall;refine⟨hk,fun y hy e=>?_,fun y hy e=>?_,hlen,fun k j x e1 e2=>?_,fun y hy e=>?_,fun x hx=>?_⟩
 ·have:=hall' y hy;rw[e] at this;simp at this
 ·have:=hall' y hy;rw[e] at this;simp at this;exact this
 ·have e3:(js.map fun j=>N₀[j]?)[k]? = some (N₀[j]?):=by rw[List.getElem?_map,e1];rfl
  rw[hf,List.getElem?_map,List.getElem?_drop,e2] at e3;rw[h2];exact (Option.some.inj e3).symm
 ·have:=hall' y hy;rw[e] at this;simp at this;rw[h1];exact this
 ·have:=List.all_eq_true.mp hv x hx;simpa using this
end L2
namespace OF
theorem nodup_sub_len:∀ {l B:List Int},l.Nodup→(∀ x∈l,x∈B)→l.length≤B.length
 | [],_,_,_=>Nat.zero_le _
 | a :: r,B,hn,hs=>by
  have h1:=List.nodup_cons.mp hn;have ha:=hs a (by simp);have h2:r.length≤(B.erase a).length:=nodup_sub_len h1.2 fun x hx=>by
   have hne:x≠a:=fun z=>h1.1 (z ▸ hx)
   exact (List.mem_erase_of_ne hne).mpr (hs x (by simp[hx]))
  have h3:=List.length_erase_of_mem ha;have h4:0<B.length:=List.length_pos_of_mem ha;rw[List.length_cons];omega
end OF
namespace L2
open PySem PySem.Spec PyProof.Rows
inductive D where
 | non | bl (b:Bool) | int (n:Int) | str (x:Str) | tup (ds:List D) | lst (ds:List D)
mutual
noncomputable def Is (H:Hp):V→D→Prop
 | v,.non=>v = .non
 | v,.bl b=>v = .bl b
 | v,.int n=>v = .int n
 | v,.str x=>v = .str x
 | v,.tup ds=>∃ a xs,v = .ref a∧H a=some (.tup xs)∧IsDs H xs ds
 | v,.lst ds=>∃ a xs,v = .ref a∧H a=some (.lst xs)∧IsDs H xs ds
noncomputable def IsDs (H:Hp):List V→List D→Prop
 | xs,[]=>xs=[]
 | xs,d :: ds=>∃ x r,xs=x :: r∧Is H x d∧IsDs H r ds
end
theorem IsDs.length {H:Hp}:∀ {xs:List V}{ds:List D},IsDs H xs ds→xs.length=ds.length
 | xs,[],h=>by unfold IsDs at h;rw[h];rfl
 | xs,d :: ds,h=>by
  unfold IsDs at h;obtain⟨x,r,rfl,_,h2⟩:=h;rw[List.length_cons,List.length_cons,IsDs.length h2]
theorem IsDs.at {H:Hp}:∀ {xs:List V}{ds:List D}{i:Nat}{d:D},IsDs H xs ds→ds[i]? = some d→∃ x,xs[i]? = some x∧Is H x d
 | xs,[],i,d,h,e=>by simp at e
 | xs,d' :: ds,0,d,h,e=>by
  unfold IsDs at h;obtain⟨x,r,rfl,h1,h2⟩:=h
  have:d'=d:=by simpa using e
  subst this;exact⟨x,rfl,h1⟩
 | xs,d' :: ds,i+1,d,h,e=>by
  unfold IsDs at h;obtain⟨x,r,rfl,h1,h2⟩:=h;obtain⟨x',e1,e2⟩:=IsDs.at (i:=i) (d:=d) h2 (by simpa using e);exact⟨x',by simpa using e1,e2⟩
noncomputable def b2i (b:Bool):Int:=if b then 1 else 0
mutual
noncomputable def deq:D→D→Bool
 | .non,.non=>true
 | .bl a,.bl b=>a == b
 | .bl a,.int n=>b2i a == n
 | .int n,.bl a=>n == b2i a
 | .int n,.int m=>n == m
 | .str x,.str y=>x == y
 | .tup ds,.tup es=>deqL ds es
 | .lst ds,.lst es=>deqL ds es
 | _,_=>false
noncomputable def deqL:List D→List D→Bool
 | [],[]=>true
 | d :: ds,e :: es=>deq d e && deqL ds es
 | _,_=>false
end
mutual
noncomputable def dep:D→Nat
 | .tup ds=>depL ds+1
 | .lst ds=>depL ds+1
 | _=>0
noncomputable def depL:List D→Nat
 | []=>0
 | d :: ds=>max (dep d) (depL ds)
end
theorem depL_mem:∀ {ds:List D}{j:Nat}{d:D},ds[j]? = some d→dep d≤depL ds
 | [],j,d,e=>by simp at e
 | d' :: ds,0,d,e=>by
  have:d'=d:=by simpa using e
  subst this;unfold depL;omega
 | d' :: ds,j+1,d,e=>by
  have:=depL_mem (ds:=ds) (j:=j) (d:=d) (by simpa using e)
  rw[depL];omega
theorem deq_tup (ds es:List D):deq (.tup ds) (.tup es)=deqL ds es:=rfl
theorem deq_lst (ds es:List D):deq (.lst ds) (.lst es)=deqL ds es:=rfl
theorem deqL_cons (d e:D) (ds es:List D):deqL (d :: ds) (e :: es)=(deq d e && deqL ds es):=rfl
noncomputable def eqJ (ds es:List D) (j:Nat):Bool:=match ds[j]?,es[j]? with
 | some d,some e=>deq d e
 | _,_=>false
theorem deqL_all:∀ (ds es:List D),deqL ds es=((List.range (min ds.length es.length)).all (eqJ ds es) && (ds.length == es.length))
 | [],[]=>rfl
 | [],e :: es=>by show false=_;simp
 | d :: ds,[]=>by show false=_;simp
 | d :: ds,e :: es=>by
  have ih:=deqL_all ds es;rw[deqL_cons,ih,List.length_cons,List.length_cons,Nat.add_min_add_right,List.range_succ_eq_map,List.all_cons,List.all_map];have e1:eqJ (d :: ds) (e :: es) 0=deq d e:=rfl;have e2:(eqJ (d :: ds) (e :: es)) ∘ Nat.succ=eqJ ds es:=by funext j;rfl
  rw[e1,e2,Bool.and_assoc];congr 2;simp
theorem deqL_len {ds es:List D} (h:ds.length≠es.length):deqL ds es=false:=by
 rw[deqL_all]
 have:(ds.length == es.length)=false:=by simpa using h
 rw[this,Bool.and_false]
mutual
theorem deq_self:∀ d:D,deq d d=true
 | .non=>rfl
 | .bl b=>by show (b == b)=true;simp
 | .int n=>by show (n == n)=true;simp
 | .str x=>by show (x == x)=true;simp
 | .tup ds=>deqL_self ds
 | .lst ds=>deqL_self ds
theorem deqL_self:∀ ds:List D,deqL ds ds=true
 | []=>rfl
 | d :: ds=>by rw[deqL_cons,deq_self d,deqL_self ds];rfl
end
mutual
theorem Is.inj {H:Hp}:∀ {v:V}{d e:D},Is H v d→Is H v e→d=e
 | v,.non,e,h,h'=>by
  unfold Is at h;subst h;cases e <;> unfold Is at h' <;> first | rfl | (cases h';done) | (obtain⟨_,_,z,_⟩:=h';cases z)
 | v,.bl b,e,h,h'=>by
  unfold Is at h;subst h;cases e <;> unfold Is at h' <;> first | (cases h';rfl) | (cases h';done) | (obtain⟨_,_,z,_⟩:=h';cases z)
 | v,.int n,e,h,h'=>by
  unfold Is at h;subst h;cases e <;> unfold Is at h' <;> first | (cases h';rfl) | (cases h';done) | (obtain⟨_,_,z,_⟩:=h';cases z)
 | v,.str x,e,h,h'=>by
  unfold Is at h;subst h;cases e <;> unfold Is at h' <;> first | (cases h';rfl) | (cases h';done) | (obtain⟨_,_,z,_⟩:=h';cases z)
 | v,.tup ds,e,h,h'=>by
  unfold Is at h;obtain⟨a,xs,rfl,h1,h2⟩:=h;cases e with
  | tup es =>
   unfold Is at h';obtain⟨b,ys,z,g1,g2⟩:=h';cases z;rw[h1] at g1;cases g1;rw[IsDs.inj h2 g2]
  | lst es =>
   unfold Is at h';obtain⟨b,ys,z,g1,g2⟩:=h';cases z;rw[h1] at g1;cases g1
  | _=>unfold Is at h';cases h'
 | v,.lst ds,e,h,h'=>by
  unfold Is at h;obtain⟨a,xs,rfl,h1,h2⟩:=h;cases e with
  | lst es =>
   unfold Is at h';obtain⟨b,ys,z,g1,g2⟩:=h';cases z;rw[h1] at g1;cases g1;rw[IsDs.inj h2 g2]
  | tup es =>
   unfold Is at h';obtain⟨b,ys,z,g1,g2⟩:=h';cases z;rw[h1] at g1;cases g1
  | _=>unfold Is at h';cases h'
theorem IsDs.inj {H:Hp}:∀ {xs:List V}{ds es:List D},IsDs H xs ds→IsDs H xs es→ds=es
 | xs,[],es,h,h'=>by
  unfold IsDs at h;subst h;cases es with
  | nil=>rfl
  | cons e es=>unfold IsDs at h';obtain⟨_,_,z,_⟩:=h';cases z
 | xs,d :: ds,es,h,h'=>by
  unfold IsDs at h;obtain⟨x,r,rfl,h1,h2⟩:=h;cases es with
  | nil=>unfold IsDs at h';cases h'
  | cons e es =>
   unfold IsDs at h';obtain⟨x',r',z,g1,g2⟩:=h';cases z;rw[Is.inj h1 g1,IsDs.inj h2 g2]
end
section
variable {X:Cx}{pins:List (Addr × Obj)} {σ:St}{H:Hp}{s:Shared}
structure CmpAt (A:Around) (s:Shared) (u w:Value) (b:Bool):Prop where
 rc:SeqAt.RcAt A s u w b
 ne:SeqAt.RcNeAt A s u w (!b)
theorem its_at {xs:List V}{its:List Value}{ds:List D} (r:Vals xs its) (h:IsDs H xs ds) {j:Nat} (hj:j<its.toArray.size):∃ d x,ds[j]? = some d∧Is H x d∧RelV x its.toArray[j]:=by
 have hj':j<its.length:=by simpa using hj
 have l1:=r.length;have l2:=h.length;have ed:ds[j]? = some ds[j]:=by simp[show j<ds.length by omega]
 obtain⟨x,ex,hx⟩:=h.at ed;obtain⟨u,eu,ru⟩:=r.get ex;refine⟨_,x,ed,hx,?_⟩;rw[List.getElem?_eq_getElem hj'] at eu
 have:its.toArray[j]=u:=by simpa using Option.some.inj eu
 rw[this];exact ru
inductive Kd (s:Shared) (H:Hp):Value→D→Prop where
 | none:Kd s H .none .non
 | bool (b:Bool):Kd s H (.bool b) (.bl b)
 | int (n:Int) (t:Tok):Kd s H (.int n t) (.int n)
 | str (x:Str) (t:Tok):Kd s H (.str x t) (.str x)
 | tuple {a:Addr}{xs:List V}{its:List Value}{ds:List D} (h:H a=some (.tup xs)) (r:Vals xs its) (p:s.heap.IsTuple a its.toArray) (q:IsDs H xs ds):Kd s H (.ref a) (.tup ds)
 | list {a:Addr}{xs:List V}{its:List Value}{ds:List D} (h:H a=some (.lst xs)) (r:Vals xs its) (p:s.heap.IsList a its.toArray) (q:IsDs H xs ds):Kd s H (.ref a) (.lst ds)
theorem kd_of (I:Inv X pins σ H s) {v:V}{u:Value}{d:D} (h:Is H v d) (r:RelV v u):Kd s H u d:=by
 cases d with
 | non=>unfold Is at h;subst h;cases (show u=Value.none from r);exact .none
 | bl b=>unfold Is at h;subst h;cases (show u=Value.bool b from r);exact .bool b
 | int n=>unfold Is at h;subst h;obtain⟨t,e⟩:=(show ∃ t,u=Value.int n t from r);cases e;exact .int n t
 | str x=>unfold Is at h;subst h;obtain⟨t,e⟩:=(show ∃ t,u=Value.str x t from r);cases e;exact .str x t
 | tup ds =>
  unfold Is at h;obtain⟨a,xs,rfl,h1,h2⟩:=h;cases (show u=Value.ref a from r);obtain⟨_,its,r1,t1⟩:=(show ObjOk X.prog X.w H s.heap a (.tup xs) from I.hok a _ h1);exact .tuple h1 r1 t1 h2
 | lst ds =>
  unfold Is at h;obtain⟨a,xs,rfl,h1,h2⟩:=h;cases (show u=Value.ref a from r);obtain⟨its,r1,p1,_⟩:=I.list (SqL.of (K:=X.K) h1);exact .list h1 r1 p1.isList h2
noncomputable def Sc:D→Prop
 | .tup _=>False
 | .lst _=>False
 | _=>True
set_option maxHeartbeats 4000000 in
theorem scalD {A:Around}{u u':Value}{d e:D} (hu:A.units<cLine) (k1:Kd s H u d) (hs:Sc d) (k2:Kd s H u' e):CmpAt A s u u' (deq d e)∧SeqAt.EqAt A s u u' (deq d e):=by
 cases k1 with
 | tuple=>exact hs.elim
 | list=>exact hs.elim
 | none  =>
  cases k2 with
  | none  => exact⟨⟨.none_none ,.none_none ⟩,SeqAt.EqAt.same _⟩
  | bool c=>exact⟨⟨.none_bool c,.none_bool c⟩,.none_bool c⟩
  | int k v=>exact⟨⟨.none_int k v,.none_int k v⟩,.none_int k v⟩
  | str y v=>exact⟨⟨.none_str y v,.none_str y v⟩,.none_str y v⟩
  | list h r p q=>exact⟨⟨.none_list  p hu,.none_list  p hu⟩,.none_list  p hu⟩
  | tuple h r p q=>exact⟨⟨.none_tuple  p hu,.none_tuple  p hu⟩,.none_tuple  p hu⟩
 | bool b =>
  cases k2 with
  | none  => exact⟨⟨.bool_none b,.bool_none b⟩,.bool_none b⟩
  | bool c=>exact⟨⟨.bool_bool b c,.bool_bool b c⟩,.bool_bool b c⟩
  | int k v=>exact⟨⟨.bool_int b k v,.bool_int b k v⟩,.bool_int b k v⟩
  | str y v=>exact⟨⟨.bool_str b y v,.bool_str b y v⟩,.bool_str b y v⟩
  | list h r p q=>exact⟨⟨.bool_list b p hu,.bool_list b p hu⟩,.bool_list b p hu⟩
  | tuple h r p q=>exact⟨⟨.bool_tuple b p hu,.bool_tuple b p hu⟩,.bool_tuple b p hu⟩
 | int m t =>
  cases k2 with
  | none  => exact⟨⟨.int_none m t,.int_none m t⟩,.int_none m t⟩
  | bool c=>exact⟨⟨.int_bool m t c,.int_bool m t c⟩,.int_bool m t c⟩
  | int k v=>exact⟨⟨.int_int m t k v,.int_int m t k v⟩,.int_int m t k v⟩
  | str y v=>exact⟨⟨.int_str m t y v,.int_str m t y v⟩,.int_str m t y v⟩
  | list h r p q=>exact⟨⟨.int_list m t p hu,.int_list m t p hu⟩,.int_list m t p hu⟩
  | tuple h r p q=>exact⟨⟨.int_tuple m t p hu,.int_tuple m t p hu⟩,.int_tuple m t p hu⟩
 | str x t =>
  cases k2 with
  | none  => exact⟨⟨.str_none x t,.str_none x t⟩,.str_none x t⟩
  | bool c=>exact⟨⟨.str_bool x t c,.str_bool x t c⟩,.str_bool x t c⟩
  | int k v=>exact⟨⟨.str_int x t k v,.str_int x t k v⟩,.str_int x t k v⟩
  | str y v=>exact⟨⟨.str_str x t y v,.str_str x t y v⟩,.str_str x t y v⟩
  | list h r p q=>exact⟨⟨.str_list x t p hu,.str_list x t p hu⟩,.str_list x t p hu⟩
  | tuple h r p q=>exact⟨⟨.str_tuple x t p hu,.str_tuple x t p hu⟩,.str_tuple x t p hu⟩
set_option maxHeartbeats 4000000 in
theorem cmp_at (I:Inv X pins σ H s):∀ (n:Nat) (d e:D) (A:Around) {u u':Value},dep d≤n→A.units+n<cLine→Kd s H u d→Kd s H u' e→CmpAt A s u u' (deq d e)∧SeqAt.EqAt A s u u' (deq d e):=by
 intro n;induction n with
 | zero =>
  intro d e A u u' hd hu k1 k2;cases k1 with
  | tuple=>unfold dep at hd;omega
  | list=>unfold dep at hd;omega
  | none=>exact scalD (by omega) .none trivial k2
  | bool b=>exact scalD (by omega) (.bool b) trivial k2
  | int m t=>exact scalD (by omega) (.int m t) trivial k2
  | str y t=>exact scalD (by omega) (.str y t) trivial k2
 | succ n ih =>
  intro d e A u u' hd hu k1 k2;have hu0:A.units<cLine:=by omega
  have hu1:A.in1.units+n<cLine:=by show A.units+1+n<cLine;omega
  cases k1 with
  | @tuple a xs its ds h1 r1 p1 q1 =>
   cases k2 with
   | @tuple b ys its2 es h2 r2 p2 q2 =>
    have hdd:depL ds≤n:=by unfold dep at hd;omega
    have n1:its.length=ds.length:=by have:=r1.length;have:=q1.length;omega
    have n2:its2.length=es.length:=by have:=r2.length;have:=q2.length;omega
    have he:∀ j (g1:j<its.toArray.size) (g2:j<its2.toArray.size),SeqAt.EqAt A.in1 s its.toArray[j] its2.toArray[j] (eqJ ds es j):=fun j g1 g2=>by
     obtain⟨d1,x1,e1,i1,v1⟩:=its_at r1 q1 g1;obtain⟨d2,x2,e2,i2,v2⟩:=its_at r2 q2 g2;have e3:eqJ ds es j=deq d1 d2:=by unfold eqJ;rw[e1,e2]
     rw[e3];exact (ih d1 d2 A.in1 (Nat.le_trans (depL_mem e1) hdd) hu1 (kd_of I i1 v1) (kd_of I i2 v2)).2
    have ev:((List.range (min its.toArray.size its2.toArray.size)).all (eqJ ds es) && (its.toArray.size == its2.toArray.size))=deq (.tup ds) (.tup es):=by
     rw[List.size_toArray,List.size_toArray,n1,n2,deq_tup,deqL_all]
    have R1:=SeqAt.RcAt.tuples p1 p2 hu0 he;have R2:=SeqAt.RcNeAt.tuples p1 p2 hu0 he;rw[ev] at R1 R2;refine⟨⟨R1,R2⟩,?_⟩;by_cases hab:a=b
    ·subst hab;rw[h1] at h2;cases h2;rw[IsDs.inj q1 q2,deq_self];exact SeqAt.EqAt.same _
    ·exact SeqAt.EqAt.of_refs hab R1
   | @list b ys its2 es h2 r2 p2 q2=>exact⟨⟨.tuple_list p1 p2 hu0,.tuple_list p1 p2 hu0⟩,.tuple_list p1 p2 hu0⟩
   | none=>exact⟨⟨.tuple_none p1 hu0,.tuple_none p1 hu0⟩,.tuple_none p1 hu0⟩
   | bool b=>exact⟨⟨.tuple_bool b p1 hu0,.tuple_bool b p1 hu0⟩,.tuple_bool b p1 hu0⟩
   | int m t=>exact⟨⟨.tuple_int m t p1 hu0,.tuple_int m t p1 hu0⟩,.tuple_int m t p1 hu0⟩
   | str y t=>exact⟨⟨.tuple_str y t p1 hu0,.tuple_str y t p1 hu0⟩,.tuple_str y t p1 hu0⟩
  | @list a xs its ds h1 r1 p1 q1 =>
   cases k2 with
   | @list b ys its2 es h2 r2 p2 q2 =>
    have hdd:depL ds≤n:=by unfold dep at hd;omega
    have n1:its.length=ds.length:=by have:=r1.length;have:=q1.length;omega
    have n2:its2.length=es.length:=by have:=r2.length;have:=q2.length;omega
    have R:CmpAt A s (.ref a) (.ref b) (deq (.lst ds) (.lst es)):=by
     by_cases hn:ds.length=es.length
     ·have he:∀ j (g1:j<its.toArray.size) (g2:j<its2.toArray.size),SeqAt.EqAt A.in1 s its.toArray[j] its2.toArray[j] (eqJ ds es j):=fun j g1 g2=>by
       obtain⟨d1,x1,e1,i1,v1⟩:=its_at r1 q1 g1;obtain⟨d2,x2,e2,i2,v2⟩:=its_at r2 q2 g2;have e3:eqJ ds es j=deq d1 d2:=by unfold eqJ;rw[e1,e2]
       rw[e3];exact (ih d1 d2 A.in1 (Nat.le_trans (depL_mem e1) hdd) hu1 (kd_of I i1 v1) (kd_of I i2 v2)).2
      have hsz:its.toArray.size=its2.toArray.size:=by simp;omega
      have ev:(List.range its.toArray.size).all (eqJ ds es)=deq (.lst ds) (.lst es):=by
       rw[List.size_toArray,n1,deq_lst,deqL_all,hn,Nat.min_self];simp
      have R1:=SeqAt.RcAt.lists p1 p2 hsz hu0 he;have R2:=SeqAt.RcNeAt.lists p1 p2 hsz hu0 he;rw[ev] at R1 R2;exact⟨R1,R2⟩
     ·have hsz:(its.toArray.size != its2.toArray.size)=true:=by simp;omega
      rw[deq_lst,deqL_len hn];exact⟨SeqAt.RcAt.lists_lengths p1 p2 hsz hu0,SeqAt.RcNeAt.lists_lengths p1 p2 hsz hu0⟩
    refine⟨R,?_⟩;by_cases hab:a=b
    ·subst hab;rw[h1] at h2;cases h2;rw[IsDs.inj q1 q2,deq_self];exact SeqAt.EqAt.same _
    ·exact SeqAt.EqAt.of_refs hab R.rc
   | @tuple b ys its2 es h2 r2 p2 q2=>exact⟨⟨.list_tuple p1 p2 hu0,.list_tuple p1 p2 hu0⟩,.list_tuple p1 p2 hu0⟩
   | none=>exact⟨⟨.list_none p1 hu0,.list_none p1 hu0⟩,.list_none p1 hu0⟩
   | bool b=>exact⟨⟨.list_bool b p1 hu0,.list_bool b p1 hu0⟩,.list_bool b p1 hu0⟩
   | int m t=>exact⟨⟨.list_int m t p1 hu0,.list_int m t p1 hu0⟩,.list_int m t p1 hu0⟩
   | str y t=>exact⟨⟨.list_str y t p1 hu0,.list_str y t p1 hu0⟩,.list_str y t p1 hu0⟩
  | none=>exact scalD hu0 .none trivial k2
  | bool b=>exact scalD hu0 (.bool b) trivial k2
  | int m t=>exact scalD hu0 (.int m t) trivial k2
  | str y t=>exact scalD hu0 (.str y t) trivial k2
noncomputable def rEqD (f:Bool→Bool):R2:=fun x y H Q=>∃ d e,Is H x d∧Is H y e∧dep d≤60∧Q (.bl (f (deq d e))) H
theorem op_eqD (hu:X.A.units+60<cLine):OpR X (compareOp .Eq) (rEqD id):=by
 intro pins s σ H x y v u Q I rx ry h;obtain⟨d,e,h1,h2,h3,q⟩:=h;exact (cmp_at I 60 d e X.A h3 hu (kd_of I h1 rx) (kd_of I h2 ry)).1.rc _ _ _ _ ⟨.bl (deq d e),H,I,rfl,q⟩
theorem hu60 {A:Around}{k:Nat} (hr:Room k A):A.units+60<cLine:=Nat.lt_of_le_of_lt (Nat.add_le_add_left (by decide:60≤64) _) hr.units
end
end L2
namespace L2
open PySem PySem.Spec PyProof.Rows
section
variable {X:Cx}{st:Stmt}{sts:List Stmt}{t:TS}{e:Expr}{te:TE}
noncomputable def tCut (t:TS):TS:=fun D σ H=>∃ M:St→Hp→Prop,t { D with nx:=M } σ H∧∀ σ' H',M σ' H'→D.nx σ' H'
theorem ps_cut (h:PS X st t):PS X st (tCut t):=by
 rintro pins s σ H D I ⟨M,q,w⟩;refine thn (h pins s σ H { D with nx:=M } I q) fun r s' z=>?_
 cases r with
 | next=>obtain⟨σ',H',I',m⟩:=z;exact⟨σ',H',I',w _ _ m⟩
 | _=>exact z
end
end L2
namespace My
open PySem L2 OF
theorem small6 {n:Nat} (h:n≤1000000):n<sizeLine:=Nat.lt_of_le_of_lt h (by decide)
theorem mulL {a b:Int} (h1 : -(2^64)<a) (h2:a<2^64):IntMulOk a b:=CMul.ok (.inl ⟨h1,h2⟩)
theorem mulR {a b:Int} (h1 : -(2^64)<b) (h2:b<2^64):IntMulOk a b:=CMul.ok (.inr ⟨h1,h2⟩)
theorem shl_eq (m:Nat):(1:Int) * 2^((m:Int)).toNat=2^m:=by rw[Int.one_mul,Int.toNat_natCast]
theorem at_ref {ps:List Addr}{i:Nat}{y:V} (hi:(ps.map V.ref)[i]? = some y):∃ p,ps[i]? = some p∧y=V.ref p:=by
 rw[List.getElem?_map] at hi;cases e:ps[i]? with
 | none=>rw[e] at hi;cases hi
 | some p=>rw[e] at hi;exact⟨p,rfl,(Option.some.inj hi).symm⟩
theorem at_int {ns:List Int}{i:Nat}{y:V} (hi:(ns.map V.int)[i]? = some y):∃ n,ns[i]? = some n∧y=V.int n:=by
 rw[List.getElem?_map] at hi;cases e:ns[i]? with
 | none=>rw[e] at hi;cases hi
 | some p=>rw[e] at hi;exact⟨p,rfl,(Option.some.inj hi).symm⟩
noncomputable def spLaw (K:PySem.W.Frag):Sp:=fun vs H Q _=>∃ (a:Addr) (ns:List Int),vs=[.ref a]∧SqL K H a (ns.map V.int)∧ns.length≤63∧(∀ n∈ns,Builtin.Int.intBits n≤2^20)∧∀ H',Q (.bl true) H'
noncomputable def dT (t:Int × Int):D := .tup [.int t.1,.int t.2]
noncomputable def dF (l:Terms):D := .lst (l.map dT)
theorem isL_tups {H:Hp}:∀ {ps:List Addr}{l:Terms},Tups H ps l→IsDs H (ps.map V.ref) (l.map dT)
 | _,_,.nil=>by unfold IsDs;rfl
 | _,_,.cons (a:=p) (b:=t) r q=>by
  rw[List.map_cons,List.map_cons];unfold IsDs;refine⟨_,_,rfl,?_,isL_tups q⟩;unfold dT Is;refine⟨p,_,rfl,r,?_⟩;unfold IsDs;refine⟨_,_,rfl,(by unfold Is;rfl),?_⟩;unfold IsDs;refine⟨_,_,rfl,(by unfold Is;rfl),?_⟩;unfold IsDs;rfl
theorem _root_.L2.TLo.is {H:Hp}{a:Addr}{l:Terms} (h:TLo H a l):Is H (.ref a) (dF l):=by
 obtain⟨ps,h1,h2⟩:=h;unfold dF Is;exact⟨a,_,rfl,h1,isL_tups h2⟩
theorem dep_dT (t:Int × Int):dep (dT t)=1:=rfl
theorem depL_dT:∀ l:Terms,depL (l.map dT)≤1
 | []=>Nat.zero_le _
 | t :: r=>by
  rw[List.map_cons,depL,dep_dT]
  have:=depL_dT r
  omega
theorem dep_dF (l:Terms):dep (dF l)≤2:=by
 unfold dF;rw[dep];have:=depL_dT l;omega
noncomputable def Small (B:Nat) (l:Terms):Prop:=∀ t∈l,t.2.natAbs≤B
theorem coef_small {B:Nat}:∀ {l:Terms},Small B l→∀ k,(coef l k).natAbs≤l.length * B
 | [],_,k=>by simp[coef]
 | t :: r,h,k=>by
  have h1:=h t (by simp);have h2:=coef_small (l:=r) (fun u hu=>h u (by simp[hu])) k;rw[coef,List.length_cons,Nat.add_mul,Nat.one_mul];split <;> omega
theorem coef_mem:∀ {f:Terms},IsForm f→∀ t∈f,coef f t.1=t.2
 | [],_,t,h=>by simp at h
 | p :: r,hf,t,h=>by
  have h1:=List.pairwise_cons.mp hf.rise;rcases List.mem_cons.mp h with e | e
  ·rw[e];exact coef_head h1.1
  ·have hr:IsForm r:=⟨h1.2,fun q hq=>hf.nz q (by simp[hq])⟩
   have:=coef_mem hr t e
   have h2:=h1.1 t e;rw[coef,if_neg (by omega),this];omega
theorem _root_.OF.FormOf.small {f l:Terms}{B:Nat} (h:FormOf f l) (hs:Small B l):Small (l.length * B) f:=fun t ht=>by
 rw[← coef_mem h.toIsForm t ht,h.val];exact coef_small hs t.1
theorem _root_.L2.Same.write {HB H:Hp}{a:Addr}{o:HO} (h:Same HB H) (ha:HB a=none):Same HB (upd H a o):=fun b u e=>by
 rw[upd_ne (ne_of_none e ha)];exact h b u e
end My
namespace OF
open PySem
theorem bitAnd_nat (a b:Nat):Builtin.bitAnd (a:Int) (b:Int)=((a &&& b:Nat):Int):=by
 have:=PyProof.Rows.bitAnd_pp (x:=(a:Int)) (y:=(b:Int)) (Int.natCast_nonneg _) (Int.natCast_nonneg _)
 simpa using this
end OF
namespace My
open PySem L2 OF
theorem tt {σ:St}{H:Hp}{F G:Hp→Prop} (h:F H):tTrue σ H fun b H3=>if b=true then F H3 else G H3:=by
 show (if true=true then F H else G H);rw[if_pos rfl];exact h
end My
set_option maxHeartbeats 1000000
namespace My
open PySem L2 OF
theorem _root_.OF.FormOf.keys {m:Nat}{f l:Terms} (h:FormOf f l) (hl:∀ t∈l,0≤t.1∧t.1<2^m):∀ t∈f,0≤t.1∧t.1<2^m:=fun t ht=>by
 obtain⟨u,hu,e⟩:=List.mem_map.mp (h.src t ht);rw[← e];exact hl u hu
end My
namespace My
open PySem L2 OF
theorem intBits_nat (n:Nat):Builtin.Int.intBits (n:Int)=if n=0 then 0 else n.log2+1:=by
 unfold Builtin.Int.intBits;by_cases h:n=0
 ·subst h;rfl
 ·rw[if_neg h,if_neg (by simp;omega)];rfl
theorem lt_intBits (n:Nat):n<2^Builtin.Int.intBits (n:Int):=by
 rw[intBits_nat];by_cases h:n=0
 ·subst h;decide
 ·rw[if_neg h];exact Nat.lt_log2_self
theorem intBits_lt {n m:Nat} (h:n<2^m):Builtin.Int.intBits (n:Int)≤m:=by
 rw[intBits_nat];by_cases h0:n=0
 ·subst h0;simp
 ·rw[if_neg h0];exact (Nat.log2_lt h0).mpr h
noncomputable def lst (a:Nat):List Nat:=(List.range (Builtin.Int.intBits (a:Int))).filter fun k=>a.testBit k
theorem mem_lst {a k:Nat}:k∈lst a↔a.testBit k=true:=by
 unfold lst;rw[List.mem_filter,List.mem_range];constructor
 ·exact fun h=>h.2
 ·intro h;refine⟨?_,h⟩;rcases Nat.lt_or_ge k (Builtin.Int.intBits (a:Int)) with z | z
  ·exact z
  ·have:=Nat.testBit_lt_two_pow (Nat.lt_of_lt_of_le (lt_intBits a) (Nat.pow_le_pow_right (by decide) z))
   rw[this] at h;cases h
end My
namespace L2
open PySem PySem.Spec PyProof.Rows
theorem Inv.turnedN {X:Cx}{pins:List (Addr × Obj)} {σ:St}{H:Hp}{s:Shared}{h':Heap}{t':Nat} (ch:List Addr) (I:Inv X pins σ H s) (k:∀ b u,b ∉ ch→s.heap.get? b=some u→h'.get? b=some u)
  (f:∀ b∈ch,FpOk X pins H b):Inv X pins σ H { s with heap:=h',toks:=t' }:=by
 have out:∀ b u,H b=some u→b ∉ ch:=fun b u q z=>by rw[(f b z).1] at q;cases q
 refine I.step (g':=s.gens) (d':=s.drawn) (ch:=ch) (fun b hb=>⟨(f b hb).2.2.2.1,(f b hb).2.1,(f b hb).2.2.2.2.1,(f b hb).2.2.2.2.2⟩) (fun b u _ _ hc q _=>k b u hc q) (fun b u _ _ hc q _=>⟨u.slots,k b u hc q⟩) (fun _ _ _ _ n=>n)
  (fun b u hc q=>⟨u,k b u hc q⟩) (fun _ _ e=>e) (fun _ _ _ e=>e) (fun b ps e=>⟨#[],by rw[e];simp⟩) (fun m hm=>?_) (fun b u e=>?_) I.bare
 ·obtain⟨u,es,ep,ho,r⟩:=hm;exact⟨u,es,ep,k _ u (fun z=>(f _ z).2.1 rfl) ho,r⟩
 ·refine (I.hok b u e).stay (fun c v hc q=>k c v ?_ q) (fun _ q=>q) fun _ _ q=>q
  rcases hc with z | z
  ·rw[z];exact out b u e
  ·exact out c _ z
theorem Inv.turnedL {X:Cx}{pins:List (Addr × Obj)} {σ:St}{H:Hp}{s:Shared}{h':Heap}{t':Nat}{T:Addr}{o:HO} (ch:List Addr) (I:Inv X pins σ H s) (k:∀ b u,b ∉ ch→s.heap.get? b=some u→h'.get? b=some u)
  (f:∀ b∈ch,FpOk X pins H b) (hT:s.heap.objs.size≤T) (new:ObjOk X.prog X.w (upd H T o) h' T o):Inv X pins σ (upd H T o) { s with heap:=h',toks:=t' }:=by
 have hn:H T=none:=I.hok.fresh hT;have out:∀ b u,H b=some u→b ∉ ch:=fun b u q z=>by rw[(f b z).1] at q;cases q
 have lt:∀ b u,s.heap.get? b=some u→b≠T:=fun b u q=>Nat.ne_of_lt (Nat.lt_of_lt_of_le (Heap.lt_size q) hT)
 have up:∀ {b:Addr}{u:HO},H b=some u→upd H T o b=some u:=fun q=>by rw[upd_ne (ne_of_none q hn)];exact q
 refine I.step (g':=s.gens) (d':=s.drawn) (ch:=ch) (fun b hb=>⟨(f b hb).2.2.2.1,(f b hb).2.1,(f b hb).2.2.2.2.1,(f b hb).2.2.2.2.2⟩) (fun b u _ _ hc q _=>k b u hc q) (fun b u _ _ hc q _=>⟨u.slots,k b u hc q⟩) (fun b u _ q n=>by rw[upd_ne (lt b u q)];exact n)
  (fun b u hc q=>⟨u,k b u hc q⟩) (fun b xs q=>up q) (fun b u xs q=>up q) (fun b ps q=>⟨#[],by rw[up q];simp⟩) (fun m hm=>?_) (fun b u q=>?_) I.bare
 ·obtain⟨u,es,ep,ho,r⟩:=hm;exact⟨u,es,ep,k _ u (fun z=>(f _ z).2.1 rfl) ho,r⟩
 ·by_cases hb:b=T
  ·subst hb;rw[upd_same] at q;cases q;exact new
  ·rw[upd_ne hb] at q;refine (I.hok b u q).stay (fun c v hc z=>?_) (fun c z=>up z) fun c xs z=>up z
   rcases hc with w | w
   ·rw[w] at z ⊢;exact k b v (out b u q) z
   ·exact k c v (out c _ w) z
noncomputable def Itz (K:PySem.W.Frag) (a b:Addr):It :=
 ⟨fun i H=>∃ xs ys x y,SqL K H a xs∧SqL K H b ys∧xs[i]? = some x∧ys[i]? = some y,fun i H v H'=>∃ T x y,H T=none∧v = .ref T∧H'=upd H T (.tup [x,y])∧(∀ xs,SqL K H a xs→xs[i]? = some x)∧∀ ys,SqL K H b ys→ys[i]? = some y,
  fun i H=>∃ xs ys,SqL K H a xs∧SqL K H b ys∧(xs.length≤i∨ys.length≤i)⟩
theorem turn_zip {P:Program}{w:World}{K:PySem.W.Frag}{elts:List Expr}{x1:Nat}{pos:Pos} (a b z TI TO i1 i2:Addr) (D:ZipApart z TI TO i1 i2 a b) :
  Turn P w K (.Tuple elts x1 pos) (Itz K a b) [z,TI,TO,i1,i2] z (fun i h=>IsZip h z TI TO .none∧IsPair h TI (.ref i1) (.ref i2)∧(∃ u v,IsPair h TO u v)∧h.IsListIter i1 a i∧h.IsListIter i2 b i) where
 mem:=by simp
 obj:=fun i h st c hc=>by
  obtain⟨hz,hTI,⟨u,v,hTO⟩,⟨o1,e1,c1,d1⟩,⟨o2,e2,c2,d2⟩⟩:=st;simp only[List.mem_cons,List.not_mem_nil,or_false] at hc;rcases hc with rfl | rfl | rfl | rfl | rfl
  ·exact⟨_,hz,fun v z=>by cases z⟩
  ·exact⟨_,hTI,fun v z=>by cases z⟩
  ·exact⟨_,hTO,fun v z=>by cases z⟩
  ·exact⟨o1,e1,fun v z=>by rw[d1] at z;cases z⟩
  ·exact⟨o2,e2,fun v z=>by rw[d2] at z;cases z⟩
 keep:=fun i h h' st k=>by
  obtain⟨hz,hTI,⟨u,v,hTO⟩,h1,h2⟩:=st;exact⟨k z (by simp) _ hz,k TI (by simp) _ hTI,⟨u,v,k TO (by simp) _ hTO⟩,h1.at fun o q=>k i1 (by simp) o q,h2.at fun o q=>k i2 (by simp) o q⟩
 item:=by
  intro X hP hw hK hc i pins s σ H E I hf st hg;subst hP hw hK;obtain⟨hz,hTI,⟨u,v,hTO⟩,h1,h2⟩:=st;obtain⟨xs,ys,x,y,hq,hq',hx,hy⟩:=hg;obtain⟨its,rv,p,hsz⟩:=I.list hq;obtain⟨its',rv',p',hsz'⟩:=I.list hq';obtain⟨ux,hu,ru⟩:=rv.get hx;obtain⟨uy,hu',ru'⟩:=rv'.get hy;refine wpAny_pyNext_zip_item D hz hTI hTO h1 h2 p.isList p'.isList (x:=ux) (y:=uy) (by simpa using hu) (by simpa using hu') fun h1' hz1 hTO1 hi1 hi2 hT hs1 k1=>⟨_,rfl,?_⟩
  refine wpAny_letOwnedTupleGo_zip hz1 fun h2' hz2 sb=>?_
  have lz:z<s.heap.objs.size:=Heap.lt_size hz;have hTz:s.heap.objs.size≠z:=Nat.ne_of_gt lz;have kk:∀ c o,c ∉ [z,TI,TO,i1,i2]→s.heap.get? c=some o→h2'.get? c=some o:=fun c o hc q=>by
   simp only[List.mem_cons,List.not_mem_nil,or_false,not_or] at hc;exact (sb.2 c hc.1).trans (k1 c o hc.1 hc.2.2.1 hc.2.2.2.1 hc.2.2.2.2 q)
  have hT2:IsPair h2' s.heap.objs.size ux uy:=(sb.2 _ hTz).trans hT;have hTI2:IsPair h2' TI (.ref i1) (.ref i2):=(sb.2 _ D.TIz).trans (k1 _ _ D.TIz D.TITO D.TIi1 D.TIi2 hTI);refine⟨.ref s.heap.objs.size,upd H s.heap.objs.size (.tup [x,y]),I.turnedL (t':=s.toks) _ kk hf (Nat.le_refl _) ⟨by show 2≤sizeLine;decide,[ux,uy],.cons ru (.cons ru' .nil),?_⟩,rfl,⟨_,x,y,I.hok.fresh (Nat.le_refl _),rfl,rfl,fun zs h=>by rw[I.list_inj h hq];exact hx,fun zs h=>by rw[I.list_inj h hq'];exact hy⟩,⟨hz2,hTI2,⟨ux,uy,(sb.2 _ D.TOz).trans hTO1⟩,?_,?_⟩,fun c hc=>?_⟩
  ·exact⟨_,hT2,rfl,0,rfl⟩
  ·exact hi1.at fun o q=>(sb.2 _ D.i1z).trans q
  ·exact hi2.at fun o q=>(sb.2 _ D.i2z).trans q
  ·have hcl:c<s.heap.objs.size:=by
    simp only[List.mem_cons,List.not_mem_nil,or_false] at hc;rcases hc with rfl | rfl | rfl | rfl | rfl
    ·exact lz
    ·exact Heap.lt_size hTI
    ·exact Heap.lt_size hTO
    ·obtain⟨o,q,_⟩:=h1;exact Heap.lt_size q
    ·obtain⟨o,q,_⟩:=h2;exact Heap.lt_size q
   rw[upd_ne (Nat.ne_of_lt hcl)];exact (hf c hc).1
 done:=by
  intro X hP hw hK hc i pins s σ H E I hf st hg;subst hP hw hK;obtain⟨hz,hTI,⟨u,v,hTO⟩,h1,h2⟩:=st;obtain⟨xs,ys,hq,hq',hx⟩:=hg;obtain⟨its,rv,p,hsz⟩:=I.list hq;obtain⟨its',rv',p',hsz'⟩:=I.list hq';have hl:=rv.length;have hl':=rv'.length;refine wpAny_pyNext_zip_end (I.ok.hd hc) D hz hTI hTO h1 h2 p.isList p'.isList ?_ fun h' kk=>⟨rfl,I.turnedN (t':=s.toks) [z,TI,TO,i1,i2] (fun c o hc q=>?_) hf⟩
  ·rcases hx with z | z
   ·left;simp;omega
   ·right;simp;omega
  ·simp only[List.mem_cons,List.not_mem_nil,or_false,not_or] at hc;exact kk c o hc.1 hc.2.2.1 hc.2.2.2.1 hc.2.2.2.2 q
 self:=fun _ _ _ _ _ st h=>wpAny_pyIter_zip st.1 h
noncomputable def iZip (K:PySem.W.Frag) (ta:TA):TI:=fun σ H R=>ta σ H fun vs H1=>∃ a b,vs=[.ref a,.ref b]∧(∃ xs,SqL K H1 a xs)∧(∃ ys,SqL K H1 b ys)∧R (Itz K a b) H1
theorem boot_zip:bootBuiltins "zip" = some (.type "zip"):=by decide +kernel
theorem pi_zip {X:Cx}{elts:List Expr}{x1:Nat}{p0 p pos:Pos}{a b:Expr}{ta:TA} (hg:Gl X "zip") (hm:X.mg "zip" = none) (ha:PA X [a,b] ta) (hs:starEach [a,b] X.env=(false,eval a X.env) :: starEach [b] X.env:=by rfl) (hs2:(backTo pos (starEach [b] X.env)).any (·.1)=false:=by rfl) :
  PI X (.Tuple elts x1 p0) (.Call (.Name "zip" p) [a,b] [] pos) (iZip X.K ta):=by
 intro pins s σ H R I h;refine Call_ (ld_blt I hg hm boot_zip (PyProof.Rows.callWith_type1 (thn (ha pos pins s σ H _ I h) fun us s1 ⟨vs,H1,I1,r1,q1⟩=>?_) hs hs2));obtain⟨l1,l2,rfl,⟨xs,hq⟩,⟨ys,hq'⟩,q⟩:=q1;obtain⟨u,v,rfl,ru,rv⟩:=vals2 r1;cases (show u=Value.ref l1 from ru);cases (show v=Value.ref l2 from rv);obtain⟨its,rx,p,hz⟩:=I1.list hq;obtain⟨its',rx',p',hz'⟩:=I1.list hq';have n1:l1<s1.heap.objs.size:=by obtain⟨o,q,_⟩:=p.isList;exact Heap.lt_size q
 have n2:l2<s1.heap.objs.size:=by obtain⟨o,q,_⟩:=p'.isList;exact Heap.lt_size q
 refine call_zip_2 p.isList p'.isList fun h' hz hTI hTO h1 h2 hsz k=>wpAny_pyIter_zip hz ?_
 have I2:Inv X pins σ H1 { s1 with heap:=h' }:=I1.kept (t':=s1.toks) k;refine⟨_,_,_,_,H1,rfl,I2,turn_zip l1 l2 _ _ _ _ _ (zipApart_new n1 n2),⟨hz,hTI,⟨_,_,hTO⟩,h1,h2⟩,fun c hc=>?_,q⟩;have fr:∀ c,s1.heap.objs.size≤c→FpOk X pins H1 c:=fun c hc=>I1.fpOk hc (I1.hok.fresh hc)
 simp only[List.mem_cons,List.not_mem_nil,or_false] at hc;rcases hc with rfl | rfl | rfl | rfl | rfl <;> exact fr _ (by omega)
theorem comp_zip {K:PySem.W.Frag}{a b:Addr}{xs ys:List V}{g:TG}{tc:TT}{te:TE} {σ:St}{H:Hp}{R:List V→Hp→Addr→Prop} (hxy:xs.length=ys.length) (Pv:Nat→List V→St→Hp→Prop) (h0:Pv 0 [] σ H)
  (hl:∀ i zs σ H,i≤xs.length→Pv i zs σ H→SqL K H a xs∧SqL K H b ys∧zs.length≤i) (hz:xs.length≤sizeLine)
  (hs:∀ i x y zs σ H T,xs[i]? = some x→ys[i]? = some y→Pv i zs σ H→H T=none→g (.ref T) σ (upd H T (.tup [x,y])) fun σ2 H2=>tc σ2 H2 fun b H3=>if b=true then te σ2 H3 fun y H4=>Pv (i+1) (zs ++ [y]) σ2 H4 else Pv (i+1) zs σ2 H3)
  (hd:∀ zs σ H,Pv xs.length zs σ H→∀ D,H D=none→R zs H D) :
  ∃ W:Nat→Nat→List V→St→Hp→Prop,(∃ m,W 0 m [] σ H)∧∀ i m zs σ H,W i m zs σ H →
   ((Itz K a b).stop i H∧∀ D,H D=none→R zs H D) ∨
   ((Itz K a b).go i H∧zs.length<sizeLine∧∃ N:List V→St→Hp→Prop,(∀ zs' σ' H',N zs' σ' H'→∃ m',m'<m∧W (i+1) m' zs' σ' H') ∧
    ∀ x H',(Itz K a b).yld i H x H'→g x σ H' fun σ2 H2=>tc σ2 H2 fun b H3=>if b=true then te σ2 H3 fun y H4=>N (zs ++ [y]) σ2 H4 else N zs σ2 H3):=by
 refine⟨fun i m zs σ H=>m=xs.length-i∧i≤xs.length∧Pv i zs σ H,⟨xs.length,by simp,Nat.zero_le _,h0⟩,?_⟩;rintro i m zs σ H ⟨rfl,hi,p⟩;obtain⟨q1,q2,q3⟩:=hl i zs σ H hi p;by_cases hlt:i<xs.length
 ·have hlt':i<ys.length:=by omega
  refine .inr ⟨⟨xs,ys,xs[i],ys[i],q1,q2,by simp[hlt],by simp[hlt']⟩,(by omega),Pv (i+1),fun ys' σ' H' p'=>⟨xs.length-(i+1),by omega,rfl,hlt,p'⟩,fun x H' y=>?_⟩;obtain⟨T,u,v,hT,rfl,rfl,y1,y2⟩:=y;exact hs i u v zs σ _ T (y1 xs q1) (y2 ys q2) p hT
 ·have e:i=xs.length:=by omega
  subst e;exact .inl ⟨⟨xs,ys,q1,q2,.inl (Nat.le_refl _)⟩,hd zs σ H p⟩
end L2
namespace L2
open PySem PySem.Spec PyProof.Rows
theorem typeCall_range_3 (a b c:Value):checkTypeCall "range" ⟨[a,b,c],[]⟩=pure ():=by kernel_rfl
theorem newCall_range_3 (a b c:Value):checkBuiltinCall "range.__new__" ⟨[.type "range",a,b,c],[]⟩=pure ():=by kernel_rfl
theorem initArgs_range_3 (obj a b c:Value):argsOk "object.__init__" ⟨[obj,a,b,c],[]⟩:=by
 unfold argsOk;rw[signature?_of (id := "object.__init__") (n:=['_','_','t','i','n','i','_','_']) (o:=['t','c','e','j','b','o']) (by kernel_rfl) PySem.F.owner_object];kernel_rfl
section
variable {prog:Program}{w:World}{A:Around}{E:Value→Shared→Prop}{s:Shared}
theorem call_range_3 {a b c:Int}{t u v:Tok}{Q:Value→Shared→Prop} (hc:c≠0) (hd:Builtin.divisionGoesByPylong (b-a) c=false)
  (h:Q (.ref s.heap.objs.size) { s with heap:=s.heap.push { cls := .type "range",data := .fields #[.int a t,.int b u,.int c v] } }) :
  wpAny (model prog w) A (call (.type "range") [.int a t,.int b u,.int c v]) Q E s :=
 callType_new PySem.F.called_range (by decide) (typeCall_range_3 _ _ _) (newCall_range_3 _ _ _) (fun obj=>initArgs_range_3 obj _ _ _) PySem.F.entry_range_new
  (AutoRange.range___new___type_int_int_int_1 a b c t u v PySem.F.called_range.sub (by simp[hc])) ⟨hd,⟨_,Heap.get?_push_size _ rfl,rfl⟩,h⟩
end
noncomputable def Its (lo c:Int) (n:Nat):It:=⟨fun i _=>i<n,fun i H x H'=>H'=H∧x = .int (lo+i * c),fun i _=>n≤i⟩
theorem turn_step {P:Program}{w:World}{K:PySem.W.Frag}{tg:Expr} (it:Addr) (lo c:Int) (n:Nat):Turn P w K tg (Its lo c n) [it] it (fun i h=>IsRangeIter h it (lo+(i:Nat) * c) ((n:Int)-(i:Nat)) c) where
 mem:=by simp
 obj:=fun i h st b hb=>by
  have e:b=it:=by simpa using hb
  subst e;exact⟨_,st,fun v z=>by
   have z':Data.fields _=Data.cell v:=z;cases z'⟩
 keep:=fun i h h' st k=>k it (by simp) _ st
 item:=by
  intro X hP hw hK hc i pins s σ H E I hf st hg;subst hP hw hK;obtain⟨f0,f1,f2,f3,f4,f5⟩:=hf it (by simp);have W:=Walks.range (prog:=X.prog) (w:=X.w) (I.ok.hd hc) it lo c n;refine W.item i s _ _ hg st fun v h' tk hv st' kk=>?_
  obtain⟨t,rfl⟩:=hv;have I1:Inv X pins σ H { s with heap:=h',toks:=tk }:=I.turned (fun b o hb e=>kk b o (by simpa using hb) e) f0 f1 f3 f4 f5;exact⟨_,rfl,go_of (s:={ s with heap:=h',toks:=tk }) (n := "range_iterator") st' rfl rfl (by decide) ⟨.int (lo+i * c),H,I1,⟨t,rfl⟩,⟨rfl,rfl⟩,st',fun b hb=>(hf b hb).1⟩⟩
 done:=by
  intro X hP hw hK hc i pins s σ H E I hf st hg;subst hP hw hK;obtain⟨f0,f1,f2,f3,f4,f5⟩:=hf it (by simp);exact wpAny_pyNext_range_end (I.ok.hd hc) st (by have:n≤i:=hg;omega) fun h' eb=>⟨rfl,I.turned (t':=s.toks) (fun b o hb e=>eb b o hb e) f0 f1 f3 f4 f5⟩
 self:=fun _ _ _ _ _ st h=>wpAny_pyIter_rangeiter st h
section
variable {X:Cx}{tg:Expr}
theorem step_it {pins:List (Addr × Obj)} {σ:St}{H:Hp}{s:Shared}{R:It→Hp→Prop}{E:Value→Shared→Prop}{lo hi c:Int}{n:Nat}{t u v:Tok} (I:Inv X pins σ H s) (hs:Builtin.Range.small lo hi c=true) (hn:Builtin.Range.rangeSize lo hi c=(n:Int))
  (q:R (Its lo c n) H):wpAny (model X.prog X.w) X.A (pyIter (.ref s.heap.objs.size)) (PIE X pins σ tg R) E { s with heap:=s.heap.push { cls := .type "range",data := .fields #[.int lo t,.int hi u,.int c v] } }:=by
 refine wpAny_pyIter_range (IsRange.new ..) hs ?_;have I1:Inv X pins σ H { s with heap:=s.heap.push { cls := .type "range",data := .fields #[.int lo t,.int hi u,.int c v] } }:=I.kept (t':=s.toks) fun b o e=>Heap.get?_push_of_some _ e
 refine⟨(s.heap.push { cls := .type "range",data := .fields #[.int lo t,.int hi u,.int c v] }).objs.size,[(s.heap.push { cls := .type "range",data := .fields #[.int lo t,.int hi u,.int c v] }).objs.size],_,_,H,rfl,
  I1.kept (t':=s.toks) fun b o e=>Heap.get?_push_of_some _ e,turn_step _ lo c n,?_,fun b hb=>?_,q⟩
 ·have e1:lo+((0:Nat):Int) * c=lo:=by simp
  have e2:(n:Int)-((0:Nat):Int)=Builtin.Range.rangeSize lo hi c:=by rw[hn];simp
  show IsRangeIter _ _ (lo+((0:Nat):Int) * c) ((n:Int)-((0:Nat):Int)) c;rw[e1,e2];exact Heap.get?_push_size _ rfl
 ·have e:b=(s.heap.push { cls := .type "range",data := .fields #[.int lo t,.int hi u,.int c v] }).objs.size:=by simpa using hb
  subst e;exact I1.fpOk (Nat.le_refl _) (I1.hok.fresh (Nat.le_refl _))
noncomputable def iRng3 (ta:TA):TI:=fun σ H R=>ta σ H fun vs H1=>∃ (i j c:Int) (n:Nat),vs=[.int i,.int j,.int c]∧c≠0∧Builtin.divisionGoesByPylong (j-i) c=false∧Builtin.Range.small i j c=true∧Builtin.Range.rangeSize i j c=(n:Int)∧R (Its i c n) H1
theorem pi_range3 {a b c:Expr}{ta:TA}{p pos:Pos} (hg:Gl X "range") (hm:X.mg "range" = none) (ha:PA X [a,b,c] ta) (hs:starEach [a,b,c] X.env=[(false,eval a X.env),(false,eval b X.env),(false,eval c X.env)]:=by rfl) (hs2:starEach [b,c] X.env=[(false,eval b X.env),(false,eval c X.env)]:=by rfl) :
  PI X tg (.Call (.Name "range" p) [a,b,c] [] pos) (iRng3 ta):=by
 intro pins s σ H R I h;refine Call_ (ld_blt I hg hm boot_range (PyProof.Rows.callWith_type1 (thn (ha pos pins s σ H _ I h) fun us s1 ⟨vs,H1,I1,r1,q1⟩=>?_) (by rw[hs,hs2]) (by rw[hs2];rfl)));obtain⟨i,j,c,n,e,q1,q0,q2,q3,q⟩:=q1;subst e;cases r1 with
 | cons r rr =>
  cases rr with
  | cons r' rr =>
   cases rr with
   | cons r'' rr =>
    cases rr;obtain⟨t,rfl⟩:=r;obtain⟨t',rfl⟩:=r';obtain⟨t'',rfl⟩:=r'';exact call_range_3 q1 q0 (step_it I1 q2 q3 q)
end
theorem for_step {lo c:Int}{n:Nat}{g:TG}{tb:TS}{D:Ends} {σ:St}{H:Hp} (Pv:Nat→St→Hp→Prop) (h0:Pv 0 σ H)
  (hs:∀ i σ H,i<n→Pv i σ H→g (.int (lo+i * c)) σ H fun σ2 H2=>tb { D with nx:=Pv (i+1),ct:=Pv (i+1),bk:=D.nx } σ2 H2) (hd:∀ σ H,Pv n σ H→D.nx σ H) :
  ∃ W:Nat→Nat→St→Hp→Prop,(∃ m,W 0 m σ H)∧∀ i m σ H,W i m σ H →
   ((Its lo c n).stop i H∧D.nx σ H)∨((Its lo c n).go i H∧∃ N:St→Hp→Prop,(∀ σ' H',N σ' H'→∃ m',m'<m∧W (i+1) m' σ' H')∧∀ x H',(Its lo c n).yld i H x H'→g x σ H' fun σ2 H2=>tb { D with nx:=N,ct:=N,bk:=D.nx } σ2 H2):=by
 refine⟨fun i m σ H=>m=n-i∧i≤n∧Pv i σ H,⟨n,by simp,Nat.zero_le _,h0⟩,?_⟩;rintro i m σ H ⟨rfl,hi,p⟩;by_cases hlt:i<n
 ·refine .inr ⟨hlt,Pv (i+1),fun σ' H' p'=>⟨n-(i+1),by omega,rfl,hlt,p'⟩,fun x H' y=>?_⟩;obtain⟨e,y⟩:=y;subst e y;exact hs i σ _ hlt p
 ·have:i=n:=by omega
  subst this;exact .inl ⟨Nat.le_refl _,hd _ _ p⟩
theorem small_step {b c:Int} (hb:0<b) (hb':b<2^40) (hc:0<c) (hc':c<2^40):Builtin.Range.small 0 b c=true∧∃ n:Nat,Builtin.Range.rangeSize 0 b c=(n:Int)∧∀ i:Nat,i<n→(i:Int) * c<b:=by
 have e:Builtin.Range.rangeSize 0 b c=(b-1) / c+1:=by
  unfold Builtin.Range.rangeSize;rw[if_pos hc,if_pos hb,Int.sub_zero]
 have d0:0≤(b-1) / c:=Int.ediv_nonneg (by omega) (by omega);have d1:(b-1) / c≤b-1:=Int.ediv_le_self _ (by omega);refine⟨?_,((b-1) / c+1).toNat,by rw[e];omega,fun i hi=>?_⟩
 ·unfold Builtin.Range.small;rw[e];simp only[Builtin.Range.rangeFitsLong,Bool.and_eq_true,Bool.or_eq_true,decide_eq_true_eq,beq_iff_eq,hc,if_true];omega
 ·have h1:(i:Int)≤(b-1) / c:=by omega
  have h2:=Int.mul_le_of_le_ediv hc h1;omega
end L2
namespace L2
open PySem PySem.Spec PyProof.Rows
section
variable {X:Cx}{e st lo:Expr}{te:TE}{tl to:TO}{p2 pos:Pos}
noncomputable def pickL {α : Type} (c n:Nat) (xs:List α):List α := (List.range n).filterMap fun k=>xs[c+2 * k]?
theorem vals_pick {xs:List V}{us:List Value} (r:Vals xs us) (f:Nat→Nat):∀ ks:List Nat,Vals (ks.filterMap fun k=>xs[f k]?) (ks.filterMap fun k=>us[f k]?)
 | []=>.nil
 | k :: ks=>by
  have ih:=vals_pick r f ks;have hl:=r.length;cases h:xs[f k]? with
  | none =>
   have h2:us[f k]? = none:=by rw[List.getElem?_eq_none_iff] at h ⊢;omega
   rw[List.filterMap_cons_none (f:=fun k=>xs[f k]?) h,List.filterMap_cons_none (f:=fun k=>us[f k]?) h2];exact ih
  | some x =>
   obtain⟨u,hu,ru⟩:=r.get h;rw[List.filterMap_cons_some (f:=fun k=>xs[f k]?) h,List.filterMap_cons_some (f:=fun k=>us[f k]?) hu];exact .cons ru ih
theorem range_two (c n:Nat) (hc:c≤n):sliceRange (c:Int) (n:Int) 2=(List.range ((n-c+1) / 2)).map fun k=>c+2 * k:=by
 unfold sliceRange;have e:(if (2:Int) > 0 then (if (c:Int)<(n:Int) then ((n:Int)-(c:Int)+2-1) / 2 else 0) else (if (c:Int) > (n:Int) then ((c:Int)-(n:Int)-2-1) / (-2) else 0)).toNat=(n-c+1) / 2:=by
  rw[if_pos (by decide)];split <;> omega
 simp only[e];exact List.map_congr_left fun k _=>by omega
theorem pick_two (items:Array Value) (c:Nat) (hc:c≤items.size):slicePick items (some (c:Int)) none (some 2)=(pickL c ((items.size-c+1) / 2) items.toList).toArray:=by
 unfold slicePick;have e:sliceBounds (some (c:Int)) none (some 2) items.size=((c:Int),(items.size:Int),2):=by
  show ((if (2:Int) > 0 then max 0 (min (if (c:Int)<0 then (c:Int)+items.size else (c:Int)) items.size) else _),(if (2:Int) > 0 then (items.size:Int) else -1),(2:Int))=_;have h1:max 0 (min (if (c:Int)<0 then (c:Int)+items.size else (c:Int)) items.size)=(c:Int):=by
   rw[if_neg (by omega)];omega
  rw[h1];rfl
 rw[e,range_two c items.size hc,List.filterMap_map];congr 1;unfold pickL;congr 1
 funext k
 simp
noncomputable def tTwo (K:PySem.W.Frag) (te:TE) (tl to:TO):TE:=fun σ H Q=>te σ H fun x H1=>tl σ H1 fun o1 H2=>to σ H2 fun o H3=>o=some 2∧∃ (c:Nat) (a:Addr) (xs:List V),o1=some (c:Int)∧x = .ref a∧SqL K H3 a xs∧c≤xs.length ∧
 ∀ p,H3 p=none→Q (.ref p) (upd H3 p (.lst (pickL c ((xs.length-c+1) / 2) xs)))
theorem pe_two (he:PE X e te) (hlo:PO X (some lo) tl) (hst:PO X (some st) to):PE X (.Subscript e (.Slice (some lo) none (some st) p2) pos) (tTwo X.K te tl to):=by
 intro pins s σ H Q I h;refine Subscript_ (thn (he pins s σ H _ I h) fun v s1 ⟨x,H1,I1,r1,q1⟩=>?_);refine wpAny_Slice (thn (hlo pins s1 σ H1 _ I1 q1) fun vl s2 ⟨o1,H2,I2,pl,q2⟩=>?_);rw[evalPart_none];refine wpAny_pure (thn (hst pins s2 σ H2 _ I2 q2) fun vk s3 ⟨o,H3,I3,pk,q3⟩=>?_);obtain⟨rfl,c,a,xs,rfl,rfl,hx,hc,q⟩:=q3;cases r1;have I4:Inv X pins σ H3 { s3 with heap:=s3.heap.push { cls := .type "slice",data := .fields #[vl,.none,vk] } }:=I3.kept (t':=s3.toks) fun b ob q=>Heap.get?_push_of_some _ q
 obtain⟨its,r,ht,hz⟩:=I4.list hx;have hlen:=r.length;show wpAny (model X.prog X.w) X.A (subscriptTail e (.Slice (some lo) none (some st) p2) (.ref a) (.ref s3.heap.objs.size)) (EP X pins σ Q) X.xe { s3 with heap:=s3.heap.push { cls := .type "slice",data := .fields #[vl,.none,vk] } };refine tail_any (ops:=[.ref a,.ref s3.heap.objs.size]) ht.isList.typeIs slot_list_getitem.lookup ?_ (by with_unfolding_all rfl);refine wpAny_getItem_list_slice ht.isList (Heap.IsSliceOf.new ..) pl .none pk (by simp) ?_ (by rw[List.size_toArray];omega);rw[pick_two _ c (by rw[List.size_toArray];omega)];refine⟨.ref _,_,I4.laid (o := .lst (pickL c ((xs.length-c+1) / 2) xs)) (t':=s3.toks) (fun b ob q=>Heap.get?_push_of_some _ q) (Nat.le_refl _) ?_,rfl,q _ (I4.hok.fresh (Nat.le_refl _))⟩;refine⟨?_,pickL c ((xs.length-c+1) / 2) its,0,vals_pick r (fun k=>c+2 * k) _,?_⟩
 ·unfold pickL;refine Nat.le_trans (List.length_filterMap_le _ _) ?_;rw[List.length_range];exact Nat.le_trans ((show ∀ n c:Nat,(n-c+1) / 2≤n by omega) _ _) hz
 ·rw[Heap.get?_push_size _ rfl,List.size_toArray,← hlen]
end
end L2
namespace My
open PySem L2 OF
theorem at_last {α : Type}{xs:List α}{i:Nat}{x : α} (hl:xs.length=i+1) (h:xs[i]? = some x):atI xs (-1)=some x:=by
 unfold atI ixN;rw[if_neg (by decide),if_pos (by omega)];have e:((-1:Int)+(xs.length:Int)).toNat=i:=by omega
 rw[e];exact h
end My
namespace My
open PySem L2 OF
noncomputable def spMix:Sp:=fun vs H Q _=>∃ c k:Int,vs=[.int c,.int k] ∧ -(2^64)<k∧k<2^64∧∀ r,0≤r→r<2147483587→Q (.int r) H
end My
namespace My
open PySem L2 OF
theorem pow_cast (K:Nat):((2:Int)^K)=((2^K:Nat):Int):=by norm_cast
end My
set_option maxHeartbeats 4000000
set_option maxHeartbeats 1000000
set_option maxHeartbeats 4000000
namespace L2
open PySem PySem.Spec PyProof.Rows
section
variable {X:Cx}
theorem call_sortedDs (hc:X.calm=true):CallR X (.builtin "sorted") (fun xs H Q=>∃ (a:Addr) (kvs:List (Key × V)) (ks:List Int),xs=[.ref a]∧H a=some (.dK kvs)∧kvs.map (·.1)=ks.map Sum.inl∧ks.length<64 ∧
  ∀ (l:Addr) (ks':List Int),H l=none→ks'.Perm ks→ks'.Pairwise (· ≤ ·)→Q (.ref l) (upd H l (.lst (ks'.map V.int)))):=by
 intro pins s σ H xs us Q I r h;obtain⟨a,kvs,ks,rfl,hH,hks,h64,q⟩:=h;obtain⟨u,rfl,ru⟩:=vals1 r;cases (show u=Value.ref a from ru);obtain⟨z,hd,vs,rel,dd⟩:=dk_of I.hok hH;obtain⟨ep,hat⟩:=dd.dictAt;have hlen:vs.length=ks.length:=by
  have e1:=rel.length;have e2:=congrArg List.length hks;rw[List.length_map,List.length_map] at e2;omega
 refine Calls.call_function_entry kind_sorted plain_sorted entry_sorted (args_sorted1 _) ?_;unfold Builtin.«sorted»;refine wpAny_bind (m:=checkCount "sorted" 1 1 _) (wpAny_pure ?_);refine wpAny_bind (PySem.W.kdu_collect (A:=X.A.in1) (PySem.W.kdl_dict (knd:=mixKind X.prog X.w) (kvs:=vs) (ep:=ep) hd) (I.ok.hd hc) hat (by rw[← rel.length];exact z) fun h' tk acc hk hacc=>?_);have hal:acc.toList.length=vs.length:=by rw[Array.length_toList];exact hacc.1
 have hkeys:vs.map (·.1)=ks.map Sum.inl:=rel.keys.symm.trans hks;have hI:IntsAre acc.toList ks:=by
  refine intsAre_of ?_;have hall:∀ (j:Nat) (v:Value),acc.toList[j]? = some v→∃ k,ks[j]? = some k∧∃ t,v=Value.int k t:=fun j v e=>by
   obtain⟨k,x,hx,hik⟩:=hacc.2 j v (by rw[← Array.getElem?_toList];exact e);have e1:(vs.map (·.1))[j]? = some k:=by rw[List.getElem?_map,hx];rfl
   rw[hkeys,List.getElem?_map] at e1;cases e2:ks[j]? with
   | none=>rw[e2] at e1;cases e1
   | some k' =>
    rw[e2] at e1;have e3:Sum.inl k'=k:=Option.some.inj e1;subst e3;exact⟨k',rfl,Value.isInt_shape hik⟩
  have go:∀ (zs:List Value) (ns:List Int),zs.length=ns.length→(∀ (j:Nat) (v:Value),zs[j]? = some v→∃ k,ns[j]? = some k∧∃ t,v=Value.int k t)→Vals (ns.map V.int) zs:=by
   intro zs;induction zs with
   | nil=>intro ns hl _;cases ns with
    | nil=>exact .nil
    | cons _ _=>simp at hl
   | cons v r ih=>intro ns hl hv;cases ns with
    | nil=>simp at hl
    | cons n ns =>
     obtain⟨k,e1,e2⟩:=hv 0 v rfl;have e3:n=k:=by simpa using e1
     subst e3;exact .cons e2 (ih ns (by simpa using hl) fun j w e=>by simpa using hv (j+1) w (by simpa using e))
  exact go acc.toList ks (by omega) hall
 refine wpAny_bind (wpAny_newList ?_ (by rw[hal,← rel.length];exact z));have hoL:(h'.push (seqObj "list" acc.toList.toArray 0)).get? h'.objs.size=some (seqObj "list" acc.toList.toArray 0):=Heap.get?_push_size _ rfl;show wpAny _ _ _ _ _ { s with heap:=h'.push (seqObj "list" acc.toList.toArray 0),toks:=tk };refine wpAny_bind (wpAny_holding (wpAny_call_entry slot_list_sort ⟨_,hoL,rfl⟩ entry_list_sort (list_sort_tree hoL hI (by rw[hal,hlen];exact h64) fun out ns' a1 a2 a3=>⟨_,rfl,?_⟩) (args_list_sort _)));have nD:s.heap.get? h'.objs.size=none:=by
  cases e:s.heap.get? h'.objs.size with
  | none=>rfl
  | some o=>exact absurd (Heap.lt_size (hk _ _ e)) (Nat.lt_irrefl _)
 have keep:∀ b o,s.heap.get? b=some o→(sortedHeap (h'.push (seqObj "list" acc.toList.toArray 0)) h'.objs.size acc.toList out).get? b=some o:=fun b o e=>by
  have hlt:=Heap.lt_size (hk _ _ e);rw[sortedHeap_old (Nat.ne_of_lt hlt) (by rw[size_push'];exact Nat.lt_succ_of_lt hlt)];exact Heap.get?_push_of_some _ (hk _ _ e)
 obtain⟨ee,hat'⟩:=sortedHeap_at (out:=out) hoL;have hH0:H h'.objs.size=none:=by
  cases e:H h'.objs.size with
  | none=>rfl
  | some o=>obtain⟨ob,e'⟩:=(I.hok _ _ e).there;rw[nD] at e';cases e'
 have rv:Vals (ns'.map V.int) out.toList:=vals_ints a1;have hnl:ns'.length=ks.length:=a2.length_eq;exact wpAny_pure ⟨_,rfl,⟨.ref h'.objs.size,_,I.laidN (o := .lst (ns'.map V.int)) (t':=tk) keep nD ⟨by rw[List.length_map,hnl,← hlen,← rel.length];exact z,out.toList,ee,rv,by simpa using hat'⟩,rfl,q _ ns' hH0 a2 a3⟩⟩
end
end L2
namespace My
open PySem L2 OF
noncomputable def Few (l:Terms):Prop:=l.length<64∨∀ t∈l,0≤t.1∧t.1<63
noncomputable def spFormS (K:PySem.W.Frag):Sp:=fun vs H Q _=>∃ (a:Addr) (l:Terms),vs=[.ref a]∧TL K H a l∧l.length≤100000∧Few l ∧
 ∀ (b:Addr) (f:Terms) (H':Hp),H b=none→TLo H' b f→FormOf f l→f.length≤l.length→Same H H'→Q (.ref b) H'
theorem few_dict {d l:Terms} (h:DictOf d l) (hf:Few l):d.length<64:=by
 rcases hf with z | z
 ·exact Nat.lt_of_le_of_lt h.len z
 ·have:=nodup_sub_len (B:=(List.range 63).map fun k:Nat=>(k:Int)) h.nd fun x hx=>by
   obtain⟨t,ht,rfl⟩:=List.mem_map.mp (h.src x hx);obtain⟨a,b⟩:=z t ht;exact List.mem_map.mpr ⟨t.1.toNat,List.mem_range.mpr (by omega),Int.toNat_of_nonneg a⟩
  rw[List.length_map,List.length_map,List.length_range] at this;omega
end My
set_option maxHeartbeats 1000000
namespace L2
open PySem PySem.Spec PyProof.Rows
section
variable {X:Cx}{tg:Expr}
theorem mt_startswith:MtM X "str.startswith" (fun x vs H Q=>∃ i j,x = .str i∧vs=[.str j]∧Q (.bl (Txt.startswith i j)) H):=by
 intro pins s σ H x xs v us Q I rx rv h;obtain⟨i,j,rfl,rfl,q⟩:=h;obtain⟨t,rfl⟩:=rx;obtain⟨u,rfl,⟨t2,rfl⟩⟩:=rv.one;exact SC.startswith ⟨.bl _,H,I,rfl,q⟩
theorem mt_find:MtM X "str.find" (fun x vs H Q=>∃ i j,x = .str i∧vs=[.str j]∧Q (.int (Txt.find i j)) H):=by
 intro pins s σ H x xs v us Q I rx rv h;obtain⟨i,j,rfl,rfl,q⟩:=h;obtain⟨t,rfl⟩:=rx;obtain⟨u,rfl,⟨t2,rfl⟩⟩:=rv.one;exact SC.find ⟨.int _,H,I.tok _,⟨_,rfl⟩,q⟩
theorem mt_lstrip1:MtM X "str.lstrip" (fun x vs H Q=>∃ i j,x = .str i∧vs=[.str j]∧i.length≤sizeLine∧Q (.str (Txt.lstripChars i j)) H):=by
 intro pins s σ H x xs v us Q I rx rv h;obtain⟨i,j,rfl,rfl,hz,q⟩:=h;obtain⟨t,rfl⟩:=rx;obtain⟨u,rfl,⟨t2,rfl⟩⟩:=rv.one;exact call_gives F.slot_str_lstrip (typeIs_str _ _ _) F.entry_str_lstrip (F.args_str_lstrip_2 _ _) (gives_str_lstrip_chars i j t t2) (post_val_or_made (fun _=>fits_stripped _ _ _ hz) fun t' k=>⟨.str _,H,I.tok _,⟨_,rfl⟩,q⟩)
theorem strsAre_of:∀ {ys:List Str}{its:List Value},Vals (ys.map V.str) its→StrsAre its ys
 | [],_,h=>by cases h;exact .nil
 | y :: r,_,h=>by
  cases h with
  | cons a b=>obtain⟨t,rfl⟩:=a;exact .cons _ _ (strsAre_of b)
theorem mt_join:MtM X "str.join" (fun x vs H Q=>∃ i l ys,x = .str i∧vs=[.ref l]∧SqL X.K H l (ys.map V.str)∧(ys.map (·.length)).sum+ys.length * i.length≤16777216∧Q (.str (Txt.join i ys)) H):=by
 intro pins s σ H x xs v us Q I rx rv h;obtain⟨i,l,ys,rfl,rfl,hq,hz,q⟩:=h;obtain⟨t,rfl⟩:=rx;obtain⟨u,rfl,ru⟩:=rv.one;cases (show u=Value.ref l from ru);obtain⟨its,r,p,hl⟩:=I.list hq;exact join_list p.isList (strsAre_of r) hz fun t' k=>⟨.str _,H,I.tok _,⟨_,rfl⟩,q⟩
theorem vals_strs:∀ {l:List (Str × Tok)},Vals ((l.map (·.1)).map V.str) (strValues l)
 | []=>.nil
 | (x,t) :: r=>.cons ⟨t,rfl⟩ (vals_strs (l:=r))
theorem laid_strs {pins:List (Addr × Obj)} {σ:St}{H:Hp}{s:Shared}{l:List (Str × Tok)}{ys:List Str}{tk:Nat} (I:Inv X pins σ H s) (e:l.map (·.1)=ys) (hz:ys.length≤sizeLine) :
  Inv X pins σ (upd H s.heap.objs.size (.lst (ys.map V.str))) { s with heap:=s.heap.push { cls := .type "list",data := .seq (strValues l).toArray },toks:=tk }:=by
 subst e;exact I.laid (o := .lst _) (t':=tk) (fun b o q=>Heap.get?_push_of_some _ q) (Nat.le_refl _) ⟨by rw[List.length_map];exact hz,strValues l,0,vals_strs,Heap.get?_push_size _ rfl⟩
theorem mt_split:MtM X "str.split" (fun x vs H Q=>∃ i j,x = .str i∧vs=[.str j]∧(j.length == 0)=false∧i.length<sizeLine∧∀ a,H a=none→Q (.ref a) (upd H a (.lst ((Txt.split i j).map V.str)))):=by
 intro pins s σ H x xs v us Q I rx rv h;obtain⟨i,j,rfl,rfl,hy,hz,q⟩:=h;obtain⟨t,rfl⟩:=rx;obtain⟨u,rfl,⟨t2,rfl⟩⟩:=rv.one;have hj:1≤j.length:=by
  have:j.length≠0:=by simpa using hy
  omega
 have hw:=split_weight i j hj;have hn:(Txt.split i j).length≤sizeLine:=by omega
 have fin:∀ (l:List (Str × Tok)) (tk:Nat),l.map (·.1)=Txt.split i j→EP X pins σ Q (.ref s.heap.objs.size) { s with heap:=s.heap.push { cls := .type "list",data := .seq (strValues l).toArray },toks:=tk }:=fun l tk e =>
  ⟨.ref s.heap.objs.size,_,laid_strs I e hn,rfl,q _ (I.hok.fresh (Nat.le_refl _))⟩
 cases h1:(decide (i.length<j.length) || decide (Builtin.Str.strKind i<Builtin.Str.strKind j))
 ·cases hf:(Builtin.Str.occurrences i j 0 i.length (i.length+1)).isEmpty
  ·have e:Txt.split i j=Builtin.Str.partsBetween i (Builtin.Str.occurrences i j 0 i.length (i.length+1)) j.length:=(if_neg (ne_true_of_eq_false h1)).trans (if_neg (ne_true_of_eq_false hf));refine call_meets F.slot_str_split (typeIs_str _ _ _) F.entry_str_split (F.args_str_split_2 _ _) (meets_str_split_sep i j t t2 h1 hy hf (by omega) (by rw[← e];exact hn)) ?_;show wants _ _ _ { s with toks:=_,heap:=s.heap.push { cls := .type "list",data := .seq (strsFrom s.toks (Builtin.Str.partsBetween i (Builtin.Str.occurrences i j 0 i.length (i.length+1)) j.length)).toArray } };rw[strsFrom_eq];exact fin _ _ ((numbered_texts _ _).trans e.symm)
  ·exact call_meets F.slot_str_split (typeIs_str _ _ _) F.entry_str_split (F.args_str_split_2 _ _) (meets_str_split_not_found i j t t2 h1 hy hf)
    (fin [(i,t)] s.toks ((if_neg (ne_true_of_eq_false h1)).trans (if_pos hf)).symm)
 ·exact call_meets F.slot_str_split (typeIs_str _ _ _) F.entry_str_split (F.args_str_split_2 _ _) (meets_str_split_cannot_occur i j t t2 h1)
   (fin [(i,t)] s.toks (if_pos h1).symm)
theorem sl_str:SlR X (fun x lo hi H Q=>∃ z,x = .str z∧z.length≤sizeLine∧Q (.str (Txt.slice z lo hi)) H):=by
 intro pins s σ H x v vl vu lo hi sl Q I rx hs pl pu h;obtain⟨z,rfl,hz,q⟩:=h;obtain⟨t,rfl⟩:=rx;have part:∀ {v:Value}{o:Option Int},IsPart v o→∃ l:Option (Int × Tok),v=partValue l∧l.map (·.1)=o:=fun p=>by
  cases p with
  | none=>exact⟨none,rfl,rfl⟩
  | int i t=>exact⟨some (i,t),rfl,rfl⟩
 obtain⟨l,rfl,rfl⟩:=part pl;obtain⟨u,rfl,rfl⟩:=part pu;refine⟨"str",_,F.slot_str_getitem.lookup,typeIs_str _ _ _,?_⟩;exact wpAny_getItem_str_slice (l:=l) (u:=u) (st:=none) hs rfl (post_val_or_str ⟨Nat.le_trans (Txt.slice_le z _ _) hz,fun t' k=>⟨.str _,H,I.tok _,⟨_,rfl⟩,q⟩⟩)
theorem call_int_str:CallR X (.type "int") (fun xs H Q=>∃ x n,xs=[.str x]∧intText? x=some n∧x.length≤640∧Q (.int n) H):=by
 intro pins s σ H xs us Q I r h;obtain⟨x,n,rfl,hn,hl,q⟩:=h;obtain⟨u,rfl,⟨t,rfl⟩⟩:=vals1 r;exact PySem.W.KIN.call_text hn hl ⟨.int n,H,I.tok _,⟨_,rfl⟩,q⟩
noncomputable def ItC (x:Str):It:=⟨fun i _=>i<x.cps.size,fun i H v H'=>H'=H∧∃ c,x.cps[i]? = some c∧v = .str ⟨#[c]⟩,fun i _=>x.cps.size≤i⟩
noncomputable def iStr (te:TE):TI:=fun σ H R=>te σ H fun v H1=>∃ x,v = .str x∧x.cps.all (· < 128)=true∧R (ItC x) H1
theorem turn_str {P:Program}{w:World}{K:PySem.W.Frag}{tg:Expr} (x:Str) (t:Tok) (it:Addr):Turn P w K tg (ItC x) [it] it (fun i h=>h.IsStrIter it "str_ascii_iterator" x t i) where
 mem:=by simp
 obj:=fun i h st b hb=>by
  have e:b=it:=by simpa using hb
  subst e;obtain⟨o,e,c,d⟩:=st;exact⟨o,e,fun v z=>by rw[d] at z;cases z⟩
 keep:=fun i h h' st k=>let ⟨o,e,c,d⟩:=st; ⟨o,k it (by simp) o e,c,d⟩
 item:=by
  intro X hP hw hK hc i pins s σ H E I hf st hg;subst hP hw hK;obtain⟨f0,f1,f2,f3,f4,f5⟩:=hf it (by simp);have hx:x.cps[i]? = some (x.cps[i]'hg):=by rw[Array.getElem?_eq_getElem hg]
  refine wpAny_pyNext_ascii_item st hx fun h' st' sb=>?_
  have I1:Inv X pins σ H { s with heap:=h',toks:=s.toks+1 }:=I.turned (fun b o hb e=>(sb.2 b hb).trans e) f0 f1 f3 f4 f5;obtain⟨o,e,c,d⟩:=id st';exact⟨_,rfl,go_of (s:={ s with heap:=h',toks:=s.toks+1 }) e c d (by decide) ⟨.str ⟨#[x.cps[i]'hg]⟩,H,I1,⟨_,rfl⟩,⟨rfl,_,hx,rfl⟩,st',fun b hb=>(hf b hb).1⟩⟩
 done:=by
  intro X hP hw hK hc i pins s σ H E I hf st hg;subst hP hw hK;obtain⟨f0,f1,f2,f3,f4,f5⟩:=hf it (by simp);exact wpAny_pyNext_ascii_end (I.ok.hd hc) st (Array.getElem?_eq_none hg) fun h' eb=>⟨rfl,I.turned (t':=s.toks) (fun b o hb e=>eb b o hb e) f0 f1 f3 f4 f5⟩
 self:=fun _ _ _ _ _ st h=>wpAny_pyIter_striter_ascii st h
theorem pi_str {l:Expr}{tl:TE} (hl:PE X l tl):PI X tg l (iStr tl):=by
 intro pins s σ H R I h;refine thn (hl pins s σ H _ I h) fun v s1 ⟨x,H1,I1,r1,q1⟩=>?_
 obtain⟨z,e,ha,q⟩:=q1;subst e;obtain⟨t,rfl⟩:=r1;refine wpAny_pyIter_ascii ha ?_;refine⟨s1.heap.objs.size,[s1.heap.objs.size],_,_,H1,rfl,I1.kept (t':=s1.toks) fun b o e=>Heap.get?_push_of_some _ e,turn_str z t _,⟨_,Heap.get?_push_size _ rfl,rfl,rfl⟩,fun b hb=>?_,q⟩;have e:b=s1.heap.objs.size:=by simpa using hb
 subst e;exact I1.fpOk (Nat.le_refl _) (I1.hok.fresh (Nat.le_refl _))
end
end L2
namespace My
open PySem L2 OF
noncomputable def S (l:List Nat):Str:=⟨l.toArray⟩
theorem S_list (l:List Nat):(S l).cps.toList=l:=rfl
theorem S_len (l:List Nat):(S l).length=l.length:=rfl
theorem S_of (x:Str):x=S x.cps.toList:=rfl
theorem S_eq {x:Str}{l:List Nat} (h:x.cps.toList=l):x=S l:=by subst h;rfl
theorem S_inj {a b:List Nat} (h:S a=S b):a=b:=congrArg (fun x:Str=>x.cps.toList) h
theorem S_cat (a b:List Nat):S a++S b=S (a++b):=S_eq (by
 show (a.toArray++b.toArray).toList=_;rw[Array.toList_append])
noncomputable def joinL (c:Nat):List (List Nat)→List Nat
 | []=>[]
 | [x]=>x
 | x :: y :: r=>x++c :: joinL c (y :: r)
theorem join_S (c:Nat):∀ ws:List (List Nat),Str.join (S [c]) (ws.map S)=S (joinL c ws)
 | []=>rfl
 | [x]=>rfl
 | x :: y :: r=>by
  have ih:=join_S c (y :: r);show S x++S [c]++Str.join (S [c]) ((y :: r).map S)=_;rw[ih,S_cat,S_cat,joinL];simp
theorem join_0:∀ ws:List (List Nat),Str.join (S []) (ws.map S)=S ws.flatten
 | []=>rfl
 | [x]=>by show S x=_;simp
 | x :: y :: r=>by
  have ih:=join_0 (y :: r);show S x++S []++Str.join (S []) ((y :: r).map S)=_;rw[ih,S_cat,S_cat];simp
theorem tjoin_S (c:Nat) (ws:List (List Nat)):Txt.join (S [c]) (ws.map S)=S (joinL c ws):=by
 unfold Txt.join;rw[StrLaws.glued_eq_join,join_S]
theorem tjoin_0 (ws:List (List Nat)):Txt.join (S []) (ws.map S)=S ws.flatten:=by
 unfold Txt.join;rw[StrLaws.glued_eq_join,join_0]
theorem cut_inj {c:Nat}:∀ {x y A B:List Nat},c ∉ x→c ∉ y→x++c :: A=y++c :: B→x=y∧A=B
 | [],[],_,_,_,_,h=>⟨rfl,by simpa using h⟩
 | [],b :: y,_,_,_,h2,h=>by
  have:c=b:=by simpa using (List.cons.inj h).1
  exact absurd (this ▸ List.mem_cons_self) h2
 | a :: x,[],_,_,h1,_,h=>by
  have:a=c:=by simpa using (List.cons.inj h).1
  exact absurd (this ▸ List.mem_cons_self) h1
 | a :: x,b :: y,A,B,h1,h2,h=>by
  obtain⟨e1,e2⟩:=List.cons.inj h;obtain⟨e3,e4⟩:=cut_inj (fun z=>h1 (List.mem_cons_of_mem _ z)) (fun z=>h2 (List.mem_cons_of_mem _ z)) e2;exact⟨by rw[e1,e3],e4⟩
theorem join_inj {c:Nat}:∀ {ws vs:List (List Nat)},ws≠[]→vs≠[]→(∀ w∈ws,c ∉ w)→(∀ w∈vs,c ∉ w)→joinL c ws=joinL c vs→ws=vs
 | [],_,h,_,_,_,_=>absurd rfl h
 | _ :: _,[],_,h,_,_,_=>absurd rfl h
 | [x],[y],_,_,_,_,h=>by
  have:x=y:=h
  rw[this]
 | [x],y :: z :: r,_,_,h1,_,h=>by
  have h':x=y++c :: joinL c (z :: r):=h;exact absurd (by rw[h'];simp) (h1 x (by simp))
 | x :: z :: r,[y],_,_,_,h2,h=>by
  have h':x++c :: joinL c (z :: r)=y:=h;exact absurd (by rw[← h'];simp) (h2 y (by simp))
 | x :: x2 :: r,y :: y2 :: r',_,_,h1,h2,h=>by
  have h':x++c :: joinL c (x2 :: r)=y++c :: joinL c (y2 :: r'):=h;obtain⟨e1,e2⟩:=cut_inj (h1 x (by simp)) (h2 y (by simp)) h';rw[e1,join_inj (by simp) (by simp) (fun w hw=>h1 w (List.mem_cons_of_mem _ hw)) (fun w hw=>h2 w (List.mem_cons_of_mem _ hw)) e2]
theorem split_S {c:Nat}{ws:List (List Nat)} (h0:ws≠[]) (hf:∀ w∈ws,c ∉ w):Txt.split (S (joinL c ws)) (S [c])=ws.map S:=by
 have e1:=StrLaws.join_split (S (joinL c ws)) (S [c]);have e2:(Txt.split (S (joinL c ws)) (S [c]))=((Txt.split (S (joinL c ws)) (S [c])).map fun p=>p.cps.toList).map S:=by
  rw[List.map_map];exact (List.map_id' _).symm.trans (List.map_congr_left fun p _=>S_of p)
 have hfree:=StrLaws.split_free (S (joinL c ws)) c;have hpos:=PyProof.Rows.split_pos (S (joinL c ws)) (S [c]);rw[e2,join_S] at e1;have e3:=S_inj e1;have e4:=join_inj (c:=c) (fun z=>by
   rw[List.map_eq_nil_iff] at z;rw[z] at hpos;exact absurd hpos (by decide)) h0 (fun w hw=>by
   obtain⟨p,hp,rfl⟩:=List.mem_map.mp hw;exact hfree p hp) hf e3
 rw[e2,e4]
noncomputable def digs (n:Nat):List Nat:=(Nat.toDigits 10 n).map Char.toNat
theorem str_num (n:Nat):Str.ofString (toString ((n:Nat):Int))=S (digs n):=S_eq (PySem.W.KIN.signs_num n)
theorem digs_dig {n c:Nat} (h:c∈digs n):48≤c∧c≤57:=by
 obtain⟨ch,hch,e⟩:=List.mem_map.mp h;have r:=PyProof.Rows.digit_range (Nat.isDigit_of_mem_toDigits (by decide) (by decide) hch);rw[← e];exact r
theorem digs_split {m:Nat} (h:¬ m<10):digs m=digs (m / 10) ++ [48+m % 10]:=by
 have hm:m % 10<10:=Nat.mod_lt m (by decide);have t:Nat.toDigits 10 (m / 10)++Nat.toDigits 10 (m % 10)=Nat.toDigits 10 (10 * (m / 10)+m % 10):=Nat.toDigits_append_toDigits (by decide) (by omega) hm;rw[Nat.div_add_mod] at t;unfold digs;rw[← t,List.map_append,Nat.toDigits_of_lt_base hm]
 have:∀ d:Nat,d<10→(Nat.digitChar d).toNat=48+d:=by decide
 rw[List.map_cons,List.map_nil,this _ hm]
theorem digs_small {m:Nat} (h:m<10):digs m=[48+m]:=by
 unfold digs;rw[Nat.toDigits_of_lt_base h]
 have:∀ d:Nat,d<10→(Nat.digitChar d).toNat=48+d:=by decide
 rw[List.map_cons,List.map_nil,this _ h]
theorem digs_len:∀ {k m:Nat},m<10^(k+1)→(digs m).length≤k+1
 | 0,m,h=>by rw[digs_small h];exact Nat.le_refl _
 | k+1,m,h=>by
  by_cases h1:m<10
  ·rw[digs_small h1];exact Nat.le_add_left _ _
  ·have h2:m / 10<10^(k+1):=by rw[Nat.div_lt_iff_lt_mul (by decide)];rw[Nat.pow_succ] at h;exact h
   rw[digs_split h1,List.length_append]
   have:=digs_len h2
   simp;omega
noncomputable def lets (m:Nat):List Nat:=(lst m).map fun k=>97+k
theorem lets_let {m c:Nat} (hm:m<2^16) (h:c∈lets m):97≤c∧c<113:=by
 obtain⟨k,hk,rfl⟩:=List.mem_map.mp h;have hb:=mem_lst.mp hk
 have:k<16:=by
  rcases Nat.lt_or_ge k 16 with y | y
  ·exact y
  ·rw[Nat.testBit_lt_two_pow (Nat.lt_of_lt_of_le hm (Nat.pow_le_pow_right (by decide) y))] at hb;cases hb
 omega
theorem lst_16 {m:Nat} (hm:m<2^16):(List.range 16).filter (fun k=>m.testBit k)=lst m:=by
 have hb:Builtin.Int.intBits (m:Int)≤16:=intBits_lt hm;obtain⟨d,hd⟩:∃ d,16=Builtin.Int.intBits (m:Int)+d:=⟨16-Builtin.Int.intBits (m:Int),by omega⟩;unfold lst;rw[hd,List.range_add,List.filter_append]
 have:List.filter (fun k=>m.testBit k) (List.map (Builtin.Int.intBits (m:Int) + ·) (List.range d))=[]:=by
  rw[List.filter_eq_nil_iff];intro k hk;obtain⟨j,_,rfl⟩:=List.mem_map.mp hk
  have:=Nat.testBit_lt_two_pow (Nat.lt_of_lt_of_le (lt_intBits m) (Nat.pow_le_pow_right (by decide) (Nat.le_add_right _ j)):m<2^(Builtin.Int.intBits (m:Int)+j))
  rw[this];decide
 rw[this,List.append_nil]
noncomputable def figsN (m n:Nat):List Nat:=if n=1∧m≠0 then [] else digs n
noncomputable def wordN (m n:Nat):List Nat:=(if n=1∧m≠0 then [] else digs n)++lets m
theorem figs_len {m n:Nat} (hn:n<10^63):(figsN m n).length≤63:=by
 unfold figsN;split
 ·exact Nat.zero_le _
 ·exact digs_len (k:=62) hn
theorem figs_dig {m n c:Nat} (h:c∈figsN m n):48≤c∧c≤57:=by
 unfold figsN at h;split at h
 ·cases h
 ·exact digs_dig h
noncomputable def wordT (t:Int × Int):List Nat:=wordN t.1.toNat t.2.natAbs
noncomputable def sgn (n:Int):Nat:=if n<0 then 45 else 43
noncomputable def partT (t:Int × Int):List Nat:=[32,sgn t.2,32]++wordT t
noncomputable def aheadL (n:Int):List Nat:=if n<0 then [45] else []
noncomputable def txt:Terms→List Nat
 | []=>[48]
 | t :: r=>aheadL t.2++wordT t++r.flatMap partT
noncomputable def wordsL:Terms→List (List Nat)
 | []=>[[48]]
 | t :: r=>(aheadL t.2++wordT t) :: r.flatMap fun u=>[[sgn u.2],wordT u]
theorem join_tail (a:List Nat):∀ r:Terms,joinL 32 (a :: r.flatMap fun u=>[[sgn u.2],wordT u])=a++r.flatMap partT
 | []=>by show a=_;simp
 | u :: r=>by
  have ih:=join_tail (wordT u) r;show a++32 :: ([sgn u.2]++32 :: joinL 32 (wordT u :: r.flatMap fun u=>[[sgn u.2],wordT u]))=_;rw[ih];unfold partT;simp
theorem join_words (f:Terms):joinL 32 (wordsL f)=txt f:=by
 cases f with
 | nil=>rfl
 | cons t r=>exact join_tail _ r
noncomputable def SayOk (t:Int × Int):Prop:=0≤t.1∧t.1<2^16∧t.2≠0∧t.2.natAbs<10^63
theorem lets_len {m:Nat} (hm:m<2^16):(lets m).length≤16:=by
 unfold lets;rw[List.length_map,← lst_16 hm];exact Nat.le_trans (List.length_filter_le _ _) (by rw[List.length_range];exact Nat.le_refl _)
theorem word_len {m n:Nat} (hm:m<2^16) (hn:n<10^63):(wordN m n).length≤79:=by
 unfold wordN;rw[List.length_append];have h1:=lets_len hm;have h2:(digs n).length≤63:=digs_len (k:=62) hn;split
 ·simp;omega
 ·omega
end My
namespace My
open PySem L2 OF
theorem lit_e:("" : Str)=S []:=by decide +kernel
theorem lit_0:("0" : Str)=S [48]:=by decide +kernel
theorem lit_1:("1" : Str)=S [49]:=by decide +kernel
theorem lit_sp:(" " : Str)=S [32]:=by decide +kernel
theorem lit_plus:("+" : Str)=S [43]:=by decide +kernel
theorem lit_minus:("-" : Str)=S [45]:=by decide +kernel
noncomputable def LET:List Nat:=[97,98,99,100,101,102,103,104,105,106,107,108,109,110,111,112]
noncomputable def FIG:List Nat:=[48,49,50,51,52,53,54,55,56,57]
theorem lit_let:("abcdefghijklmnop" : Str)=S LET:=by decide +kernel
theorem lit_fig:("0123456789" : Str)=S FIG:=by decide +kernel
theorem let_at:∀ k:Nat,k<16→LET[k]? = some (97+k):=by decide
theorem int_fig:∀ d:Nat,d<10→intText? (S [48+d])=some (d:Int):=by decide +kernel
theorem fig_has (c:Nat):(S FIG).cps.contains c=decide (48≤c∧c≤57):=by
 have:(S FIG).cps.contains c=FIG.contains c:=by
  show FIG.toArray.contains c=_;simp
 rw[this];unfold FIG;by_cases h:48≤c∧c≤57
 ·rw[decide_eq_true h];obtain⟨d,rfl⟩:∃ d,c=48+d:=⟨c-48,by omega⟩
  have:∀ d,d<10→([48,49,50,51,52,53,54,55,56,57]:List Nat).contains (48+d)=true:=by decide
  exact this d (by omega)
 ·rw[decide_eq_false h];simp only[List.contains_eq_mem,List.mem_cons,List.not_mem_nil,or_false];exact decide_eq_false (by omega)
theorem take_digs:∀ {d l:List Nat},(∀ c∈d,48≤c∧c≤57)→(∀ c r,l=c :: r→¬ (48≤c∧c≤57))→((d++l).takeWhile (S FIG).cps.contains).length=d.length
 | [],[],_,_=>rfl
 | [],c :: r,_,h=>by
  rw[List.nil_append,List.takeWhile_cons,fig_has,decide_eq_false (h c r rfl)];rfl
 | c :: d,l,h,h'=>by
  rw[List.cons_append,List.takeWhile_cons,fig_has,decide_eq_true (h c (by simp))];simp only[if_true,List.length_cons];rw[take_digs (fun x hx=>h x (List.mem_cons_of_mem _ hx)) h']
theorem lstrip_S {d l:List Nat} (h:∀ c∈d,48≤c∧c≤57) (h':∀ c r,l=c :: r→¬ (48≤c∧c≤57)):Txt.lstripChars (S (d++l)) (S FIG)=S l:=by
 have e:stripLo (S FIG).cps.contains true (S (d++l))=d.length:=by
  unfold stripLo;rw[if_pos rfl,S_list];exact take_digs h h'
 have e2:stripHi (S FIG).cps.contains false (S (d++l)) d.length=(d++l).length:=rfl;unfold Txt.lstripChars Txt.stripBy stripSame stripped;rw[e,e2];by_cases hd:d=[]
 ·subst hd;rw[if_pos (by simp[S_len])];rfl
 ·have:d.length≠0:=fun z=>hd (List.eq_nil_of_length_eq_zero z)
  rw[if_neg (by simp[this])];refine S_eq ?_;rw[StrLaws.strSub_toList,S_list,List.drop_left,List.length_append];exact List.take_of_length_le (by omega)
theorem slice_to {a b:List Nat}:Txt.slice (S (a++b)) none (some (a.length:Int))=S a:=by
 have:=StrLaws.sliceText_to (x:=S (a++b)) (j:=(a.length:Int)) ⟨Int.natCast_nonneg _,by rw[S_list,List.length_append];omega⟩
 refine (show Txt.slice (S (a++b)) none (some (a.length:Int))=_ from this).trans ?_;rw[S_list];exact S_eq (by simp)
theorem slice_off {a b:List Nat}:Txt.slice (S (a++b)) (some (a.length:Int)) none=S b:=by
 have:=StrLaws.sliceText_from (x:=S (a++b)) (i:=(a.length:Int)) ⟨Int.natCast_nonneg _,by rw[S_list,List.length_append];omega⟩
 refine (show Txt.slice (S (a++b)) (some (a.length:Int)) none=_ from this).trans ?_;rw[S_list];refine S_eq ?_;simp;exact List.take_of_length_le (by omega)
theorem starts_S (x:List Nat):Txt.startswith (S x) (S [45])=match x with | []=>false | c :: _=>c == 45:=by
 unfold Txt.startswith;rw[StrLaws.subAt_eq,S_list,S_list,S_len,S_len];cases x with
 | nil=>rfl
 | cons c r=>simp
end My
namespace My
open PySem L2 OF
theorem inter_at {α β : Type} (A B : α → β):∀ (f:List α) (k:Nat),(f.flatMap fun t=>[A t,B t])[2 * k]? = f[k]?.map A∧(f.flatMap fun t=>[A t,B t])[2 * k+1]? = f[k]?.map B
 | [],k=>by simp
 | t :: f,0=>by simp
 | t :: f,k+1=>by
  obtain⟨h1,h2⟩:=inter_at A B f k;have e1:2 * (k+1)=2 * k+1+1:=by omega
  have e2:2 * (k+1)+1=2 * k+1+1+1:=by omega
  rw[List.flatMap_cons];constructor
  ·rw[e1];simpa using h1
  ·rw[e2];simpa using h2
theorem inter_len {α β : Type} (A B : α → β) (f:List α):(f.flatMap fun t=>[A t,B t]).length=2 * f.length:=by
 induction f with
 | nil=>rfl
 | cons t f ih=>rw[List.flatMap_cons,List.length_append,ih,List.length_cons];simp;omega
theorem range_map {α β : Type} (A : α → β) (f:List α):(List.range f.length).filterMap (fun k=>f[k]?.map A)=f.map A:=by
 apply List.ext_getElem?;intro i
 have:∀ (n:Nat) (g:List α),n≤g.length→(List.range n).filterMap (fun k=>g[k]?.map A)=(g.take n).map A:=fun n g=>by
  induction n with
  | zero=>intro _;rfl
  | succ n ih =>
   intro h;rw[List.range_succ,List.filterMap_append,ih (by omega),List.take_add_one,List.map_append,List.getElem?_eq_getElem (by omega:n<g.length)];simp[List.getElem?_eq_getElem (by omega:n<g.length)]
 rw[this _ f (Nat.le_refl _),List.take_length]
theorem pick_0 {α : Type} (A B : α → V) (f:List α):pickL 0 (((f.flatMap fun t=>[A t,B t]).length-0+1) / 2) (f.flatMap fun t=>[A t,B t])=f.map A:=by
 have e:((f.flatMap fun t=>[A t,B t]).length-0+1) / 2=f.length:=by rw[inter_len];omega
 unfold pickL;rw[e,← range_map A f];congr 1
 funext k
 rw[Nat.zero_add];exact (inter_at A B f k).1
theorem pick_1 {α : Type} (A B : α → V) (f:List α):pickL 1 (((f.flatMap fun t=>[A t,B t]).length-1+1) / 2) (f.flatMap fun t=>[A t,B t])=f.map B:=by
 have e:((f.flatMap fun t=>[A t,B t]).length-1+1) / 2=f.length:=by rw[inter_len];omega
 unfold pickL;rw[e,← range_map B f];congr 1
 funext k
 rw[Nat.add_comm];exact (inter_at A B f k).2
theorem part_len {t:Int × Int} (h:SayOk t):(partT t).length≤82:=by
 unfold partT
 have:(wordT t).length≤79:=word_len (by have:=h.1;have:=h.2.1;omega) h.2.2.2
 simp;omega
theorem parts_flat_len:∀ {r:Terms},(∀ t∈r,SayOk t)→(r.flatMap partT).length≤82 * r.length
 | [],_=>by simp
 | t :: r,h=>by
  rw[List.flatMap_cons,List.length_append,List.length_cons];have h1:=part_len (h t (by simp));have h2:=parts_flat_len (r:=r) fun u hu=>h u (by simp[hu])
  omega
theorem txt_len {f:Terms} (h:∀ t∈f,SayOk t):(txt f).length≤82 * f.length+1:=by
 cases f with
 | nil=>decide
 | cons t r =>
  show (aheadL t.2++wordT t++r.flatMap partT).length≤_;rw[List.length_append,List.length_append,List.length_cons];have h1:(wordT t).length≤79:=word_len (by have:=(h t (by simp)).1;have:=(h t (by simp)).2.1;omega) (h t (by simp)).2.2.2;have h2:=parts_flat_len (r:=r) fun u hu=>h u (by simp[hu])
  have h3:(aheadL t.2).length≤1:=by unfold aheadL;split <;> simp
  omega
end My
namespace L2
open PySem PySem.Spec PyProof.Rows
theorem for_str {l:List Nat}{g:TG}{tb:TS}{D:Ends} {σ:St}{H:Hp} (Pv:Nat→St→Hp→Prop) (h0:Pv 0 σ H)
  (hs:∀ i c σ H,l[i]? = some c→Pv i σ H→g (.str (My.S [c])) σ H fun σ2 H2=>tb { D with nx:=Pv (i+1),ct:=Pv (i+1),bk:=D.nx } σ2 H2) (hd:∀ σ H,Pv l.length σ H→D.nx σ H) :
  ∃ W:Nat→Nat→St→Hp→Prop,(∃ m,W 0 m σ H)∧∀ i m σ H,W i m σ H →
   ((ItC (My.S l)).stop i H∧D.nx σ H)∨((ItC (My.S l)).go i H∧∃ N:St→Hp→Prop,(∀ σ' H',N σ' H'→∃ m',m'<m∧W (i+1) m' σ' H')∧∀ x H',(ItC (My.S l)).yld i H x H'→g x σ H' fun σ2 H2=>tb { D with nx:=N,ct:=N,bk:=D.nx } σ2 H2):=by
 refine⟨fun i m σ H=>m=l.length-i∧i≤l.length∧Pv i σ H,⟨l.length,by simp,Nat.zero_le _,h0⟩,?_⟩;rintro i m σ H ⟨rfl,hi,p⟩;by_cases hlt:i<l.length
 ·refine .inr ⟨hlt,Pv (i+1),fun σ' H' p'=>⟨l.length-(i+1),by omega,rfl,hlt,p'⟩,fun x H' y=>?_⟩;obtain⟨rfl,c,hc,rfl⟩:=y;exact hs i c σ _ (by simpa [My.S] using hc) p
 ·have e:i=l.length:=by omega
  subst e;exact .inl ⟨Nat.le_refl _,hd σ H p⟩
end L2
namespace My
open PySem L2 OF
theorem ascii_S {l:List Nat} (h:∀ c∈l,c<128):(S l).cps.all (· < 128)=true:=by
 show l.toArray.all _=true;simpa using h
theorem lets_asc {m:Nat} (hm:m<2^16):∀ c∈lets m,c<128:=fun c hc=>by have:=lets_let hm hc;omega
end My
set_option maxHeartbeats 4000000
namespace L2
open PySem PySem.Spec PyProof.Rows
theorem HOk.gone {P:Program}{w:World}{H:Hp}{h:Heap}{a:Addr} (x:HOk P w H h) (e:h.get? a=none):H a=none:=by
 cases q:H a with
 | none=>rfl
 | some o=>obtain⟨ob,z⟩:=(x a o q).there;rw[e] at z;cases z
noncomputable def Fly (h:Heap) (a T:Addr) (C:Value):Prop :=
 ∃ oe vs oT ts a0,h.get? a=some oe∧(oe.cls=C∧vs[0]? = some a0)∧oe.data = .fields vs∧vs[1]? = some (.ref T)∧T≠a∧h.get? T=some oT∧oT.data = .fields ts∧ts[3]? = some .none
noncomputable def CXe (P:Program) (w:World):CXT:=fun outer H s E e s'=>∃ (a T:Addr) (C:Value) (H':Hp),e = .ref a∧s'.os=s.os∧AllBare s'.gens∧Un (frs outer) [] H H' s.heap s'.heap∧HOk P w H' s'.heap ∧
 s.heap.get? a=none∧s.heap.get? T=none∧H' a=none∧H' T=none∧Fly s'.heap a T C∧E C none H'
section
variable {X:Cx}{pins:List (Addr × Obj)} {σ:St}{H:Hp}{s:Shared}
theorem frs_cons {env:Env}{l:List Env}{L:Addr} (h:env.frame=some L):frs (env :: l)=L :: frs l:=by
 unfold frs;rw[List.filterMap_cons,h]
structure Own (X:Cx):Prop where
 stk:X.stack=X.env :: X.outer
 fr:X.env.frame=some X.env.locals
 ex:X.ex=[]
noncomputable def Apart (X:Cx) (H:Hp) (h:Heap) (xs:List Addr):Prop:=∀ b∈xs,X.s₀.heap.get? b=none∧H b=none∧∃ o vs,h.get? b=some o∧o.data = .fields vs
theorem Inv.over (O:Own X) (J:Inv X pins σ H s) {xs:List Addr} (hxs:Apart X H s.heap xs) {h3:Heap} (st:(PySem.W.hideAll s.heap (frs X.stack++xs)).StaysIn h3) (ups:∀ b o,b∈frs X.stack→s.heap.get? b=some o→∃ sl,h3.get? b=some { o with slots:=sl }) :
  HOk X.prog X.w H h3∧Un (frs X.stack) xs H H s.heap h3:=by
 have stays:∀ b o,s.heap.get? b=some o→b ∉ frs X.stack→b ∉ xs→h3.get? b=some o:=fun b o e h1 h2=>st b o (PySem.W.hideAll_get _ e fun z=>(List.mem_append.mp z).elim h1 h2)
 have trk:∀ b o,H b=some o→b ∉ frs X.stack∧b ∉ xs:=fun b o e=>⟨fun z=>(by rw[J.stkFree b z] at e;cases e),fun z=>(by rw[(hxs b z).2.1] at e;cases e)⟩
 refine⟨fun b o e=>(J.hok b o e).stay (fun c u hc q=>?_) (fun _ q=>q) fun _ _ q=>q,fun b o e n hb hx=>stays b o e hb hx,fun b o e n hb hx=>ups b o hb e,fun _ _ _ n _=>n,fun b o e hx=>?_,fun _ _ q=>q,fun _ _ _ q=>q,fun _ ps q=>⟨#[],by rw[q];simp⟩⟩
 ·have hc':∃ o',H c=some o':=by
   rcases hc with rfl | hc
   ·exact⟨_,e⟩
   ·exact⟨_,hc⟩
  obtain⟨o',e'⟩:=hc';obtain⟨h1,h2⟩:=trk c o' e';exact stays c u q h1 h2
 ·by_cases hb:b∈frs X.stack
  ·obtain⟨sl,z⟩:=ups b o hb e;exact⟨_,z⟩
  ·exact⟨o,stays b o e hb hx⟩
theorem landed (O:Own X) (J:Inv X pins σ H s) {xs:List Addr} (hxs:Apart X H s.heap xs) {a:Addr}{C a0:Value}{h3:Heap}
  (ups:∀ b o,b∈frs X.stack→s.heap.get? b=some o→∃ sl,h3.get? b=some { o with slots:=sl }) (fl:Heap.FlyingW (PySem.W.hideAll s.heap (frs X.stack++xs)) X.outer a C a0 h3) (ha:s.heap.get? a=none∨a∈xs) {E:XK} (hE:E C none H) :
  CXe X.prog X.w X.outer X.H₀ X.s₀ E (.ref a) { s with heap:=h3 }:=by
 obtain⟨st,hn,hfun,oe,vs,T,oT,ts,he,hc,hd,h1,hnT,hTa,hT,hdT,h3'⟩:=fl;have fresh:∀ b,s.heap.get? b=none→X.s₀.heap.get? b=none:=fun b e=>by
  cases q:X.s₀.heap.get? b with
  | none=>rfl
  | some o=>obtain⟨o',z⟩:=J.base.there b o q (by rw[O.ex];simp);rw[e] at z;cases z
 have hfrs:frs X.stack=X.env.locals :: X.fs:=by rw[O.stk,frs_cons O.fr]
 obtain⟨hok,un⟩:=Inv.over O J hxs st ups;have young:∀ b o,X.s₀.heap.get? b=some o→b ∉ xs:=fun b o e z=>by rw[(hxs b z).1] at e;cases e
 have old:∀ b o,X.s₀.heap.get? b=some o→b≠X.env.locals:=fun b o e=>Nat.ne_of_lt (Nat.lt_of_lt_of_le (Heap.lt_size e) J.ok.above)
 have nx:∀ b:Addr,b ∉ X.ex:=fun b=>by rw[O.ex];simp
 have hT2:s.heap.get? T=none∨T∈xs:=by
  by_cases hx:T∈xs
  ·exact .inr hx
  ·refine .inl ?_;cases q:s.heap.get? T with
   | none=>rfl
   | some o =>
    by_cases hf:T∈frs X.stack
    ·obtain⟨_,o2,ho2,hnf⟩:=J.stack.mem hf;obtain⟨sl,z⟩:=ups T o2 hf ho2;rw[hT] at z;cases z;exact absurd hdT (hnf ts)
    ·have:=PySem.W.hideAll_get (frs X.stack++xs) q fun z=>(List.mem_append.mp z).elim hf hx
     rw[hnT] at this;cases this
 have both:∀ b,(s.heap.get? b=none∨b∈xs)→X.s₀.heap.get? b=none∧H b=none:=fun b hb=>by
  rcases hb with e | e
  ·exact⟨fresh b e,J.hok.gone e⟩
  ·exact⟨(hxs b e).1,(hxs b e).2.1⟩
 refine⟨a,T,C,H,rfl,J.os,J.bare,⟨fun b o e n hb hx=>?_,fun b o e n hb hx=>?_,fun b o e n _=>J.base.free b o e n (nx b),fun b o e hx=>?_,J.base.tups,J.base.frzs,J.base.tbls⟩,hok,(both a ha).1,(both T hT2).1,(both a ha).2,(both T hT2).2,⟨oe,vs,oT,ts,a0,he,hc,hd,h1,hTa,hT,hdT,h3'⟩,hE⟩
 ·have e1:=J.base.keep b o e n hb (nx b);exact un.keep b o e1 (J.base.free b o e n (nx b)) (by rw[hfrs];exact fun z=>(List.mem_cons.mp z).elim (old b o e) hb) (young b o e)
 ·obtain⟨sl,e1⟩:=J.base.slot b o e n hb (nx b);obtain⟨sl',e2⟩:=un.slot b _ e1 (J.base.free b o e n (nx b)) (by rw[hfrs];exact List.mem_cons_of_mem _ hb) (young b o e);exact⟨sl',e2⟩
 ·obtain⟨o1,e1⟩:=J.base.there b o e (nx b);exact un.there b o1 e1 (young b o e)
theorem leave_made (O:Own X) (J:Inv X pins σ H s) {h':Heap}{a:Addr}{C:Value}{vs:List Value} (hx:Heap.MadeExcOf s.heap h' a C vs) {E:XK} (hE:E C none H) {E':Value→Shared→Prop} :
  wpAny (model X.prog X.w) X.A (leaving X.env (.ref a)) (fun _ s''=>CXe X.prog X.w X.outer X.H₀ X.s₀ E (.ref a) s'') E' { s with heap:=h' }:=by
 have hfr:X.A.frames=some (X.env :: X.outer):=by rw[← O.stk];exact J.ok.frames
 have hl:s.heap.FunFrames (PySem.W.hideAll s.heap (frs X.stack ++ [])) (X.env :: X.outer):=by
  rw[← O.stk];exact PySem.W.funFrames_hide J.stack fun env he b hb=>List.mem_append_left _ (List.mem_filterMap.mpr ⟨env,he,hb⟩)
 refine wpAny_leaves_madeW (base:=PySem.W.hideAll s.heap (frs X.stack ++ [])) (h:=s.heap) (s:={ s with heap:=h' }) hfr O.fr (fun b o e=>PySem.W.of_hideAll _ e) hl hx fun h3 t fl _ _ ups=>?_
 exact landed O J (xs:=[]) (fun b hb=>by cases hb) (fun b o hb e=>ups b o (hx.keeps b o e) (by
  obtain⟨_,o2,ho2,hnf⟩:=J.stack.mem hb;rw[e] at ho2;cases ho2;exact hnf)) fl (.inl hx.new) hE
theorem behind (J:Inv X pins σ H s) {E:XK}{e:Value}{s':Shared} (h:CXe X.prog X.w X.stack H s E e s') :
  ∃ (a T:Addr) (C:Value) (H':Hp),e = .ref a∧Inv X pins σ H' s'∧s.heap.get? a=none∧s.heap.get? T=none∧H' a=none∧H' T=none∧Fly s'.heap a T C∧E C none H':=by
 obtain⟨a,T,C,H',rfl,ho,hg,un,hok,h1,h2,h3,h4,h5,h6⟩:=h;exact⟨a,T,C,H',rfl,J.call' ho un hok hg (fun b hb=>by cases hb),h1,h2,h3,h4,h5,h6⟩
theorem fly_apart (O:Own X) (J:Inv X pins σ H s) {s1:Shared}{H1:Hp}{a T:Addr}{C:Value} (h1:s.heap.get? a=none) (h2:s.heap.get? T=none) (h3:H1 a=none) (h4:H1 T=none) (h5:Fly s1.heap a T C):Apart X H1 s1.heap [a,T]:=by
 obtain⟨oe,vs,oT,ts,a0,he,hc,hd,_,_,hT,hdT,_⟩:=h5;have fresh:∀ b,s.heap.get? b=none→X.s₀.heap.get? b=none:=fun b e=>by
  cases q:X.s₀.heap.get? b with
  | none=>rfl
  | some o=>obtain⟨o',z⟩:=J.base.there b o q (by rw[O.ex];simp);rw[e] at z;cases z
 intro b hb;rcases List.mem_cons.mp hb with rfl | hb
 ·exact⟨fresh _ h1,h3,oe,vs,he,hd⟩
 ·have e:b=T:=by simpa using hb
  subst e;exact⟨fresh _ h2,h4,oT,ts,hT,hdT⟩
theorem flying (J:Inv X pins σ H s) {a T:Addr}{C:Value} (h5:Fly s.heap a T C):∃ a0,Heap.FlyingW (PySem.W.hideAll s.heap (frs X.stack ++ [a,T])) X.stack a C a0 s.heap:=by
 obtain⟨oe,vs,oT,ts,a0,he,hc,hd,hv1,hne,hT,hdT,h3⟩:=h5;have m1:a∈frs X.stack ++ [a,T]:=List.mem_append_right _ (by simp);have m2:T∈frs X.stack ++ [a,T]:=List.mem_append_right _ (by simp);exact⟨a0,fun b o e=>PySem.W.of_hideAll _ e,PySem.W.hideAll_none _ m1,PySem.W.funFrames_hide J.stack fun env he b hb=>List.mem_append_left _ (List.mem_filterMap.mpr ⟨env,he,hb⟩),oe,vs,T,oT,ts,he,hc,hd,hv1,PySem.W.hideAll_none _ m2,hne,hT,hdT,h3⟩
theorem ups_of (J:Inv X pins σ H s) {h3:Heap} (ups:s.heap.UpToSlots h3):∀ b o,b∈frs X.stack→s.heap.get? b=some o→∃ sl,h3.get? b=some { o with slots:=sl }:=fun b o hb e=>ups b o e (by
 obtain⟨_,o2,ho2,hnf⟩:=J.stack.mem hb;rw[e] at ho2;cases ho2;exact hnf)
theorem leave_on (O:Own X) (J:Inv X pins σ H s) {E:XK}{e:Value}{s':Shared} (h:CXe X.prog X.w X.stack H s E e s') {E':Value→Shared→Prop} :
  wpAny (model X.prog X.w) X.A (leaving X.env e) (fun _ s''=>CXe X.prog X.w X.outer X.H₀ X.s₀ E e s'') E' s':=by
 obtain⟨a,T,C,H',rfl,J',h1,h2,h3,h4,h5,h6⟩:=behind J h;have ap:=fly_apart O J h1 h2 h3 h4 h5;obtain⟨a0,fl⟩:=flying J' h5;have hfr:X.A.frames=some (X.env :: X.outer):=by rw[← O.stk];exact J.ok.frames
 have fl2:=fl;rw[show X.stack=X.env :: X.outer from O.stk] at fl;refine wpAny_leaves_onW (a0:=a0) (base:=PySem.W.hideAll s'.heap (frs (X.env :: X.outer) ++ [a,T])) hfr O.fr fl fun h3' fl3 ups=>?_
 rw[← O.stk] at fl3;exact landed O J' ap (ups_of J' ups) fl3 (.inr (by simp)) h6
end
end L2
namespace L2
open PySem PySem.Spec PyProof.Rows
noncomputable def qNames:List Str:=["__init__", "__getattribute__", "__getattr__", "__class__"]
noncomputable abbrev vB:List Value:=[.type "ValueError",.type "Exception",.type "BaseException",.type "object"]
inductive Tl (h:Heap):List Value→Prop
 | base:Tl h vB
 | own {D:Addr}{o:Obj}{c:ClassData}{m:Str→Option Value}{l:List Value} (e:h.get? D=some o) (k:o.data = .cls c) (n:h.Ns c.ns m) (q:∀ x∈qNames,m x=none) (r:Tl h l):Tl h (.ref D :: l)
theorem Tl.toOwn {h:Heap}{l:List Value} (T:Tl h l):OwnTail h vB l:=by
 induction T with
 | base=>exact .base
 | @own D o c m l e k n q r ih =>
  obtain⟨c0,dd,dt,sl⟩:=o;obtain rfl:dt = .cls c:=k;exact .own e n (q _ (by decide)) ih
structure ExC (C:Addr) (bm:List Value) (h:Heap):Prop where
 ex:∃ (nm q:Str) (N:Addr) (bs:List Value) (hd:Bool) (sn:List Str) (sub:List Value) (ab:Bool) (col:Option Bool) (dd:Option Addr) (k0 k1 k2 k3 k5:Option Value) (m:Str→Option Value),
  h.get? C=some (excClassObj nm q C N bs bm hd sn sub ab col dd k0 k1 k2 k3 k5 "ValueError.__new__")∧h.Ns N m∧(∀ x∈qNames,m x=none)∧Tl h bm
noncomputable def qIn (K:PySem.W.Frag) (N:Addr):Bool:=PySem.W.nsOkIn K N && qNames.all fun x=>PySem.W.nsIn K N x == some none
noncomputable def tlIn (K:PySem.W.Frag):List Value→Bool
 | []=>false
 | v :: l=>(v :: l) == vB || match v with
  | .ref D=>(match K.lookup D with
   | some o=>(match o.data with
    | .cls c=>qIn K c.ns && tlIn K l
    | _=>false)
   | none=>false)
  | _=>false
noncomputable def exIn (K:PySem.W.Frag) (C:Addr) (bm:List Value):Bool:=match K.lookup C with
 | some ⟨.type "type",_,.cls c,⟨[_,_,_,_,some (.builtin n),_]⟩⟩=>c.mro == .ref C :: bm && n == "ValueError.__new__" && !c.hasDel && tlIn K bm && qIn K c.ns
 | _=>false
theorem qIn_of {K:PySem.W.Frag}{h:Heap}{N:Addr} (X:K.In h) (e:qIn K N=true):h.Ns N (h.nsMap N)∧∀ x∈qNames,h.nsMap N x=none:=by
 unfold qIn at e;obtain⟨a,b⟩:=Bool.and_eq_true_iff.mp e;exact⟨.of_isNs (PySem.W.isNs_of_in X a),fun x hx=>PySem.W.nsMap_none_of_in X a (beq_iff_eq.mp (List.all_eq_true.mp b x hx))⟩
theorem tlIn_of {K:PySem.W.Frag}{h:Heap} (X:K.In h):∀ {l:List Value},tlIn K l=true→Tl h l
 | [],e=>by cases e
 | v :: l,e=>by
  unfold tlIn at e;rcases Bool.or_eq_true_iff.mp e with z | z
  ·rw[beq_iff_eq.mp z];exact .base
  ·split at z
   ·split at z
    ·rename_i o ho;split at z
     ·rename_i c hc;obtain⟨z1,z2⟩:=Bool.and_eq_true_iff.mp z;obtain⟨y1,y2⟩:=qIn_of X z1;exact .own (X _ _ ho) hc y1 y2 (tlIn_of X z2)
     ·cases z
    ·cases z
   ·cases z
theorem exIn_of {K:PySem.W.Frag}{h:Heap}{C:Addr}{bm:List Value} (X:K.In h) (e:exIn K C bm=true):ExC C bm h:=by
 unfold exIn at e;split at e
 ·rename_i dd c k0 k1 k2 k3 n k5 ho;simp only[Bool.and_eq_true,beq_iff_eq,Bool.not_eq_true'] at e;obtain⟨⟨⟨⟨e1,e2⟩,e3⟩,e4⟩,e5⟩:=e;obtain⟨nm,bs,mro,ns,qn,hd,sn,sub,ab,col,del⟩:=c;dsimp only at e1 e3 e5;subst e1 e2 e3;obtain⟨y1,y2⟩:=qIn_of X e5;exact⟨nm,qn,ns,bs,hd,sn,sub,ab,col,dd,k0,k1,k2,k3,k5,_,X _ _ ho,y1,y2,tlIn_of X e4⟩
 ·cases e
section
variable {M:Model}{A:Around}{E:Value→Shared→Prop}{h:Heap}{g:Array GenState}{d:Drawn}{t:Nat}{os:OsState}{C a:Addr}{bm:List Value}{o:Obj}{prog:Program}{w:World}
theorem Tl.along {l:List Value}{n:Str}{y:Option Value}{Q:Option Value→Shared→Prop} (T:Tl h l) (hn:n∈qNames) (hr:lookupAlong vB n=pure y) (hq:Q y ⟨h,g,d,t,os⟩):wpAny M A (lookupAlong l n) Q E ⟨h,g,d,t,os⟩:=by
 induction T with
 | base=>rw[hr];exact wpAny_pure hq
 | @own D ob c m l e k ns q r ih =>
  obtain⟨c0,dd,dt,sl⟩:=ob;obtain rfl:dt = .cls c:=k;rw[lookupAlong_cons];exact wpAny_bind (wpAny_classOwn_cls e ns (by rw[q n hn];exact ih))
theorem ExC.look (Z:ExC C bm h) {n:Str}{y:Option Value}{Q:Option Value→Shared→Prop} (hn:n∈qNames) (hB:typeLookup (.type "ValueError") n=pure y) (hq:Q y ⟨h,g,d,t,os⟩):wpAny M A (typeLookup (.ref C) n) Q E ⟨h,g,d,t,os⟩:=by
 obtain⟨nm,q,N,bs,hd,sn,sub,ab,col,dd,k0,k1,k2,k3,k5,m,hC,hN,hm,T⟩:=Z.ex;have hr:lookupAlong vB n=pure y:=by rw[typeLookup_eq,PySem.F.excBase_ValueError.mroIs] at hB;exact hB
 rw[typeLookup_eq];refine wpAny_bind (wpAny_mroOf_exc hC ?_);rw[lookupAlong_cons];exact wpAny_bind (wpAny_classOwn_exc hC hN (by rw[hm n hn];exact T.along hn hr hq))
theorem ExC.sub (Z:ExC C bm h) {c:Value}{Q:Bool→Shared→Prop} (hq:Q ((Value.ref C :: bm).contains c) ⟨h,g,d,t,os⟩):wpAny M A (isSubtype (.ref C) c) Q E ⟨h,g,d,t,os⟩:=by
 obtain⟨nm,q,N,bs,hd,sn,sub,ab,col,dd,k0,k1,k2,k3,k5,m,hC,_⟩:=Z.ex;exact wpAny_isSubtype_exc hC hq
theorem ExC.has (Z:ExC C bm h) {T:String}{b:Bool} (hb:vB.contains (.type T)=b):(Value.ref C :: bm).contains (.type T)=b:=by
 obtain⟨nm,q,N,bs,hd,sn,sub,ab,col,dd,k0,k1,k2,k3,k5,m,hC,hN,hm,T⟩:=Z.ex;rw[List.contains_cons,T.toOwn.hasType hb];rfl
theorem lk_VE_class:typeLookup (.type "ValueError") "__class__" = pure (some (.builtin "object.__class__")):=by rw[typeLookup_type,builtinLookup_eq_fast];kernel_rfl
theorem cls_get (Z:ExC C bm h) (hx:h.get? a=some o) (hc:o.cls = .ref C) {R:Result→Shared→Prop} (hq:R (.ok (.ret (.ref C))) ⟨h,g,d,t,os⟩) :
  codeAny (model prog w) A (.call (.builtin "getset_descriptor.__get__") ⟨[.builtin "object.__class__",.ref a,.ref C],[]⟩) R ⟨h,g,d,t,os⟩:=by
 have z1:(⟨h,g,d,t,os⟩:Shared).TypeIs (.builtin "object.__class__") "getset_descriptor" := F.typeOf_object_class;have z2:(Value.ref C :: bm).contains (.type (".".intercalate ("object.__class__".cutAt '.').dropLast))=true:=by rw[F.owner_object_class];exact Z.has (by decide +kernel)
 refine codeAny_call_builtin F.slot_gs_get.plain F.entry_gs_get (F.slot_gs_get.check _ _ _ _ _ _ _ _ z1 (F.args_gs_get _ _ _) ?_);repeat (any_goals (first | assumption | (with_reducible refine wpAny_loadPart_at hx ?_;rw[hc]) | (with_reducible refine ExC.sub Z ?_;rw[z2]) | wp_step))
 refine⟨Code.quiet_builtin _ (by decide +kernel),codeAny_builtin F.entry_object_class ?_⟩;repeat (any_goals (first | assumption | (with_reducible refine wpAny_loadPart_at hx ?_;rw[hc]) | wp_step))
theorem cls_entry (Z:ExC C bm h) (hx:h.get? a=some o) (hc:o.cls = .ref C) {tk:Tok}{Q:Fin→Shared→Prop} (hq:Q (.done (.ret (.ref C))) ⟨h,g,d,t,os⟩) :
  wpAny (model prog w) A (Builtin.«object.__getattribute__» ⟨[.ref a,.str "__class__" tk],[]⟩) Q E ⟨h,g,d,t,os⟩:=by
 have z1:(⟨h,g,d,t,os⟩:Shared).TypeIs (.builtin "object.__class__") "getset_descriptor" := F.typeOf_object_class;have y5:=F.typeOf_object_class;have y6:=F.slot_gs_get.lookup;have y7:=F.slot_gs_set.lookup;have zn:("__class__" : Str)∈qNames:=by decide
 repeat (any_goals (first | assumption | (with_reducible refine wpAny_loadPart_at hx ?_;rw[hc]) | with_reducible refine ExC.look Z zn lk_VE_class ?_ | wp_step))
 refine cls_get Z hx hc ?_;repeat (any_goals (first | assumption | wp_step))
theorem cls_check (Z:ExC C bm h) (hx:h.get? a=some o) (hc:o.cls = .ref C) {nv:Value}{Q:Unit→Shared→Prop} (hq:Q () ⟨h,g,d,t,os⟩):wpAny M A (checkBuiltinCall "BaseException.__getattribute__" ⟨[.ref a,nv],[]⟩) Q E ⟨h,g,d,t,os⟩:=by
 have e1:builtinKind "BaseException.__getattribute__" = some .slot:=by decide +kernel
 have e2:splitId "BaseException.__getattribute__" = some ("BaseException", "__getattribute__"):=by decide +kernel
 have e3:(Value.ref C :: bm).contains (.type "BaseException")=true:=Z.has (by decide +kernel);have ha:=F.args_bexc_ga (.ref a) nv;simp only[checkBuiltinCall,e1,e2];refine wpAny_bind ?_;unfold isInstance;repeat (first | (with_reducible refine wpAny_loadPart_at hx ?_;rw[hc]) | (with_reducible refine ExC.sub Z ?_;rw[e3]) | wp_step)
 exact hq
theorem cls_by (Z:ExC C bm h) (hx:h.get? a=some o) (hc:o.cls = .ref C) {tk:Tok}{fill expr:Bool}{Q:Value→Shared→Prop} (hq:Q (.ref C) ⟨h,g,d,t,os⟩) :
  wpAny (model prog w) A (getAttrBy (.ref a) (.str "__class__" tk) fill expr) Q E ⟨h,g,d,t,os⟩:=by
 have FB:=PySem.F.attrBase_ValueError;have y3:=FB.ga.bind (.ref a);have x0:(expr && onTheHeap (Value.builtin "BaseException.__getattribute__"))=false:=by cases expr <;> rfl
 have x2:(Value.builtin "BaseException.__getattribute__" == Value.builtin "object.__getattribute__")=false:=by decide +kernel
 have x1:(onTheHeap (Value.ref C) && Value.builtin "BaseException.__getattribute__" == Value.builtin "object.__getattribute__")=false:=by rw[x2];rfl
 have n1:("__getattribute__" : Str)∈qNames:=by decide
 have n2:("__getattr__" : Str)∈qNames:=by decide
 repeat (any_goals (first | assumption | (with_reducible refine wpAny_loadPart_at hx ?_;rw[hc]) | with_reducible refine ExC.look Z n1 FB.ga.lookup ?_ | with_reducible refine ExC.look Z n2 FB.noGetattr ?_ | wp_step))
 refine codeAny_call_builtin FB.ga.plain F.entry_bexc_ga (cls_check Z hx hc (cls_entry Z hx hc ?_));repeat (any_goals (first | assumption | wp_step))
theorem cls_attr (Z:ExC C bm h) (hx:h.get? a=some o) (hc:o.cls = .ref C) {Q:Option Value→Shared→Prop} (hq:Q (some (.ref C)) ⟨h,g,d,t+1,os⟩):wpAny (model prog w) A (getAttr? (.ref a) "__class__") Q E ⟨h,g,d,t,os⟩:=by
 unfold getAttr? getAttrBy?;repeat (any_goals (first | assumption | with_reducible apply cls_by Z hx hc | wp_step))
noncomputable def IsExc (a C:Addr) (h:Heap):Prop:=∃ o,h.get? a=some o∧o.cls = .ref C
theorem kitx_exc {K:PySem.W.Frag} (e:exIn K C bm=true):PySem.W.KitX K (.ref a) (.ref C) (IsExc a C) where
 ty:=fun M h _ ⟨o,h1,h2⟩=>h2 ▸ (PySem.W.Looks.ld h1).andThen .now
 it:=fun M h X _=>by
  obtain⟨nm,q,N,bs,hd,sn,sub,ab,col,dd,k0,k1,k2,k3,k5,m,hC,_⟩:=(exIn_of X e).ex;intro A' Q' E' s' k q;unfold isType loadHead;exact wpAny_bind (wpAny_loadPart (k _ _ hC) (wpAny_pure q))
 ne:=fun h tp dd its n sl X htp=>by
  obtain⟨nm,q,N,bs,hd,sn,sub,ab,col,dd',k0,k1,k2,k3,k5,m,hC,_⟩:=(exIn_of X e).ex;refine Bool.eq_false_iff.mpr fun z=>?_
  have z':C=tp:=Value.ref.inj (beq_iff_eq.mp z);subst z';have y:Value.type "type" = Value.type "tuple" := congrArg (fun o:Option Obj=>match o with | some o=>o.cls | none=>.none) (hC.symm.trans htp);exact absurd y (by decide)
 ca:=fun {prog w A E Q s} X p k=>by
  obtain⟨h,g,d,t,os⟩:=s;obtain⟨o,h1,h2⟩:=p;exact cls_attr (exIn_of X e) h1 h2 k
end
noncomputable abbrev excO (a C:Addr):HO := .ext (IsExc a C)
section
variable {X:Cx}
theorem call_isinstanceE:CallR X (.builtin "isinstance") (fun xs H Q=>∃ (a C:Addr) (bm:List Value) (b:Bool),H a=some (excO a C)∧exIn X.K C bm=true ∧
  ((∃ D,xs=[.ref a,.ref D]∧PySem.W.kitOne X.K (.ref C) (.ref D)=some b)∨∃ n,xs=[.ref a,.ty n]∧PySem.W.kitOne X.K (.ref C) (.type n)=some b)∧Q (.bl b) H):=by
 intro pins s σ H xs us Q I r h;obtain⟨a,C,bm,b,hH,he,hk,q⟩:=h;obtain⟨p,_,_⟩:=(show ObjOk X.prog X.w H s.heap a (excO a C) from I.hok a _ hH);rcases hk with ⟨D,rfl,hk⟩ | ⟨n,rfl,hk⟩
 ·obtain⟨u,w',rfl,ru,rw'⟩:=vals2 r;cases (show u=Value.ref a from ru);cases (show w'=Value.ref D from rw');exact PySem.W.kia_one (kitx_exc he) I.kIn p hk (fun z=>nomatch z) fun tk=>⟨.bl b,H,I.tok _,rfl,q⟩
 ·obtain⟨u,w',rfl,ru,rw'⟩:=vals2 r;cases (show u=Value.ref a from ru);cases (show w'=Value.type n from rw');exact PySem.W.kia_one (kitx_exc he) I.kIn p hk (fun z=>nomatch z) fun tk=>⟨.bl b,H,I.tok _,rfl,q⟩
end
theorem boot_VE:bootBuiltins "ValueError" = some (.type "ValueError"):=by kernel_rfl
end L2
namespace L2
open PySem PySem.Spec PyProof.Rows
structure Lets (X:Cx) (E:XK):Prop where
 own:Own X
 xe:∀ e s',wpAny (model X.prog X.w) X.A (leaving X.env e) (fun _ s''=>CXe X.prog X.w X.outer X.H₀ X.s₀ E e s'') (fun _ _=>False) s'→X.xe e s'
section
variable {P:Program}{w:World}{K:PySem.W.Frag}{mg:Str→Option Value}{base:Heap}
theorem own_def {CX:CXT}{N:List Str}{qual:Str}{scope:Scope}{f:Addr}{cd:Value}{A:Around}{outer:List Env}{s:Shared}{H:Hp}{E:XK}:Own (cxOf CX P w K mg base N qual scope f cd A outer s H E):=⟨rfl,rfl,rfl⟩
theorem own_nox {X:Cx} (O:Own X):Own X.nox:=⟨O.stk,O.fr,O.ex⟩
theorem lets_def {N:List Str}{qual:Str}{scope:Scope}{f:Addr}{cd:Value}{A:Around}{outer:List Env}{s:Shared}{H:Hp}{E:XK}:Lets (cxOf (CXe P w) P w K mg base N qual scope f cd A outer s H E) E :=
 ⟨own_def,fun _ _ h=>wpAny_mono h (fun _ _ z=>z) fun _ _ z=>False.elim z⟩
theorem Fun.okE {x qual:Str}{st:Stmt}{f:Addr}{fd:FuncData}{N ps:List Str}{k:Nat}{sp:Sp} (F:Fun K x qual st f fd) (S:FnScope N ps (defScope st)) (len:∀ vs H Q E,sp vs H Q E→vs.length=ps.length)
  (hb:∀ (cdv:Value) (A:Around) (outer:List Env) (s:Shared) (H:Hp) (vs:List V) (Q:VK) (E:XK),Room k (A.deeper (envOfC qual (defScope st) s.heap.objs.size f cdv))→sp vs H Q E →
   ∃ t,PSs (cxOf (CXe P w) P w K mg base N qual (defScope st) f cdv A outer s H E) (defBody st) t∧t { nx:=fun _ H'=>Q .non H',rt:=Q } (start N vs) H):FnOk P w K mg base (CXe P w) (k+1) f fd ps sp:=by
 obtain⟨oc,od,kV,doc,pm,an,cdv,ct,osl,rfl,lk,hcd⟩:=F.ex;exact fn_of lk hcd S len fun A outer s H vs Q E hr hsp=>hb cdv A outer s H vs Q E hr hsp
end
section
variable {X:Cx}{E:XK}
theorem passE (L:Lets X E):Passes (CXe X.prog X.w) X E:=fun _ _ _ _ _ _ I h=>L.xe _ _ (leave_on L.own I h)
noncomputable def tRaise (C:Addr) (E:XK):TS:=fun _ _ H=>E (.ref C) none H
theorem ps_raise {x:Str}{C:Addr}{bm:List Value}{np cpos pos cp:Pos}{msg:Str}{j} (L:Lets X E) (hc:X.calm=true) (hg:Gl X x) (hm:X.mg x=some (.ref C)) (ex:exIn X.K C bm=true) (hd:(x == ("__debug__" : Str))=false:=by decide) :
  PS X (.Raise (some (.Call (.Name x np) [.Constant (.str msg) j cp] [] cpos)) none pos) (tRaise C E):=by
 intro pins s σ H D I h;obtain⟨nm,q,N,bs,hdd,sn,sub,ab,col,dd,k0,k1,k2,k3,k5,m,hC,hN,hq,T⟩:=(exIn_of I.ok.mod.kin ex).ex;have hb:bm.contains (.type "BaseException")=true:=T.toOwn.hasType (by decide +kernel);refine wpAny_Raise_call_subT (C:=C) (nm:=nm) (q:=q) (N:=N) (bs:=bs) (bm:=bm) (hdct:=hdd) (sn:=sn) (sub:=sub) (ab:=ab) (col:=col) (dd:=dd) (k0:=k0) (k1:=k1) (k2:=k2) (k3:=k3) (k5:=k5)
  PySem.F.excBase_ValueError (mN:=m) hb (I.ok.hd hc) rfl (hq _ (by decide)) (ld_glob I hg hm ⟨rfl,?_⟩ hd)
 have ha:PA X [.Constant (.str msg) j cp] (tCons (tC (.str msg)) tNil):=pa_cons pe_str pa_nil;refine Calls.evalArgs_plain (wpAny_mono (ha cpos pins s σ H (fun vs H1=>vs=[.str msg]∧H1=H) I ⟨rfl,rfl⟩) (fun us s1 h1=>?_) fun _ _ z=>z);obtain⟨vs,H1,I1,rv,rfl,rfl⟩:=h1;have rl:=rv.length;refine⟨rfl,?_,I1.bk _ _ hC,hN.keeps I1.bk,T.toOwn.keeps I1.bk,fun h' e hx=>L.xe _ _ (leave_made L.own I1 hx h)⟩;show us.length≤sizeLine;rw[← rl];show 1≤sizeLine;decide
end
theorem PS.nox {X:Cx}{st:Stmt}{t:TS} (h:PS X.nox st t):PS X st t:=fun pins s σ H D I hw =>
 wpAny_mono (h pins s σ H D (I.wish _) hw) (fun _ _ q=>q.unwish) fun _ _ z=>False.elim z
section
variable {X:Cx}{pins:List (Addr × Obj)} {σ:St}{H:Hp}{s:Shared}
noncomputable def Away (X:Cx) (pins:List (Addr × Obj)) (xs:List Addr):Prop:=∀ b∈xs,b≠X.env.locals∧∀ p∈X.pn++pins,p.1≠b
theorem Inv.turn (O:Own X) (nc:∀ x,X.env.cells.lookup x=none) (J:Inv X pins σ H s) {xs:List Addr} (hxs:Apart X H s.heap xs) (aw:Away X pins xs) {h3:Heap} (st:(PySem.W.hideAll s.heap (frs X.stack++xs)).StaysIn h3)
  (ups:∀ b o,b∈frs X.stack→s.heap.get? b=some o→∃ sl,h3.get? b=some { o with slots:=sl }) {t':Nat}:Inv X pins σ H { s with heap:=h3,toks:=t' }:=by
 obtain⟨hok,un⟩:=Inv.over O J hxs st ups;have hfrs:frs X.stack=X.env.locals :: X.fs:=by rw[O.stk,frs_cons O.fr]
 have young:∀ b o,X.s₀.heap.get? b=some o→b ∉ xs:=fun b o e z=>by rw[(hxs b z).1] at e;cases e
 have old:∀ b o,X.s₀.heap.get? b=some o→b≠X.env.locals:=fun b o e=>Nat.ne_of_lt (Nat.lt_of_lt_of_le (Heap.lt_size e) J.ok.above)
 have nx:∀ b:Addr,b ∉ X.ex:=fun b=>by rw[O.ex];simp
 refine⟨J.ok,J.os,J.bare,⟨fun b o e n hb hx=>?_,fun b o e n hb hx=>?_,J.base.free,fun b o e hx=>?_,J.base.tups,J.base.frzs,J.base.tbls⟩,?_,fun x c e=>(by rw[nc x] at e;cases e),J.free,J.freeC,fun p hp=>?_,hok,J.len⟩
 ·have e1:=J.base.keep b o e n hb (nx b);exact un.keep b o e1 (J.base.free b o e n (nx b)) (by rw[hfrs];exact fun z=>(List.mem_cons.mp z).elim (old b o e) hb) (young b o e)
 ·obtain⟨sl,e1⟩:=J.base.slot b o e n hb (nx b);obtain⟨sl',e2⟩:=un.slot b _ e1 (J.base.free b o e n (nx b)) (by rw[hfrs];exact List.mem_cons_of_mem _ hb) (young b o e);exact⟨sl',e2⟩
 ·obtain⟨o1,e1⟩:=J.base.there b o e (nx b);exact un.there b o1 e1 (young b o e)
 ·obtain⟨m,⟨o,es,ep,ho,hd,r⟩,hl⟩:=J.loc;obtain⟨sl,e⟩:=ups X.env.locals o (by rw[hfrs];exact List.mem_cons_self) ho;refine⟨m,⟨_,es,ep,e,hd,r⟩,fun i x v h1 h2 h3=>?_⟩;obtain⟨u,ru,z⟩:=hl i x v h1 h2 h3;refine⟨u,ru,?_⟩;rcases z with z | ⟨_,c,z,_⟩
  ·exact .inl z
  ·rw[nc x] at z;cases z
 ·obtain⟨e,n,ne,nf,d⟩:=J.pin p hp;have hx:p.1 ∉ xs:=fun z=>(aw p.1 z).2 p hp rfl
  exact⟨un.keep p.1 p.2 e n (by rw[hfrs];exact fun z=>(List.mem_cons.mp z).elim ne nf) hx,n,ne,nf,d⟩
theorem Inv.takeUp (O:Own X) (nc:∀ x,X.env.cells.lookup x=none) (J:Inv X pins σ H s) {a:Addr}{o:HO} (hn:H a=none) (h0:X.s₀.heap.get? a=none) (aw:Away X pins [a]) (ho:ObjOk X.prog X.w (upd H a o) s.heap a o):Inv X pins σ (upd H a o) s:=by
 have ne:∀ b u,H b=some u→b≠a:=fun b u e z=>by rw[z,hn] at e;cases e
 refine⟨J.ok,J.os,J.bare,⟨J.base.keep,J.base.slot,fun b ob e n hx=>?_,J.base.there,fun b xs q=>?_,fun b ob u q=>?_,fun b ps q=>?_⟩,J.loc,J.cell,?_,fun x c e=>(by rw[nc x] at e;cases e),fun p hp=>?_,fun b u e=>?_,J.len⟩
 ·rw[upd_ne (fun z=>by rw[z,h0] at e;cases e)];exact J.base.free b ob e n hx
 ·have:=J.base.tups b xs q;rw[upd_ne (ne b _ this)];exact this
 ·have:=J.base.frzs b ob u q;rw[upd_ne (ne b _ this)];exact this
 ·obtain⟨more,this⟩:=J.base.tbls b ps q;exact⟨more,by rw[upd_ne (ne b _ this)];exact this⟩
 ·rw[upd_ne (Ne.symm (aw a (by simp)).1)];exact J.free
 ·obtain⟨e,n,h1,h2,h3⟩:=J.pin p hp;exact⟨e,by rw[upd_ne ((aw a (by simp)).2 p hp)];exact n,h1,h2,h3⟩
 ·by_cases hb:b=a
  ·subst hb;rw[upd_same] at e;cases e;exact ho
  ·rw[upd_ne hb] at e;exact (J.hok b u e).stay (fun _ _ _ q=>q) (fun c q=>by rw[upd_ne (ne c _ q)];exact q) fun c xs q=>by rw[upd_ne (ne c _ q)];exact q
theorem Inv.unbound (nc:∀ x,X.env.cells.lookup x=none) (J:Inv X pins σ H s) (hN:X.N.Nodup) {i:Nat}{n:Str} (hi:X.N[i]? = some n) {m:Str→Option Value} (hm:∀ (j:Nat) (x:Str) (v:V),X.N[j]? = some x → σ[j]? = some (some v)→Vis X.env.scope x→∃ u,RelV v u∧Look X.env s.heap m x u)
  {h':Heap}{u:Option Value} (hn:h'.Ns X.env.locals (fun x=>if x=n then u else m x)) (hs:Heap.SameBut X.env.locals s.heap h'):Inv X pins (σ.set i none) H { s with heap:=h' }:=by
 have old:∀ b o,X.s₀.heap.get? b=some o→b≠X.env.locals:=fun b o e=>Nat.ne_of_lt (Nat.lt_of_lt_of_le (Heap.lt_size e) J.ok.above)
 refine⟨J.ok,J.os,J.bare,⟨fun b o e q hb hx=>(hs.2 b (old b o e)).trans (J.base.keep b o e q hb hx),fun b o e q hb hx=>?_,J.base.free,fun b o e hx=>?_,J.base.tups,J.base.frzs,J.base.tbls⟩,⟨_,hn,fun j x v h1 h2 h3=>?_⟩,fun x c e=>(by rw[nc x] at e;cases e),J.free,J.freeC,fun p hp=>?_,fun b ob e=>?_,by rw[List.length_set];exact J.len⟩
 ·obtain⟨sl,z⟩:=J.base.slot b o e q hb hx;exact⟨sl,(hs.2 b (old b o e)).trans z⟩
 ·obtain⟨o',z⟩:=J.base.there b o e hx;exact⟨o',(hs.2 b (old b o e)).trans z⟩
 ·by_cases hj:j=i
  ·subst hj;by_cases hl:j < σ.length
   ·rw[List.getElem?_set_self hl] at h2;cases h2
   ·rw[List.getElem?_eq_none (by rw[List.length_set];omega)] at h2;cases h2
  ·rw[List.getElem?_set_ne (Ne.symm hj)] at h2;obtain⟨u',ru,z⟩:=hm j x v h1 h2 h3;have hx:x≠n:=fun e=>hj (nodup_ix hN h1 (e ▸ hi))
   refine⟨u',ru,?_⟩;rcases z with ⟨k,z⟩ | ⟨_,c,z,_⟩
   ·exact .inl ⟨k,by show (if x=n then u else m x)=_;rw[if_neg hx];exact z⟩
   ·rw[nc x] at z;cases z
 ·obtain⟨e,q,h1,h2,h3⟩:=J.pin p hp;exact⟨(hs.2 p.1 h1).trans e,q,h1,h2,h3⟩
 ·refine (J.hok b ob e).stay (fun c v hc q=>(hs.2 c ?_).trans q) (fun _ q=>q) fun _ _ q=>q
  intro z;rcases hc with rfl | hc
  ·rw[z,J.free] at e;cases e
  ·rw[z,J.free] at hc;cases hc
theorem matches_up {M:Model}{A:Around}{E:Value→Shared→Prop}{h:Heap}{g:Array GenState}{d:Drawn}{t:Nat}{os:OsState}{a B C:Addr}{bm bmB:List Value}{o:Obj}{Q:Bool→Shared→Prop} (Z:ExC C bm h) (ZB:ExC B bmB h)
  (hx:h.get? a=some o) (hc:o.cls = .ref C) (hb:(Value.ref C :: bm).contains (.ref B)=true) (hq:Q true ⟨h,g,d,t,os⟩):wpAny M A (excMatches (.ref a) (.ref B)) Q E ⟨h,g,d,t,os⟩:=by
 have e1:(Value.ref B :: bmB).contains (.type "BaseException")=true:=ZB.has (by decide +kernel);have e2:=tc_notTuple;obtain⟨nm,q,N,bs,hd,sn,sub,ab,col,dd,k0,k1,k2,k3,k5,m,hB,_⟩:=ZB.ex;unfold excMatches;repeat (first | (with_reducible refine wpAny_loadPart_at hx ?_;rw[hc]) | with_reducible refine wpAny_loadPart_at hB ?_ | (with_reducible refine ExC.sub ZB ?_;rw[e1]) | (with_reducible refine ExC.sub Z ?_;rw[hb]) | wp_step)
 exact hq
noncomputable abbrev Cx.held (X:Cx) (a:Addr):Cx:={ X with A:=X.A.mark (some (.ref a)),calm:=false,xe:=fun _ _=>False }
theorem Inv.held (I:Inv X pins σ H s) (a:Addr):Inv (X.held a) pins σ H s :=
 ⟨⟨I.ok.mod,I.ok.kind,I.ok.glob,I.ok.blt,I.ok.above,I.ok.inj,I.ok.has,I.ok.cab,(fun z=>by cases z),I.ok.frames,I.ok.stk,I.ok.exf,I.ok.bs,I.ok.bsz,I.ok.noex,I.ok.exfs,I.ok.funs,I.ok.frf⟩,I.os,I.bare,I.base,I.loc,I.cell,I.free,I.freeC,I.pin,I.hok,I.len⟩
theorem Inv.unheld {a:Addr} (O:X.Ok) (I:Inv (X.held a) pins σ H s):Inv X pins σ H s:=⟨O,I.os,I.bare,I.base,I.loc,I.cell,I.free,I.freeC,I.pin,I.hok,I.len⟩
noncomputable def XP (X:Cx) (pins:List (Addr × Obj)) (σ:St) (E:XK) (e:Value) (s':Shared):Prop :=
 ∃ (a T:Addr) (C:Value) (H':Hp),e = .ref a∧Inv X pins σ H' s'∧Apart X H' s'.heap [a,T]∧Away X pins [a,T]∧Fly s'.heap a T C∧E C none H'
theorem XP.of (O:Own X) (J:Inv X pins σ H s) {E:XK}{e:Value}{s':Shared} (h:CXe X.prog X.w X.stack H s E e s'):XP X pins σ E e s':=by
 obtain⟨a,T,C,H',rfl,J',h1,h2,h3,h4,h5,h6⟩:=behind J h;refine⟨a,T,C,H',rfl,J',fly_apart O J h1 h2 h3 h4 h5,fun b hb=>?_,h5,h6⟩;have hb':s.heap.get? b=none:=by
  rcases List.mem_cons.mp hb with rfl | hb
  ·exact h1
  ·have e:b=T:=by simpa using hb
   rw[e];exact h2
 refine⟨fun z=>?_,fun p hp z=>?_⟩
 ·obtain⟨m,⟨o,es,ep,ho,_⟩,_⟩:=J.loc;rw[← z,hb'] at ho;cases ho
 ·obtain⟨e,_⟩:=J.pin p hp;rw[z,hb'] at e;cases e
theorem caught {B:Addr}{bmB:List Value}{x n y:Str}{i j:Nat}{np py pn pa hp:Pos} (O:Own X) (nc:∀ x,X.env.cells.lookup x=none) (hN:X.N.Nodup) (hi:X.N[i]? = some n) (hj:X.N[j]? = some y) (hij:i≠j)
    (hn:X.env.scope.names.lookup n=some .local) (hy:X.env.scope.names.lookup y=some .local) (hg:Gl X x) (hm:X.mg x=some (.ref B)) (eB:exIn X.K B bmB=true) (hd:(x == ("__debug__" : Str))=false) (hd2:(n == ("__debug__" : Str))=false) (hd3:(n == ("__classdict__" : Str))=false)
    (hsw:swapsWith (.Name n pn) (some (.Name y py)) pa.line X.env=pure false) {E:XK}{D:Ends}{e:Value}
    (hE:∀ C H',E C none H'→∃ (c:Addr) (bm:List Value),C = .ref c∧exIn X.K c bm=true∧(Value.ref c :: bm).contains (.ref B)=true∧∀ a,H' a=none→D.nx ((σ.set j (some (.ref a))).set i none) (upd H' a (excO a c))) (h:XP X pins σ E e s) :
    wpAny (model X.prog X.w) X.A (noteFrame e X.env) (fun _ s₂=>wpAny (model X.prog X.w) X.A (setFlight e none) (fun _ s₃ =>
      wpAny (model X.prog X.w) X.A (handleBy e X.env [.ExceptHandler (some (.Name x np)) (some n) [.Assign [.Name y py] (.Name n pn) pa] hp]) (SP X pins D) X.xe s₃) X.xe s₂) X.xe s:=by
  obtain ⟨a,T,C,H,rfl,J,ap,aw,fly,hEc⟩:=h;obtain ⟨c,bm,rfl,ec,hbc,hnx⟩:=hE C H hEc;obtain ⟨a0,fl⟩:=flying J fly;have fl':=fl;rw [show X.stack=X.env :: X.outer from O.stk] at fl';have hfr:X.A.frames=some (X.env :: X.outer):=by rw [← O.stk];exact J.ok.frames
  refine wpAny_looks_onW (a0:=a0) hfr O.fr fl' fun h4 held4 sm4 => ?_
  refine wpAny_landsW held4 fun h5 fl5 sm5 => ?_
  have sm:=sm4.trans sm5;rw [← O.stk] at fl5;have J5:Inv X pins σ H { s with heap:=h5 }:=Inv.turn O nc J ap aw fl5.1 (ups_of J sm) (t':=s.toks);refine wpAny_handleBy_cons (codeAny_handlers_test (ld_glob (X:=X.held a) (J5.held a) hg hm ?_ hd)) (by intro q;cases q);obtain ⟨ob,hob,hobc⟩:=fl5.there;refine matches_up (exIn_of J5.kIn ec) (exIn_of J5.kIn eB) hob hobc hbc (codeAny_handlers_suite_as ?_);refine lands_againW fl5 fun h6 fl6 sm6 => ?_
  have J6:Inv X pins σ H { s with heap:=h6 }:=Inv.turn O nc J ap aw fl6.1 (ups_of J (sm.trans sm6)) (t':=s.toks);obtain ⟨ob6,hob6,hobc6⟩:=fl6.there
  have aw1 : Away X pins [a] := fun b hb => aw b (by have e : b = a := by simpa using hb
                                                     rw [e]; simp)
  have Ja:Inv X pins σ (upd H a (excO a c)) { s with heap:=h6 }:=Inv.takeUp O nc J6 (ap a (by simp)).2.1 (ap a (by simp)).1 aw1 ⟨⟨ob6,hob6,hobc6⟩,⟨ob6,hob6⟩,fun h1 h2 ⟨o,z1,z2⟩ k=>⟨o,k o z1,z2⟩⟩;refine store_ok (X:=X.held a) (Ja.held a) hN hi (.inl hn) (v := .ref a) rfl (fun s7 J7 => ?_) (.inr hn);have hσ : i < σ.length:=by rw [J.len];exact (List.getElem?_eq_some_iff.mp hi).1
  have hσj:j < σ.length:=by rw [J.len];exact (List.getElem?_eq_some_iff.mp hj).1
  have suite:PSs (X.held a) [.Assign [.Name y py] (.Name n pn) pa] (tAsg (tVar i) (gName j)):=pss_one (ps_set (X:=X.held a) hN hj (.inl hy) (pe_var hi (.inl hn) hd2 hd3) hsw (.inr hy));refine wpAny_mono (suite pins s7 _ _ { nx:=fun σ' H' => σ'=(σ.set i (some (.ref a))).set j (some (.ref a))∧H'=upd H a (excO a c),rt:=fun _ _=>False } J7 ⟨.ref a,by rw [List.getElem?_set_self hσ],rfl,rfl⟩) (fun f s8 h8 => ?_) fun _ _ z=>False.elim z
  cases f with
  | next =>
    obtain ⟨σ8,H8,J8,rfl,rfl⟩:=h8;have J8':=Inv.unheld J.ok J8;refine wpAny_bind (wpAny_bindName (store_ok J8' hN hi (.inl hn) (v := .non) rfl (fun s9 J9 => ?_) (.inr hn)));unfold unbindBehindTheSuite;refine wpAny_onRaise ?_;obtain ⟨m,hns,hl⟩:=id J9.loc;have hat:(((σ.set i (some (.ref a))).set j (some (.ref a))).set i (some V.non))[i]? = some (some .non):=by rw [List.getElem?_set_self (by rw [List.length_set,List.length_set];exact hσ)]
    obtain ⟨u,_,z⟩:=hl i n .non hi hat (.inl hn);have hmn:m n=some u:=by
      rcases z with ⟨_,z⟩ | ⟨_,c',z,_⟩
      · exact z
      · rw [nc n] at z;cases z
    refine wpAny_unbindName_local hn hns hmn (by rw [J.ok.kind];rfl) fun h' u' hn' hs' => ?_
    have J10:=Inv.unbound nc J9 hN hi hl hn' hs';refine ⟨_,_,J10,?_⟩;have e:((((σ.set i (some (.ref a))).set j (some (.ref a))).set i (some V.non)).set i none)=(σ.set j (some (.ref a))).set i none:=by
      rw [List.set_set,List.set_comm _ _ hij,List.set_set]
    rw [e];exact hnx a (ap a (by simp)).2.1
  | ret v=>obtain ⟨_,_,_,_,_,z⟩:=h8;exact False.elim z
  | brk=>obtain ⟨_,_,_,z⟩:=h8;exact False.elim z
  | cont=>obtain ⟨_,_,_,z⟩:=h8;exact False.elim z
theorem call_x {k:Nat}{f:Addr}{fd:FuncData}{ps:List Str}{sp:Sp}{x:Str}{p pos:Pos}{e:Expr}{es:List Expr}{t:TA} (O:Own X) (F:FnOk X.prog X.w X.K X.mg X.base (CXe X.prog X.w) k f fd ps sp) (hr:Room k X.A) (hg:Gl X x) (hm:X.mg x=some (.ref f)) (hk:PySem.W.keepIn X.K (.ref f)=true)
  (hb:Binds X.K fd ps []) (ha:PA X.nox (e :: es) t) (hdb:(x == ("__debug__" : Str))=false) (he:starEach (e :: es) X.env=(false,eval e X.env) :: starEach es X.env) (hpl:(backTo pos (starEach es X.env)).any (·.1)=false)
  {Q:VK}{E:XK} (I:Inv X pins σ H s) (h:t σ H fun vs H1=>sp vs H1 Q E):wpAny (model X.prog X.w) X.A (eval (.Call (.Name x p) (e :: es) [] pos) X.env) (EP X pins σ Q) (XP X pins σ E) s:=by
 refine wpAny_Call_Name_kw (ld_glob I hg hm ?_ hdb);refine PySem.W.callWith_K (h₀:=X.base) I.ok.mod.kin hk (wpAny_mono (ha pos pins s σ H _ (I.wish _) h) (fun us s1 ⟨vs,H1,I1,r,q⟩=>⟨I1.kIn,?_⟩) fun _ _ z=>False.elim z) he hpl;have J:=I1.unwish;have hl:us.length=ps.length:=by rw[← r.length];exact F.len _ _ _ _ q
 have hb':BindsTo s1 fd ⟨us,[]⟩ (ps.zip us):=by
  have:=hb s1 us J.kIn (by rw[List.append_nil];exact hl)
  rw[List.append_nil] at this;exact this
 refine wpAny_call (codeAny_mono (F.run X.A X.stack s1 H1 ⟨us,[]⟩ us vs Q E hr J.env0 hb' r q) fun r s' hq=>?_);cases r with
 | error e=>exact XP.of O J hq
 | ok fl =>
  cases fl with
  | ret u=>exact J.after hq
  | next=>exact False.elim hq
  | brk=>exact False.elim hq
  | cont=>exact False.elim hq
noncomputable def Hand (K:PySem.W.Frag) (B:Addr) (i j:Nat) (D:Ends) (σ:St):XK:=fun C _ H'=>∃ (c:Addr) (bm:List Value),C = .ref c∧exIn K c bm=true∧(Value.ref c :: bm).contains (.ref B)=true∧∀ a,H' a=none→D.nx ((σ.set j (some (.ref a))).set i none) (upd H' a (excO a c))
noncomputable def tTryA (K:PySem.W.Frag) (B:Addr) (i j l:Nat) (sp:Sp) (t:TA):TS:=fun D σ H=>t σ H fun vs H1=>sp vs H1 (fun v H2=>D.nx (σ.set l (some v)) H2) (Hand K B i j D σ)
theorem ps_tryA {k:Nat}{f:Addr}{fd:FuncData}{ps:List Str}{sp:Sp}{g:Str}{p cpos ep pos:Pos}{e:Expr}{es:List Expr}{t:TA}{B:Addr}{bmB:List Value}{x n y v:Str}{i j l:Nat}{np py pn pa hp pv:Pos}
  (O:Own X) (F:FnOk X.prog X.w X.K X.mg X.base (CXe X.prog X.w) k f fd ps sp) (hr:Room k X.A) (hm:X.mg g=some (.ref f)) (hk:PySem.W.keepIn X.K (.ref f)=true) (hb:Binds X.K fd ps []) (ha:PA X.nox (e :: es) t)
  (hN:X.N.Nodup) (hi:X.N[i]? = some n) (hj:X.N[j]? = some y) (hl:X.N[l]? = some v) (hij:i≠j) (hmB:X.mg x=some (.ref B)) (eB:exIn X.K B bmB=true)
  (nc:∀ x,X.env.cells.lookup x=none:=by exact fun _=>rfl) (hn:X.env.scope.names.lookup n=some .local:=by rfl) (hy:X.env.scope.names.lookup y=some .local:=by rfl) (hv:X.env.scope.names.lookup v=some .local:=by rfl) (hg:Gl X g:=by rfl) (hgB:Gl X x:=by rfl) (hdb:(g == ("__debug__" : Str))=false:=by decide) (hd:(x == ("__debug__" : Str))=false:=by decide)
  (hd2:(n == ("__debug__" : Str))=false:=by decide) (hd3:(n == ("__classdict__" : Str))=false:=by decide) (hsw:swapsWith (.Name n pn) (some (.Name y py)) pa.line X.env=pure false:=by rfl) (hs:swapsWith (.Call (.Name g p) (e :: es) [] cpos) (some (.Name v pv)) ep.line X.env=pure false:=by rfl)
  (he:starEach (e :: es) X.env=(false,eval e X.env) :: starEach es X.env:=by rfl) (hpl:(backTo cpos (starEach es X.env)).any (·.1)=false:=by rfl) :
  PS X (.Try [.Assign [.Name v pv] (.Call (.Name g p) (e :: es) [] cpos) ep] [.ExceptHandler (some (.Name x np)) (some n) [.Assign [.Name y py] (.Name n pn) pa] hp] [] [] pos) (tTryA X.K B i j l sp t):=by
 intro pins s σ H D I h;refine wpAny_Try_except (wpAny_execs_cons (wpAny_Assign_Name (wpAny_mono (call_x O F hr hg hm hk hb ha hdb he hpl I h) (fun u s1 ⟨v',H1,I1,r,q⟩=>?_) fun e' s1 z=>?_) hs))
 ·exact store_ok I1 hN hl (.inl hv) r (fun s2 I2=>wpAny_execs_nil (wpAny_execs_nil ⟨_,H1,I2,q⟩)) (.inr hv)
 ·exact caught O nc hN hi hj hij hn hy hgB hmB eB hd hd2 hd3 hsw (fun C H' z=>z) z
end
end L2
namespace L2
open PySem PySem.Spec PyProof.Rows
section
variable {X:Cx}{pins:List (Addr × Obj)} {σ:St}{H:Hp}{s:Shared}
noncomputable def ApartW (X:Cx) (H:Hp) (xs:List Addr):Prop:=∀ b∈xs,X.s₀.heap.get? b=none∧H b=none
theorem Inv.overW (O:Own X) (J:Inv X pins σ H s) {xs:List Addr} (hxs:ApartW X H xs) {h3:Heap} (st:(PySem.W.hideAll s.heap (frs X.stack++xs)).StaysIn h3) (ups:∀ b o,b∈frs X.stack→s.heap.get? b=some o→∃ sl,h3.get? b=some { o with slots:=sl }) :
  HOk X.prog X.w H h3∧Un (frs X.stack) xs H H s.heap h3:=by
 have stays:∀ b o,s.heap.get? b=some o→b ∉ frs X.stack→b ∉ xs→h3.get? b=some o:=fun b o e h1 h2=>st b o (PySem.W.hideAll_get _ e fun z=>(List.mem_append.mp z).elim h1 h2)
 have trk:∀ b o,H b=some o→b ∉ frs X.stack∧b ∉ xs:=fun b o e=>⟨fun z=>(by rw[J.stkFree b z] at e;cases e),fun z=>(by rw[(hxs b z).2] at e;cases e)⟩
 refine⟨fun b o e=>(J.hok b o e).stay (fun c u hc q=>?_) (fun _ q=>q) fun _ _ q=>q,fun b o e n hb hx=>stays b o e hb hx,fun b o e n hb hx=>ups b o hb e,fun _ _ _ n _=>n,fun b o e hx=>?_,fun _ _ q=>q,fun _ _ _ q=>q,fun _ ps q=>⟨#[],by rw[q];simp⟩⟩
 ·have hc':∃ o',H c=some o':=by
   rcases hc with rfl | hc
   ·exact⟨_,e⟩
   ·exact⟨_,hc⟩
  obtain⟨o',e'⟩:=hc';obtain⟨h1,h2⟩:=trk c o' e';exact stays c u q h1 h2
 ·by_cases hb:b∈frs X.stack
  ·obtain⟨sl,z⟩:=ups b o hb e;exact⟨_,z⟩
  ·exact⟨o,stays b o e hb hx⟩
theorem landedW (O:Own X) (J:Inv X pins σ H s) {xs:List Addr} (hxs:ApartW X H xs) {a:Addr}{C a0:Value}{h3:Heap}
  (ups:∀ b o,b∈frs X.stack→s.heap.get? b=some o→∃ sl,h3.get? b=some { o with slots:=sl }) (st:(PySem.W.hideAll s.heap (frs X.stack++xs)).StaysIn h3) (fl:h3.TracedW (PySem.W.hideAll s.heap (frs X.stack++xs)) a C a0) (ha:s.heap.get? a=none∨a∈xs) {E:XK} (hE:E C none H) :
  CXe X.prog X.w X.outer X.H₀ X.s₀ E (.ref a) { s with heap:=h3 }:=by
 obtain⟨oe,vs,T,oT,ts,he,hc,hd,h1,hnT,hTa,hT,hdT,h3'⟩:=fl;have fresh:∀ b,s.heap.get? b=none→X.s₀.heap.get? b=none:=fun b e=>by
  cases q:X.s₀.heap.get? b with
  | none=>rfl
  | some o=>obtain⟨o',z⟩:=J.base.there b o q (by rw[O.ex];simp);rw[e] at z;cases z
 have hfrs:frs X.stack=X.env.locals :: X.fs:=by rw[O.stk,frs_cons O.fr]
 obtain⟨hok,un⟩:=Inv.overW O J hxs st ups;have young:∀ b o,X.s₀.heap.get? b=some o→b ∉ xs:=fun b o e z=>by rw[(hxs b z).1] at e;cases e
 have old:∀ b o,X.s₀.heap.get? b=some o→b≠X.env.locals:=fun b o e=>Nat.ne_of_lt (Nat.lt_of_lt_of_le (Heap.lt_size e) J.ok.above)
 have nx:∀ b:Addr,b ∉ X.ex:=fun b=>by rw[O.ex];simp
 have hT2:s.heap.get? T=none∨T∈xs:=by
  by_cases hx:T∈xs
  ·exact .inr hx
  ·refine .inl ?_;cases q:s.heap.get? T with
   | none=>rfl
   | some o =>
    by_cases hf:T∈frs X.stack
    ·obtain⟨_,o2,ho2,hnf⟩:=J.stack.mem hf;obtain⟨sl,z⟩:=ups T o2 hf ho2;rw[hT] at z;cases z;exact absurd hdT (hnf ts)
    ·have:=PySem.W.hideAll_get (frs X.stack++xs) q fun z=>(List.mem_append.mp z).elim hf hx
     rw[hnT] at this;cases this
 have both:∀ b,(s.heap.get? b=none∨b∈xs)→X.s₀.heap.get? b=none∧H b=none:=fun b hb=>by
  rcases hb with e | e
  ·exact⟨fresh b e,J.hok.gone e⟩
  ·exact⟨(hxs b e).1,(hxs b e).2⟩
 refine⟨a,T,C,H,rfl,J.os,J.bare,⟨fun b o e n hb hx=>?_,fun b o e n hb hx=>?_,fun b o e n _=>J.base.free b o e n (nx b),fun b o e hx=>?_,J.base.tups,J.base.frzs,J.base.tbls⟩,hok,(both a ha).1,(both T hT2).1,(both a ha).2,(both T hT2).2,⟨oe,vs,oT,ts,a0,he,hc,hd,h1,hTa,hT,hdT,h3'⟩,hE⟩
 ·have e1:=J.base.keep b o e n hb (nx b);exact un.keep b o e1 (J.base.free b o e n (nx b)) (by rw[hfrs];exact fun z=>(List.mem_cons.mp z).elim (old b o e) hb) (young b o e)
 ·obtain⟨sl,e1⟩:=J.base.slot b o e n hb (nx b);obtain⟨sl',e2⟩:=un.slot b _ e1 (J.base.free b o e n (nx b)) (by rw[hfrs];exact List.mem_cons_of_mem _ hb) (young b o e);exact⟨sl',e2⟩
 ·obtain⟨o1,e1⟩:=J.base.there b o e (nx b);exact un.there b o1 e1 (young b o e)
theorem noteFrame_of {a b:Env} (h:a.frame=b.frame) (e:Value):noteFrame e a=noteFrame e b:=by
 unfold noteFrame PySem.frameOf;rw[h]
theorem passOn_of {α : Type}{a b:Env} (h:a.frame=b.frame) (w:String) (e:Value):(PySem.passOn w e a:Sem α)=PySem.passOn w e b:=by
 unfold PySem.passOn;rw[h]
theorem flight_put {M:Model}{A:Around}{E':Value→Shared→Prop}{s:Shared}{base:Heap}{l:List Env}{e L:Addr}{cls a0:Value}{Q:Unit→Shared→Prop} (h:base.HeldW l e cls a0 L s.heap)
  (k:∀ h',base.HeldW l e cls a0 L h'→s.heap.UpToSlots h'→Q () { s with heap:=h' }):wpAny M A (setFlight (.ref e) (some L)) Q E' s:=by
 obtain⟨st,hn,hf,oe,vs,T,oT,ts,he,hc,hd,h1,hnT,hTa,hT,hdT,h3⟩:=h;have h3s:3<ts.size:=by
  rcases Nat.lt_or_ge 3 ts.size with z | z
  ·exact z
  ·rw[Array.getElem?_eq_none z] at h3;cases h3
 unfold setFlight;refine wpAny_bind (wpAny_field he hd h1 ?_);rw[if_pos (by rfl)];show wpAny M A (setField (.ref T) 3 (rawInt ↑L)) Q E' s;refine wpAny_setField hT hdT h3s ?_;obtain⟨cT,dT,daT,sT⟩:=oT;obtain rfl:daT = .fields ts:=hdT;have hT':(s.heap.update T (Obj.mapFields fun x=>x.setIfInBounds 3 (rawInt ↑L))).get? T=some ⟨cT,dT,.fields (ts.setIfInBounds 3 (rawInt ↑L)),sT⟩:=Heap.get?_update_self _ hT rfl;have other:∀ b,b≠T→(s.heap.update T (Obj.mapFields fun x=>x.setIfInBounds 3 (rawInt ↑L))).get? b=s.heap.get? b:=fun b hb=>Heap.get?_update_ne _ _ _ _ hb
 refine k _ ⟨fun b o z=>?_,hn,Heap.FunFrames.of_keeps (fun b o z hf'=>⟨o,?_,rfl⟩) hf,oe,vs,T,_,_,?_,hc,hd,h1,hnT,hTa,hT',rfl,?_⟩ fun b o z hf'=>⟨o.slots,?_⟩
 ·rw[other b (fun y=>by rw[y,hnT] at z;cases z)];exact st b o z
 ·rw[other b (fun y=>by rw[y,hT] at z;cases z;exact hf' ts rfl)];exact z
 ·rw[other e hTa.symm];exact he
 ·rw[Array.getElem?_setIfInBounds_self_of_lt h3s]
 ·rw[other b (fun y=>by rw[y,hT] at z;cases z;exact hf' ts rfl)];exact z
theorem comp_leaves (O:Own X) (J:Inv X pins σ H s) {a T C:Addr}{Cl:Value} (hC:X.s₀.heap.get? C=none) (hCH:H C=none) (hCL:C≠X.env.locals) {m:Str→Option Value} (hns:s.heap.Ns C m) (ap:Apart X H s.heap [a,T]) (fly:Fly s.heap a T Cl) {E:XK} (hE:E Cl none H)
  {c1 c2:Env} (hf1:c1.frame=X.env.frame) (hf2:c2.frame=X.env.frame) {E' E2:Value→Shared→Prop} (hx:∀ e s',wpAny (model X.prog X.w) X.A (leaving X.env e) (fun _ s''=>CXe X.prog X.w X.outer X.H₀ X.s₀ E e s'') (fun _ _=>False) s'→E' e s') {α : Type}{Q : α → Shared→Prop} :
  wpAny (model X.prog X.w) X.A (noteFrame (.ref a) c1) (fun _ s4=>∃ m,s4.heap.Ns C m∧∀ h',Heap.SameBut C s4.heap h'→wpAny (model X.prog X.w) X.A (PySem.passOn "comprehension.variables-let-go" (.ref a) c2) Q E' { s4 with heap:=h' }) E2 s:=by
 rw[noteFrame_of hf1,passOn_of hf2];have hfr:X.A.frames=some (X.env :: X.outer):=by rw[← O.stk];exact J.ok.frames
 have hfrs:frs X.stack=X.env.locals :: X.fs:=by rw[O.stk,frs_cons O.fr]
 obtain⟨oC,es,ep,hoC,hdC,k1,k2⟩:=hns;have hCd:∀ vs,oC.data ≠ .fields vs:=fun vs z=>by rw[hdC] at z;cases z
 obtain⟨oe,vs,oT,ts,a0,he,hc,hd,hv1,hne,hT,hdT,h3⟩:=id fly;have haC:a≠C:=fun z=>by rw[z,hoC] at he;cases he;exact hCd vs hd
 obtain⟨B,hB⟩:∃ B,B=PySem.W.hideAll s.heap (frs X.stack ++ [a,T,C]):=⟨_,rfl⟩;have m1:a∈frs X.stack ++ [a,T,C]:=List.mem_append_right _ (by simp);have m2:T∈frs X.stack ++ [a,T,C]:=List.mem_append_right _ (by simp);have m3:C∈frs X.stack ++ [a,T,C]:=List.mem_append_right _ (by simp);have bC:B.get? C=none:=by rw[hB];exact PySem.W.hideAll_none _ m3
 have fl:B.FlyingW (X.env :: X.outer) a Cl a0 s.heap:=by
  rw[hB,← O.stk];exact⟨fun b o e=>PySem.W.of_hideAll _ e,PySem.W.hideAll_none _ m1,PySem.W.funFrames_hide J.stack fun env he b hb=>List.mem_append_left _ (List.mem_filterMap.mpr ⟨env,he,hb⟩),oe,vs,T,oT,ts,he,hc,hd,hv1,PySem.W.hideAll_none _ m2,hne,hT,hdT,h3⟩
 have hCf:C ∉ frs X.stack:=fun z=>by
  rw[hfrs] at z;rcases List.mem_cons.mp z with y | y
  ·exact hCL y
  ·obtain⟨_,o,ho,_⟩:=J.ok.funs.mem y;rw[hC] at ho;cases ho
 refine wpAny_looks_onW (a0:=a0) (base:=B) hfr O.fr fl fun h4 held4 up4=>?_
 obtain⟨slC,h4C⟩:=up4 C oC hoC hCd;refine⟨m,⟨_,es,ep,h4C,hdC,k1,k2⟩,fun h5 sb=>?_⟩;have keep5:∀ b,b≠C→h5.get? b=h4.get? b:=sb.2;obtain⟨st4,hn4,hf4,oe4,vs4,T4,oT4,ts4,he4,hc4,hd4,h14,hnT4,hTa4,hT4,hdT4,h34⟩:=id held4;have hT4C:T4≠C:=fun z=>by rw[z,h4C] at hT4;cases hT4;exact hCd ts4 hdT4
 have held5:B.HeldW (X.env :: X.outer) a Cl a0 X.env.locals h5:=by
  have hh:(PySem.W.hideAll h4 [C]).FunFrames B (X.env :: X.outer):=PySem.W.funFrames_hideAll hf4 fun env hev b hb z=>by
   rw[List.mem_singleton.mp hb] at z;exact hCf (by rw[O.stk];exact List.mem_filterMap.mpr ⟨env,hev,z⟩)
  refine⟨fun b o z=>?_,hn4,Heap.FunFrames.of_keeps (fun b o z hnf=>⟨o,?_,rfl⟩) hh,oe4,vs4,T4,oT4,ts4,?_,hc4,hd4,h14,hnT4,hTa4,?_,hdT4,h34⟩
  ·rw[keep5 b (fun y=>by rw[y,bC] at z;cases z)];exact st4 b o z
  ·have hbC:b≠C:=fun y=>by rw[y,PySem.W.hideAll_none _ (List.mem_singleton.mpr rfl)] at z;cases z
   rw[keep5 b hbC];exact PySem.W.of_hideAll _ z
  ·rw[keep5 a haC];exact he4
  ·rw[keep5 T4 hT4C];exact hT4
 have he5:h5.get? a=some oe4:=by rw[keep5 a haC];exact he4
 unfold PySem.passOn;refine wpAny_bind (wpAny_field he5 hd4 h14 ?_);rw[if_neg (by rw[show (Value.ref T4 == Value.none)=false from rfl];decide)];rw[O.fr];refine wpAny_bind (flight_put held5 fun h6 held6 up6=>wpAny_throw (hx _ _ ?_));unfold leaving;refine wpAny_bind (wpAny_noteFrame_againW O.fr held6.2.2.2 ?_);refine wpAny_landsW held6 fun h7 fl7 up7=>?_
 rw[hB] at fl7;refine landedW O J (xs:=[a,T,C]) (fun b hb=>?_) (fun b o hb e=>?_) fl7.1 fl7.2.2.2 (.inr (by simp)) hE
 ·rcases List.mem_cons.mp hb with rfl | hb
  ·exact⟨(ap _ (by simp)).1,(ap _ (by simp)).2.1⟩
  ·rcases List.mem_cons.mp hb with rfl | hb
   ·exact⟨(ap _ (by simp)).1,(ap _ (by simp)).2.1⟩
   ·rw[List.mem_singleton.mp hb];exact⟨hC,hCH⟩
 ·obtain⟨_,o2,ho2,hnf⟩:=J.stack.mem hb;rw[e] at ho2;cases ho2;obtain⟨s1,e1⟩:=up4 b o e hnf;have hbC:b≠C:=fun z=>hCf (z ▸ hb)
  obtain⟨s2,e2⟩:=up6 b { o with slots:=s1 } (by show h5.get? b=_;rw[keep5 b hbC];exact e1) hnf;obtain⟨s3,e3⟩:=up7 b _ e2 hnf;exact⟨s3,e3⟩
end
noncomputable abbrev cEnvN (X:Cx) (scope:Scope) (cl:List (Str × Addr)) (C:Addr):Env:=newEnv scope C X.env.globals cl X.env.qual none .none (some X.env) builtinsNs
section
variable {prog:Program}{w:World}{A:Around}{R:Result→Shared→Prop}{s:Shared}
theorem compLoop_anyE {elt target iter:Expr}{ifs:List Expr}{scope:Scope}{pos:Pos}{it acc:Value}{env:Env} (I:Nat→Shared→Prop) (EL:Value→Shared→Prop) (hEL:∀ e s',EL e s'→notedBy (model prog w) A env (fun x s''=>R (.error x) s'') e s')
  (turn:∀ n s,I n s→wpAny (model prog w) A (pyNext it) (fun r s₁=>match r with
   | none=>R (.ok .next) s₁
   | some v=>wpAny (model prog w) A (letOwnedTupleGo target it v) (fun _ s₁'=>wpAny (model prog w) A (assign target env v) (fun _ s₂ =>
     wpAny (model prog w) A (forIn ifs true fun c r=>if r=true then do let ok ← isTrue c env (eval c env);pure (ForInStep.yield ok) else pure (ForInStep.yield r)) (fun ok s₃ =>
      if ok=true then wpAny (model prog w) A (eval elt env) (fun x s₄ =>
       wpAny (model prog w) A (call (.builtin "list.append") [acc,x]) (fun _ s₅=>∃ m,m<n∧I m s₅) (fun _ _=>False) s₄) EL s₃
      else ∃ m,m<n∧I m s₃) (fun _ _=>False) s₂) (fun _ _=>False) s₁') (fun _ _=>False) s₁) (fun _ _=>False) s)
  (n:Nat) (h:I n s) :
  codeAny (model prog w) A (.compLoop (.ListComp elt [⟨target,iter,ifs,0⟩] scope pos) 0 it acc env) R s:=by
 refine codeAny_loop rfl I (fun n s hI=>?_) n h;show wpAny _ A ((compTurn (.ListComp elt [⟨target,iter,ifs,0⟩] scope pos) 0 it acc env).onRaise (fun x=>do noteFrame x env;theTreesLotGoes x)) _ _ s;refine wpAny_noted ?_;rw[compTurn_list];refine wpAny_bind (wpAny_standAt (wpAny_bind (wpAny_mono (turn n s hI) (fun r s₁ h₁=>?_) fun _ _ h'=>h'.elim)));cases r with
 | none=>exact wpAny_pure h₁
 | some v =>
  refine wpAny_bind (wpAny_mono h₁ (fun _ s₁' h₁'=>?_) fun _ _ h'=>h'.elim);refine wpAny_bind (wpAny_mono h₁' (fun _ s₂ h₂=>wpAny_bind (wpAny_mono h₂ (fun ok s₃ h₃=>?_) fun _ _ h'=>h'.elim)) fun _ _ h'=>h'.elim);cases ok with
  | false=>exact wpAny_pure ⟨rfl,h₃⟩
  | true =>
   exact wpAny_bind (wpAny_bind (wpAny_mono h₃ (fun x s₄ h₄=>wpAny_bind (wpAny_mono h₄ (fun _ s₅ h₅=>wpAny_pure (wpAny_pure ⟨rfl,h₅⟩)) fun _ _ h'=>h'.elim)) fun e s' h'=>hEL e s' h'))
end
set_option maxHeartbeats 4000000 in
theorem comp_coreE {X:Cx}{tg iter elt:Expr}{ifs:List Expr}{scope:Scope}{pos:Pos}{N':List Str}{nT:Nat}{js:List Nat}{g:TG}{tc:TT}{te:TE}{RR:Value→Env→Result→Shared→Prop} (XE:Addr→Shared→Hp→List Addr→Value→Shared→Prop)
  (hc:X.calm=true) (S:CompSc X scope N' nT js) {pins:List (Addr × Obj)} {σ:St}{H2:Hp}{s2:Shared}{cl:List (Str × Addr)}{it:Addr}{fp:List Addr}{tn:Nat→Heap→Prop}{J:It}
  (hcl:∀ x,cl.lookup x=(if (x,NameKind.free)∈scope.names then X.env.cells.lookup x else none))
  (hg:∀ C s₀ H₀ fp,PG (cxComp X N' scope cl C s₀ H₀ fp) tg g) (ht:∀ C s₀ H₀ fp,PTs (cxComp X N' scope cl C s₀ H₀ fp) ifs tc) (he:∀ C s₀ H₀ fp,PE ((cxComp X N' scope cl C s₀ H₀ fp).wish (XE C s₀ H₀ fp)) elt te)
  (I2:Inv X pins σ H2 s2) (T:Turn X.prog X.w X.K tg J fp it tn) (st2:tn 0 s2.heap) (f2:∀ b∈fp,FpOk X pins H2 b) {QQ:Addr→List V→Hp→Prop}
  (W:Nat→Nat→List V→St→Hp→Prop) (w0:∃ m,W 0 m [] (startC nT js σ) H2)
  (turn:∀ i m ys σ H,W i m ys σ H→(J.stop i H∧∀ D,H D=none→QQ D ys H) ∨
   (J.go i H∧ys.length<sizeLine∧∃ N:List V→St→Hp→Prop,(∀ ys' σ' H',N ys' σ' H'→∃ m',m'<m∧W (i+1) m' ys' σ' H') ∧
    ∀ x H',J.yld i H x H'→g x σ H' fun σ2 H2=>tc σ2 H2 fun b H3=>if b=true then te σ2 H3 fun y H4=>N (ys ++ [y]) σ2 H4 else N ys σ2 H3))
  (hXX:∀ (D C:Addr) (e:Value) (s':Shared),s2.heap.get? C=none→s2.heap.objs.size≤C→XE C s2 H2 fp e s'→notedBy (model X.prog X.w) X.A (compEnvC scope cl C X.env) (fun x s''=>RR (.ref D) (cEnvN X scope cl C) (.error x) s'') e s')
  (hRR:∀ (D C:Addr) (s':Shared) (ys:List V) (H':Hp) (m:Str→Option Value),QQ D ys H'→s'.heap.Ns C m→s2.heap.get? C=none→s2.heap.objs.size≤C→D≠C→H' C=none→(∀ h',Heap.SameBut C s'.heap h'→Inv X pins σ (upd H' D (.lst ys)) { s' with heap:=h' })→RR (.ref D) (cEnvN X scope cl C) (.ok .next) s') :
  wpAny (model X.prog X.w) X.A (newList []) (fun acc s₃=>wpAny (model X.prog X.w) X.A (newFunctionEnv scope X.env.globals cl [] X.env.qual none .none (some X.env)) (fun cenv s₄ =>
   codeAny (model X.prog X.w) X.A (.compStart (.ListComp elt [⟨tg,iter,ifs,0⟩] scope pos) 0 (.ref it) acc { cenv with scope:=relabel scope X.env }) (RR acc cenv) s₄) (fun _ _=>False) s₃) (fun _ _=>False) s2:=by
 refine wpAny_newObj_type (wpAny_newFunctionEnv S.nocell (by intro y hy;simp at hy) (fun h₁ hns₁ hsb₁=>?_) S.kind);dsimp only at hns₁ hsb₁ ⊢;generalize hH2:s2.heap.push { cls := .type "list",dict:=none,data := .seq ([]:List Value).toArray }=G2 at hns₁ hsb₁ ⊢;have hC:G2.objs.size=s2.heap.objs.size+1:=by rw[← hH2,Heap.size_push]
 generalize hCC:G2.objs.size=C at hns₁ hsb₁ hC ⊢;generalize hDD:s2.heap.objs.size=D at hC ⊢;have hDC:D≠C:=by omega
 have below:∀ b o,s2.heap.get? b=some o→b≠C∧b≠D:=fun b o e=>by
  have h:@LT.lt Nat _ b s2.heap.objs.size:=Heap.lt_size e;exact⟨fun z=>by have z':@Eq Nat b C:=z;omega,fun z=>by have z':@Eq Nat b D:=z;omega⟩
 have old:∀ b o,s2.heap.get? b=some o→h₁.get? b=some o:=fun b o e=>hsb₁.extBut b o (below b o e).1 (Heap.get?_push_of_some _ (hH2 ▸ Heap.get?_push_of_some _ e))
 have hacc:h₁.get? D=some { cls := .type "list",data := .seq ([]:List Value).toArray }:=hsb₁.extBut _ _ hDC (Heap.get?_push_of_some _ (by rw[← hH2,← hDD];exact Heap.get?_push_size _ rfl));have nC:s2.heap.get? C=none:=Heap.get?_none_of_le (by omega);have nD:s2.heap.get? D=none:=Heap.get?_none_of_le (by omega);have fC:H2 C=none:=I2.hok.fresh (by omega);have fD:H2 D=none:=I2.hok.fresh (by omega);have fpl:∀ b∈fp,b≠C∧b≠D:=fun b hb=>by obtain⟨o,e,_⟩:=T.obj _ _ st2 b hb;exact below b o e
 have nstk:∀ b∈fp,b ∉ frs X.stack:=fun b hb z=>by
  obtain⟨_,f1,f3,_⟩:=f2 b hb;rcases List.mem_cons.mp (I2.stkSub b z) with e | e
  ·exact f1 e
  ·exact f3 e
 have clO:∀ x c,cl.lookup x=some c→X.env.cells.lookup x=some c∧(x,NameKind.free)∈scope.names:=fun x c e=>by
  rw[hcl] at e;split at e
  ·rename_i hm;exact⟨e,hm⟩
  ·cases e
 have stkD:∀ b∈frs X.stack,b≠D∧b≠C:=fun b hb=>by
  have h:=I2.stkSub b hb;rcases List.mem_cons.mp h with e | e
  ·have h1:@LT.lt Nat _ X.env.locals s2.heap.objs.size:=I2.lt;have h2:@Eq Nat b X.env.locals:=e;exact⟨fun z=>by have z':@Eq Nat b D:=z;omega,fun z=>by have z':@Eq Nat b C:=z;omega⟩
  ·obtain⟨_,o,ho,_⟩:=I2.ok.funs.mem e;have h1:@LT.lt Nat _ b X.s₀.heap.objs.size:=Heap.lt_size ho;have h2:=I2.sz;exact⟨fun z=>by have z':@Eq Nat b D:=z;omega,fun z=>by have z':@Eq Nat b C:=z;omega⟩
 have ok':(cxComp X N' scope cl C s2 H2 fp).Ok:=by
  refine⟨I2.ok.mod,S.kind,I2.ok.glob,I2.ok.blt,(by show s2.heap.objs.size≤C;omega),fun x y c h1 h2=>I2.ok.inj x y c (clO x c h1).1 (clO y c h2).1,fun x hx=>?_,fun x c hx _=>(Bool.false_ne_true hx).elim,fun _=>I2.ok.hd hc,I2.ok.frames,.inl rfl,
   fun b hb=>⟨(fpl b hb).1,fun x c e=>(f2 b hb).2.2.2.2.1 x c (clO x c e).1⟩,I2.bs,Nat.le_trans I2.ok.bsz I2.sz,fun b o e hb=>?_,nstk,I2.stack,I2.stkFree⟩
  ·have hx':(relabel scope X.env).names.lookup x=some .cell∨(relabel scope X.env).names.lookup x=some .free:=hx;have hk:(relabel scope X.env).names.lookup x=_:=lookup_relabel X.env x scope.names;rw[hk] at hx';have hf:(x,NameKind.free)∈scope.names:=by
    cases q:scope.names.lookup x with
    | none=>rw[q] at hx';rcases hx' with z | z <;> cases z
    | some k =>
     have hm:=PySem.mem_of_lookup q;cases k with
     | free=>exact hm
     | cell=>exact absurd rfl (S.nocell _ hm)
     | _=>rw[q] at hx';rcases hx' with z | z <;> simp at z
   obtain⟨c,e⟩:=I2.ok.has x (.inl (S.kinds _ hf rfl));exact⟨c,by show cl.lookup x=some c;rw[hcl,if_pos hf];exact e⟩
  ·rcases (f2 b hb).2.2.2.1 with z | z
   ·exact I2.ok.noex b o e z
   ·have h1:@LT.lt Nat _ b X.s₀.heap.objs.size:=Heap.lt_size (I2.ok.bs b o e).1;have h2:@LE.le Nat _ X.s₀.heap.objs.size b:=z;omega
 have I0:Inv (cxComp X N' scope cl C s2 H2 fp) [] (startC nT js σ) H2 { s2 with heap:=h₁,toks:=s2.toks+([]:List (Str × Value)).length }:=by
  refine⟨ok',rfl,I2.bare,Un.kept old,⟨_,hns₁,fun i x v e1 e2 e3=>?_⟩,fun x c e=>?_,fC,fun x c e=>I2.freeC x c (clO x c e).1,fun p hp=>absurd (show p∈([]:List (Addr × Obj)) from hp) (by simp),I2.hok.kept old,?_⟩
  ·unfold startC at e2;by_cases hi:i<nT
   ·rw[List.getElem?_append_left (by simpa using hi),List.getElem?_replicate,if_pos hi] at e2;cases e2
   ·rw[List.getElem?_append_right (by simpa using hi),List.length_replicate,List.getElem?_map] at e2;obtain⟨k,hk⟩:∃ k,i=nT+k:=⟨i-nT,by omega⟩;subst hk;rw[Nat.add_sub_cancel_left] at e2;cases q:js[k]? with
    | none=>rw[q] at e2;cases e2
    | some j =>
     rw[q] at e2;have e2':(σ[j]?).join=some v:=Option.some.inj e2;have e3' : σ[j]? = some (some v):=by
      cases z : σ[j]? with
      | none=>rw[z] at e2';cases e2'
      | some a=>rw[z] at e2';exact congrArg some e2'
     have hxN:=S.frees k j x q e1;have hlk:scope.names.lookup x=some .free:=S.vis x (by
      rw[List.mem_iff_getElem?];exact⟨k,by rw[List.getElem?_drop];exact e1⟩)
     have hfree:(x,NameKind.free)∈scope.names:=PySem.mem_of_lookup hlk;have hcell:=S.kinds _ hfree rfl;obtain⟨m,hn,hl⟩:=I2.loc;obtain⟨u,r,l⟩:=hl j x v hxN e3' (.inr (.inl hcell));refine⟨u,r,?_⟩;rcases l with ⟨l,_⟩ | ⟨_,c,ec,ic⟩
     ·have l':X.env.scope.names.lookup x=some .local:=l;rw[hcell] at l';cases l'
     ·refine .inr ⟨?_,c,?_,?_⟩
      ·left;show (relabel scope X.env).names.lookup x=some .cell;have hk:(relabel scope X.env).names.lookup x=_:=lookup_relabel X.env x scope.names;have hkind:X.env.scope.kind = .function:=I2.ok.kind;have hko:X.env.kindOf x=some .cell:=hcell;rw[hk,hlk,Option.map_some,hkind,hko];rfl
      ·show cl.lookup x=some c;rw[hcl,if_pos hfree];exact ec
      ·exact ic.keeps old
  ·obtain⟨v,q⟩:=I2.cell x c (clO x c e).1;exact⟨v,q.keeps old⟩
  ·unfold startC;rw[List.length_append,List.length_replicate,List.length_map];exact S.len.symm
 have lp:∀ s₃:Shared,s₃={ s2 with heap:=h₁,toks:=s2.toks+([]:List (Str × Value)).length } →
   codeAny (model X.prog X.w) X.A (.compLoop (.ListComp elt [⟨tg,iter,ifs,0⟩] scope pos) 0 (.ref it) (.ref D) (compEnvC scope cl C X.env)) (RR (.ref D) (cEnvN X scope cl C)) s₃:=by
  rintro s₃ rfl;obtain⟨m0,w0⟩:=w0;refine compLoop_anyE (EL:=XE C s2 H2 fp) (hEL:=fun e s' h=>hXX D C e s' nC (by omega) h) (fun n s'=>∃ (i:Nat) (ys:List V) (its:List Value) (no:Nat) (σ':St) (H':Hp),Inv (cxComp X N' scope cl C s2 H2 fp) [(D,{ cls := .type "list",data := .seq its.toArray no })] σ' H' s'∧Vals ys its∧tn i s'.heap∧(∀ b∈fp,H' b=none)∧ys.length≤sizeLine∧W i n ys σ' H') ?_ m0
   ⟨0,[],[],0,startC nT js σ,H2,I0.pins_of fun p hp=>?_,.nil,T.keep _ _ _ st2 fun b _ o e=>old b o e,fun b hb=>(f2 b hb).1,Nat.zero_le _,w0⟩
  ·rintro n s3 ⟨i,ys,its,no,σ3,H3,I3,rv,st3,fr3,hz,w3⟩;have fpk:∀ {H':Hp},(∀ b∈fp,H' b=none)→∀ b∈fp,FpOk (cxComp X N' scope cl C s2 H2 fp) [(D,{ cls := .type "list",data := .seq its.toArray no })] H' b:=fun hn b hb =>
    ⟨hn b hb,(fpl b hb).1,nstk b hb,.inl hb,fun x c e=>(f2 b hb).2.2.2.2.1 x c (clO x c e).1,fun p hp=>by
     have e:p=(D,{ cls := .type "list",data := .seq its.toArray no }):=by simpa using hp
     rw[e];exact Ne.symm (fpl b hb).2⟩
   rcases turn i n ys σ3 H3 w3 with ⟨stop,q⟩ | ⟨go,hlt,N,hN,step⟩
   ·refine wpAny_mono (T.done (cxComp X N' scope cl C s2 H2 fp) rfl rfl rfl hc i _ s3 σ3 H3 (fun _ _=>False) I3 (fpk fr3) st3 stop) (fun r s4 ⟨hr,I4⟩=>?_) fun _ _ h=>h
    subst hr;obtain⟨pD1,pD2,pD3,pD4,_⟩:=I4.pin (D,{ cls := .type "list",data := .seq its.toArray no }) (by simp);obtain⟨m,hn,_⟩:=I4.loc;have fC4:H3 C=none:=I4.free;refine hRR D C s4 ys H3 m (q D pD2) hn nC (by omega) hDC fC4 fun h' sb=>?_
    have k4:∀ b o,b≠C→s4.heap.get? b=some o→h'.get? b=some o:=fun b o hb e=>sb.extBut b o hb e
    have tne:∀ b u,H3 b=some u→b≠D:=fun b u e=>ne_of_none e pD2
    refine I2.call' (s':={ s4 with heap:=h' }) (ch:=fp) I4.os ⟨fun b o e n hb hx=>k4 b o (below b o e).1 (I4.base.keep b o e n hb hx),fun b o e n hb hx=>?_,fun b o e n hx=>?_,fun b o e hx=>?_,fun b xs e=>?_,fun b o u e=>?_,fun b ps e=>?_⟩ (fun b u e=>?_) I4.bare fun b hb=>?_
    ·obtain⟨sl,e'⟩:=I4.base.slot b o e n hb hx;exact⟨sl,k4 b _ (below b o e).1 e'⟩
    ·rw[upd_ne (below b o e).2];exact I4.base.free b o e n hx
    ·obtain⟨o',e'⟩:=I4.base.there b o e hx;exact⟨o',k4 b o' (below b o e).1 e'⟩
    ·have e':=I4.base.tups b xs e;rw[upd_ne (tne b _ e')];exact e'
    ·have e':=I4.base.frzs b o u e;rw[upd_ne (tne b _ e')];exact e'
    ·obtain⟨more,e'⟩:=I4.base.tbls b ps e;exact⟨more,by rw[upd_ne (tne b _ e')];exact e'⟩
    ·by_cases hb:b=D
     ·subst hb;rw[upd_same] at e;cases e;exact⟨hz,its,no,rv,k4 b _ hDC pD1⟩
     ·rw[upd_ne hb] at e;refine (I4.hok b u e).stay (fun c v hcc z=>k4 c v ?_ z) (fun c z=>by rw[upd_ne (tne c _ z)];exact z) fun c xs z=>by rw[upd_ne (tne c _ z)];exact z
      rcases hcc with rfl | hcc
      ·exact ne_of_none e fC4
      ·exact ne_of_none hcc fC4
    ·obtain⟨_,g1,_,g3,g4,g5⟩:=f2 b hb;exact⟨g3,g1,g4,g5⟩
   ·refine wpAny_mono (T.item (cxComp X N' scope cl C s2 H2 fp) rfl rfl rfl hc i _ s3 σ3 H3 (fun _ _=>False) I3 (fpk fr3) st3 go) (fun r s4 ⟨u,hr,h4⟩=>?_) fun _ _ h=>h
    subst hr;refine wpAny_mono h4 (fun _ s5 ⟨x,H5,I5,r5,y5,st5,fr5⟩=>?_) fun _ _ h=>h
    have I5':=I5.pinned (fpk fr5) (T.obj _ _ st5);refine wpAny_mono (hg C s2 H2 fp _ s5 σ3 H5 x u _ I5' r5 (step x H5 y5)) (fun _ s6 ⟨σ6,H6,I6,q6⟩=>?_) fun _ _ h=>h
    refine wpAny_mono (ht C s2 H2 fp _ s6 σ6 H6 _ I6 q6) (fun ok s7 ⟨H7,I7,q7⟩=>?_) fun _ _ h=>h
    have back:∀ {pp:List (Addr × Obj)}{s':Shared} {σ':St}{H':Hp},(∀ b∈fp,∀ o,s5.heap.get? b=some o→(b,o)∈pp)→Inv (cxComp X N' scope cl C s2 H2 fp) pp σ' H' s'→tn (i+1) s'.heap∧∀ b∈fp,H' b=none:=fun {pp s' σ' H'} hpp I'=>by
     refine⟨T.keep _ _ _ st5 fun b hb o e=>(I'.pin (b,o) (List.mem_append_right _ (hpp b hb o e))).1,fun b hb=>?_⟩;obtain⟨o,e,d⟩:=T.obj _ _ st5 b hb;exact (I'.pin (b,o) (List.mem_append_right _ (hpp b hb o e))).2.1
    have inpp:∀ b∈fp,∀ o,s5.heap.get? b=some o→(b,o)∈[(D,({ cls := .type "list",data := .seq its.toArray no }:Obj))]++pinsAt fp s5.heap:=fun b hb o e=>List.mem_append_right _ (mem_pinsAt hb e)
    cases ok with
    | false =>
     rw[if_neg Bool.false_ne_true];rw[if_neg Bool.false_ne_true] at q7;obtain⟨m',hm,w7⟩:=hN _ _ _ q7;obtain⟨b1,b2⟩:=back inpp I7;exact⟨m',hm,i+1,ys,its,no,σ6,H7,I7.unpinned,rv,b1,b2,hz,w7⟩
    | true =>
     rw[if_pos rfl];rw[if_pos rfl] at q7;refine wpAny_mono (he C s2 H2 fp _ s7 σ6 H7 _ (I7.wish _) q7) (fun v8 s8 ⟨y,H8,I8w,r8,q8⟩=>?_) fun _ _ h=>h
     have I8:=I8w.unwish;obtain⟨eD,nD8,neL,nf,_⟩:=I8.pin (D,{ cls := .type "list",data := .seq its.toArray no }) (List.mem_append_right _ (List.mem_append_left _ (by simp)));have hlen:=rv.length;refine call_meets F.slot_list_append ⟨_,eD,rfl⟩ F.entry_list_append (F.args_list_append_2 _ _) (PySem.list_append D its.toArray no v8 (by rw[List.size_toArray];omega)) ⟨eD,?_⟩;obtain⟨m',hm,w8⟩:=hN _ _ _ q8;have I9:Inv (cxComp X N' scope cl C s2 H2 fp) (pinsAt fp s5.heap) σ6 H8 s8:=I8.pins_of fun p hp=>I8.pin p (List.mem_append_right _ (List.mem_append_right _ hp))
     have hup:=get?_update_seq eD (fun a=>a.push v8);have I10:=I9.turned (h':=s8.heap.update D (Obj.mapSeq fun a=>a.push v8)) (t':=s8.toks) (it:=D) (fun b o hb e=>(Heap.get?_update_ne _ _ _ _ hb).trans e) nD8 neL (.inr (by show s2.heap.objs.size≤D;omega))
      (fun x c e z=>by
       obtain⟨v,oc,hoc,hdc⟩:=I8.cell x c e;rw[z,eD] at hoc;cases hoc;cases hdc) (fun p hp z=>by
        have hp':p∈pinsAt fp s5.heap:=by simpa using hp
        exact (fpl p.1 (of_pinsAt hp').1).2 z)
     obtain⟨b1,b2⟩:=back (fun b hb o e=>mem_pinsAt hb e) I10;refine⟨m',hm,i+1,ys ++ [y],its ++ [v8],(if ((its.toArray.push v8).size == its.toArray.size)=true then no else no+1),σ6,H8,I10.pins_of fun p hp=>?_,rv.append (.cons r8 .nil),b1,b2,(by rw[List.length_append];simp;omega),w8⟩;obtain rfl:=List.mem_singleton.mp hp;refine⟨?_,nD8,neL,nf,fun v z=>by cases z⟩;refine hup.trans ?_;rw[List.push_toArray]
  ·have e:p=(D,{ cls := .type "list",data := .seq ([]:List Value).toArray }):=by simpa using hp
   subst e;exact⟨hacc,fD,hDC,fun z=>(stkD D z).1 rfl,fun v z=>by cases z⟩
 exact codeAny_compStart_list (lp _ rfl) (T.self _ 0 _ _ _ (T.keep _ _ _ st2 fun b _ o e=>old b o e) (lp _ rfl))
section
variable {X:Cx}{E:XK}{N':List Str}{scope:Scope}
noncomputable def XEc (X:Cx) (E:XK) (N':List Str) (scope:Scope) (C:Addr) (s₀:Shared) (H₀:Hp) (fp:List Addr):Value→Shared→Prop:=fun e s'=>∃ (pins:List (Addr × Obj)) (σ:St) (H:Hp) (s:Shared),Inv (cxComp X.nox N' scope [] C s₀ H₀ fp) pins σ H s∧CXe X.prog X.w X.stack H s E e s'
theorem passC {C:Addr}{s₀:Shared}{H₀:Hp}{fp:List Addr}:Passes (CXe X.prog X.w) ((cxComp X.nox N' scope [] C s₀ H₀ fp).wish (XEc X E N' scope C s₀ H₀ fp)) E:=fun pins σ H s e s' I h=>⟨pins,σ,H,s,I.unwish,h⟩
theorem comp_xx (L:Lets X E) {pins:List (Addr × Obj)} {σ:St}{H2:Hp}{s2:Shared}{fp:List Addr} (I2:Inv X.nox pins σ H2 s2) (f2:∀ b∈fp,FpOk X.nox pins H2 b) {C:Addr} (nC:s2.heap.get? C=none) (sC:s2.heap.objs.size≤C) {e:Value}{s':Shared}
  (h:XEc X E N' scope C s2 H2 fp e s') {c1 c2:Env} (hf1:c1.frame=X.env.frame) (hf2:c2.frame=X.env.frame) {E2:Value→Shared→Prop} {α : Type}{Q : α → Shared→Prop} :
  wpAny (model X.prog X.w) X.A (noteFrame e c1) (fun _ s4=>∃ m,s4.heap.Ns C m∧∀ h',Heap.SameBut C s4.heap h'→wpAny (model X.prog X.w) X.A (PySem.passOn "comprehension.variables-let-go" e c2) Q X.xe { s4 with heap:=h' }) E2 s':=by
 obtain⟨pins',σ',Hb,sb,Ib,hx⟩:=h;obtain⟨a,T,Cl,H',rfl,I4,h1,h2,h3,h4,h5,h6⟩:=behind Ib hx;have ch:∀ b∈fp,(b∈X.nox.ex∨X.nox.s₀.heap.objs.size≤b)∧b≠X.nox.env.locals∧(∀ (x:Str) (c:Addr),List.lookup x X.nox.env.cells=some c→c≠b)∧∀ (p:Addr × Obj),p∈X.nox.pn++pins→p.fst≠b:=fun b hb=>by
  obtain⟨_,g1,_,g3,g4,g5⟩:=f2 b hb;exact⟨g3,g1,g4,g5⟩
 have JXb:Inv X pins σ Hb sb:=(I2.call' (ch:=fp) Ib.os Ib.base Ib.hok Ib.bare ch).unwish;have JX:Inv X pins σ H' s':=(I2.call' (ch:=fp) I4.os I4.base I4.hok I4.bare ch).unwish;have ap:=fly_apart L.own JXb h1 h2 h3 h4 h5;obtain⟨m,hns,_⟩:=I4.loc;have hC:X.s₀.heap.get? C=none:=by
  cases q:X.s₀.heap.get? C with
  | none=>rfl
  | some o =>
   obtain⟨o',z⟩:=I2.base.there C o q (by show C ∉ X.ex;rw[L.own.ex];simp);rw[nC] at z;cases z
 have hCL:C≠X.env.locals:=fun z=>by
  have h1:@LT.lt Nat _ X.env.locals s2.heap.objs.size:=I2.lt;have h2:@Eq Nat C X.env.locals:=z;have h3:@LE.le Nat _ s2.heap.objs.size C:=sC;omega
 exact comp_leaves L.own JX hC I4.free hCL hns ap h5 h6 hf1 hf2 L.xe
theorem relabel_none {scope:Scope} (h:∀ y∈scope.names,y.2 ≠ .free) (env:Env):relabel scope env=scope:=by
 obtain⟨k,names,g,c,mo⟩:=scope;unfold relabel;congr 1;refine (List.map_congr_left fun y hy=>?_).trans (List.map_id _);obtain⟨n,kk⟩:=y
 have:kk ≠ .free:=h _ hy
 have e:(kk == NameKind.free)=false:=by simpa using this
 simp[e]
noncomputable def RRu (X:Cx) (scope:Scope) (u:Value→Sem Unit) (P:Shared→Prop) (acc:Value) (cenv:Env):Result→Shared→Prop
 | .ok _,s'=>wpAny (model X.prog X.w) X.A (u acc) (fun _ s''=>∃ m,s''.heap.Ns cenv.locals m∧∀ h',Heap.SameBut cenv.locals s''.heap h'→P { s'' with heap:=h' }) X.xe s'
 | .error e,s'=>∃ m,s'.heap.Ns cenv.locals m∧∀ h',Heap.SameBut cenv.locals s'.heap h'→wpAny (model X.prog X.w) X.A (PySem.passOn "comprehension.variables-let-go" e { cenv with scope:=scope }) (fun (_:Value) s'=>P s') X.xe { s' with heap:=h' }
theorem ps_setCE (L:Lets X E) {tg iter elt:Expr}{ifs:List Expr}{cpos pos pos':Pos}{x:Str}{i:Nat} (nT:Nat) {wi:TI}{g:TG}{tc:TT}{te:TE}
    (hN:X.nox.N.Nodup) (hix:X.nox.N[i]? = some x) (hx:Loc X.nox.env.scope x)
    (hc:X.calm=true) (S:CompSc X.nox scope N' nT []) (hnf:∀ y∈scope.names,y.2 ≠ .free) (hi:PI X.nox tg iter wi)
    (hg:∀ C s₀ H₀ fp,PG (cxComp X.nox N' scope [] C s₀ H₀ fp) tg g) (ht:∀ C s₀ H₀ fp,PTs (cxComp X.nox N' scope [] C s₀ H₀ fp) ifs tc) (he:∀ C s₀ H₀ fp,PE ((cxComp X.nox N' scope [] C s₀ H₀ fp).wish (XEc X E N' scope C s₀ H₀ fp)) elt te)
    (hs:∀ x,foldedSetIterable iter X.env x=pure x:=by intro _;rfl) (hsw:swapsWith (.ListComp elt [⟨tg,iter,ifs,0⟩] scope cpos) (some (.Name x pos')) pos.line X.env=pure true:=by rfl)
    (hf:X.nox.fn x=true∨X.nox.env.scope.names.lookup x=some .local:=by first | exact .inl rfl | exact .inr rfl | assumption) :
    PS X (.Assign [.Name x pos'] (.ListComp elt [⟨tg,iter,ifs,0⟩] scope cpos) pos) (tAsg (tComp wi nT [] g tc te) (gName i)):=by
  intro pins s σ H D0 I0 h;have I:=I0.wish fun _ _=>False
  have hG:PG X.nox (.Name x pos') (gName i):=pg_name hN hix hx hf;rw [exec_Assign_Name_used _ _ _ _ hsw];refine wpAny_bind (wpAny_standAt (wpAny_bind ?_));show wpAny _ X.A (do let _ ← comprehension (.ListComp elt [⟨tg,iter,ifs,0⟩] scope cpos) scope X.env _ (newList []) false (eval iter X.env) (some (assign (.Name x pos') X.env))) _ _ s;refine wpAny_bind (wpAny_mono (wpAny_comprehension_use (u:=assign (.Name x pos') X.env) (Q:=fun _ s'=>SP X pins D0 .next s') rfl hs hnf S.kind S.names ?_) (fun _ s' hq=>wpAny_pure (wpAny_pure hq)) fun _ _ e=>e);refine wpAny_mono (hi pins s σ H _ I h) (fun v s1 h1=>wpAny_mono h1 (fun itv s2 h2 => ?_) fun _ _ z=>False.elim z) fun _ _ z=>False.elim z
  obtain ⟨it,fp,tn,J,H2,rfl,I2,T,st2,f2,W,w0,turn⟩:=h2;have hxx:∀ (D C:Addr) (e:Value) (s':Shared),s2.heap.get? C=none→s2.heap.objs.size≤C→XEc X E N' scope C s2 H2 fp e s'→notedBy (model X.prog X.w) X.A (compEnvC scope [] C X.env) (fun x' s''=>RRu X scope (assign (.Name x pos') X.env) (SP X pins D0 .next) (.ref D) (cEnvN X.nox scope [] C) (.error x') s'') e s':=fun D C e s' nC sC hxe =>
    comp_xx (c1:=compEnvC scope [] C X.env) (c2:={ cEnvN X.nox scope [] C with scope:=scope }) (α := Value) (Q:=fun _ s'=>SP X pins D0 .next s') L I2 f2 nC sC hxe rfl rfl
  have core:=comp_coreE (X:=X.nox) (elt:=elt) (iter:=iter) (pos:=cpos) (QQ:=fun D ys H'=>gName i (.ref D) σ (upd H' D (.lst ys)) D0.nx) (XE:=XEc X E N' scope) (cl:=[]) (RR:=RRu X scope (assign (.Name x pos') X.env) (SP X pins D0 .next))
    hc S (fun x=>by
      rw [if_neg fun z=>hnf _ z rfl];rfl) hg ht he I2 T st2 f2 W w0 turn hxx ?_
  · rw [relabel_none hnf] at core;exact wpAny_mono core (fun acc s3 h3=>wpAny_mono h3 (fun cenv s4 h4=>codeAny_mono h4 fun r s' q=>by cases r <;> exact q) fun _ _ z=>False.elim z) fun _ _ z=>False.elim z
  · intro D C s' ys H' m q hn hC0 hC hDC hHC fin;show wpAny _ X.A (assign (.Name x pos') X.env (.ref D)) _ _ _;have I3:Inv X.nox pins σ (upd H' D (.lst ys)) s':=fin s'.heap ⟨rfl,fun _ _=>rfl⟩;have hHC':upd H' D (.lst ys) C=none:=by rw [upd_ne (Ne.symm hDC)];exact hHC
    have fpC:∀ {H3:Hp},H3 C=none→FpOk X.nox pins H3 C:=fun h3=>I2.fpOk hC h3
    obtain ⟨oC,es,ep,hoC,rC⟩:=id hn;have hcell:∀ v,oC.data ≠ .cell v:=fun v z=>by
      have:=rC
      rw [z] at this;simp at this
    have I4 := I3.pinned (fp := [C]) (fun b hb => by have z : b = C := by simpa using hb
                                                     subst z; exact fpC hHC') (fun b hb => by have z : b = C := by simpa using hb
                                                                                              subst z; exact ⟨oC, hoC, hcell⟩)
    refine wpAny_mono (hG _ s' σ _ (.ref D) (.ref D) _ I4 rfl q) (fun _ s5 ⟨σ5,H5,I5,q5⟩ => ?_) fun _ _ z=>False.elim z
    have pC:=I5.pin (C,oC) (List.mem_append_right _ (List.mem_append_right _ (mem_pinsAt (by simp) hoC)));refine ⟨m,⟨oC,es,ep,pC.1,rC⟩,fun h' sb => ?_⟩;obtain ⟨f0,f1,f2',f3,f4,f5⟩:=fpC pC.2.1;exact ⟨σ5,H5,((I5.unpinned).turned (t':=s5.toks) (fun b o hb e=>(sb.2 b hb).trans e) f0 f1 f3 f4 f5).unwish,q5⟩
end
end L2
set_option maxHeartbeats 1000000
namespace L2
open PySem PySem.Spec PyProof.Rows
theorem mt_sindex {X:Cx}:MtM X "str.index" (fun x vs H Q=>∃ i j,x = .str i∧vs=[.str j]∧0≤Txt.find i j∧Q (.int (Txt.find i j)) H):=by
 intro pins s σ H x xs v us Q I rx rv h;obtain⟨i,j,rfl,rfl,h0,q⟩:=h;obtain⟨t,rfl⟩:=rx;obtain⟨u,rfl,⟨t2,rfl⟩⟩:=rv.one;cases e:Builtin.Str.occurrences i j 0 i.length 1 with
 | nil=>unfold Txt.find at h0;rw[e] at h0;exact absurd h0 (by decide)
 | cons k r =>
  have ef:Txt.find i j=(k:Int):=by unfold Txt.find;rw[e]
  rw[ef] at q;exact SC.index e ⟨.int _,H,I.tok _,⟨_,rfl⟩,q⟩
theorem pe_bmK {X:Cx}{T:String}{name:Str}{id:String}{r:V→List V→Hp→VK→Prop}{o e:Expr}{es:List Expr}{to:TE}{t:TA}{apos cpos:Pos} (K:PySem.W.Frag) (hK:X.K=K) (pa:PlainAttrs T) (slot:Slot T name id) (hty:typeOf (.builtin id)=pure (.type "method_descriptor")) (hm:MtR X id r) (ho:PE X o to) (ha:PA X (e :: es) t)
  (hbase:attributeBase o name X.env (eval o X.env)=eval o X.env:=by rfl)
  (hfew:((backTo cpos (starEach (e :: es) X.env)).all (fun x => !x.1) && (backToKw cpos (keywordEach [] X.env)).all (fun x=>x.1.isSome)
   && decide ((e :: es).length+([]:List Keyword).length+(if ([]:List Keyword).isEmpty then 0 else 1)<30))=true:=by rfl)
  (hline:(apos.endLine == cpos.line)=true:=by rfl) (hs:starEach (e :: es) X.env=(false,eval e X.env) :: starEach es X.env:=by rfl) (hplain:(backTo cpos (starEach es X.env)).any (·.1)=false:=by rfl) :
  PE X (.Call (.Attribute o name apos) (e :: es) [] cpos) (tBM K T r to t):=by
 subst hK;exact pe_bm pa slot hty hm ho ha hbase hfew hline hs hplain
theorem comp_str {l:List Nat}{g:TG}{tc:TT}{te:TE} {σ:St}{H:Hp}{R:List V→Hp→Addr→Prop} (Pv:Nat→List V→St→Hp→Prop) (h0:Pv 0 [] σ H) (hl:∀ i ys σ H,Pv i ys σ H→ys.length≤i) (hz:l.length≤sizeLine)
  (hs:∀ i c ys σ H,l[i]? = some c→Pv i ys σ H→g (.str (My.S [c])) σ H fun σ2 H2=>tc σ2 H2 fun b H3=>if b=true then te σ2 H3 fun y H4=>Pv (i+1) (ys ++ [y]) σ2 H4 else Pv (i+1) ys σ2 H3)
  (hd:∀ ys σ H,Pv l.length ys σ H→∀ D,H D=none→R ys H D) :
  ∃ W:Nat→Nat→List V→St→Hp→Prop,(∃ m,W 0 m [] σ H)∧∀ i m ys σ H,W i m ys σ H →
   ((ItC (My.S l)).stop i H∧∀ D,H D=none→R ys H D) ∨
   ((ItC (My.S l)).go i H∧ys.length<sizeLine∧∃ N:List V→St→Hp→Prop,(∀ ys' σ' H',N ys' σ' H'→∃ m',m'<m∧W (i+1) m' ys' σ' H') ∧
    ∀ x H',(ItC (My.S l)).yld i H x H'→g x σ H' fun σ2 H2=>tc σ2 H2 fun b H3=>if b=true then te σ2 H3 fun y H4=>N (ys ++ [y]) σ2 H4 else N ys σ2 H3):=by
 refine⟨fun i m ys σ H=>m=l.length-i∧i≤l.length∧Pv i ys σ H,⟨l.length,by simp,Nat.zero_le _,h0⟩,?_⟩;rintro i m ys σ H ⟨rfl,hi,p⟩;have q:=hl i ys σ H p;by_cases hlt:i<l.length
 ·refine .inr ⟨hlt,(by omega),Pv (i+1),fun ys' σ' H' p'=>⟨l.length-(i+1),by omega,rfl,hlt,p'⟩,fun x H' y=>?_⟩;obtain⟨rfl,c,hc,rfl⟩:=y;exact hs i c ys σ _ (by simpa [My.S] using hc) p
 ·have e:i=l.length:=by omega
  subst e;exact .inl ⟨Nat.le_refl _,hd ys σ H p⟩
end L2
namespace My
open PySem L2 OF
noncomputable def isD (c:Nat):Bool:=decide (48≤c∧c≤57)
noncomputable def idxL (c:Nat):Int:=if 97≤c∧c<113 then (c:Int)-97 else -1
theorem find_any:∀ c:Nat,c<128→Txt.find (S LET) (S [c])=idxL c:=by decide +kernel
noncomputable def readS:List Nat→Int→Nat→Option Nat
 | [],_,m=>some m
 | c :: r,la,m=>if idxL c≤la then none else readS r (idxL c) (m+2^(idxL c).toNat)
noncomputable def readN (fs ls:List Nat):Option Nat :=
 if fs=[]∧ls≠[] then some 1 else if fs=[]∨fs.head? = some 48∨(fs=[49]∧ls≠[]) then none else some (NumText.digitsVal fs)
noncomputable def figsOf (w:List Nat):List Nat:=w.takeWhile isD
noncomputable def letsOf (w:List Nat):List Nat:=w.dropWhile isD
theorem word_cut (w:List Nat):w=figsOf w++letsOf w:=(List.takeWhile_append_dropWhile).symm
theorem figs_all (w:List Nat):∀ c∈figsOf w,48≤c∧c≤57:=fun c hc=>by
 have:=List.all_takeWhile (p:=isD) (l:=w)
 exact of_decide_eq_true (List.all_eq_true.mp this c hc)
theorem lets_first {w:List Nat}:∀ c r,letsOf w=c :: r→¬ (48≤c∧c≤57):=fun c r e=>by
 have h:(w.dropWhile isD).head? = some c:=by show (letsOf w).head? = _;rw[e];rfl
 have:=List.head?_dropWhile_not isD w
 rw[h] at this;simpa [isD] using this
noncomputable def tupR (wo:List Nat):Option (Nat × Nat):=match readN (figsOf wo) (letsOf wo),readS (letsOf wo) (-1) 0 with
 | some n,some m=>some (m,n)
 | _,_=>none
noncomputable def readT (sg w:List Nat):Option (Int × Int) :=
 if sg=[43]∨sg=[45] then
  match readN (figsOf w) (letsOf w),readS (letsOf w) (-1) 0 with
  | some n,some m=>some ((m:Int),if sg=[45] then -(n:Int) else (n:Int))
  | _,_=>none
 else none
noncomputable def isF:Terms→Int→Bool
 | [],_=>true
 | t :: r,la=>if t.1≤la∨t.2=0 then false else isF r t.1
noncomputable def splitL:List Nat→List (List Nat)
 | []=>[[]]
 | c :: r=>if c=32 then [] :: splitL r else match splitL r with
  | []=>[[c]]
  | w :: ws=>(c :: w) :: ws
theorem split_ne:∀ l,splitL l≠[]
 | []=>by unfold splitL;simp
 | c :: r=>by
  unfold splitL;split
  ·simp
  ·split <;> simp
theorem split_no:∀ l,∀ w∈splitL l,32 ∉ w
 | [],w,h=>by unfold splitL at h;rw[List.mem_singleton.mp h];simp
 | c :: r,w,h=>by
  have ih:=split_no r;unfold splitL at h;split at h
  ·rcases List.mem_cons.mp h with z | z
   ·rw[z];simp
   ·exact ih w z
  ·rename_i hc;split at h
   ·rw[List.mem_singleton.mp h];simpa using fun z=>hc z.symm
   ·rename_i w0 ws e;rcases List.mem_cons.mp h with z | z
    ·rw[z];intro y;rcases List.mem_cons.mp y with y | y
     ·exact hc y.symm
     ·exact ih w0 (by rw[e];simp) y
    ·exact ih w (by rw[e];simp[z])
theorem split_join:∀ l,joinL 32 (splitL l)=l
 | []=>rfl
 | c :: r=>by
  have ih:=split_join r;unfold splitL;split
  ·rename_i hc;cases e:splitL r with
   | nil=>exact absurd e (split_ne r)
   | cons w ws =>
    rw[e] at ih;show []++32 :: joinL 32 (w :: ws)=c :: r;rw[ih,hc];rfl
  ·split
   ·rename_i e;exact absurd e (split_ne r)
   ·rename_i w ws e;rw[e] at ih;cases ws with
    | nil=>show c :: w=c :: r;rw[show w=r from ih]
    | cons x xs=>show (c :: w)++32 :: joinL 32 (x :: xs)=c :: r;rw[← ih];rfl
theorem split_cs:∀ l,∀ w∈splitL l,∀ c∈w,c∈l
 | [],w,h,c,hc=>by unfold splitL at h;rw[List.mem_singleton.mp h] at hc;cases hc
 | a :: r,w,h,c,hc=>by
  have ih:=split_cs r;unfold splitL at h;split at h
  ·rcases List.mem_cons.mp h with z | z
   ·rw[z] at hc;cases hc
   ·exact List.mem_cons_of_mem _ (ih w z c hc)
  ·split at h
   ·rw[List.mem_singleton.mp h] at hc;rw[List.mem_singleton.mp hc];simp
   ·rename_i w0 ws e;rcases List.mem_cons.mp h with z | z
    ·rw[z] at hc;rcases List.mem_cons.mp hc with y | y
     ·rw[y];simp
     ·exact List.mem_cons_of_mem _ (ih w0 (by rw[e];simp) c y)
    ·exact List.mem_cons_of_mem _ (ih w (by rw[e];simp[z]) c hc)
theorem split_lens:∀ l,(splitL l).length≤l.length+1∧∀ w∈splitL l,w.length≤l.length
 | []=>by unfold splitL;exact⟨by decide,fun w h=>by rw[List.mem_singleton.mp h];exact Nat.le_refl _⟩
 | a :: r=>by
  obtain⟨h1,h2⟩:=split_lens r;unfold splitL;split
  ·exact⟨by rw[List.length_cons,List.length_cons];omega,fun w h=>by
    rcases List.mem_cons.mp h with z | z
    ·rw[z];simp
    ·have:=h2 w z;rw[List.length_cons];omega⟩
  ·split
   ·exact⟨by simp,fun w h=>by rw[List.mem_singleton.mp h];simp⟩
   ·rename_i w0 ws e;rw[e] at h1 h2;refine⟨by rw[List.length_cons] at h1 ⊢;rw[List.length_cons];omega,fun w h=>?_⟩;rcases List.mem_cons.mp h with z | z
    ·rw[z,List.length_cons,List.length_cons];have:=h2 w0 (by simp);omega
    ·have:=h2 w (by simp[z]);rw[List.length_cons];omega
noncomputable def wordsR (l:List Nat):List (List Nat):=if l.head? = some 45 then [45] :: (match splitL l with | []=>[] | w :: r=>w.drop 1 :: r) else [43] :: splitL l
noncomputable def readPs:List (List Nat)→Option Terms
 | []=>some []
 | [_]=>none
 | sg :: w :: r=>match readT sg w,readPs r with
  | some t,some f=>some (t :: f)
  | _,_=>none
noncomputable def formR (l:List Nat):Option Terms:=if l=[48] then some [] else match readPs (wordsR l) with
 | some f=>if isF f (-1)=true then some f else none
 | none=>none
theorem split_head {l:List Nat}{c:Nat} (h:l.head? = some c) (hc:c≠32) {w0:List Nat}{wr:List (List Nat)} (e:splitL l=w0 :: wr):∃ w',w0=c :: w':=by
 cases l with
 | nil=>cases h
 | cons a r =>
  have:a=c:=by simpa using h
  subst this;unfold splitL at e;rw[if_neg hc] at e;split at e
  ·cases e;exact⟨[],rfl⟩
  ·cases e;exact⟨_,rfl⟩
theorem wordsR_ok (l:List Nat):2≤(wordsR l).length∧(wordsR l).length≤l.length+2∧∀ w∈wordsR l,(∀ c∈w,c∈l∨c=43)∧w.length≤l.length+1:=by
 obtain⟨w0,wr,ew⟩:∃ w0 wr,splitL l=w0 :: wr:=by
  cases e:splitL l with
  | nil=>exact absurd e (split_ne l)
  | cons a b=>exact⟨a,b,rfl⟩
 obtain⟨h1,h2⟩:=split_lens l;have h3:=split_cs l;rw[ew] at h1 h2 h3;rw[List.length_cons] at h1;unfold wordsR;rw[ew];split
 ·rename_i h45;have h45m:45∈l:=List.mem_of_mem_head? (by rw[h45];rfl);refine⟨by simp,by simp;omega,fun w hw=>?_⟩;rcases List.mem_cons.mp hw with z | z
  ·rw[z];exact⟨fun c hc=>.inl (by rw[List.mem_singleton.mp hc];exact h45m),by simp⟩
  ·rcases List.mem_cons.mp z with z | z
   ·rw[z];exact⟨fun c hc=>.inl (h3 w0 (by simp) c (List.mem_of_mem_drop hc)),by rw[List.length_drop];have:=h2 w0 (by simp);omega⟩
   ·exact⟨fun c hc=>.inl (h3 w (by simp[z]) c hc),by have:=h2 w (by simp[z]);omega⟩
 ·refine⟨by simp,by simp;omega,fun w hw=>?_⟩;rcases List.mem_cons.mp hw with z | z
  ·rw[z];exact⟨fun c hc=>.inr (List.mem_singleton.mp hc),by simp⟩
  ·exact⟨fun c hc=>.inl (h3 w z c hc),by have:=h2 w z;omega⟩
theorem readPs_odd:∀ {ws:List (List Nat)},¬ ws.length % 2=0→readPs ws=none
 | [],h=>absurd rfl h
 | [_],_=>rfl
 | a :: b :: r,h=>by
  have ih:=readPs_odd (ws:=r) (by rw[List.length_cons,List.length_cons] at h;omega);unfold readPs;rw[ih];cases readT a b <;> rfl
theorem pairs_ex:∀ {ws:List (List Nat)},ws.length % 2=0→∃ pp:List (List Nat × List Nat),ws=pp.flatMap fun t=>[t.1,t.2]
 | [],_=>⟨[],rfl⟩
 | [_],h=>by simp at h
 | a :: b :: r,h=>by
  obtain⟨pp,hp⟩:=pairs_ex (ws:=r) (by rw[List.length_cons,List.length_cons] at h;omega);exact⟨(a,b) :: pp,by rw[List.flatMap_cons,← hp];rfl⟩
theorem inter_len' (pp:List (List Nat × List Nat)):(pp.flatMap fun t=>[t.1,t.2]).length=2 * pp.length:=by
 induction pp with
 | nil=>rfl
 | cons t r ih=>rw[List.flatMap_cons,List.length_append,ih];show 2+_=2 * (r.length+1);omega
noncomputable def rdP:List (List Nat × List Nat)→Option Terms
 | []=>some []
 | p :: r=>match readT p.1 p.2,rdP r with
  | some t,some f=>some (t :: f)
  | _,_=>none
theorem readPs_pairs:∀ pp:List (List Nat × List Nat),readPs (pp.flatMap fun t=>[t.1,t.2])=rdP pp
 | []=>rfl
 | p :: r=>by
  have ih:=readPs_pairs r;show readPs (p.1 :: p.2 :: r.flatMap fun t=>[t.1,t.2])=rdP (p :: r);unfold readPs rdP;rw[ih]
theorem starts_head (l:List Nat):Txt.startswith (S l) (S [45])=decide (l.head? = some 45):=by
 rw[starts_S];cases l with
 | nil=>rfl
 | cons c r =>
  show (c == 45)=decide (some c=some 45);by_cases h:c=45
  ·subst h;rfl
  ·rw[decide_eq_false (fun z=>h (Option.some.inj z))];simpa using h
theorem rise_ext:∀ {a b:List Nat},a.Pairwise (· < ·)→b.Pairwise (· < ·)→(∀ x,x∈a↔x∈b)→a=b
 | [],b,_,_,h=>by
  cases b with
  | nil=>rfl
  | cons y t=>exact absurd ((h y).mpr (by simp)) (by simp)
 | x :: r,b,ha,hb,h=>by
  cases b with
  | nil=>exact absurd ((h x).mp (by simp)) (by simp)
  | cons y t =>
   obtain⟨a1,a2⟩:=List.pairwise_cons.mp ha;obtain⟨b1,b2⟩:=List.pairwise_cons.mp hb;have e:x=y:=by
    rcases List.mem_cons.mp ((h x).mp (by simp)) with z | z
    ·exact z
    ·rcases List.mem_cons.mp ((h y).mpr (by simp)) with w | w
     ·exact w.symm
     ·have:=b1 x z;have:=a1 y w;omega
   subst e;refine congrArg (x :: ·) (rise_ext a2 b2 fun z=>⟨fun hz=>?_,fun hz=>?_⟩)
   ·rcases List.mem_cons.mp ((h z).mp (by simp[hz])) with w | w
    ·have:=a1 z hz;omega
    ·exact w
   ·rcases List.mem_cons.mp ((h z).mpr (by simp[hz])) with w | w
    ·have:=b1 z hz;omega
    ·exact w
structure Ris (la:Int) (ls:List Nat):Prop where
 ok:∀ c∈ls,97≤c∧c<113
 up:ls.Pairwise (· < ·)
 ab:∀ c∈ls,la<(c:Int)-97
noncomputable def sumS (ls:List Nat):Nat:=(ls.map fun c=>2^(c-97)).sum
theorem ris_read:∀ {ls:List Nat}{la:Int} (m:Nat),Ris la ls→readS ls la m=some (m+sumS ls)
 | [],la,m,_=>by show some m=some (m+0);rfl
 | c :: r,la,m,h=>by
  have hc:=h.ok c (by simp);have hi:idxL c=(c:Int)-97:=if_pos hc;obtain⟨u1,u2⟩:=List.pairwise_cons.mp h.up;unfold readS;rw[hi,if_neg (by have:=h.ab c (by simp);omega)];rw[ris_read (ls:=r) _ ⟨fun x hx=>h.ok x (by simp[hx]),u2,fun x hx=>by have:=u1 x hx;omega⟩];have e:((c:Int)-97).toNat=c-97:=by omega
  rw[e];show some (m+2^(c-97)+sumS r)=some (m+(2^(c-97)+sumS r));congr 1;omega
theorem read_ris:∀ {ls:List Nat}{la:Int}{m x:Nat},-1≤la→readS ls la m=some x→Ris la ls
 | [],la,m,x,_,_=>⟨(fun c h=>by cases h),List.Pairwise.nil,(fun c h=>by cases h)⟩
 | c :: r,la,m,x,h0,h=>by
  unfold readS at h;split at h
  ·cases h
  ·rename_i hn;have hc:97≤c∧c<113:=by
    by_cases z:97≤c∧c<113
    ·exact z
    ·have:idxL c = -1:=if_neg z
     omega
   have hi:idxL c=(c:Int)-97:=if_pos hc;have ih:=read_ris (la:=idxL c) (by omega) h;refine⟨fun y hy=>?_,List.pairwise_cons.mpr ⟨fun y hy=>?_,ih.up⟩,fun y hy=>?_⟩
   ·rcases List.mem_cons.mp hy with z | z
    ·rw[z];exact hc
    ·exact ih.ok y z
   ·have:=ih.ab y hy;omega
   ·rcases List.mem_cons.mp hy with z | z
    ·rw[z];omega
    ·have:=ih.ab y z;omega
theorem LET_mem (c:Nat):c∈LET↔97≤c∧c<113:=by
 unfold LET;simp only[List.mem_cons,List.not_mem_nil,or_false];omega
theorem LET_up:LET.Pairwise (· < ·):=by decide
theorem pick_ris (ls:List Nat):LET.filter (fun c=>decide (c∈ls))=ls↔Ris (-1) ls:=by
 constructor
 ·intro h;have hm:∀ c∈ls,c∈LET:=fun c hc=>by rw[← h] at hc;exact (List.mem_filter.mp hc).1
  refine⟨fun c hc=>(LET_mem c).mp (hm c hc),by rw[← h];exact LET_up.filter _,fun c hc=>?_⟩
  have:=(LET_mem c).mp (hm c hc);omega
 ·intro h;refine rise_ext (LET_up.filter _) h.up fun x=>⟨fun hx=>by simpa using (List.mem_filter.mp hx).2,fun hx=>List.mem_filter.mpr ⟨(LET_mem x).mpr (h.ok x hx),by simpa using hx⟩⟩
theorem sumS_pos {ls:List Nat}:0<sumS ls↔ls≠[]:=by
 cases ls with
 | nil=>simp[sumS]
 | cons c r =>
  have:=Nat.two_pow_pos (c-97)
  refine⟨fun _=>by simp,fun _=>?_⟩;show 0<2^(c-97)+sumS r;omega
theorem sum_int (ls:List Nat):(ls.map fun c=>((2^(c-97):Nat):Int)).sum=((sumS ls:Nat):Int):=by
 unfold sumS;induction ls with
 | nil=>rfl
 | cons a r ih=>rw[List.map_cons,List.sum_cons,ih,List.map_cons,List.sum_cons,Int.natCast_add]
theorem str_e (l:List Nat):(V.str (S l)=V.str (Str.ofString ""))↔l=[]:=⟨fun z=>by
 injection z with z
 rw[lit_e] at z;exact S_inj z,fun z=>by rw[z,lit_e]⟩
theorem digits_pos:∀ {fs:List Nat},(∀ c∈fs,48≤c∧c≤57)→fs≠[]→fs.head? ≠ some 48→0<NumText.digitsVal fs:=by
 intro fs
 suffices H:∀ (r:List Nat) (c:Nat),48<c→0<NumText.digitsVal (c :: r) by
  intro hd h0 h1;cases fs with
  | nil=>exact absurd rfl h0
  | cons c r =>
   have:=hd c (by simp)
   exact H r c (by
    rcases Nat.lt_or_ge 48 c with z | z
    ·exact z
    ·exact absurd (by show some c=some 48;congr 1;omega) h1)
 intro r
 suffices H2:∀ (n:Nat) (r:List Nat),r.length=n→∀ c,48<c→0<NumText.digitsVal (c :: r) from H2 _ r rfl
 intro n;induction n with
 | zero =>
  intro r hr c hc
  have:r=[]:=List.length_eq_zero_iff.mp hr
  subst this
  have:=NumText.digitsVal_snoc [] c
  rw[List.nil_append] at this;rw[this];omega
 | succ n ih =>
  intro r hr c hc;rcases List.eq_nil_or_concat r with e | ⟨q,d,e⟩
  ·rw[e] at hr;cases hr
  ·rw[e,List.concat_eq_append,← List.cons_append,NumText.digitsVal_snoc]
   have:=ih q (by rw[e,List.concat_eq_append,List.length_append] at hr;simpa using hr) c hc
   omega
theorem readN_pos {fs ls:List Nat}{n:Nat} (hd:∀ c∈fs,48≤c∧c≤57) (h:readN fs ls=some n):0<n:=by
 unfold readN at h;split at h
 ·cases h;decide
 ·split at h
  ·cases h
  ·rename_i z;cases h;exact digits_pos hd (fun y=>z (.inl y)) fun y=>z (.inr (.inl y))
theorem readT_ok {sg w:List Nat}{t:Int × Int} (h:readT sg w=some t):0≤t.1∧t.2≠0:=by
 unfold readT at h;split at h
 ·split at h
  ·rename_i n m e1 e2;have hp:=readN_pos (figs_all w) e1;cases h;refine⟨Int.natCast_nonneg _,?_⟩;show (if sg=[45] then -(n:Int) else (n:Int))≠0;split <;> omega
  ·cases h
 ·cases h
noncomputable def walkP:List (List Nat × List Nat)→Terms→Int→Option Terms
 | [],acc,_=>some acc
 | p :: r,acc,la=>match readT p.1 p.2 with
  | none=>none
  | some t=>if t.1≤la then none else walkP r (acc ++ [t]) t.1
theorem walk_eq:∀ (pp:List (List Nat × List Nat)) (acc:Terms) (la:Int),walkP pp acc la=match rdP pp with
  | some f=>if isF f la=true then some (acc++f) else none
  | none=>none
 | [],acc,la=>by show some acc=if isF [] la=true then some (acc ++ []) else none;rw[if_pos (show isF [] la=true from rfl),List.append_nil]
 | p :: r,acc,la=>by
  unfold walkP rdP;cases e:readT p.1 p.2 with
  | none=>rfl
  | some t =>
   obtain⟨h1,h2⟩:=readT_ok e;dsimp only;by_cases z:t.1≤la
   ·rw[if_pos z];cases rdP r with
    | none=>rfl
    | some f =>
     have e9:isF (t :: f) la=false:=by unfold isF;rw[if_pos (Or.inl z)]
     show none=if isF (t :: f) la=true then some (acc++t :: f) else none
     rw[e9];rfl
   ·rw[if_neg z,walk_eq r];cases rdP r with
    | none=>rfl
    | some f =>
     show (if isF f t.1=true then some (acc ++ [t]++f) else none)=if isF (t :: f) la=true then some (acc++t :: f) else none
     have e9:isF (t :: f) la=isF f t.1:=by
      conv=>lhs;unfold isF
      rw[if_neg (fun w:t.1≤la∨t.2=0=>w.elim z h2)]
     rw[e9,List.append_assoc];rfl
theorem two_div (x:Int):Builtin.divisionGoesByPylong x 2=false:=by
 simp only[Builtin.divisionGoesByPylong];rw[show (decide ((if ((2:Int) == 0)=true then 0 else (2:Int).natAbs.log2 / 30+1) > 300))=false by decide];rfl
theorem two_size {p:Nat} (h:1≤p):Builtin.Range.rangeSize 0 ((2 * p:Nat):Int) 2=(p:Int):=by
 unfold Builtin.Range.rangeSize;rw[if_pos (by decide),if_pos (by omega)];omega
theorem slice_one (l:List Nat):Txt.slice (S l) none (some 1)=S (l.take 1):=by
 cases l with
 | nil=>decide +kernel
 | cons c r=>exact slice_to (a:=[c]) (b:=r)
theorem head_one (l:List Nat):l.take 1=[45]↔l.head? = some 45:=by
 cases l with
 | nil=>simp
 | cons c r=>simp
theorem cutV_from1 (x:V) (r:List V):cutV (x :: r) (some 1) none=r:=by
 unfold cutV;rw[HT.sIx_none,show (1:Int)=((1:Nat):Int) from rfl,HT.sIx_nat];have e:min 1 (x :: r).length=1:=by rw[List.length_cons];omega
 rw[e];show (r.take ((x :: r).length-1))=r;rw[List.length_cons,Nat.add_sub_cancel,List.take_length]
theorem pair_at {pp:List (List Nat × List Nat)}{i:Nat}{t:List Nat × List Nat} (h:pp[i]? = some t) (A B:List Nat × List Nat→V):(pp.flatMap fun t=>[A t,B t])[2 * i]? = some (A t)∧(pp.flatMap fun t=>[A t,B t])[2 * i+1]? = some (B t):=by
 induction pp generalizing i with
 | nil=>cases h
 | cons u r ih =>
  rw[List.flatMap_cons];cases i with
  | zero=>cases h;exact⟨rfl,rfl⟩
  | succ i =>
   have:=ih (i:=i) (by simpa using h)
   refine⟨?_,?_⟩
   ·rw[List.getElem?_append_right (by show 2≤_;omega)];show (r.flatMap fun t=>[A t,B t])[2 * (i+1)-2]? = _;rw[show 2 * (i+1)-2=2 * i by omega];exact this.1
   ·rw[List.getElem?_append_right (by show 2≤_;omega)];show (r.flatMap fun t=>[A t,B t])[2 * (i+1)+1-2]? = _;rw[show 2 * (i+1)+1-2=2 * i+1 by omega];exact this.2
theorem readT_tup {sg w:List Nat} (hs:sg=[43]∨sg=[45]):readT sg w=(tupR w).map fun x=>((x.1:Int),(x.2:Int) * (if sg=[45] then -1 else 1)):=by
 unfold readT tupR;rw[if_pos hs];cases readN (figsOf w) (letsOf w) with
 | none=>rfl
 | some n =>
  cases readS (letsOf w) (-1) 0 with
  | none=>rfl
  | some m =>
   show some ((m:Int),if sg=[45] then -(n:Int) else (n:Int))=some ((m:Int),(n:Int) * (if sg=[45] then -1 else 1));congr 2;split <;> omega
theorem byR {f:(Bool→Hp→Prop)→Prop}{b:Bool}{H:Hp} (k:∀ R:Bool→Hp→Prop,R b H→f R) {R0:Bool→Hp→Prop} (h:R0 b H):f R0:=k R0 h
theorem sum_ones:∀ l:List Nat,((l.map fun c=>S [c]).map (·.length)).sum=l.length
 | []=>rfl
 | c :: l=>by rw[List.map_cons,List.map_cons,List.sum_cons,sum_ones l,List.length_cons,S_len];simp;omega
theorem flat_ones (l:List Nat):(l.map fun c=>[c]).flatten=l:=by
 induction l with
 | nil=>rfl
 | cons c l ih=>rw[List.map_cons,List.flatten_cons,ih];rfl
theorem join_ones (l:List Nat):Txt.join (S []) (l.map fun c=>S [c])=S l:=by
 have:=tjoin_0 (l.map fun c=>[c])
 rw[List.map_map,flat_ones] at this;exact this
noncomputable def spShown (K:PySem.W.Frag):Sp:=fun vs H Q _=>∃ (a:Addr) (f:Terms),vs=[.ref a]∧TLo H a f∧(∀ t∈f,SayOk t)∧f.length≤64∧∀ H',Same H H'→Q (.str (S (txt f))) H'
theorem few_bits {n:Nat} (h:n<10^63):(n:Int).natAbs.log2<1920:=by
 rw[Int.natAbs_natCast];by_cases h0:n=0
 ·subst h0;decide
 ·exact (Nat.log2_lt h0).mpr (Nat.lt_of_lt_of_le h (by decide +kernel))
theorem slice_any (l:List Nat) (lo hi:Option Int):∃ m,Txt.slice (S l) lo hi=S m∧m.length≤l.length∧∀ c∈m,c∈l:=by
 refine⟨(Txt.slice (S l) lo hi).cps.toList,rfl,?_,fun c hc=>?_⟩
 ·have:=PyProof.Txt.length_slice_le (S l) lo hi
  rw[S_len] at this;exact this
 ·unfold Txt.slice at hc;split at hc
  ·exact hc
  ·have hc':c∈List.filterMap (fun x=>(S l).cps[x]?) (Builtin.Str.strSliceIndices lo hi 1 (S l).length):=hc;obtain⟨j,_,hj⟩:=List.mem_filterMap.mp hc'
   have:l[j]? = some c:=by simpa [S] using hj
   exact List.mem_of_getElem? this
theorem str_S (x:Str):x=S x.cps.toList:=rfl
theorem wordT_few {t:Int × Int} (h:SayOk t) (h4:t.2.natAbs<10^4):(wordT t).length≤20∧∀ c∈wordT t,c<128:=by
 have hm:t.1.toNat<2^16:=by have:=h.1;have:=h.2.1;omega
 have e:wordT t=figsN t.1.toNat t.2.natAbs++lets t.1.toNat:=rfl;have h1:=lets_len hm;have h2:(figsN t.1.toNat t.2.natAbs).length≤4:=by
  unfold figsN;split
  ·exact Nat.zero_le _
  ·exact digs_len (k:=3) h4
 rw[e];refine⟨by rw[List.length_append];omega,fun c hc=>?_⟩;rcases List.mem_append.mp hc with z | z
 ·have:=figs_dig z;omega
 ·exact lets_asc hm c z
theorem parts_few:∀ {r:Terms},(∀ t∈r,SayOk t∧t.2.natAbs<10^4)→(r.flatMap partT).length≤23 * r.length∧∀ c∈r.flatMap partT,c<128
 | [],_=>⟨by simp,fun c h=>by cases h⟩
 | t :: r,h=>by
  obtain⟨i1,i2⟩:=parts_few (r:=r) fun u hu=>h u (by simp[hu])
  obtain⟨w1,w2⟩:=wordT_few (h t (by simp)).1 (h t (by simp)).2;rw[List.flatMap_cons];refine⟨?_,fun c hc=>?_⟩
  ·rw[List.length_append,List.length_cons];show ([32,sgn t.2,32]++wordT t).length+_≤_;rw[List.length_append];show 3+_+_≤_;omega
  ·rcases List.mem_append.mp hc with z | z
   ·have z':c∈[32,sgn t.2,32]++wordT t:=z;rcases List.mem_append.mp z' with y | y
    ·have hs:sgn t.2=43∨sgn t.2=45:=by unfold sgn;split <;> simp
     simp only[List.mem_cons,List.not_mem_nil,or_false] at y;omega
    ·exact w2 c y
   ·exact i2 c z
theorem txt_few {f:Terms} (hl:f.length≤5) (h:∀ t∈f,SayOk t∧t.2.natAbs<10^4):(txt f).length≤240∧∀ c∈txt f,c<128:=by
 cases f with
 | nil=>exact⟨by decide,by decide⟩
 | cons t r =>
  obtain⟨i1,i2⟩:=parts_few (r:=r) fun u hu=>h u (by simp[hu])
  obtain⟨w1,w2⟩:=wordT_few (h t (by simp)).1 (h t (by simp)).2;rw[List.length_cons] at hl;have ha:(aheadL t.2).length≤1∧∀ c∈aheadL t.2,c<128:=by unfold aheadL;split <;> simp
  show (aheadL t.2++wordT t++r.flatMap partT).length≤240∧∀ c∈aheadL t.2++wordT t++r.flatMap partT,c<128;refine⟨by rw[List.length_append,List.length_append];have:=ha.1;omega,fun c hc=>?_⟩;rcases List.mem_append.mp hc with z | z
  ·rcases List.mem_append.mp z with y | y
   ·exact ha.2 c y
   ·exact w2 c y
  ·exact i2 c z
end My
namespace OH
open PySem PySem.W PyProof.Rows
noncomputable def runT (tb:String→Option Builtin) (p:Program) (w:World) (n₀:Nat) (ann:Option Value):Nat→SharedT→Thread→Option SharedT
 | 0,_,_=>none
 | n+1,s,t=>match through t with
  | true=>some s
  | false=>match stepOk n₀ ann t with
   | false=>none
   | true=>match stepT (denote tb) p w s t with
    | some x=>runT tb p w n₀ ann n x.1 x.2
    | none=>none
theorem runT_abs {tb:String→Option Builtin}{p:Program}{w:World}{n₀:Nat}{ann:Option Value}{n:Nat}:∀ {s r:SharedT}{t:Thread},runT tb p w n₀ ann n s t=some r→topRun tb p w n₀ ann n s.abs t=some r.abs:=by
 induction n with
 | zero=>intro s r t h;cases h
 | succ n ih =>
  intro s r t h;unfold runT at h;unfold topRun;cases a:through t with
  | true=>rw[a] at h;cases h;rfl
  | false =>
   rw[a] at h;cases b:stepOk n₀ ann t with
   | false=>rw[b] at h;cases h
   | true =>
    rw[b] at h;cases c:stepT (denote tb) p w s t with
    | none=>rw[c] at h;cases h
    | some x=>rw[c] at h;rw[stepT_spec c];exact ih h
noncomputable def runF (p:Program) (w:World) (n₀:Nat) (ann:Option Value):Nat→SharedT→Thread→Option SharedT
 | 0,_,_=>none
 | n+1,s,t=>match through t with
  | true=>some s
  | false=>match PySem.W.Fast.tw6613529449190102663 n₀ ann t with
   | false=>none
   | true=>match PySem.W.Fast.tw10156331382660048174 (PySem.W.Fast.tw11892475500146522536 PySem.W.Fast.tw14364793385576792824) p w s t with
    | some x=>runF p w n₀ ann n x.1 x.2
    | none=>none
theorem runF_eq {p:Program}{w:World}{n₀:Nat}{ann:Option Value}{n:Nat}:∀ {s:SharedT}{t:Thread},runF p w n₀ ann n s t=runT treeTable p w n₀ ann n s t:=by
 induction n with
 | zero=>intro s t;rfl
 | succ n ih =>
  intro s t;unfold runF runT;rw[← PySem.W.Fast.te6613529449190102663,← PySem.W.Fast.te10156331382660048174,← PySem.W.Fast.te11892475500146522536,← PySem.W.Fast.te14364793385576792824];cases through t <;> cases stepOk n₀ ann t <;> try rfl
  cases stepT (denote treeTable) p w s t with
  | none=>rfl
  | some x=>exact ih
noncomputable def bootT (P:Params):BT :=
 .node (boot_o_0 P)
  (.node (boot_o_1 P) (.node (boot_o_3 P) (.node (boot_o_7 P) .nil .nil) .nil) (.node (boot_o_5 P) (.node (boot_o_9 P) .nil .nil) .nil))
  (.node (boot_o_2 P) (.node (boot_o_4 P) (.node (boot_o_8 P) .nil .nil) .nil) (.node (boot_o_6 P) (.node (boot_o_10 P) .nil .nil) .nil))
theorem boot_is (P:Params):boot_heap P=absHeap (bootT P) 11 (boot_heap P).life:=by kernel_rfl
theorem boot_size (w:World):((boot_heap w.params).isNs mainGlobals,(boot_heap w.params).objs.size,(boot_heap w.params).nsMap mainGlobals "__annotations__")=(true,11,some (.ref 6)):=by kernel_rfl
noncomputable abbrev bootS (P:Params) (os:OsState):SharedT:=⟨bootT P,11,(boot_heap P).life,#[],boot_drawn,boot_toks,os⟩
theorem left {p q:Program}{loose:List Str}{Xt:Shared→Bool} {α : Type}{Yf:Shared → α}{Ya:World → α}{N:Nat}
  (e:opening p=plainProg p.main.scope.names) (hN:Nat.ble 600 N=true) (f:∀ s,fenceModules? p s=some s)
  (run:∀ w:World,(fun os=>(runF p w 11 (some (.ref 6)) N (bootS w.params os) (topStub p)).map fun s =>
    (staticsOk (importedModules p.main.body) (boot_heap w.params) s.abs.heap && namesBound p s.abs.heap && gensDone s.abs && laidKept (boot_heap w.params) s.abs.heap,
     PySem.W.Fast.tw4187177175401517315 q loose (importedModules p.main.body) Xt true s.abs,Yf s.abs))=fun _=>some (true,openGood q loose,Ya w)):LeftO p q loose Xt Yf Ya N:=fun w=>by
 obtain⟨⟨h,gs,d,k,os⟩,x,x'⟩:=Option.map_eq_some_iff.mp (boot_open e hN f w);obtain⟨rfl,rfl,rfl,rfl⟩:h=boot_heap w.params∧gs=Array.mk []∧d=boot_drawn∧k=boot_toks:=by simpa using x'
 obtain⟨z1,z2,z3⟩:_∧_∧_:=by simpa only [Prod.mk.injEq] using boot_size w
 obtain⟨s,r,l⟩:=Option.map_eq_some_iff.mp (congrFun (run w) os);rw[← PySem.W.Fast.te4187177175401517315] at l;obtain⟨l1,l2,l3⟩:_∧_∧_:=by simpa only [Prod.mk.injEq] using l
 have t:=runT_abs (runF_eq.symm.trans r);have b:(bootS w.params os).abs=⟨boot_heap w.params,Array.mk [],boot_drawn,boot_toks,os⟩:=by
  show (⟨absHeap (bootT w.params) 11 (boot_heap w.params).life,_,_,_,_⟩:Shared)=_;rw[← boot_is]
 rw[b] at t;have y:topFrom treeTable p w N ⟨boot_heap w.params,Array.mk [],boot_drawn,boot_toks,os⟩=some s.abs:=by
  unfold topFrom;dsimp only;rw[z1,z2,z3,t];show (match staticsOk (importedModules p.main.body) (boot_heap w.params) s.abs.heap && namesBound p s.abs.heap && gensDone s.abs && laidKept (boot_heap w.params) s.abs.heap with | true=>_ | false=>_)=_;rw[l1]
 unfold openEnds;rw[x];show (topFrom treeTable p w N _).map _=_;rw[y];exact congrArg some (Prod.ext l2 l3)
end OH
set_option maxHeartbeats 4000000
namespace My
open PySem L2 OF
noncomputable def hdS:List Stmt→Stmt
 | x :: _=>x
 | []=>.Pass ⟨0,0,0,0⟩
noncomputable def tlS:List Stmt→List Stmt
 | _ :: r=>r
 | []=>[]
noncomputable def bd0 : List Stmt := PySem.Challenge.pw_onceform_k81_texts_of_forms_read.main.body
noncomputable def bd1:List Stmt:=tlS bd0
noncomputable def bd2:List Stmt:=tlS bd1
noncomputable def bd3:List Stmt:=tlS bd2
noncomputable def bd4:List Stmt:=tlS bd3
noncomputable def bd5:List Stmt:=tlS bd4
noncomputable def bd6:List Stmt:=tlS bd5
noncomputable def bd7:List Stmt:=tlS bd6
noncomputable def bd8:List Stmt:=tlS bd7
noncomputable def bd9:List Stmt:=tlS bd8
noncomputable def bd10:List Stmt:=tlS bd9
noncomputable def bd11:List Stmt:=tlS bd10
noncomputable def bd12:List Stmt:=tlS bd11
noncomputable def bd13:List Stmt:=tlS bd12
noncomputable def bd14:List Stmt:=tlS bd13
noncomputable def bd15:List Stmt:=tlS bd14
noncomputable def bd16:List Stmt:=tlS bd15
noncomputable def bd17:List Stmt:=tlS bd16
noncomputable def bd18:List Stmt:=tlS bd17
noncomputable def bd19:List Stmt:=tlS bd18
noncomputable def bd20:List Stmt:=tlS bd19
noncomputable def bd21:List Stmt:=tlS bd20
noncomputable def bd22:List Stmt:=tlS bd21
noncomputable def bd23:List Stmt:=tlS bd22
noncomputable def bd24:List Stmt:=tlS bd23
noncomputable def bd25:List Stmt:=tlS bd24
noncomputable def bd26:List Stmt:=tlS bd25
noncomputable def bd27:List Stmt:=tlS bd26
noncomputable def bd28:List Stmt:=tlS bd27
noncomputable def bd29:List Stmt:=tlS bd28
noncomputable def bd30:List Stmt:=tlS bd29
noncomputable def bd31:List Stmt:=tlS bd30
noncomputable def bd32:List Stmt:=tlS bd31
noncomputable def bd33:List Stmt:=tlS bd32
noncomputable def bd34:List Stmt:=tlS bd33
noncomputable def bd35:List Stmt:=tlS bd34
noncomputable def bd36:List Stmt:=tlS bd35
noncomputable abbrev s_Z0:Stmt:=hdS bd1
noncomputable abbrev s_Z2:Stmt:=hdS bd12
noncomputable abbrev s_Z1:Stmt:=hdS bd16
noncomputable abbrev s_Z20:Stmt:=hdS bd17
noncomputable abbrev s_Z18:Stmt:=hdS bd18
noncomputable abbrev s_Z19:Stmt:=hdS bd19
noncomputable abbrev s_Z12:Stmt:=hdS bd22
noncomputable abbrev s_Z15:Stmt:=hdS bd23
noncomputable abbrev s_Z11:Stmt:=hdS bd27
noncomputable abbrev s_Z10:Stmt:=hdS bd30
noncomputable abbrev s_Z14:Stmt:=hdS bd31
noncomputable abbrev s_Z4:Stmt:=hdS bd32
noncomputable abbrev s_Z16:Stmt:=hdS bd33
noncomputable abbrev s_Z6:Stmt:=hdS bd34
noncomputable abbrev s_Z9:Stmt:=hdS bd35
noncomputable abbrev s_law:Stmt:=hdS bd36
set_option genInjectivity false
structure Def (K:PySem.W.Frag) (mg:Str→Option Value) (x:Str) (st:Stmt) (ps:List Str) (f:Addr) (fd:FuncData):Prop where
 F:Fun K x x st f fd
 m:mg x=some (.ref f)
 b:Binds K fd ps []
structure Txt (K:PySem.W.Frag) (mg:Str→Option Value) where
 a_Z12:Addr
 fd_Z12:FuncData
 d_Z12:Def K mg "_law_mixed" s_Z12 ["_law_cell", "_law_k"] a_Z12 fd_Z12
 a_Z15:Addr
 fd_Z15:FuncData
 d_Z15:Def K mg "_law_stream" s_Z15 ["_law_cell", "_law_k"] a_Z15 fd_Z15
 a_Z16:Addr
 fd_Z16:FuncData
 d_Z16:Def K mg "_law_tuple" s_Z16 ["_law_word"] a_Z16 fd_Z16
 a_Z6:Addr
 fd_Z6:FuncData
 d_Z6:Def K mg "_law_due" s_Z6 ["_law_text"] a_Z6 fd_Z6
 a_Z18:Addr
 fd_Z18:FuncData
 d_Z18:Def K mg "read_number" s_Z18 ["figures", "letters"] a_Z18 fd_Z18
 a_Z0:Addr
 fd_Z0:FuncData
 d_Z0:Def K mg "doubled" s_Z0 ["many"] a_Z0 fd_Z0
 a_Z19:Addr
 fd_Z19:FuncData
 d_Z19:Def K mg "read_set" s_Z19 ["letters"] a_Z19 fd_Z19
 a_Z20:Addr
 fd_Z20:FuncData
 d_Z20:Def K mg "read_tuple" s_Z20 ["sign", "word"] a_Z20 fd_Z20
 a_Z2:Addr
 fd_Z2:FuncData
 d_Z2:Def K mg "is_form" s_Z2 ["some"] a_Z2 fd_Z2
 a_Z1:Addr
 fd_Z1:FuncData
 d_Z1:Def K mg "form_read" s_Z1 ["text"] a_Z1 fd_Z1
 a_Z9:Addr
 fd_Z9:FuncData
 d_Z9:Def K mg "_law_holds" s_Z9 ["_law_text"] a_Z9 fd_Z9
 a_Z4:Addr
 fd_Z4:FuncData
 d_Z4:Def K mg "_law_bent" s_Z4 ["_law_text", "_law_xs"] a_Z4 fd_Z4
 a_Z10:Addr
 fd_Z10:FuncData
 d_Z10:Def K mg "_law_letters_of" s_Z10 ["_law_one"] a_Z10 fd_Z10
 a_Z14:Addr
 fd_Z14:FuncData
 d_Z14:Def K mg "_law_shown" s_Z14 ["_law_form_here"] a_Z14 fd_Z14
 a_Z11:Addr
 fd_Z11:FuncData
 d_Z11:Def K mg "_law_made" s_Z11 ["_law_some"] a_Z11 fd_Z11
 n_ValueError:mg "ValueError" = none
 n_abs:mg "abs" = none
 n_int:mg "int" = none
 n_isinstance:mg "isinstance" = none
 n_len:mg "len" = none
 n_range:mg "range" = none
 n_sorted:mg "sorted" = none
 n_str:mg "str" = none
 n_sum:mg "sum" = none
 n_zip:mg "zip" = none
 t_LETTERS:Tok
 g_LETTERS:mg "LETTERS" = some (.str "abcdefghijklmnop" t_LETTERS)
 t_FIGURES:Tok
 g_FIGURES:mg "FIGURES" = some (.str "0123456789" t_FIGURES)
 a_NoForm:Addr
 g_NoForm:mg "NoForm" = some (.ref a_NoForm)
 a_FormError:Addr
 g_FormError:mg "FormError" = some (.ref a_FormError)
 a_NoStatement:Addr
 g_NoStatement:mg "NoStatement" = some (.ref a_NoStatement)
 a_NoLine:Addr
 g_NoLine:mg "NoLine" = some (.ref a_NoLine)
 a_NoName:Addr
 g_NoName:mg "NoName" = some (.ref a_NoName)
 a_NoPull:Addr
 g_NoPull:mg "NoPull" = some (.ref a_NoPull)
 a_NoYesNo:Addr
 g_NoYesNo:mg "NoYesNo" = some (.ref a_NoYesNo)
 a_TooMany:Addr
 g_TooMany:mg "TooMany" = some (.ref a_TooMany)
 x_NoForm:exIn K a_NoForm (.ref a_FormError :: vB)=true
 x_FormError:exIn K a_FormError vB=true
 x_NoStatement:exIn K a_NoStatement (.ref a_FormError :: vB)=true
 x_NoLine:exIn K a_NoLine (.ref a_FormError :: vB)=true
 x_NoName:exIn K a_NoName (.ref a_FormError :: vB)=true
 x_NoPull:exIn K a_NoPull (.ref a_FormError :: vB)=true
 x_NoYesNo:exIn K a_NoYesNo (.ref a_FormError :: vB)=true
 x_TooMany:exIn K a_TooMany (.ref a_FormError :: vB)=true
 i_NoForm_NoForm:PySem.W.kitOne K (.ref a_NoForm) (.ref a_NoForm)=some true
 i_NoForm_FormError:PySem.W.kitOne K (.ref a_NoForm) (.ref a_FormError)=some true
 i_NoForm_NoStatement:PySem.W.kitOne K (.ref a_NoForm) (.ref a_NoStatement)=some false
 i_NoForm_NoLine:PySem.W.kitOne K (.ref a_NoForm) (.ref a_NoLine)=some false
 i_NoForm_NoName:PySem.W.kitOne K (.ref a_NoForm) (.ref a_NoName)=some false
 i_NoForm_NoPull:PySem.W.kitOne K (.ref a_NoForm) (.ref a_NoPull)=some false
 i_NoForm_NoYesNo:PySem.W.kitOne K (.ref a_NoForm) (.ref a_NoYesNo)=some false
 i_NoForm_TooMany:PySem.W.kitOne K (.ref a_NoForm) (.ref a_TooMany)=some false
 v_NoForm:PySem.W.kitOne K (.ref a_NoForm) (.type "ValueError")=some true
set_option genInjectivity true
seal L2.PS L2.PSs L2.PE L2.PT L2.PA L2.PI L2.PG L2.PW L2.PO L2.PTs
section
variable {P:Program}{w:World}{K:PySem.W.Frag}{mg:Str→Option Value}{base:Heap}
theorem sc_Z12:FnScope ["_law_cell", "_law_k", "_law_number"] ["_law_cell", "_law_k"] (defScope s_Z12):=⟨rfl,rfl,rfl,by decide +kernel,rfl,by decide +kernel,by decide +kernel⟩
theorem ok_Z12 (T:Txt K mg):FnOk P w K mg base CX0 1 T.a_Z12 T.fd_Z12 ["_law_cell", "_law_k"] spMix:=by
 refine T.d_Z12.F.ok sc_Z12 (fun vs H Q E h=>?_) (fun cdv A outer s H vs Q E hr h=>?_)
 ·obtain⟨c,k,rfl,k1,k2,q⟩:=h;rfl
 ·obtain⟨c,k,rfl,k1,k2,q⟩:=h;have hu:=hu_of hr;refine⟨_,(pss_cons (ps_set (i:=2) sc_Z12.nd rfl (Or.inl rfl) (pe_op op_mod (pe_op op_add (pe_op op_add (pe_op op_mulO (pv 0) pe_int) (pe_op op_mulO (pe_op op_mulO pe_int (pv 1)) (pv 1))) (pv 1)) pe_int))
   (pss_cons (ps_set (i:=2) sc_Z12.nd rfl (Or.inl rfl) (pe_op op_mod (pe_op op_mulO (pv 2) (pv 2)) pe_int))
   (pss_one (ps_ret (pe_op op_mod (pe_op op_mulO (pv 2) pe_int) pe_int))))),?_⟩
  refine⟨_,rfl,_,_,rfl,rfl,mulR (by decide) (by decide),_,rfl,_,_,rfl,rfl,mulL (by decide) (by decide),_,rfl,_,_,rfl,rfl,mulR k1 k2,_,_,rfl,rfl,_,rfl,_,_,rfl,rfl,_,_,rfl,rfl,(by show (0:Int)<2147483647;decide),?_⟩;generalize hz:(c * 1103515245+7919 * k * k+k) % 2147483647=z;have z1:0≤z:=by rw[← hz];exact Int.emod_nonneg _ (by decide)
  have z2:z<2147483647:=by rw[← hz];exact Int.emod_lt_of_pos _ (by decide)
  refine⟨_,rfl,_,rfl,_,_,rfl,rfl,mulL (by omega) (by omega),_,_,rfl,rfl,(by show (0:Int)<2147483629;decide),?_⟩;refine⟨_,rfl,_,_,rfl,rfl,mulR (by decide) (by decide),_,_,rfl,rfl,(by show (0:Int)<2147483587;decide),?_⟩;exact q _ (Int.emod_nonneg _ (by decide)) (Int.emod_lt_of_pos _ (by decide))
noncomputable def spStream9 (K:PySem.W.Frag):Sp:=fun vs H Q _=>∃ cell k:Int,vs=[.int cell,.int k]∧(0≤k∧k<2^20)∧∀ (D:Addr) (xs:List Int) (H':Hp),H D=none→H' D=some (.lst (xs.map V.int))→(xs.length=12∧∀ x∈xs,0≤x)→Same H H'→Q (.ref D) H'
theorem sc_Z15:FnScope ["_law_cell", "_law_k", "_law_found", "_law_left", "_law_j", "_law_number"] ["_law_cell", "_law_k"] (defScope s_Z15):=⟨rfl,rfl,rfl,by decide +kernel,rfl,by decide +kernel,by decide +kernel⟩
theorem ok_Z15 (T:Txt K mg):FnOk P w K mg base CX0 2 T.a_Z15 T.fd_Z15 ["_law_cell", "_law_k"] (spStream9 K):=by
 refine T.d_Z15.F.ok sc_Z15 (fun vs H Q E h=>?_) (fun cdv A outer s H vs Q E hr h=>?_)
 ·obtain⟨cell,k,rfl,hm,q⟩:=h;rfl
 ·obtain⟨cell,k,rfl,hm,q⟩:=h;have hu:=hu_of hr;refine⟨_,(pss_cons (ps_set (i:=2) sc_Z15.nd rfl (Or.inl rfl) (pe_lst pa_nil))
   (pss_cons (ps_if (pt_cmpR op_ge (pv 0) (pe_op op_pow pe_int pe_int) (nomark _)) (pss_cons (ps_set (i:=3) sc_Z15.nd rfl (Or.inl rfl) (pe_op op_sub (pv 0) (pe_op op_pow pe_int pe_int)))
   (pss_cons (ps_for PassesOwn.never rfl (pi_range1 rfl T.n_range (pa_cons pe_int pa_nil)) (pg_name (i:=4) sc_Z15.nd rfl (Or.inl rfl))
    (pss_cons (ps_expr (pe_bm PySem.F.plainAttrs_list PySem.F.slot_list_append PySem.F.type_list_append mt_append (pv 2) (pa_cons (pe_op op_mod (pv 3) pe_int) pa_nil)))
   (pss_one (ps_set (i:=3) sc_Z15.nd rfl (Or.inl rfl) (pe_op op_fdivG (pv 3) pe_int)))))
   (pss_one (ps_ret (pv 2))))) pss_nil)
   (pss_cons (ps_set (i:=5) sc_Z15.nd rfl (Or.inl rfl) (pe_call (ok_Z12 (P:=P) (w:=w) (base:=base) T) hr (by rfl) T.d_Z12.m T.d_Z12.F.kp T.d_Z12.b .nil pass0 (pa_cons (pv 0) (pa_cons (pv 1) pa_nil))))
   (pss_cons (ps_for PassesOwn.never rfl (pi_range1 rfl T.n_range (pa_cons pe_int pa_nil)) (pg_name (i:=4) sc_Z15.nd rfl (Or.inl rfl))
    (pss_cons (ps_set (i:=5) sc_Z15.nd rfl (Or.inl rfl) (pe_op op_mod (pe_op op_add (pe_op op_add (pe_op op_mulO (pv 5) (pv 5)) (pe_op op_mulO pe_int (pv 4))) pe_int) pe_int))
   (pss_one (ps_expr (pe_bm PySem.F.plainAttrs_list PySem.F.slot_list_append PySem.F.type_list_append mt_append (pv 2) (pa_cons (pe_op op_fdivG (pe_op op_mod (pe_op op_mulO (pv 5) pe_int) pe_int) pe_int) pa_nil))))))
   (pss_one (ps_ret (pv 2))))))),?_⟩
  refine⟨Nat.zero_le _,fun D hD=>?_⟩;have s0:Same H (upd H D (.lst [])):=Same.upd hD;have w0:upd H D (.lst []) D=some (.lst ([].map V.int)):=upd_same;generalize upd H D (.lst [])=H0 at s0 w0 ⊢;refine⟨_,rfl,_,_,rfl,rfl,⟨by decide,by decide,by decide⟩,_,_,rfl,rfl,_,rfl,ite2 (fun z=>?_) (fun z=>?_)⟩
  ·refine⟨_,rfl,_,_,rfl,rfl,⟨by decide,by decide,by decide⟩,_,_,rfl,rfl,?_⟩;refine⟨12,rfl,by decide,by decide,?_⟩;refine for_range (n:=(12:Int).toNat) (fun i σ G=>∃ (v4 v5:Option V) (le:Int) (xs:List Int),σ = [some (.int cell),some (.int k),some (.ref D),some (.int le),v4,v5]∧G D=some (.lst (xs.map V.int))∧xs.length=i∧(∀ x∈xs,0≤x)∧Same H G)
    ⟨_,_,_,[],rfl,w0,rfl,(fun x h=>by cases h),s0⟩ ?_ ?_
   ·rintro i σ G hi ⟨v4,v5,le,xs,rfl,g1,g2,g3,g4⟩;have hi':i<12:=hi;refine⟨_,rfl,.inl ⟨rfl,_,SqL.of g1⟩,_,rfl,_,_,rfl,rfl,(by show (0:Int)<134217728;decide),D,_,_,rfl,rfl,g1,(by rw[List.length_map,g2];exact small6 (by omega)),?_⟩;refine⟨_,rfl,_,_,rfl,rfl,divG_of (by decide) (by decide),_,_,_,xs ++ [le % 134217728],rfl,(by rw[upd_same,List.map_append];rfl),by rw[List.length_append,g2];rfl,fun x hx=>?_,g4.write hD⟩;rcases List.mem_append.mp hx with y | y
    ·exact g3 x y
    ·rw[List.mem_singleton.mp y];exact Int.emod_nonneg _ (by decide)
   ·rintro σ G ⟨v4,v5,le,xs,rfl,g1,g2,g3,g4⟩;exact⟨_,rfl,q D xs G hD g1 ⟨g2,g3⟩ g4⟩
  refine⟨_,rfl,_,rfl,cell,k,rfl,by omega,by omega,fun r0 r1 r2=>?_⟩;refine⟨12,rfl,by decide,by decide,?_⟩;refine for_range (n:=(12:Int).toNat) (fun i σ G=>∃ (v3 v4:Option V) (nu:Int) (xs:List Int),σ = [some (.int cell),some (.int k),some (.ref D),v3,v4,some (.int nu)]∧0≤nu∧nu<2147483629∧G D=some (.lst (xs.map V.int))∧xs.length=i∧(∀ x∈xs,0≤x)∧Same H G)
   ⟨_,_,_,[],rfl,r1,by omega,w0,rfl,(fun x h=>by cases h),s0⟩ ?_ ?_
  ·rintro i σ G hi ⟨v3,v4,nu,xs,rfl,n1,n2,g1,g2,g3,g4⟩;have hi':i<12:=hi;refine⟨_,rfl,_,rfl,_,_,rfl,rfl,mulR (by omega) (by omega),_,rfl,_,_,rfl,rfl,mulR (by omega) (by omega),_,_,rfl,rfl,_,_,rfl,rfl,_,_,rfl,rfl,(by show (0:Int)<2147483629;decide),?_⟩;dsimp only;obtain⟨nv,hnv⟩:∃ nv:Int,(nu * nu+7 * (0+(i:Int))+1) % 2147483629=nv:=⟨_,rfl⟩;have hn1:0≤nv:=by rw[← hnv];exact Int.emod_nonneg _ (by decide)
   have hn2:nv<2147483629:=by rw[← hnv];exact Int.emod_lt_of_pos _ (by decide)
   rw[hnv];refine⟨_,rfl,.inl ⟨rfl,_,SqL.of g1⟩,_,rfl,_,_,rfl,rfl,mulR (by decide) (by decide),_,_,rfl,rfl,(by show (0:Int)<2147483587;decide),_,_,rfl,rfl,divG_of (by decide) (by decide),D,_,_,rfl,rfl,g1,(by rw[List.length_map,g2];exact small6 (by omega)),?_⟩;refine⟨_,_,nv,xs ++ [nv * 69621 % 2147483587 / 16],rfl,hn1,hn2,(by rw[upd_same,List.map_append];rfl),by rw[List.length_append,g2];rfl,fun x hx=>?_,g4.write hD⟩;rcases List.mem_append.mp hx with y | y
   ·exact g3 x y
   ·rw[List.mem_singleton.mp y];exact Int.ediv_nonneg (Int.emod_nonneg _ (by decide)) (by decide)
  ·rintro σ G ⟨v3,v4,nu,xs,rfl,n1,n2,g1,g2,g3,g4⟩;exact⟨_,rfl,q D xs G hD g1 ⟨g2,g3⟩ g4⟩
noncomputable def spTuple9 (K:PySem.W.Frag):Sp:=fun vs H Q _=>∃ wo:List Nat,vs=[.str (S wo)]∧(∀ c∈wo,c<128)∧wo.length≤600∧(∀ H',Same H H'→tupR wo=none→Q .non H')∧(∀ m n (c:Addr) (H':Hp),tupR wo=some (m,n)→H c=none→H' c=some (.tup [.int (m:Int),.int (n:Int)])→Same H H'→Q (.ref c) H')
theorem sc_Z16:FnScope ["_law_word", "_law_figures", "_law_sign", "_law_letters", "_law_one"] ["_law_word"] (defScope s_Z16):=⟨rfl,rfl,rfl,by decide +kernel,rfl,by decide +kernel,by decide +kernel⟩
theorem nd_Z16_1:(["_law_sign", "_law_letters"]:List Str).Nodup:=by decide +kernel
theorem nd_Z16_3:(["_law_sign"]:List Str).Nodup:=by decide +kernel
theorem ok_Z16 (T:Txt K mg):FnOk P w K mg base CX0 1 T.a_Z16 T.fd_Z16 ["_law_word"] (spTuple9 K):=by
 refine T.d_Z16.F.ok sc_Z16 (fun vs H Q E h=>?_) (fun cdv A outer s H vs Q E hr h=>?_)
 ·obtain⟨wo,rfl,ha,hl,q1,q2⟩:=h;rfl
 ·obtain⟨wo,rfl,ha,hl,q1,q2⟩:=h;have hu:=hu_of hr;refine⟨_,(pss_cons (ps_set (i:=1) sc_Z16.nd rfl (Or.inl rfl) pe_str)
   (pss_cons (ps_for PassesOwn.never rfl (pi_str (pv 0)) (pg_name (i:=2) sc_Z16.nd rfl (Or.inl rfl))
    (pss_one (ps_if (PW.pt (pw_and (pt_cmpR op_in_str (pv 2) pe_str rfl) (pw_and1 (pt_cmpR op_eq (pe_slice sl_str (pv 0) po_none (po_some (pe_callB call_len_str (by rfl) T.n_len PySem.boot_len (pa_cons (pv 1) pa_nil)))) (pv 1) (nomark _))))) (pss_one (ps_if (pt_cmpR op_eq (pe_slice sl_str (pv 0) po_none (po_some (pe_op op_add (pe_callB call_len_str (by rfl) T.n_len PySem.boot_len (pa_cons (pv 1) pa_nil)) pe_int))) (pe_op op_add_str (pv 1) (pv 2)) (nomark _)) (pss_one (ps_set (i:=1) sc_Z16.nd rfl (Or.inl rfl) (pe_op op_add_str (pv 1) (pv 2)))) pss_nil)) pss_nil)))
   (pss_cons (ps_set (i:=3) sc_Z16.nd rfl (Or.inr rfl) (pe_slice sl_str (pv 0) (po_some (pe_callB call_len_str (by rfl) T.n_len PySem.boot_len (pa_cons (pv 1) pa_nil))) po_none))
   (pss_cons (ps_if (pt_cmpR op_ne (pe_bm PySem.F.plainAttrs_str PySem.F.slot_str_join PySem.F.type_str_join mt_join pe_str (pa_cons (pe_comp (g:=(gName 0)) ["_law_sign", "_law_letters"] 1 [3] rfl (by exact CompSc.of (defScope s_Z16) ["_law_word", "_law_figures", "_law_sign", "_law_letters", "_law_one"] rfl rfl rfl (by decide +kernel) rfl (by decide +kernel) (by decide +kernel)) (pi_str pe_str)
    (fun cl C s₀ H₀ fp=>(pg_name (i:=0) nd_Z16_1 rfl (Or.inl rfl) (Or.inr rfl))) (fun cl C s₀ H₀ fp=>(pts_one (pt_cmpR op_in_str (pv 0) (pv 1) rfl))) (fun cl C s₀ H₀ fp=>(pv 0))) pa_nil)) (pv 3) (nomark _)) (pss_one (ps_ret pe_non)) pss_nil)
   (pss_cons (ps_set (i:=4) sc_Z16.nd rfl (Or.inl rfl) (pe_callB (call_sumL rfl) (by rfl) T.n_sum PyProof.Rows.boot_sum (pa_cons (pe_comp (g:=(gName 0)) ["_law_sign"] 1 [] rfl (by exact CompSc.of (defScope s_Z16) ["_law_word", "_law_figures", "_law_sign", "_law_letters", "_law_one"] rfl rfl rfl (by decide +kernel) rfl (by decide +kernel) (by decide +kernel)) (pi_str (pv 3))
    (fun cl C s₀ H₀ fp=>(pg_name (i:=0) nd_Z16_3 rfl (Or.inl rfl) (Or.inr rfl))) (fun cl C s₀ H₀ fp=>pts_nil) (fun cl C s₀ H₀ fp=>(pe_op op_shl pe_int (pe_bmK K rfl PySem.F.plainAttrs_str PySem.F.slot_str_index PySem.F.type_str_index mt_sindex pe_str (pa_cons (pv 0) pa_nil))))) pa_nil)))
   (pss_cons (ps_if (PW.pt (pw_and (pt_cmpR op_eq (pv 1) pe_str (nomark _)) (pw_and1 (pt_cmpR op_gt (pv 4) pe_int (nomark _))))) (pss_one (ps_ret (pe_tup (pa_cons (pv 4) (pa_cons pe_int pa_nil))))) pss_nil)
   (pss_cons (ps_if (PW.pt (pw_or (pt_cmpR op_eq (pv 1) pe_str (nomark _)) (pw_or (pt_cmpR op_eq (pe_ix ix_str (pv 1) pe_int (fun _ _=>rfl)) pe_str (nomark _)) (pw_or1 (PW.pt (pw_and (pt_cmpR op_eq (pv 1) pe_str (nomark _)) (pw_and1 (pt_cmpR op_gt (pv 4) pe_int (nomark _))))))))) (pss_one (ps_ret pe_non)) pss_nil)
   (pss_one (ps_ret (pe_tup (pa_cons (pv 4) (pa_cons (pe_callTy call_int_str rfl T.n_int PyProof.Rows.boot_int (pa_cons (pv 1) pa_nil)) pa_nil)))))))))))),?_⟩
  have hcut:=word_cut wo;have hlen:(figsOf wo).length+(letsOf wo).length=wo.length:=by
   have:=congrArg List.length hcut
   rw[List.length_append] at this;omega
  have hwz:(S wo).length≤sizeLine:=by rw[S_len];exact Nat.le_trans hl (by decide)
  have hfz:∀ k,(S ((figsOf wo).take k)).length≤sizeLine:=fun k=>by rw[S_len,List.length_take];exact Nat.le_trans (show min k (figsOf wo).length≤600 by omega) (by decide)
  have hsl:∀ k:Nat,k≤wo.length→Txt.slice (S wo) none (some (k:Int))=S (wo.take k):=fun k z=>by
   have:=slice_to (a:=wo.take k) (b:=wo.drop k)
   rw[List.take_append_drop,List.length_take,Nat.min_eq_left z] at this;exact this
  have hpre:∀ k,k≤(figsOf wo).length→wo.take k=(figsOf wo).take k:=fun k hk=>by
   conv=>lhs;rw[hcut]
   rw[List.take_append_of_le_length hk]
  refine⟨_,rfl,_,rfl,ascii_S ha,?_⟩;refine for_str (l:=wo) (fun i σ G=>∃ v2 v3 v4:Option V,σ = [some (.str (S wo)),some (.str (S ((figsOf wo).take i))),v2,v3,v4]∧G=H)
   ⟨none,none,none,(by rw[List.take_zero,← lit_e];rfl),rfl⟩ ?_ ?_
  ·rintro i c σ G hc ⟨v2,v3,v4,rfl,rfl⟩;have hil:=(List.getElem?_eq_some_iff.mp hc).1;unfold gName;refine⟨_,rfl,_,_,rfl,rfl,_,rfl,?_⟩;have hin:(!(Builtin.Str.occurrences (Str.ofString "0123456789") (S [c]) 0 (Str.ofString "0123456789").length 1).isEmpty)=decide (48≤c∧c≤57):=by
    rw[lit_fig];refine (PySem.StrLaws.found_one (S FIG) c).trans ?_;rw[S_list]
    have:c∈FIG↔48≤c∧c≤57:=by
     unfold FIG;simp only[List.mem_cons,List.not_mem_nil,or_false];omega
    exact decide_eq_decide.mpr this
   have hfl:((figsOf wo).take i).length=min i (figsOf wo).length:=List.length_take;have emin:(figsOf wo).take (min i (figsOf wo).length)=(figsOf wo).take i:=by
    rcases Nat.le_total i (figsOf wo).length with z | z
    ·rw[Nat.min_eq_left z]
    ·rw[Nat.min_eq_right z,List.take_length,List.take_of_length_le z]
   have stay:(figsOf wo).length≤i→(figsOf wo).take (i+1)=(figsOf wo).take i:=fun z=>by rw[List.take_of_length_le z,List.take_of_length_le (by omega)]
   by_cases hd:48≤c∧c≤57
   ·refine iteY (by rw[hin];exact decide_eq_true hd) ?_;have e1:Txt.slice (S wo) none (some (((S ((figsOf wo).take i)).length:Nat):Int))=S ((figsOf wo).take i):=by
     rw[S_len,hsl _ (by omega),hpre _ (by omega),hfl,emin]
    refine⟨_,rfl,_,rfl,_,rfl,hfz i,_,rfl,_,rfl,hwz,?_⟩;rw[e1];refine⟨_,rfl,rfl,_,rfl,iteY (decide_eq_true rfl) ?_⟩;have e2:Txt.slice (S wo) none (some (((S ((figsOf wo).take i)).length:Int)+1))=S (wo.take (min i (figsOf wo).length+1)):=by
     rw[S_len,hfl,show ((min i (figsOf wo).length:Nat):Int)+1=((min i (figsOf wo).length+1:Nat):Int) by omega,hsl _ (by omega)]
    refine⟨_,rfl,_,rfl,_,rfl,hfz i,_,_,rfl,rfl,_,rfl,_,rfl,hwz,?_⟩;dsimp only;rw[e2];refine⟨_,rfl,_,rfl,_,_,rfl,rfl,(by rw[S_len,S_len,hfl];exact Nat.le_trans (show min i (figsOf wo).length+1≤601 by omega) (by decide)),rfl,_,rfl,?_⟩;rw[S_cat];rcases Nat.lt_or_ge i (figsOf wo).length with z | z
    ·have h2:(figsOf wo)[i]? = some c:=by
      have h3:(wo.take (i+1))[i]? = some c:=by rw[List.getElem?_take,if_pos (by omega)];exact hc
      rw[hpre (i+1) (by omega),List.getElem?_take,if_pos (by omega)] at h3;exact h3
     have e3:(figsOf wo).take (i+1)=(figsOf wo).take i ++ [c]:=by rw[List.take_add_one,h2];rfl
     refine iteY (decide_eq_true (by rw[Nat.min_eq_left (by omega),hpre (i+1) (by omega),e3])) ?_;refine⟨_,rfl,_,rfl,_,_,rfl,rfl,(by rw[S_len,S_len,hfl];exact Nat.le_trans (show min i (figsOf wo).length+1≤601 by omega) (by decide)),some (.str (S [c])),v3,v4,?_,rfl⟩;rw[e3,← S_cat];rfl
    ·have hlw:(figsOf wo).length<wo.length:=by omega
     refine iteN (fun y=>?_) ⟨some (.str (S [c])),v3,v4,by rw[stay z];rfl,rfl⟩;have y':=of_decide_eq_true y;injection y' with y'
     have y2:=S_inj y';rw[Nat.min_eq_right z,List.take_of_length_le z] at y2;have h4:(wo.take ((figsOf wo).length+1))[(figsOf wo).length]? = some c:=by rw[y2,List.getElem?_append_right (Nat.le_refl _),Nat.sub_self];rfl
     rw[List.getElem?_take,if_pos (by omega)] at h4;have h5:(letsOf wo)[0]? = some c:=by
      rw[hcut,List.getElem?_append_right (by rw[← hcut];exact Nat.le_refl _)] at h4;rw[← hcut,Nat.sub_self] at h4;exact h4
     cases el:letsOf wo with
     | nil=>rw[el] at h5;cases h5
     | cons d r =>
      rw[el] at h5
      have:d=c:=by simpa using h5
      subst this;exact lets_first d r el hd
   ·refine iteN (by rw[hin,decide_eq_false hd];decide) ?_;have e9:=stay (by
     rcases Nat.lt_or_ge i (figsOf wo).length with z | z
     ·have h1:=hpre (i+1) (by omega);have h2:(figsOf wo)[i]? = some c:=by
       have h3:(wo.take (i+1))[i]? = some c:=by rw[List.getElem?_take,if_pos (by omega)];exact hc
       rw[h1,List.getElem?_take,if_pos (by omega)] at h3;exact h3
      exact absurd (figs_all wo c (List.mem_of_getElem? h2)) hd
     ·exact z)
    refine⟨some (.str (S [c])),v3,v4,?_,rfl⟩;rw[e9];rfl
  ·rintro σ G ⟨v2,v3,v4,rfl,rfl⟩;have eF:(figsOf wo).take wo.length=figsOf wo:=List.take_of_length_le (by omega);rw[eF];have e1:Txt.slice (S wo) (some (((S (figsOf wo)).length:Nat):Int)) none=S (letsOf wo):=by
    have:=slice_off (a:=figsOf wo) (b:=letsOf wo)
    rw[← hcut] at this;rw[S_len];exact this
   have hfz':(S (figsOf wo)).length≤sizeLine:=by rw[S_len];exact Nat.le_trans (show (figsOf wo).length≤600 by omega) (by decide)
   have hal:∀ c∈letsOf wo,c<128:=fun c hc=>ha c (by rw[hcut];exact List.mem_append_right _ hc)
   refine⟨_,rfl,_,rfl,_,rfl,hfz',_,rfl,_,rfl,hwz,?_⟩;rw[e1];generalize hL:letsOf wo=ls at hal;refine⟨rfl,?_⟩;refine⟨S LET,by rw[lit_let],ascii_S (by decide),?_⟩;refine comp_str (l:=LET) (fun i ys σ G'=>∃ v0:Option V,σ = [v0,some (.str (S ls))]∧ys=(((LET.take i).filter fun c=>decide (c∈ls)).map fun c=>S [c]).map V.str∧G'=G)
    ⟨none,rfl,rfl,rfl⟩ (fun i ys σ G' ⟨_,_,e,_⟩=>by rw[e,List.length_map,List.length_map];exact Nat.le_trans (List.length_filter_le _ _) (by rw[List.length_take];omega)) (by show 16≤sizeLine;decide) ?_ ?_
   ·rintro i c ys σ G' hc ⟨v0,rfl,rfl,rfl⟩;unfold gName;have hin:(!(Builtin.Str.occurrences (S ls) (S [c]) 0 (S ls).length 1).isEmpty)=decide (c∈ls):=(PySem.StrLaws.found_one (S ls) c).trans (by rw[S_list]);have etk:LET.take (i+1)=LET.take i ++ [c]:=by rw[List.take_add_one,hc];rfl
    refine⟨_,rfl,_,rfl,_,_,rfl,rfl,_,rfl,ite2 (fun z=>?_) (fun z=>?_)⟩
    ·rw[hin] at z;refine⟨_,rfl,_,rfl,?_,rfl⟩;rw[etk,List.filter_append,List.map_append,List.map_append];have:[c].filter (fun c=>decide (c∈ls))=[c]:=by rw[List.filter_cons,if_pos z];rfl
     rw[this];rfl
    ·rw[hin] at z;refine⟨_,rfl,?_,rfl⟩;rw[etk,List.filter_append];have:[c].filter (fun c=>decide (c∈ls))=[]:=by rw[List.filter_cons,if_neg z];rfl
     rw[this,List.append_nil]
   rintro ys σ G' ⟨v0,rfl,rfl,rfl⟩ D hD;rw[List.take_of_length_le (show LET.length≤LET.length from Nat.le_refl _)];have ey:((LET.filter fun c=>decide (c∈ls)).map fun c=>S [c])=((LET.filter fun c=>decide (c∈ls)).map fun c=>[c]).map S:=by rw[List.map_map];rfl
   have efl:((LET.filter fun c=>decide (c∈ls)).map fun c=>[c]).flatten=LET.filter fun c=>decide (c∈ls):=by
    generalize LET.filter (fun c=>decide (c∈ls))=q;induction q with
    | nil=>rfl
    | cons a r ih=>rw[List.map_cons,List.flatten_cons,ih];rfl
   have t1:Same G' (upd G' D (.lst (((LET.filter fun c=>decide (c∈ls)).map fun c=>S [c]).map V.str))):=Same.upd hD;refine⟨S [],D,(LET.filter fun c=>decide (c∈ls)).map fun c=>S [c],(by rw[lit_e]),rfl,SqL.of upd_same,?_,?_⟩
   ·have hq:(LET.filter fun c=>decide (c∈ls)).length≤16:=List.length_filter_le _ LET;generalize LET.filter (fun c=>decide (c∈ls))=q at hq;have e1:((q.map fun c=>S [c]).map (·.length)).sum=q.length:=by
     clear hq;induction q with
     | nil=>rfl
     | cons a r ih=>rw[List.map_cons,List.map_cons,List.sum_cons,ih,List.length_cons,S_len];simp;omega
    rw[e1,S_len];show q.length+_ * 0≤_;omega
   rw[ey,tjoin_0,efl,← ey];generalize upd G' D (.lst (((LET.filter fun c=>decide (c∈ls)).map fun c=>S [c]).map V.str))=G1 at t1 ⊢;refine⟨_,rfl,rfl,_,rfl,?_⟩;by_cases hr:Ris (-1) ls
   rotate_left
   ·refine iteY (by rw[decide_eq_false (fun y=>hr ((pick_ris ls).mp (by injection y with y;exact S_inj y)))];rfl) ?_;refine q1 G1 t1 ?_;unfold tupR;rw[hL];cases e:readS ls (-1) 0 with
    | none=>cases readN (figsOf wo) ls <;> rfl
    | some x=>exact absurd (read_ris (by omega) e) hr
   refine iteN (by rw[decide_eq_true (by rw[(pick_ris ls).mpr hr])];decide) ?_;have hrd:readS ls (-1) 0=some (sumS ls):=by rw[ris_read 0 hr,Nat.zero_add]
   have hT:∀ x,readN (figsOf wo) ls=x→tupR wo=match x with
     | some n=>some (sumS ls,n)
     | none=>none:=fun x hx=>by unfold tupR;rw[hL,hx,hrd];cases x <;> rfl
   refine⟨_,rfl,_,rfl,ascii_S hal,?_⟩;have hlsl:ls.length≤600:=by rw[hL] at hlen;omega
   refine comp_str (l:=ls) (fun i ys σ G'=>∃ v0:Option V,σ = [v0]∧ys=((ls.take i).map fun c=>((2^(c-97):Nat):Int)).map V.int∧G'=G1)
    ⟨none,rfl,rfl,rfl⟩ (fun i ys σ G' ⟨_,_,e,_⟩=>by rw[e,List.length_map,List.length_map,List.length_take];omega) (Nat.le_trans hlsl (by decide)) ?_ ?_
   ·rintro i c ys σ G' hc ⟨v0,rfl,rfl,rfl⟩;have hcr:=hr.ok c (List.mem_of_getElem? hc);have hix:idxL c=((c-97:Nat):Int):=by unfold idxL;rw[if_pos hcr];omega
    unfold gName;refine tt ?_;refine⟨rfl,_,rfl,S LET,S [c],by rw[lit_let],rfl,by rw[find_any c (by omega),hix];omega,?_⟩;rw[find_any c (by omega),hix];refine⟨_,_,rfl,rfl,⟨by omega,by omega,by decide⟩,_,rfl,?_,rfl⟩;rw[List.take_add_one,hc,List.map_append,List.map_append];congr 1;show [V.int (1 * 2^(((c-97:Nat):Int)).toNat)]=[V.int ((2^(c-97):Nat):Int)];rw[Int.toNat_natCast,Int.one_mul,pow_cast]
   rintro ys σ G2 ⟨v0,rfl,rfl,rfl⟩ D2 hD2;rw[List.take_length];have t2:Same G2 (upd G2 D2 (.lst ((ls.map fun c=>((2^(c-97):Nat):Int)).map V.int))):=Same.upd hD2;refine⟨D2,_,rfl,SqL.of upd_same,?_⟩;rw[sum_int];generalize upd G2 D2 (.lst ((ls.map fun c=>((2^(c-97):Nat):Int)).map V.int))=G3 at t2 ⊢;have T3:=t1.trans t2;have hpos:(0:Int)<((sumS ls:Nat):Int)↔ls≠[]:=by rw[← sumS_pos];omega
   have tup:∀ n:Nat,readN (figsOf wo) ls=some n→∀ c,G3 c=none→Q (.ref c) (upd G3 c (.tup [.int ((sumS ls:Nat):Int),.int (n:Int)])):=fun n hn c hc=>q2 (sumS ls) n c _ (hT _ hn) (T3.free hc) upd_same (T3.trans (Same.upd hc))
   refine⟨_,rfl,rfl,_,rfl,?_⟩;by_cases h1:figsOf wo=[]
   ·refine iteY (decide_eq_true ((str_e _).mpr h1)) ?_;refine⟨_,rfl,_,_,rfl,rfl,_,rfl,?_⟩;by_cases h2:ls=[]
    ·refine iteN (fun y=>absurd h2 (hpos.mp (of_decide_eq_true y))) ?_;refine⟨_,rfl,rfl,_,rfl,iteY (decide_eq_true ((str_e _).mpr h1)) ?_⟩;exact q1 G3 T3 (hT none (by unfold readN;rw[if_neg (fun z=>z.2 h2),if_pos (.inl h1)]))
    ·refine iteY (decide_eq_true (hpos.mpr h2)) ?_;exact⟨_,rfl,(by show 2≤sizeLine;decide),fun c hc=>tup 1 (by unfold readN;rw[if_pos ⟨h1,h2⟩]) c hc⟩
   refine iteN (fun y=>h1 ((str_e _).mp (of_decide_eq_true y))) ?_;refine⟨_,rfl,rfl,_,rfl,iteN (fun y=>h1 ((str_e _).mp (of_decide_eq_true y))) ?_⟩;obtain⟨c,r,hcr⟩:∃ c r,figsOf wo=c :: r:=by
    cases e:figsOf wo with
    | nil=>exact absurd e h1
    | cons c r=>exact⟨c,r,rfl⟩
   have hat:atI (S (figsOf wo)).cps.toList 0=some c:=by rw[S_list,hcr];exact atI_nat (j:=0) rfl
   refine⟨_,rfl,_,_,_,rfl,rfl,hfz',hat,rfl,_,rfl,?_⟩;by_cases h3:c=48
   ·refine iteY (decide_eq_true (by rw[h3,lit_0];rfl)) ?_;exact q1 G3 T3 (hT none (by unfold readN;rw[if_neg (fun z=>h1 z.1),if_pos (.inr (.inl (by rw[hcr,h3];rfl)))]))
   refine iteN (fun y=>h3 (by
    have:=of_decide_eq_true y
    injection this with this
    rw[lit_0] at this
    have:=S_inj (a:=[c]) this
    simpa using this)) ?_
   have h3':¬ (figsOf wo).head? = some 48:=by rw[hcr];simpa using h3
   have hint:intText? (S (figsOf wo))=some ((NumText.digitsVal (figsOf wo):Nat):Int):=by
    have:=PySem.intText_digits (x:=S (figsOf wo)) (by rw[S_list];exact figs_all wo) (by rw[S_list];exact h1) (by rw[S_len];omega)
    rw[S_list] at this;exact this
   have run:∀ hn:readN (figsOf wo) ls=some (NumText.digitsVal (figsOf wo)),tRet (tTup (tCons (tVar 4) (tCons (tCB (fun xs H Q=>∃ x n,xs=[V.str x]∧intText? x=some n∧x.length≤640∧Q (V.int n) H) (tCons (tVar 1) tNil)) tNil))) { nx:=fun x H'=>Q V.non H',rt:=Q } [some (V.str (S wo)),some (V.str (S (figsOf wo))),v2,some (V.str (S ls)),some (V.int ((sumS ls:Nat):Int))] G3:=fun hn =>
    ⟨_,rfl,_,rfl,_,_,rfl,hint,by rw[S_len];omega,(by show 2≤sizeLine;decide),fun c hc=>tup _ hn c hc⟩
   refine⟨_,rfl,rfl,_,rfl,?_⟩;by_cases h4:figsOf wo=[49]
   ·refine iteY (decide_eq_true (by rw[h4,lit_1])) ?_;refine⟨_,rfl,_,_,rfl,rfl,_,rfl,?_⟩;by_cases h2:ls=[]
    ·refine iteN (fun y=>absurd h2 (hpos.mp (of_decide_eq_true y))) ?_;exact run (by unfold readN;rw[if_neg (fun z=>h1 z.1),if_neg (fun z=>by
      rcases z with z | z | z
      ·exact h1 z
      ·exact h3' z
      ·exact z.2 h2)])
    ·refine iteY (decide_eq_true (hpos.mpr h2)) ?_;exact q1 G3 T3 (hT none (by unfold readN;rw[if_neg (fun z=>h1 z.1),if_pos (.inr (.inr ⟨h4,h2⟩))]))
   ·refine iteN (fun w=>h4 (by
     have:=of_decide_eq_true w
     injection this with this
     rw[lit_1] at this;exact S_inj this)) ?_
    exact run (by unfold readN;rw[if_neg (fun z=>h1 z.1),if_neg (fun z=>by
     rcases z with z | z | z
     ·exact h1 z
     ·exact h3' z
     ·exact h4 z.1)])
noncomputable def spDue9 (K:PySem.W.Frag):Sp:=fun vs H Q _=>∃ l:List Nat,vs=[.str (S l)]∧(∀ c∈l,c<128)∧l.length≤500∧(∀ H',Same H H'→formR l=none→Q .non H')∧(∀ (f:Terms) (c:Addr) (H':Hp),formR l=some f→H c=none→TLo H' c f→Same H H'→Q (.ref c) H')
theorem sc_Z6:FnScope ["_law_text", "_law_words", "_law_found", "_law_k", "_law_part"] ["_law_text"] (defScope s_Z6):=⟨rfl,rfl,rfl,by decide +kernel,rfl,by decide +kernel,by decide +kernel⟩
theorem ok_Z6 (T:Txt K mg):FnOk P w K mg base CX0 2 T.a_Z6 T.fd_Z6 ["_law_text"] (spDue9 K):=by
 refine T.d_Z6.F.ok sc_Z6 (fun vs H Q E h=>?_) (fun cdv A outer s H vs Q E hr h=>?_)
 ·obtain⟨l,rfl,ha,hl,q1,q2⟩:=h;rfl
 ·obtain⟨l,rfl,ha,hl,q1,q2⟩:=h;have hu:=hu_of hr;refine⟨_,(pss_cons (ps_if (pt_cmpR op_eq (pv 0) pe_str (nomark _)) (pss_one (ps_ret (pe_lst pa_nil))) pss_nil)
   (pss_cons (ps_set (i:=1) sc_Z6.nd rfl (Or.inl rfl) (pe_bm PySem.F.plainAttrs_str PySem.F.slot_str_split PySem.F.type_str_split mt_split (pv 0) (pa_cons pe_str pa_nil)))
   (pss_cons (ps_cut (ps_if (pt_cmpR op_eq (pe_slice sl_str (pv 0) po_none (po_some pe_int)) pe_str (nomark _)) (pss_one (ps_set (i:=1) sc_Z6.nd rfl (Or.inl rfl) (pe_op op_cat (pe_lst (pa_cons pe_str (pa_cons (pe_slice sl_str (pe_ix ix_list (pv 1) pe_int (fun _ _=>rfl)) (po_some pe_int) po_none) pa_nil))) (pe_slice sl_list (pv 1) (po_some pe_int) po_none)))) (pss_one (ps_set (i:=1) sc_Z6.nd rfl (Or.inl rfl) (pe_op op_cat (pe_lst (pa_cons pe_str pa_nil)) (pv 1))))))
   (pss_cons (ps_if (pt_cmpR op_eq (pe_op op_mod (pe_callB call_len_seq (by rfl) T.n_len PySem.boot_len (pa_cons (pv 1) pa_nil)) pe_int) pe_int (nomark _)) (pss_one (ps_ret pe_non)) pss_nil)
   (pss_cons (ps_set (i:=2) sc_Z6.nd rfl (Or.inl rfl) (pe_lst pa_nil))
   (pss_cons (ps_for PassesOwn.never rfl (pi_range3 rfl T.n_range (pa_cons pe_int (pa_cons (pe_callB call_len_seq (by rfl) T.n_len PySem.boot_len (pa_cons (pv 1) pa_nil)) (pa_cons pe_int pa_nil)))) (pg_name (i:=3) sc_Z6.nd rfl (Or.inl rfl))
    (pss_cons (ps_set (i:=4) sc_Z6.nd rfl (Or.inl rfl) (pe_call (ok_Z16 (P:=P) (w:=w) (base:=base) T) hr (by rfl) T.d_Z16.m T.d_Z16.F.kp T.d_Z16.b .nil pass0 (pa_cons (pe_ix ix_list (pv 1) (pe_op op_add (pv 3) pe_int) (fun _ _=>rfl)) pa_nil)))
   (pss_cons (ps_if (PW.pt (pw_or (pt_cmpR op_notIn_seq (pe_ix ix_list (pv 1) (pv 3) (fun _ _=>rfl)) (pe_lst (pa_cons pe_str (pa_cons pe_str pa_nil))) rfl) (pw_or (pt_cmpR op_isN (pv 4) pe_non (nomark _)) (pw_or1 (PW.pt (pw_and (pt_cmpR op_gt (pe_callB call_len_seq (by rfl) T.n_len PySem.boot_len (pa_cons (pv 2) pa_nil)) pe_int (nomark _)) (pw_and1 (pt_cmpR op_le (pe_ix ix_tup (pv 4) pe_int (fun _ _=>rfl)) (pe_ix ix_tup (pe_ix ix_list (pv 2) (pe_un un_neg pe_int) (fun _ _=>rfl)) pe_int (fun _ _=>rfl)) (nomark _))))))))) (pss_one (ps_ret pe_non)) pss_nil)
   (pss_one (ps_expr (pe_bm PySem.F.plainAttrs_list PySem.F.slot_list_append PySem.F.type_list_append mt_append (pv 2) (pa_cons (pe_tup (pa_cons (pe_ix ix_tup (pv 4) pe_int (fun _ _=>rfl)) (pa_cons (pe_op op_mulO (pe_ix ix_tup (pv 4) pe_int (fun _ _=>rfl)) (pe_ix ix_list (pe_lst (pa_cons pe_int (pa_cons (pe_un un_neg pe_int) pa_nil))) (pe_callTy call_int1 rfl T.n_int PyProof.Rows.boot_int (pa_cons (pe_cmpR op_eq (pe_ix ix_list (pv 1) (pv 3) (fun _ _=>rfl)) pe_str (nomark _)) pa_nil)) (fun _ _=>rfl))) pa_nil))) pa_nil)))))))
   (pss_one (ps_ret (pv 2))))))))),?_⟩
  refine⟨_,rfl,rfl,_,rfl,?_⟩;by_cases h0:l=[48]
  ·refine iteY (decide_eq_true (by rw[h0,lit_0])) ?_;exact⟨Nat.zero_le _,fun c hc=>q2 [] c _ (by unfold formR;rw[if_pos h0]) hc ⟨[],upd_same,.nil⟩ (Same.upd hc)⟩
  refine iteN (fun w=>h0 (by
   have:=of_decide_eq_true w
   injection this with this
   rw[lit_0] at this;exact S_inj this)) ?_
  have hsp:Txt.split (S l) (S [32])=(splitL l).map S:=by
   have:=split_S (c:=32) (split_ne l) (split_no l)
   rwa [split_join l] at this
  have hlz:(S l).length≤sizeLine:=by rw[S_len];exact Nat.le_trans hl (by decide)
  refine⟨_,rfl,rfl,_,_,rfl,rfl,(by rw[lit_sp];rfl),(by rw[S_len];exact Nat.lt_of_le_of_lt hl (by decide)),fun W hW=>?_⟩;rw[lit_sp,hsp];have s1:Same H (upd H W (.lst (((splitL l).map S).map V.str))):=Same.upd hW;have w1:upd H W (.lst (((splitL l).map S).map V.str)) W=some (.lst (((splitL l).map S).map V.str)):=upd_same;generalize upd H W (.lst (((splitL l).map S).map V.str))=H1 at s1 w1;have hlens:=split_lens l;refine⟨fun σ' G'=>∃ W':Addr,σ'=[some (.str (S l)),some (.ref W'),none,none,none]∧G' W'=some (.lst (((wordsR l).map S).map V.str))∧Same H G',?_,?_⟩
  ·obtain⟨w0,wr,ew⟩:∃ w0 wr,splitL l=w0 :: wr:=by
    cases e:splitL l with
    | nil=>exact absurd e (split_ne l)
    | cons a b=>exact⟨a,b,rfl⟩
   rw[ew] at w1;have hwrl:wr.length≤500:=by rw[ew,List.length_cons] at hlens;omega
   refine⟨_,rfl,_,rfl,_,rfl,hlz,?_⟩;rw[slice_one];refine⟨rfl,_,rfl,?_⟩;by_cases h45:l.head? = some 45
   ·refine iteY (decide_eq_true (by rw[(head_one l).mpr h45,lit_minus])) ?_;obtain⟨w',rfl⟩:∃ w',w0=45 :: w':=split_head h45 (by decide) ew;have hwl:(S (45 :: w')).length≤sizeLine:=by
     rw[S_len]
     have:=hlens.2 (45 :: w') (by rw[ew];simp)
     exact Nat.le_trans this (Nat.le_trans hl (by decide))
    have esl:Txt.slice (S (45 :: w')) (some 1) none=S w':=slice_off (a:=[45]) (b:=w');refine⟨_,rfl,W,_,_,_,rfl,rfl,SqL.of w1,atI_nat (j:=0) rfl,_,rfl,_,rfl,hwl,(by show 2≤sizeLine;decide),fun A hA=>?_⟩;rw[esl];have b1:Same H1 (upd H1 A (.lst [.str (Str.ofString "-"),.str (S w')])):=Same.upd hA;refine⟨_,rfl,_,rfl,W,_,rfl,SqL.of (b1 _ _ w1),fun B hB=>?_⟩;have ec:cutV (((45 :: w') :: wr).map S |>.map V.str) (some 1) none=(wr.map S).map V.str:=cutV_from1 _ _;rw[ec];have b2:Same (upd H1 A (.lst [.str (Str.ofString "-"),.str (S w')])) (upd (upd H1 A (.lst [.str (Str.ofString "-"),.str (S w')])) B (.lst ((wr.map S).map V.str))):=Same.upd hB;refine⟨A,B,_,_,rfl,rfl,b2 _ _ upd_same,upd_same,?_,fun C hC=>?_⟩
    ·show 2+((wr.map S).map V.str).length≤_;rw[List.length_map,List.length_map];exact Nat.le_of_lt (small6 (by omega))
    refine⟨C,rfl,?_,s1.trans (b1.trans (b2.trans (Same.upd hC)))⟩;rw[upd_same,lit_minus];unfold wordsR;rw[if_pos h45,ew];rfl
   ·refine iteN (fun y=>h45 ((head_one l).mp (by
     have:=of_decide_eq_true y
     injection this with this
     rw[lit_minus] at this;exact S_inj this))) ?_
    refine⟨(by show 1≤sizeLine;decide),fun A hA=>?_⟩;have b1:Same H1 (upd H1 A (.lst [.str (Str.ofString "+")])):=Same.upd hA;refine⟨_,rfl,A,W,_,_,rfl,rfl,upd_same,b1 _ _ w1,?_,fun C hC=>?_⟩
    ·show 1+(((w0 :: wr).map S).map V.str).length≤_;rw[List.length_map,List.length_map,List.length_cons];exact Nat.le_of_lt (small6 (by omega))
    refine⟨C,rfl,?_,s1.trans (b1.trans (Same.upd hC))⟩;rw[upd_same,lit_plus];unfold wordsR;rw[if_neg h45,ew];rfl
  ·rintro σ' G' ⟨W',rfl,w2,s2⟩;have hwr:=wordsR_ok l;have hfr:∀ x,readPs (wordsR l)=x→formR l=match x with
     | some f=>if isF f (-1)=true then some f else none
     | none=>none:=fun x hx=>by unfold formR;rw[if_neg h0,hx]<;>(cases x <;> rfl)
   refine⟨_,rfl,W',_,rfl,.inl (SqL.of w2),_,_,rfl,rfl,(by show (0:Int)<2;decide),rfl,_,rfl,?_⟩;by_cases hev:(wordsR l).length % 2=0
   rotate_left
   ·refine iteY (by
     show decide (V.int (((((wordsR l).map S).map V.str).length:Int) % 2)=V.int 1)=true;rw[List.length_map,List.length_map];exact decide_eq_true (by congr 1;omega)) ?_
    exact q1 G' s2 (hfr none (readPs_odd hev))
   refine iteN (by
    show ¬ decide (V.int (((((wordsR l).map S).map V.str).length:Int) % 2)=V.int 1)=true;rw[List.length_map,List.length_map];exact fun y=>by have y':=of_decide_eq_true y;injection y' with y';omega) ?_
   obtain⟨pp,hpp⟩:=pairs_ex hev;have hpl:2 * pp.length=(wordsR l).length:=by rw[hpp,inter_len']
   have ev:((wordsR l).map S).map V.str=pp.flatMap fun t:List Nat × List Nat=>[V.str (S t.1),V.str (S t.2)]:=by
    rw[hpp,List.map_map,List.map_flatMap];rfl
   have hrd:readPs (wordsR l)=rdP pp:=by rw[hpp];exact readPs_pairs pp
   have hwk:formR l=walkP pp [] (-1):=by
    rw[hfr _ hrd,walk_eq];rfl
   have hmem:∀ t∈pp,t.2∈wordsR l:=fun t ht=>by rw[hpp];exact List.mem_flatMap.mpr ⟨t,ht,by simp⟩
   rw[ev] at w2;have hln:(pp.flatMap fun t:List Nat × List Nat=>[V.str (S t.1),V.str (S t.2)]).length=2 * pp.length:=inter_len _ _ _;have hp1:1≤pp.length:=by have:=hwr.1;omega
   refine⟨Nat.zero_le _,fun F hF=>?_⟩;have b1:Same G' (upd G' F (.lst [])):=Same.upd hF;have wF:upd G' F (.lst []) F=some (.lst ([].map V.ref)):=upd_same;have w3:=b1 _ _ w2;have hFW:W'≠F:=ne_of_none w2 hF;have s3:=s2.trans b1;generalize upd G' F (.lst [])=G1 at wF w3 s3 ⊢;refine⟨_,rfl,W',_,rfl,.inl (SqL.of w3),0,_,2,pp.length,rfl,by decide,two_div _,?_,?_,?_⟩
   ·rw[hln];exact (small_step (b:=((2 * pp.length:Nat):Int)) (c:=2) (by omega) (by have:=hwr.2.1;omega) (by decide) (by decide)).1
   ·rw[hln];exact two_size hp1
   have hFn:H F=none:=s2.free hF;refine for_step (lo:=0) (c:=2) (n:=pp.length) (fun i σ G=>∃ (v3 v4:Option V) (qs:List Addr) (fs:Terms) (la:Int),σ = [some (.str (S l)),some (.ref W'),some (.ref F),v3,v4]∧G W'=some (.lst (pp.flatMap fun t:List Nat × List Nat=>[V.str (S t.1),V.str (S t.2)]))∧G F=some (.lst (qs.map V.ref))∧Tups G qs fs∧formR l=walkP (pp.drop i) fs la∧(la = -1∧fs=[]∨∃ k t,fs.length=k+1∧fs[k]? = some t∧la=t.1)∧fs.length≤i∧Same H G)
    ⟨none,none,[],[],-1,rfl,w3,wF,.nil,by rw[List.drop_zero];exact hwk,.inl ⟨rfl,rfl⟩,Nat.le_refl _,s3⟩ ?_ ?_
   ·rintro i σ G hi ⟨v3,v4,qs,fs,la,rfl,g1,g2,g3,g4,g5,g6,g7⟩;obtain⟨t,ht⟩:∃ t,pp[i]? = some t:=⟨_,List.getElem?_eq_getElem hi⟩;have htm:=hmem t (List.mem_of_getElem? ht);obtain⟨p0,p1⟩:=pair_at ht (fun t=>V.str (S t.1)) (fun t=>V.str (S t.2));have ei:(0:Int)+(i:Int) * 2=((2 * i:Nat):Int):=by omega
    have hat0:atI (pp.flatMap fun t:List Nat × List Nat=>[V.str (S t.1),V.str (S t.2)]) (0+(i:Int) * 2)=some (V.str (S t.1)):=by rw[ei];exact atI_nat p0
    have hat1:atI (pp.flatMap fun t:List Nat × List Nat=>[V.str (S t.1),V.str (S t.2)]) (0+(i:Int) * 2+1)=some (V.str (S t.2)):=by
     rw[ei,show ((2 * i:Nat):Int)+1=((2 * i+1:Nat):Int) by omega];exact atI_nat p1
    have ed:pp.drop i=t :: pp.drop (i+1):=by
     rw[List.drop_eq_getElem_cons hi];congr 1;exact (List.getElem?_eq_some_iff.mp ht).2
    rw[ed] at g4;have hnone:readT t.1 t.2=none→formR l=none:=fun h=>by rw[g4];unfold walkP;rw[h]
    have hsg:∀ x:Str,inV (V.str (S t.1)) [V.str (Str.ofString "+"),V.str (Str.ofString "-")]=decide (t.1=[43]∨t.1=[45]):=fun _=>by
     rw[lit_plus,lit_minus];show (S [43] == S t.1 || (S [45] == S t.1 || false))=_;have e1:∀ b:Nat,(S [b] == S t.1)=decide (t.1=[b]):=fun b=>by
      by_cases z:t.1=[b]
      ·rw[z,decide_eq_true rfl];simp
      ·rw[decide_eq_false z];exact Bool.eq_false_iff.mpr fun y=>z (S_inj (beq_iff_eq.mp y)).symm
     rw[e1,e1,Bool.or_false,← Bool.decide_or]
    have tw:∀ (G1:Hp),G1 W'=some (.lst (pp.flatMap fun t:List Nat × List Nat=>[V.str (S t.1),V.str (S t.2)]))→SqL K G1 W' (pp.flatMap fun t:List Nat × List Nat=>[V.str (S t.1),V.str (S t.2)]):=fun G1 h=>SqL.of h
    unfold gName;refine⟨_,rfl,_,rfl,_,_,rfl,rfl,W',_,_,V.str (S t.2),rfl,rfl,SqL.of g1,hat1,t.2,rfl,(fun c hc=>((hwr.2.2 t.2 htm).1 c hc).elim (ha c) (fun z=>by rw[z];decide)),(by have:=(hwr.2.2 t.2 htm).2;omega),fun H' s' hn=>?_,fun m n c H' htu hc0 hc s'=>?_⟩
    ·have sH:=g7.trans s';refine⟨_,rfl,_,rfl,W',_,_,V.str (S t.1),rfl,rfl,SqL.of (s' _ _ g1),hat0,(by show 2≤sizeLine;decide),fun LL hLL=>⟨LL,_,rfl,.inl (SqL.of upd_same),rfl,rfl,_,rfl,?_⟩⟩;have sL:=sH.trans (Same.upd (o := .lst [.str (Str.ofString "+"),.str (Str.ofString "-")]) hLL);have hnn:readT t.1 t.2=none:=by
      by_cases hs:t.1=[43]∨t.1=[45]
      ·rw[readT_tup hs,hn];rfl
      ·unfold readT;rw[if_neg hs]
     refine ite2 (fun z=>?_) (fun z=>?_)
     ·exact q1 _ sL (hnone hnn)
     ·exact⟨_,rfl,rfl,_,rfl,iteY (by simp) (q1 _ sL (hnone hnn))⟩
    ·have sH:=g7.trans s';refine⟨_,rfl,_,rfl,W',_,_,V.str (S t.1),rfl,rfl,SqL.of (s' _ _ g1),hat0,(by show 2≤sizeLine;decide),fun LL hLL=>⟨LL,_,rfl,.inl (SqL.of upd_same),rfl,rfl,_,rfl,?_⟩⟩;have hL:Same H' (upd H' LL (.lst [.str (Str.ofString "+"),.str (Str.ofString "-")])):=Same.upd hLL;have sL:=sH.trans hL;have s'L:=s'.trans hL;have hcL:=hL _ _ hc;generalize upd H' LL (.lst [.str (Str.ofString "+"),.str (Str.ofString "-")])=HL at hL sL s'L hcL ⊢;show if (!inV (V.str (S t.1)) [V.str (Str.ofString "+"),V.str (Str.ofString "-")])=true then _ else _
     rw[hsg (S [])];by_cases hs:t.1=[43]∨t.1=[45]
     rotate_left
     ·refine iteY (by rw[decide_eq_false hs];rfl) ?_;exact q1 _ sL (hnone (by unfold readT;rw[if_neg hs]))
     refine iteN (by rw[decide_eq_true hs];decide) ?_;have hrt:readT t.1 t.2=some ((m:Int),(n:Int) * (if t.1=[45] then -1 else 1)):=by rw[readT_tup hs,htu];rfl
     refine⟨_,rfl,rfl,_,rfl,iteN (by simp) ?_⟩;have gF:=s'L _ _ g2;have gT:Tups HL qs fs:=g3.keep fun b xs z=>s'L b _ z
     have hql:=gT.length;refine byR (b:=decide ((m:Int)≤la)) (H:=HL) (fun R hR=>?_) ?_
     ·refine⟨_,rfl,F,_,rfl,.inl (SqL.of gF),_,_,rfl,rfl,_,rfl,?_⟩;rcases g5 with ⟨rfl,rfl⟩ | ⟨k,u,hk,hu,rfl⟩
      ·refine iteN (fun y=>by
        have y':=of_decide_eq_true y;rw[List.length_map,hql] at y';simp at y') ?_
       rw[decide_eq_false (by omega)] at hR;exact hR
      ·refine iteY (decide_eq_true (by rw[List.length_map,hql,hk];omega)) ?_;obtain⟨pu,hpu1,hpu2⟩:=gT.at hu;exact⟨_,rfl,c,_,_,_,rfl,rfl,SqT.of hcL,rfl,_,rfl,_,rfl,F,_,_,V.ref pu,rfl,rfl,SqL.of gF,at_last (i:=k) (by rw[List.length_map,hql,hk]) (by rw[List.getElem?_map,hpu1];rfl),pu,_,_,_,rfl,rfl,SqT.of hpu2,rfl,_,_,rfl,rfl,_,rfl,hR⟩
     refine ite2 (fun z=>?_) (fun z=>?_)
     ·exact q1 _ sL (by rw[g4];unfold walkP;rw[hrt];exact if_pos (of_decide_eq_true z))
     have z':¬ (m:Int)≤la:=fun y=>z (decide_eq_true y)
     obtain⟨v,hv⟩:∃ v:Int,v=if t.1=[45] then -1 else 1:=⟨_,rfl⟩
     have hv2:v.natAbs=1:=by rw[hv];split <;> rfl
     rw[← hv] at hrt;refine⟨_,rfl,.inl ⟨rfl,_,SqL.of gF⟩,_,rfl,c,_,_,_,rfl,rfl,SqT.of hcL,rfl,_,rfl,c,_,_,_,rfl,rfl,SqT.of hcL,rfl,_,rfl,(by show 2≤sizeLine;decide),fun LM hLM=>?_⟩;have hM:Same HL (upd HL LM (.lst [.int 1,.int (-1)])):=Same.upd hLM;refine⟨_,rfl,_,rfl,W',_,_,V.str (S t.1),rfl,rfl,SqL.of ((s'L.trans hM) _ _ g1),hat0,rfl,.inr ⟨_,rfl,?_⟩⟩;have hat2:atI [V.int 1,V.int (-1)] (if decide (V.str (S t.1)=V.str (Str.ofString "-"))=true then 1 else 0)=some (V.int v):=by
      rw[lit_minus,hv];by_cases y:t.1=[45]
      ·rw[if_pos (decide_eq_true (by rw[y])),if_pos y];rfl
      ·rw[if_neg (fun w=>y (by have w':=of_decide_eq_true w;injection w' with w';exact S_inj w')),if_neg y];rfl
     refine⟨LM,_,_,V.int v,rfl,rfl,SqL.of upd_same,hat2,_,_,rfl,rfl,mulR (by omega) (by omega),(by show 2≤sizeLine;decide),fun tp htp=>?_⟩;have hTp:=hM.trans (Same.upd (o := .tup [.int (m:Int),.int ((n:Int) * v)]) htp);have wtp:upd (upd HL LM (.lst [.int 1,.int (-1)])) tp (.tup [.int (m:Int),.int ((n:Int) * v)]) tp=some (.tup [.int (m:Int),.int ((n:Int) * v)]):=upd_same;generalize upd (upd HL LM (.lst [.int 1,.int (-1)])) tp (.tup [.int (m:Int),.int ((n:Int) * v)])=HT at hTp wtp ⊢;have gF2:=hTp _ _ gF;have hFq:tp≠F:=ne_of wtp gF2 (by intro z;cases z);refine⟨F,_,_,rfl,rfl,gF2,(by rw[List.length_map,hql];exact small6 (by have:=hwr.2.1;omega)),_,_,qs ++ [tp],fs ++ [((m:Int),(n:Int) * v)],(m:Int),rfl,?_,?_,?_,?_,.inr ⟨fs.length,((m:Int),(n:Int) * v),by rw[List.length_append];rfl,by rw[List.getElem?_append_right (Nat.le_refl _),Nat.sub_self];rfl,rfl⟩,by rw[List.length_append,List.length_singleton];omega,(sL.trans hTp).write hFn⟩
     ·rw[upd_ne hFW];exact (s'L.trans hTp) _ _ g1
     ·rw[upd_same,List.map_append];rfl
     ·refine Tups.snoc ((gT.keep fun b xs z=>hTp b _ z).keep fun b xs z=>?_) ?_
      ·rw[upd_ne (ne_of z gF2 (by intro z;cases z))];exact z
      ·rw[upd_ne hFq];exact wtp
     ·rw[g4]
      conv=>lhs;unfold walkP
      rw[hrt];exact if_neg z'
   ·rintro σ G ⟨v3,v4,qs,fs,la,rfl,g1,g2,g3,g4,g5,g6,g7⟩;rw[List.drop_length] at g4;exact⟨_,rfl,q2 fs F G g4 hFn ⟨qs,g2,g3⟩ g7⟩
noncomputable def spReadN9 (NF:Addr):Sp:=fun vs H Q E=>∃ fs ls:List Nat,vs=[.str (S fs),.str (S ls)]∧(∀ c∈fs,48≤c∧c≤57)∧fs.length≤1000∧(∀ n:Nat,readN fs ls=some n→Q (.int (n:Int)) H)∧(readN fs ls=none→E (.ref NF) none H)
theorem sc_Z18:FnScope ["figures", "letters", "number", "figure"] ["figures", "letters"] (defScope s_Z18):=⟨rfl,rfl,rfl,by decide +kernel,rfl,by decide +kernel,by decide +kernel⟩
theorem ok_Z18 (T:Txt K mg):FnOk P w K mg base (CXe P w) 1 T.a_Z18 T.fd_Z18 ["figures", "letters"] (spReadN9 T.a_NoForm):=by
 refine T.d_Z18.F.okE sc_Z18 (fun vs H Q E h=>?_) (fun cdv A outer s H vs Q E hr h=>?_)
 ·obtain⟨fs,ls,rfl,hd,hlen,q,e⟩:=h;rfl
 ·obtain⟨fs,ls,rfl,hd,hlen,q,e⟩:=h;have hu:=hu_of hr;refine⟨_,(pss_cons (PS.nox (ps_if (PW.pt (pw_and (pt_cmpR op_eq (pv 0) pe_str (nomark _)) (pw_and1 (pt_cmpR op_ne (pv 1) pe_str (nomark _))))) (pss_one (ps_ret pe_int)) pss_nil))
   (pss_cons (ps_if (PW.pt (pw_or (pt_cmpR op_eq (pv 0) pe_str (nomark _)) (pw_or (pt_cmpR op_eq (pe_ix ix_str (pv 0) pe_int (fun _ _=>rfl)) pe_str (nomark _)) (pw_or1 (PW.pt (pw_and (pt_cmpR op_eq (pv 0) pe_str (nomark _)) (pw_and1 (pt_cmpR op_ne (pv 1) pe_str (nomark _))))))))) (pss_one (ps_raise lets_def rfl (by rfl) T.g_NoForm T.x_NoForm)) pss_nil)
   (pss_cons (PS.nox (ps_set (i:=2) sc_Z18.nd rfl (Or.inl rfl) pe_int))
   (pss_cons (PS.nox (ps_for PassesOwn.never rfl (pi_str (pv 0)) (pg_name (i:=3) sc_Z18.nd rfl (Or.inl rfl))
    (pss_one (ps_set (i:=2) sc_Z18.nd rfl (Or.inl rfl) (pe_op op_add (pe_op op_mulO (pv 2) pe_int) (pe_callTy call_int_str rfl T.n_int PyProof.Rows.boot_int (pa_cons (pv 3) pa_nil)))))))
   (pss_one (PS.nox (ps_ret (pv 2)))))))),?_⟩
  have run:∀ n:Nat,NumText.digitsVal fs=n→Q (.int (n:Int)) H→tSeq (tAsg (tC (V.int 0)) (gName 2)) (tSeq (tFor (iStr (tVar 0)) (gName 3) (tAsg (tOp (rI0 fun i j=>V.int (i+j)) (tOp (rI IntMulOk fun i j=>V.int (i * j)) (tVar 2) (tC (V.int 10))) (tCB (fun xs H Q=>∃ x n,xs=[V.str x]∧intText? x=some n∧x.length≤640∧Q (V.int n) H) (tCons (tVar 3) tNil))) (gName 2))) (tRet (tVar 2))) { nx:=fun x H'=>Q V.non H',rt:=Q } [some (V.str (S (fs))),some (V.str (S (ls))),none,none] H:=by
   intro n hn hq;refine⟨_,rfl,_,rfl,ascii_S (fun c hc=>by have:=hd c hc;omega),?_⟩;refine for_str (l:=fs) (fun i σ G=>∃ v3:Option V,σ = [some (.str (S fs)),some (.str (S ls)),some (.int ((NumText.digitsVal (fs.take i):Nat):Int)),v3]∧G=H)
    ⟨none,rfl,rfl⟩ ?_ ?_
   ·rintro i c σ G hc ⟨v3,rfl,rfl⟩;have hcd:=hd c (List.mem_of_getElem? hc);obtain⟨d,rfl⟩:∃ d,c=48+d:=⟨c-48,by omega⟩;have htk:fs.take (i+1)=fs.take i ++ [48+d]:=by rw[List.take_add_one,hc];rfl
    unfold gName;refine⟨_,rfl,_,_,rfl,rfl,mulR (by decide) (by decide),_,rfl,_,_,rfl,int_fig d (by omega),(by show 1≤640;decide),_,_,rfl,rfl,?_⟩;refine⟨some (.str (S [48+d])),?_,rfl⟩;rw[htk,NumText.digitsVal_snoc];have e:((NumText.digitsVal (fs.take i) * 10+(48+d-48):Nat):Int)=((NumText.digitsVal (fs.take i):Nat):Int) * 10+(d:Int):=by omega
    rw[e];rfl
   ·rintro σ G ⟨v3,rfl,rfl⟩;refine⟨_,rfl,?_⟩;rw[List.take_length,hn];exact hq
  refine⟨_,rfl,rfl,_,rfl,?_⟩;by_cases h1:fs=[]
  ·refine iteY (decide_eq_true ((str_e _).mpr h1)) ?_;refine⟨_,rfl,rfl,_,rfl,?_⟩;by_cases h2:ls=[]
   ·refine iteN (by rw[decide_eq_true ((str_e _).mpr h2)];decide) ?_;refine⟨_,rfl,rfl,_,rfl,iteY (decide_eq_true ((str_e _).mpr h1)) ?_⟩;exact e (by unfold readN;rw[if_neg (fun z=>z.2 h2),if_pos (.inl h1)])
   ·refine iteY (by rw[decide_eq_false (fun y=>h2 ((str_e _).mp y))];rfl) ?_;exact q 1 (by unfold readN;rw[if_pos ⟨h1,h2⟩])
  ·refine iteN (fun y=>h1 ((str_e _).mp (of_decide_eq_true y))) ?_;refine⟨_,rfl,rfl,_,rfl,iteN (fun y=>h1 ((str_e _).mp (of_decide_eq_true y))) ?_⟩;obtain⟨c,r,hcr⟩:∃ c r,fs=c :: r:=by
    cases fs with
    | nil=>exact absurd rfl h1
    | cons c r=>exact⟨c,r,rfl⟩
   have hz:(S fs).length≤sizeLine:=by rw[S_len];exact Nat.le_trans hlen (by decide)
   have hat:atI (S fs).cps.toList 0=some c:=by rw[S_list,hcr];exact atI_nat (j:=0) rfl
   refine⟨_,rfl,_,_,_,rfl,rfl,hz,hat,rfl,_,rfl,?_⟩;by_cases h3:c=48
   ·refine iteY (decide_eq_true (by rw[h3,lit_0];rfl)) ?_;exact e (by unfold readN;rw[if_neg (fun z=>h1 z.1),if_pos (.inr (.inl (by rw[hcr,h3];rfl)))])
   ·refine iteN (fun y=>h3 (by
     have:=of_decide_eq_true y
     injection this with this
     rw[lit_0] at this
     have:=S_inj (a:=[c]) this
     simpa using this)) ?_
    have h3':¬ fs.head? = some 48:=by rw[hcr];simpa using h3
    refine⟨_,rfl,rfl,_,rfl,?_⟩;by_cases h4:fs=[49]
    ·refine iteY (decide_eq_true (by rw[h4,lit_1])) ?_;refine⟨_,rfl,rfl,_,rfl,?_⟩;by_cases h2:ls=[]
     ·refine iteN (by rw[decide_eq_true ((str_e _).mpr h2)];decide) ?_;exact run _ rfl (q _ (by unfold readN;rw[if_neg (fun z=>h1 z.1),if_neg (fun z=>by
       rcases z with z | z | z
       ·exact h1 z
       ·exact h3' z
       ·exact z.2 h2)]))
     ·refine iteY (by rw[decide_eq_false (fun y=>h2 ((str_e _).mp y))];rfl) ?_;exact e (by unfold readN;rw[if_neg (fun z=>h1 z.1),if_pos (.inr (.inr ⟨h4,h2⟩))])
    ·refine iteN (fun w=>h4 (by
      have:=of_decide_eq_true w
      injection this with this
      rw[lit_1] at this;exact S_inj this)) ?_
     exact run _ rfl (q _ (by unfold readN;rw[if_neg (fun z=>h1 z.1),if_neg (fun z=>by
      rcases z with z | z | z
      ·exact h1 z
      ·exact h3' z
      ·exact h4 z.1)]))
noncomputable def spDoubled:Sp:=fun vs H Q _=>∃ m:Nat,vs=[.int (m:Int)]∧m≤100∧Q (.int (2^m)) H
theorem sc_Z0:FnScope ["many", "size", "turn"] ["many"] (defScope s_Z0):=⟨rfl,rfl,rfl,by decide +kernel,rfl,by decide +kernel,by decide +kernel⟩
theorem ok_Z0 (T:Txt K mg):FnOk P w K mg base CX0 1 T.a_Z0 T.fd_Z0 ["many"] spDoubled:=by
 refine T.d_Z0.F.ok sc_Z0 (fun vs H Q E h=>?_) (fun cdv A outer s H vs Q E hr h=>?_)
 ·obtain⟨m,rfl,hm,q⟩:=h;rfl
 ·obtain⟨m,rfl,hm,q⟩:=h;have hu:=hu_of hr;refine⟨_,(pss_cons (ps_set (i:=1) sc_Z0.nd rfl (Or.inl rfl) pe_int)
   (pss_cons (ps_for PassesOwn.never rfl (pi_range1 rfl T.n_range (pa_cons (pv 0) pa_nil)) (pg_name (i:=2) sc_Z0.nd rfl (Or.inl rfl))
    (pss_one (ps_set (i:=1) sc_Z0.nd rfl (Or.inl rfl) (pe_op op_mulO (pv 1) pe_int))))
   (pss_one (ps_ret (pv 1))))),?_⟩
  refine⟨_,rfl,(m:Int),rfl,by omega,by omega,for_range (n:=m) (fun i σ H2=>∃ v2:Option V,σ = [some (.int (m:Int)),some (.int (2^i)),v2]∧H2=H) ⟨none,rfl,rfl⟩ ?_ ?_⟩
  ·rintro i σ H2 hi ⟨v2,rfl,rfl⟩;refine⟨_,rfl,_,_,rfl,rfl,mulR (by decide) (by decide),some (.int (0+(i:Int))),?_,rfl⟩;rw[Int.pow_succ];rfl
  ·rintro σ H2 ⟨v2,rfl,rfl⟩;exact⟨_,rfl,q⟩
noncomputable def spReadS9 (NF:Addr):Sp:=fun vs H Q E=>∃ l:List Nat,vs=[.str (S l)]∧(∀ c∈l,c<128)∧(∀ m:Nat,readS l (-1) 0=some m→Q (.int (m:Int)) H)∧(readS l (-1) 0=none→E (.ref NF) none H)
theorem sc_Z19:FnScope ["letters", "members", "last", "letter", "k"] ["letters"] (defScope s_Z19):=⟨rfl,rfl,rfl,by decide +kernel,rfl,by decide +kernel,by decide +kernel⟩
theorem ok_Z19 (T:Txt K mg):FnOk P w K mg base (CXe P w) 2 T.a_Z19 T.fd_Z19 ["letters"] (spReadS9 T.a_NoForm):=by
 refine T.d_Z19.F.okE sc_Z19 (fun vs H Q E h=>?_) (fun cdv A outer s H vs Q E hr h=>?_)
 ·obtain⟨l,rfl,ha,q,e⟩:=h;rfl
 ·obtain⟨l,rfl,ha,q,e⟩:=h;have hu:=hu_of hr;refine⟨_,(pss_cons (PS.nox (ps_set (i:=1) sc_Z19.nd rfl (Or.inl rfl) pe_int))
   (pss_cons (PS.nox (ps_set (i:=2) sc_Z19.nd rfl (Or.inl rfl) (pe_un un_neg pe_int)))
   (pss_cons (ps_for PassesOwn.leaving rfl (pi_str (pv 0)) (pg_name (i:=3) sc_Z19.nd rfl (Or.inl rfl))
    (pss_cons (PS.nox (ps_set (i:=4) sc_Z19.nd rfl (Or.inl rfl) (pe_bm PySem.F.plainAttrs_str PySem.F.slot_str_find PySem.F.type_str_find mt_find (pe_glob (v := .str "abcdefghijklmnop") (by rfl) T.g_LETTERS ⟨_,rfl⟩) (pa_cons (pv 3) pa_nil))))
   (pss_cons (ps_if (pt_cmpR op_le (pv 4) (pv 2) (nomark _)) (pss_one (ps_raise lets_def rfl (by rfl) T.g_NoForm T.x_NoForm)) pss_nil)
   (pss_cons (PS.nox (ps_set (i:=1) sc_Z19.nd rfl (Or.inl rfl) (pe_op op_add (pv 1) (pe_call (ok_Z0 (P:=P) (w:=w) (base:=base) T) hr (by rfl) T.d_Z0.m T.d_Z0.F.kp T.d_Z0.b .nil pass0 (pa_cons (pv 4) pa_nil)))))
   (pss_one (PS.nox (ps_set (i:=2) sc_Z19.nd rfl (Or.inl rfl) (pv 4))))))))
   (pss_one (PS.nox (ps_ret (pv 1))))))),?_⟩
  refine⟨_,rfl,_,rfl,_,rfl,ascii_S ha,?_⟩;refine for_str (l:=l) (fun i σ G=>∃ (v3 v4:Option V) (la:Int) (m:Nat),σ = [some (.str (S l)),some (.int (m:Int)),some (.int la),v3,v4] ∧ -1≤la∧readS l (-1) 0=readS (l.drop i) la m∧G=H)
   ⟨none,none,-1,0,rfl,by omega,by rw[List.drop_zero],rfl⟩ ?_ ?_
  ·rintro i c σ G hc ⟨v3,v4,la,m,rfl,hla,hr,rfl⟩;have hil:=(List.getElem?_eq_some_iff.mp hc).1;have ed:l.drop i=c :: l.drop (i+1):=by
    rw[List.drop_eq_getElem_cons hil];congr 1;exact (List.getElem?_eq_some_iff.mp hc).2
   have hc128:=ha c (List.mem_of_getElem? hc);rw[ed] at hr;unfold gName;refine⟨rfl,_,rfl,_,_,rfl,rfl,?_⟩;rw[lit_let,find_any c hc128];refine⟨_,rfl,_,rfl,_,_,rfl,rfl,_,rfl,ite2 (fun z=>?_) (fun z=>?_)⟩
   ·have z':=of_decide_eq_true z;exact e (by rw[hr];unfold readS;rw[if_pos z'])
   ·have z':¬ idxL c≤la:=fun y=>z (decide_eq_true y)
    obtain⟨k,hk⟩:∃ k:Nat,idxL c=(k:Int):=⟨(idxL c).toNat,by omega⟩;have hk16:k<16:=by
     unfold idxL at hk;split at hk <;> omega
    rw[hk];refine⟨_,rfl,_,rfl,k,rfl,by omega,_,_,rfl,rfl,?_⟩;refine⟨_,rfl,some (.str (S [c])),some (.int (k:Int)),(k:Int),m+2^k,?_,by omega,?_,rfl⟩
    ·rw[show ((m+2^k:Nat):Int)=(m:Int)+2^k by rw[pow_cast];omega];rfl
    ·rw[hr];show readS (c :: l.drop (i+1)) la m=_
     conv=>lhs;unfold readS
     rw[if_neg z',hk,Int.toNat_natCast]
  ·rintro σ G ⟨v3,v4,la,m,rfl,hla,hr,rfl⟩;rw[List.drop_length] at hr;exact⟨_,rfl,q m hr⟩
noncomputable def spReadT9 (NF:Addr):Sp:=fun vs H Q E=>∃ sg wo:List Nat,vs=[.str (S sg),.str (S wo)]∧(∀ c∈wo,c<128)∧wo.length≤1000∧(∀ t,readT sg wo=some t→∀ c,H c=none→Q (.ref c) (upd H c (.tup [.int t.1,.int t.2])))∧(readT sg wo=none→E (.ref NF) none H)
theorem sc_Z20:FnScope ["sign", "word", "letters", "number"] ["sign", "word"] (defScope s_Z20):=⟨rfl,rfl,rfl,by decide +kernel,rfl,by decide +kernel,by decide +kernel⟩
theorem ok_Z20 (T:Txt K mg):FnOk P w K mg base (CXe P w) 3 T.a_Z20 T.fd_Z20 ["sign", "word"] (spReadT9 T.a_NoForm):=by
 refine T.d_Z20.F.okE sc_Z20 (fun vs H Q E h=>?_) (fun cdv A outer s H vs Q E hr h=>?_)
 ·obtain⟨sgn',wo,rfl,ha,hl,q,e⟩:=h;rfl
 ·obtain⟨sgn',wo,rfl,ha,hl,q,e⟩:=h;have hu:=hu_of hr;refine⟨_,(pss_cons (ps_if (PW.pt (pw_and (pt_cmpR op_ne (pv 0) pe_str (nomark _)) (pw_and1 (pt_cmpR op_ne (pv 0) pe_str (nomark _))))) (pss_one (ps_raise lets_def rfl (by rfl) T.g_NoForm T.x_NoForm)) pss_nil)
   (pss_cons (PS.nox (ps_set (i:=2) sc_Z20.nd rfl (Or.inl rfl) (pe_bm PySem.F.plainAttrs_str PySem.F.slot_str_lstrip PySem.F.type_str_lstrip mt_lstrip1 (pv 1) (pa_cons (pe_glob (v := .str "0123456789") (by rfl) T.g_FIGURES ⟨_,rfl⟩) pa_nil))))
   (pss_cons (ps_set (i:=3) sc_Z20.nd rfl (Or.inl rfl) (pe_call (ok_Z18 (P:=P) (w:=w) (base:=base) T) (hr.mono (by decide)) (by rfl) T.d_Z18.m T.d_Z18.F.kp T.d_Z18.b .nil (passE lets_def) (pa_cons (pe_slice sl_str (pv 1) po_none (po_some (pe_op op_sub (pe_callB call_len_str (by rfl) T.n_len PySem.boot_len (pa_cons (pv 1) pa_nil)) (pe_callB call_len_str (by rfl) T.n_len PySem.boot_len (pa_cons (pv 2) pa_nil))))) (pa_cons (pv 2) pa_nil))))
   (pss_one (ps_ret (pe_tup (pa_cons (pe_call (ok_Z19 (P:=P) (w:=w) (base:=base) T) hr (by rfl) T.d_Z19.m T.d_Z19.F.kp T.d_Z19.b .nil (passE lets_def) (pa_cons (pv 2) pa_nil)) (pa_cons (pe_ifExp (pt_cmpR op_eq (pv 0) pe_str (nomark _)) (pe_un un_neg (pv 3)) (pv 3)) pa_nil)))))))),?_⟩
  have sg:∀ (a:List Nat) (b:Nat),(V.str (S a)=V.str (S [b]))↔a=[b]:=fun a b=>⟨fun z=>by
   injection z with z
   exact S_inj z,fun z=>by rw[z]⟩
  have hcut:=word_cut wo;have hll':(figsOf wo).length+(letsOf wo).length=wo.length:=by
   have:=congrArg List.length hcut
   rw[List.length_append] at this;omega
  have hwl:(S wo).length≤sizeLine:=by rw[S_len];exact Nat.le_trans hl (by decide)
  have hll:(S (letsOf wo)).length≤sizeLine:=by rw[S_len];exact Nat.le_trans (show (letsOf wo).length≤1000 by omega) (by decide)
  have el:Txt.lstripChars (S wo) (Str.ofString "0123456789")=S (letsOf wo):=by
   rw[lit_fig]
   conv=>lhs;rw[hcut]
   exact lstrip_S (figs_all wo) lets_first
  have es:Txt.slice (S wo) none (some (((S wo).length:Int)-((S (letsOf wo)).length:Int)))=S (figsOf wo):=by
   have e1:((S wo).length:Int)-((S (letsOf wo)).length:Int)=((figsOf wo).length:Int):=by
    rw[S_len,S_len];omega
   rw[e1]
   have:=slice_to (a:=figsOf wo) (b:=letsOf wo)
   rwa [← hcut] at this
  have hal:∀ c∈letsOf wo,c<128:=fun c hc=>ha c (by rw[hcut];exact List.mem_append_right _ hc)
  by_cases hs:sgn'=[43]∨sgn'=[45]
  ·have hT:readT sgn' wo=match readN (figsOf wo) (letsOf wo),readS (letsOf wo) (-1) 0 with
    | some n,some m=>some ((m:Int),if sgn'=[45] then -(n:Int) else (n:Int))
    | _,_=>none:=if_pos hs
   rcases hs with rfl | rfl
   ·refine⟨_,rfl,rfl,_,rfl,iteN (by rw[lit_plus,decide_eq_true rfl];decide) ?_⟩;refine⟨_,rfl,rfl,_,_,rfl,rfl,hwl,?_⟩;rw[el];refine⟨_,rfl,_,rfl,_,rfl,hwl,_,rfl,_,rfl,hll,_,_,rfl,rfl,_,rfl,_,rfl,hwl,_,rfl,figsOf wo,letsOf wo,(by rw[es];rfl),figs_all wo,by omega,fun n hn=>?_,fun hn=>e (by rw[hT,hn])⟩;refine⟨_,rfl,letsOf wo,rfl,hal,fun m hm=>?_,fun hm=>e (by rw[hT,hn,hm])⟩;refine⟨_,rfl,rfl,_,rfl,?_⟩;refine iteN (by rw[lit_minus];exact fun y=>absurd ((sg _ _).mp (of_decide_eq_true y)) (by decide)) ?_;exact⟨_,rfl,(by show 2≤sizeLine;decide),fun c hc=>q _ (by rw[hT,hn,hm]) c hc⟩
   ·refine⟨_,rfl,rfl,_,rfl,iteY (by rw[lit_plus,decide_eq_false (fun y=>absurd ((sg _ _).mp y) (by decide))];rfl) ?_⟩;refine⟨_,rfl,rfl,_,rfl,iteN (by rw[lit_minus,decide_eq_true rfl];decide) ?_⟩;refine⟨_,rfl,rfl,_,_,rfl,rfl,hwl,?_⟩;rw[el];refine⟨_,rfl,_,rfl,_,rfl,hwl,_,rfl,_,rfl,hll,_,_,rfl,rfl,_,rfl,_,rfl,hwl,_,rfl,figsOf wo,letsOf wo,(by rw[es];rfl),figs_all wo,by omega,fun n hn=>?_,fun hn=>e (by rw[hT,hn])⟩;refine⟨_,rfl,letsOf wo,rfl,hal,fun m hm=>?_,fun hm=>e (by rw[hT,hn,hm])⟩;refine⟨_,rfl,rfl,_,rfl,?_⟩;refine iteY (by rw[lit_minus];exact decide_eq_true rfl) ?_;exact⟨_,rfl,_,rfl,(by show 2≤sizeLine;decide),fun c hc=>q _ (by rw[hT,hn,hm]) c hc⟩
  ·refine⟨_,rfl,rfl,_,rfl,iteY (by rw[lit_plus,decide_eq_false (fun y=>hs (.inl ((sg _ _).mp y)))];rfl) ?_⟩;refine⟨_,rfl,rfl,_,rfl,iteY (by rw[lit_minus,decide_eq_false (fun y=>hs (.inr ((sg _ _).mp y)))];rfl) ?_⟩;exact e (by unfold readT;rw[if_neg hs])
noncomputable def spIsForm9 (K:PySem.W.Frag):Sp:=fun vs H Q _=>∃ (a:Addr) (f:Terms),vs=[.ref a]∧TLo H a f∧Q (.bl (isF f (-1))) H
theorem sc_Z2:FnScope ["some", "last", "members", "number"] ["some"] (defScope s_Z2):=⟨rfl,rfl,rfl,by decide +kernel,rfl,by decide +kernel,by decide +kernel⟩
theorem ok_Z2 (T:Txt K mg):FnOk P w K mg base CX0 1 T.a_Z2 T.fd_Z2 ["some"] (spIsForm9 K):=by
 refine T.d_Z2.F.ok sc_Z2 (fun vs H Q E h=>?_) (fun cdv A outer s H vs Q E hr h=>?_)
 ·obtain⟨a,f,rfl,hT,q⟩:=h;rfl
 ·obtain⟨a,f,rfl,hT,q⟩:=h;have hu:=hu_of hr;refine⟨_,(pss_cons (ps_set (i:=1) sc_Z2.nd rfl (Or.inl rfl) (pe_un un_neg pe_int))
   (pss_cons (ps_for PassesOwn.never rfl (pi_list (pv 0)) (pg_tup (n:=2) rfl (pgs_cons (pg_name (i:=2) sc_Z2.nd rfl (Or.inl rfl)) (pgs_cons (pg_name (i:=3) sc_Z2.nd rfl (Or.inl rfl)) pgs_nil)))
    (pss_cons (ps_if (PW.pt (pw_or (pt_cmpR op_le (pv 2) (pv 1) (nomark _)) (pw_or1 (pt_cmpR op_eq (pv 3) pe_int (nomark _))))) (pss_one (ps_ret pe_bl)) pss_nil)
   (pss_one (ps_set (i:=1) sc_Z2.nd rfl (Or.inl rfl) (pv 2)))))
   (pss_one (ps_ret pe_bl)))),?_⟩
  obtain⟨ps,hS,hP⟩:=id hT;have hpl:=hP.length;refine⟨_,rfl,_,rfl,a,rfl,⟨_,SqL.of hS⟩,?_⟩;refine for_list (K:=K) (a:=a) (xs:=ps.map V.ref) (fun i σ G=>∃ (v2 v3:Option V) (la:Int),σ = [some (.ref a),some (.int la),v2,v3]∧isF f (-1)=isF (f.drop i) la∧G=H)
   ⟨none,none,-1,rfl,by rw[List.drop_zero],rfl⟩ (fun i σ G _ ⟨_,_,_,_,_,e⟩=>by rw[e];exact SqL.of hS) ?_ ?_
  ·rintro i y σ G hi ⟨v2,v3,la,rfl,hla,rfl⟩;obtain⟨p,hpi,rfl⟩:=at_ref hi;obtain⟨t,ht1,ht2⟩:=hP.at' hpi;have ed:f.drop i=t :: f.drop (i+1):=by
    rw[List.drop_eq_getElem_cons (List.getElem?_eq_some_iff.mp ht1).1];congr 1;exact (List.getElem?_eq_some_iff.mp ht1).2
   rw[ed] at hla;refine⟨p,_,rfl,SqT.of ht2,rfl,_,_,rfl,_,_,rfl,rfl,?_⟩;refine⟨_,rfl,_,rfl,_,_,rfl,rfl,_,rfl,ite2 (fun z=>?_) (fun z=>?_)⟩
   ·have z':=of_decide_eq_true z;have e1:isF f (-1)=false:=by rw[hla];unfold isF;rw[if_pos (.inl z')]
    rw[e1] at q;exact iteT q
   ·have z':¬ t.1≤la:=fun y=>z (decide_eq_true y)
    refine⟨_,rfl,rfl,_,rfl,ite2 (fun z2=>?_) (fun z2=>?_)⟩
    ·have y:t.2=0:=by have h:=of_decide_eq_true z2;injection h
     have e1:isF f (-1)=false:=by rw[hla];unfold isF;rw[if_pos (.inr y)]
     rw[e1] at q;exact q
    ·have y:¬ t.2=0:=fun y=>z2 (decide_eq_true (by rw[y]))
     refine⟨_,rfl,_,_,t.1,rfl,?_,rfl⟩;rw[hla]
     conv=>lhs;unfold isF
     rw[if_neg (fun w=>w.elim z' y)]
  ·rintro σ G ⟨v2,v3,la,rfl,hla,rfl⟩;rw[List.length_map,hpl,List.drop_length] at hla;rw[hla] at q;exact q
noncomputable def spRead9 (NF:Addr):Sp:=fun vs H Q E=>∃ l:List Nat,vs=[.str (S l)]∧(∀ c∈l,c<128)∧l.length≤900∧(∀ f,formR l=some f→∀ (c:Addr) (H':Hp),H c=none→TLo H' c f→Same H H'→Q (.ref c) H')∧(formR l=none→∀ H',Same H H'→E (.ref NF) none H')
theorem sc_Z1:FnScope ["text", "words", "form"] ["text"] (defScope s_Z1):=⟨rfl,rfl,rfl,by decide +kernel,rfl,by decide +kernel,by decide +kernel⟩
theorem nd_Z1_1:(["sign", "word"]:List Str).Nodup:=by decide +kernel
theorem ok_Z1 (T:Txt K mg):FnOk P w K mg base (CXe P w) 4 T.a_Z1 T.fd_Z1 ["text"] (spRead9 T.a_NoForm):=by
 refine T.d_Z1.F.okE sc_Z1 (fun vs H Q E h=>?_) (fun cdv A outer s H vs Q E hr h=>?_)
 ·obtain⟨l,rfl,ha,hl,q,e⟩:=h;rfl
 ·obtain⟨l,rfl,ha,hl,q,e⟩:=h;have hu:=hu_of hr;refine⟨_,(pss_cons (PS.nox (ps_if (pt_cmpR op_eq (pv 0) pe_str (nomark _)) (pss_one (ps_ret (pe_lst pa_nil))) pss_nil))
   (pss_cons (PS.nox (ps_set (i:=1) sc_Z1.nd rfl (Or.inl rfl) (pe_bm PySem.F.plainAttrs_str PySem.F.slot_str_split PySem.F.type_str_split mt_split (pv 0) (pa_cons pe_str pa_nil))))
   (pss_cons (PS.nox (ps_cut (ps_if (pt_val (pe_bm PySem.F.plainAttrs_str PySem.F.slot_str_startswith PySem.F.type_str_startswith mt_startswith (pv 0) (pa_cons pe_str pa_nil)) (fun _=>rfl)) (pss_cons (ps_asg (pe_slice sl_str (pe_ix ix_list (pv 1) pe_int (fun _ _=>rfl)) (po_some pe_int) po_none) (pg_sub (pv 1) pe_int set_list))
   (pss_one (ps_expr (pe_bm PySem.F.plainAttrs_list PySem.F.slot_list_insert PySem.F.type_list_insert mt_insert (pv 1) (pa_cons pe_int (pa_cons pe_str pa_nil)))))) (pss_one (ps_expr (pe_bm PySem.F.plainAttrs_list PySem.F.slot_list_insert PySem.F.type_list_insert mt_insert (pv 1) (pa_cons pe_int (pa_cons pe_str pa_nil))))))))
   (pss_cons (ps_if (pt_cmpR op_ne (pe_op op_mod (pe_callB call_len_seq (by rfl) T.n_len PySem.boot_len (pa_cons (pv 1) pa_nil)) pe_int) pe_int (nomark _)) (pss_one (ps_raise lets_def rfl (by rfl) T.g_NoForm T.x_NoForm)) pss_nil)
   (pss_cons (ps_setCE lets_def (i:=2) (g:=(gTup K 2 (gCons (gName 0) (gCons (gName 1) gNil)))) 2 sc_Z1.nd rfl (Or.inl rfl) rfl (by exact CompSc.of (defScope s_Z1) ["text", "words", "form"] rfl rfl rfl (by decide +kernel) rfl (by decide +kernel) (by decide +kernel)) (by decide +kernel) (pi_zip rfl T.n_zip (pa_cons (pe_two (pv 1) (po_some pe_int) (po_some pe_int)) (pa_cons (pe_two (pv 1) (po_some pe_int) (po_some pe_int)) pa_nil)))
    (fun C s₀ H₀ fp=>(pg_tup (n:=2) rfl (pgs_cons (pg_name (i:=0) nd_Z1_1 rfl (Or.inl rfl) (Or.inr rfl)) (pgs_cons (pg_name (i:=1) nd_Z1_1 rfl (Or.inl rfl) (Or.inr rfl)) pgs_nil)))) (fun C s₀ H₀ fp=>pts_nil) (fun C s₀ H₀ fp=>(pe_call (ok_Z20 (P:=P) (w:=w) (base:=base) T) hr (by rfl) T.d_Z20.m T.d_Z20.F.kp T.d_Z20.b .nil passC (pa_cons (pv 0) (pa_cons (pv 1) pa_nil)))))
   (pss_cons (ps_if (pt_not (pt_val (pe_call (ok_Z2 (P:=P) (w:=w) (base:=base) T) (hr.mono (by decide)) (by rfl) T.d_Z2.m T.d_Z2.F.kp T.d_Z2.b .nil pass0 (pa_cons (pv 2) pa_nil)) (fun _=>rfl))) (pss_one (ps_raise lets_def rfl (by rfl) T.g_NoForm T.x_NoForm)) pss_nil)
   (pss_one (PS.nox (ps_ret (pv 2)))))))))),?_⟩
  refine⟨_,rfl,rfl,_,rfl,?_⟩;by_cases h0:l=[48]
  ·refine iteY (decide_eq_true (by rw[h0,lit_0])) ?_;exact⟨Nat.zero_le _,fun c hc=>q [] (by unfold formR;rw[if_pos h0]) c _ hc ⟨[],upd_same,.nil⟩ (Same.upd hc)⟩
  refine iteN (fun w=>h0 (by
   have:=of_decide_eq_true w
   injection this with this
   rw[lit_0] at this;exact S_inj this)) ?_
  have hsp:Txt.split (S l) (S [32])=(splitL l).map S:=by
   have:=split_S (c:=32) (split_ne l) (split_no l)
   rwa [split_join l] at this
  refine⟨_,rfl,rfl,_,_,rfl,rfl,(by rw[lit_sp];rfl),(by rw[S_len];exact Nat.lt_of_le_of_lt hl (by decide)),fun W hW=>?_⟩;rw[lit_sp,hsp];have s1:Same H (upd H W (.lst (((splitL l).map S).map V.str))):=Same.upd hW;have w1:upd H W (.lst (((splitL l).map S).map V.str)) W=some (.lst (((splitL l).map S).map V.str)):=upd_same;generalize upd H W (.lst (((splitL l).map S).map V.str))=H1 at s1 w1;have hlens:=split_lens l;have hcs:=split_cs l;refine⟨fun σ' G' => σ'=[some (.str (S l)),some (.ref W),none]∧G' W=some (.lst (((wordsR l).map S).map V.str))∧Same H G',?_,?_⟩
  ·obtain⟨w0,wr,ew⟩:∃ w0 wr,splitL l=w0 :: wr:=by
    cases e:splitL l with
    | nil=>exact absurd e (split_ne l)
    | cons a b=>exact⟨a,b,rfl⟩
   rw[ew] at w1;refine⟨_,rfl,rfl,_,_,rfl,rfl,_,rfl,?_⟩;have hwrl:((wr.map S).map V.str).length≤1001:=by rw[List.length_map,List.length_map];rw[ew,List.length_cons] at hlens;omega
   by_cases h45:l.head? = some 45
   ·refine iteY (by rw[lit_minus,starts_head];exact decide_eq_true h45) ?_;obtain⟨w',rfl⟩:∃ w',w0=45 :: w':=split_head h45 (by decide) ew;have hwl:(S (45 :: w')).length≤sizeLine:=by
     rw[S_len]
     have:=hlens.2 (45 :: w') (by rw[ew];simp)
     exact Nat.le_trans this (Nat.le_trans hl (by decide))
    have esl:Txt.slice (S (45 :: w')) (some 1) none=S w':=slice_off (a:=[45]) (b:=w');refine⟨_,rfl,W,_,_,_,rfl,rfl,SqL.of w1,atI_nat (j:=0) rfl,_,rfl,_,rfl,hwl,_,rfl,W,_,_,0,rfl,rfl,w1,(by show ixN (_+1) 0=some 0;unfold ixN;simp),?_⟩;refine⟨_,rfl,.inl ⟨rfl,_,SqL.of upd_same⟩,W,_,0,_,rfl,rfl,upd_same,Nat.zero_le _,?_,?_⟩
    ·rw[List.length_set];show ((wr.map S).map V.str).length+1<_;exact small6 (by omega)
    refine⟨rfl,?_,(s1.write hW).write hW⟩;rw[upd_same,esl,lit_minus];unfold wordsR;rw[if_pos h45,ew];rfl
   ·refine iteN (by rw[lit_minus,starts_head,decide_eq_false h45];decide) ?_;refine⟨_,rfl,.inl ⟨rfl,_,SqL.of w1⟩,W,_,0,_,rfl,rfl,w1,Nat.zero_le _,?_,?_⟩
    ·show ((wr.map S).map V.str).length+1<_;exact small6 (by omega)
    refine⟨rfl,?_,s1.write hW⟩;rw[upd_same,lit_plus];unfold wordsR;rw[if_neg h45,ew];rfl
  ·rintro σ' G' ⟨rfl,w2,s2⟩;have hwr:=wordsR_ok l;have hfr:∀ x,readPs (wordsR l)=x→formR l=match x with
     | some f=>if isF f (-1)=true then some f else none
     | none=>none:=fun x hx=>by unfold formR;rw[if_neg h0,hx]<;>(cases x <;> rfl)
   refine⟨_,rfl,W,_,rfl,.inl (SqL.of w2),_,_,rfl,rfl,(by show (0:Int)<2;decide),rfl,_,rfl,?_⟩;by_cases hev:(wordsR l).length % 2=0
   rotate_left
   ·refine iteY (by
     show (!decide (V.int (((((wordsR l).map S).map V.str).length:Int) % 2)=V.int 0))=true;rw[List.length_map,List.length_map,decide_eq_false (fun z=>by injection z with z;omega)];rfl) ?_
    exact e (hfr none (readPs_odd hev)) G' s2
   refine iteN (by
    show ¬ (!decide (V.int (((((wordsR l).map S).map V.str).length:Int) % 2)=V.int 0))=true;rw[List.length_map,List.length_map,decide_eq_true (by congr 1;omega)];decide) ?_
   obtain⟨pp,hpp⟩:=pairs_ex hev;have hpl:2 * pp.length=(wordsR l).length:=by rw[hpp,inter_len']
   have ev:((wordsR l).map S).map V.str=pp.flatMap fun t:List Nat × List Nat=>[V.str (S t.1),V.str (S t.2)]:=by
    rw[hpp,List.map_map,List.map_flatMap];rfl
   have hrd:readPs (wordsR l)=rdP pp:=by rw[hpp];exact readPs_pairs pp
   have hmem:∀ t∈pp,t.2∈wordsR l:=fun t ht=>by rw[hpp];exact List.mem_flatMap.mpr ⟨t,ht,by simp⟩
   rw[ev] at w2;have hln:(pp.flatMap fun t:List Nat × List Nat=>[V.str (S t.1),V.str (S t.2)]).length=2 * pp.length:=inter_len _ _ _;refine⟨_,rfl,_,rfl,_,rfl,rfl,0,W,_,rfl,rfl,SqL.of w2,Nat.zero_le _,fun A hA=>?_⟩;rw[pick_0 (fun t:List Nat × List Nat=>V.str (S t.1)) (fun t=>V.str (S t.2))];have b1:Same G' (upd G' A (.lst (pp.map fun t=>V.str (S t.1)))):=Same.upd hA;have hp1:1≤pp.length:=by have:=hwr.1;omega
   refine⟨_,rfl,_,rfl,_,rfl,rfl,1,W,_,rfl,rfl,SqL.of (b1 _ _ w2),by rw[hln];omega,fun B hB=>?_⟩;rw[pick_1 (fun t:List Nat × List Nat=>V.str (S t.1)) (fun t=>V.str (S t.2))];have b2:Same (upd G' A (.lst (pp.map fun t=>V.str (S t.1)))) (upd (upd G' A (.lst (pp.map fun t=>V.str (S t.1)))) B (.lst (pp.map fun t=>V.str (S t.2)))):=Same.upd hB;have s3:=s2.trans (b1.trans b2);have wA:=b2 _ _ (upd_same:upd G' A (.lst (pp.map fun t=>V.str (S t.1))) A=_);have wB:(upd (upd G' A (.lst (pp.map fun t=>V.str (S t.1)))) B (.lst (pp.map fun t=>V.str (S t.2)))) B=some (.lst (pp.map fun t=>V.str (S t.2))):=upd_same;generalize upd (upd G' A (.lst (pp.map fun t=>V.str (S t.1)))) B (.lst (pp.map fun t=>V.str (S t.2)))=H2 at s3 wA wB;refine⟨A,B,rfl,⟨_,SqL.of wA⟩,⟨_,SqL.of wB⟩,?_⟩;refine comp_zip (K:=K) (a:=A) (b:=B) (xs:=pp.map fun t=>V.str (S t.1)) (ys:=pp.map fun t=>V.str (S t.2)) (by rw[List.length_map,List.length_map])
    (fun i zs σ G=>∃ (v0 v1:Option V) (qs:List Addr) (fs:Terms),σ = [v0,v1]∧zs=qs.map V.ref∧Tups G qs fs∧fs.length=i∧(∀ rest,rdP (pp.drop i)=some rest→rdP pp=some (fs++rest))∧(rdP (pp.drop i)=none→rdP pp=none)∧G A=some (.lst (pp.map fun t=>V.str (S t.1)))∧G B=some (.lst (pp.map fun t=>V.str (S t.2)))∧Same H G)
    ⟨none,none,[],[],rfl,rfl,.nil,rfl,(fun rest h=>by rw[List.drop_zero] at h;exact h),(fun h=>by rw[List.drop_zero] at h;exact h),wA,wB,s3⟩ (fun i zs σ G hi ⟨_,_,qs,fs,_,e1,e2,e5,_,_,e3,e4,_⟩=>⟨SqL.of e3,SqL.of e4,by rw[e1,List.length_map,e2.length,e5];exact Nat.le_refl _⟩) (by rw[List.length_map];exact Nat.le_of_lt (small6 (by have:=hwr.2.1;omega))) ?_ ?_
   ·rintro i x y zs σ G T' hx hy ⟨v0,v1,qs,fs,rfl,rfl,g1,g5,g6,g7,g2,g3,g4⟩ hT';rw[List.getElem?_map] at hx hy;obtain⟨t,ht,rfl⟩:∃ t,pp[i]? = some t∧V.str (S t.1)=x:=by
     cases e:pp[i]? with
     | none=>rw[e] at hx;cases hx
     | some t=>rw[e] at hx;exact⟨t,rfl,Option.some.inj hx⟩
    rw[ht] at hy;cases hy;have ed:pp.drop i=t :: pp.drop (i+1):=by
     rw[List.drop_eq_getElem_cons (List.getElem?_eq_some_iff.mp ht).1];congr 1;exact (List.getElem?_eq_some_iff.mp ht).2
    have htm:=hmem t (List.mem_of_getElem? ht);have c1:Same G (upd G T' (.tup [V.str (S t.1),V.str (S t.2)])):=Same.upd hT';refine⟨T',_,rfl,SqT.of upd_same,rfl,_,_,rfl,_,_,rfl,rfl,?_⟩;refine tt ?_;refine⟨_,rfl,_,rfl,t.1,t.2,rfl,(fun c hc=>((hwr.2.2 t.2 htm).1 c hc).elim (ha c) (fun z=>by rw[z];decide)),(by have:=(hwr.2.2 t.2 htm).2;omega),fun u hu c hc=>?_,fun hn=>?_⟩
    ·have c2:Same (upd G T' (.tup [V.str (S t.1),V.str (S t.2)])) (upd (upd G T' (.tup [V.str (S t.1),V.str (S t.2)])) c (.tup [.int u.1,.int u.2])):=Same.upd hc;have c3:=c1.trans c2;refine⟨_,_,qs ++ [c],fs ++ [u],rfl,(by rw[List.map_append];rfl),Tups.snoc (g1.keep fun b xs z=>c3 b _ z) upd_same,by rw[List.length_append,g5];rfl,fun rest hr=>?_,fun hr=>?_,c3 _ _ g2,c3 _ _ g3,g4.trans c3⟩
     ·rw[List.append_assoc];exact g6 (u :: rest) (by rw[ed];unfold rdP;rw[hu,hr])
     ·exact g7 (by rw[ed];unfold rdP;rw[hu,hr])
    ·exact e (hfr none (by rw[hrd];exact g7 (by rw[ed];unfold rdP;rw[hn]))) _ (g4.trans c1)
   ·rintro zs σ G ⟨v0,v1,qs,fs,rfl,rfl,g1,g5,g6,g7,g2,g3,g4⟩ D hD;rw[List.length_map,List.drop_length] at g6;have hfs:=g6 [] rfl;rw[List.append_nil] at hfs;have d1:Same G (upd G D (.lst (qs.map V.ref))):=Same.upd hD;have hT:TLo (upd G D (.lst (qs.map V.ref))) D fs:=⟨qs,upd_same,g1.keep fun b xs z=>d1 b _ z⟩;have hff:=hfr (some fs) (by rw[hrd];exact hfs);refine⟨_,rfl,D,fs,rfl,hT,?_⟩;cases hi:isF fs (-1) with
    | true=>exact⟨true,rfl,iteF ⟨_,rfl,q fs (by rw[hff];exact if_pos hi) D _ (g4.free hD) hT (g4.trans d1)⟩⟩
    | false=>exact⟨false,rfl,iteT (e (by rw[hff];exact if_neg (by rw[hi];decide)) _ (g4.trans d1))⟩
noncomputable def spHolds9 (K:PySem.W.Frag):Sp:=fun vs H Q _=>∃ l:List Nat,vs=[.str (S l)]∧(∀ c∈l,c<128)∧l.length≤500∧∀ H',Same H H'→Q (.bl true) H'
theorem sc_Z9:FnScope ["_law_text", "_law_caught", "_law_found", "e", "_law_due_here", "_law_sorts"] ["_law_text"] (defScope s_Z9):=⟨rfl,rfl,rfl,by decide +kernel,rfl,by decide +kernel,by decide +kernel⟩
theorem ok_Z9 (T:Txt K mg):FnOk P w K mg base CX0 5 T.a_Z9 T.fd_Z9 ["_law_text"] (spHolds9 K):=by
 refine T.d_Z9.F.ok sc_Z9 (fun vs H Q E h=>?_) (fun cdv A outer s H vs Q E hr h=>?_)
 ·obtain⟨l,rfl,ha,hl,q⟩:=h;rfl
 ·obtain⟨l,rfl,ha,hl,q⟩:=h;have hu:=hu_of hr;refine⟨_,(pss_cons (ps_set (i:=1) sc_Z9.nd rfl (Or.inl rfl) pe_non)
   (pss_cons (ps_set (i:=2) sc_Z9.nd rfl (Or.inl rfl) pe_non)
   (pss_cons (ps_tryA (i:=3) (j:=1) (l:=2) (own_nox own_def) (ok_Z1 (P:=P) (w:=w) (base:=base) T) hr T.d_Z1.m T.d_Z1.F.kp T.d_Z1.b (pa_cons (pv 0) pa_nil) sc_Z9.nd rfl rfl rfl (by decide) T.g_FormError T.x_FormError)
   (pss_cons (ps_set (i:=4) sc_Z9.nd rfl (Or.inl rfl) (pe_call (ok_Z6 (P:=P) (w:=w) (base:=base) T) (hr.mono (by decide)) (by rfl) T.d_Z6.m T.d_Z6.F.kp T.d_Z6.b .nil pass0 (pa_cons (pv 0) pa_nil)))
   (pss_cons (ps_if (pt_cmpR op_notN (pv 4) pe_non (nomark _)) (pss_one (ps_ret (pe_and (pe_cmpR op_isN (pv 1) pe_non (nomark _)) (pe_one (pe_cmpR (op_eqD (hu60 hr)) (pv 2) (pv 4) (nomark _)))))) pss_nil)
   (pss_cons (ps_set (i:=5) sc_Z9.nd rfl (Or.inl rfl) (pe_lst (pa_cons (pe_callB call_isinstanceE (by rfl) T.n_isinstance PyProof.Rows.boot_isinstance (pa_cons (pv 1) (pa_cons (pe_glob (v := .ref T.a_NoStatement) (by rfl) T.g_NoStatement rfl) pa_nil))) (pa_cons (pe_callB call_isinstanceE (by rfl) T.n_isinstance PyProof.Rows.boot_isinstance (pa_cons (pv 1) (pa_cons (pe_glob (v := .ref T.a_NoLine) (by rfl) T.g_NoLine rfl) pa_nil))) (pa_cons (pe_callB call_isinstanceE (by rfl) T.n_isinstance PyProof.Rows.boot_isinstance (pa_cons (pv 1) (pa_cons (pe_glob (v := .ref T.a_NoName) (by rfl) T.g_NoName rfl) pa_nil))) pa_nil)))))
   (pss_cons (ps_set (i:=5) sc_Z9.nd rfl (Or.inl rfl) (pe_op op_cat (pv 5) (pe_lst (pa_cons (pe_callB call_isinstanceE (by rfl) T.n_isinstance PyProof.Rows.boot_isinstance (pa_cons (pv 1) (pa_cons (pe_glob (v := .ref T.a_NoPull) (by rfl) T.g_NoPull rfl) pa_nil))) (pa_cons (pe_callB call_isinstanceE (by rfl) T.n_isinstance PyProof.Rows.boot_isinstance (pa_cons (pv 1) (pa_cons (pe_glob (v := .ref T.a_NoYesNo) (by rfl) T.g_NoYesNo rfl) pa_nil))) (pa_cons (pe_callB call_isinstanceE (by rfl) T.n_isinstance PyProof.Rows.boot_isinstance (pa_cons (pv 1) (pa_cons (pe_glob (v := .ref T.a_TooMany) (by rfl) T.g_TooMany rfl) pa_nil))) pa_nil))))))
   (pss_one (ps_ret (pe_and (pe_callB call_isinstanceE (by rfl) T.n_isinstance PyProof.Rows.boot_isinstance (pa_cons (pv 1) (pa_cons (pe_glob (v := .ref T.a_NoForm) (by rfl) T.g_NoForm rfl) pa_nil))) (pe_and (pe_callB call_isinstanceE (by rfl) T.n_isinstance PyProof.Rows.boot_isinstance (pa_cons (pv 1) (pa_cons (pe_bltn (v := .ty "ValueError") (by rfl) T.n_ValueError boot_VE rfl) pa_nil))) (pe_one (pe_cmpR op_notIn_seq pe_bl (pv 5) rfl))))))))))))),?_⟩
  refine⟨_,rfl,l,rfl,ha,by omega,fun f hf c H1 hc0 hT s1=>?_,fun hn H1 s1=>⟨T.a_NoForm,_,rfl,T.x_NoForm,by simp,fun e he=>?_⟩⟩
  ·refine⟨_,rfl,l,rfl,ha,hl,fun H2 s2 hn=>?_,fun f' c2 H2 hf' hc2 hT2 s2=>?_⟩
   ·rw[hf] at hn;cases hn
   rw[hf] at hf';cases hf';refine⟨_,rfl,rfl,_,rfl,iteY (by simp) ?_⟩;refine⟨_,rfl,rfl,_,rfl,iteY rfl ?_⟩;refine⟨_,rfl,_,rfl,dF f,dF f,(hT.keep s2).is,hT2.is,Nat.le_trans (dep_dF f) (by decide),?_⟩;rw[deq_self];exact q _ (s1.trans s2)
  have sE:Same H1 (upd H1 e (excO e T.a_NoForm)):=Same.upd he;have hx0:upd H1 e (excO e T.a_NoForm) e=some (excO e T.a_NoForm):=upd_same;generalize upd H1 e (excO e T.a_NoForm)=HE at sE hx0 ⊢;refine⟨_,rfl,l,rfl,ha,hl,fun H2 s2 _=>?_,fun f' c2 H2 hf' hc2 hT2 s2=>?_⟩
  rotate_left
  ·rw[hn] at hf';cases hf'
  refine⟨_,rfl,rfl,_,rfl,iteN (by simp) ?_⟩;have hx:=s2 _ _ hx0;refine⟨_,rfl,e,T.a_NoForm,_,false,hx,T.x_NoForm,.inl ⟨T.a_NoStatement,rfl,T.i_NoForm_NoStatement⟩,?_⟩;refine⟨_,rfl,e,T.a_NoForm,_,false,hx,T.x_NoForm,.inl ⟨T.a_NoLine,rfl,T.i_NoForm_NoLine⟩,?_⟩;refine⟨_,rfl,e,T.a_NoForm,_,false,hx,T.x_NoForm,.inl ⟨T.a_NoName,rfl,T.i_NoForm_NoName⟩,?_⟩;refine⟨by show 3≤sizeLine;decide,fun l1 hl1=>?_⟩;have t2:Same H2 (upd H2 l1 (.lst [.bl false,.bl false,.bl false])):=Same.upd hl1;have hl1':upd H2 l1 (.lst [.bl false,.bl false,.bl false]) l1=some (.lst [.bl false,.bl false,.bl false]):=upd_same;have hx2:=t2 _ _ hx;generalize upd H2 l1 (.lst [.bl false,.bl false,.bl false])=H3 at t2 hl1' hx2;refine⟨_,rfl,_,rfl,e,T.a_NoForm,_,false,hx2,T.x_NoForm,.inl ⟨T.a_NoPull,rfl,T.i_NoForm_NoPull⟩,?_⟩;refine⟨_,rfl,e,T.a_NoForm,_,false,hx2,T.x_NoForm,.inl ⟨T.a_NoYesNo,rfl,T.i_NoForm_NoYesNo⟩,?_⟩;refine⟨_,rfl,e,T.a_NoForm,_,false,hx2,T.x_NoForm,.inl ⟨T.a_TooMany,rfl,T.i_NoForm_TooMany⟩,?_⟩;refine⟨by show 3≤sizeLine;decide,fun l2 hl2=>?_⟩;have t3:Same H3 (upd H3 l2 (.lst [.bl false,.bl false,.bl false])):=Same.upd hl2;have hl2':upd H3 l2 (.lst [.bl false,.bl false,.bl false]) l2=some (.lst [.bl false,.bl false,.bl false]):=upd_same;have hx3:=t3 _ _ hx2;have hl3:=t3 _ _ hl1';generalize upd H3 l2 (.lst [.bl false,.bl false,.bl false])=H4 at t3 hl2' hx3 hl3;refine⟨l1,l2,_,_,rfl,rfl,hl3,hl2',(by show 6≤sizeLine;decide),fun l3 hl3'=>?_⟩;have t4:Same H4 (upd H4 l3 (.lst ([.bl false,.bl false,.bl false] ++ [.bl false,.bl false,.bl false]))):=Same.upd hl3';have hl4:upd H4 l3 (.lst ([.bl false,.bl false,.bl false] ++ [.bl false,.bl false,.bl false])) l3=some (.lst [.bl false,.bl false,.bl false,.bl false,.bl false,.bl false]):=upd_same;have hx4:=t4 _ _ hx3;generalize upd H4 l3 (.lst ([.bl false,.bl false,.bl false] ++ [.bl false,.bl false,.bl false]))=H5 at t4 hl4 hx4;refine⟨_,rfl,e,T.a_NoForm,_,true,hx4,T.x_NoForm,.inl ⟨T.a_NoForm,rfl,T.i_NoForm_NoForm⟩,true,rfl,iteY rfl ?_⟩;refine⟨_,rfl,e,T.a_NoForm,_,true,hx4,T.x_NoForm,.inr ⟨"ValueError",rfl,T.v_NoForm⟩,true,rfl,iteY rfl ?_⟩;exact⟨_,rfl,l3,_,rfl,.inl (SqL.of hl4),rfl,rfl,q H5 (s1.trans (sE.trans (s2.trans (t2.trans (t3.trans t4)))))⟩
noncomputable def spBent9 (K:PySem.W.Frag):Sp:=fun vs H Q _=>∃ (l:List Nat) (xa:Addr) (xs:List Int),vs=[.str (S l),.ref xa]∧(∀ c∈l,c<128)∧l.length≤240∧H xa=some (.lst (xs.map V.int))∧(xs.length=12∧∀ x∈xs,0≤x)∧∀ (m:List Nat) (H':Hp),(∀ c∈m,c<128)→m.length≤500→Same H H'→Q (.str (S m)) H'
theorem sc_Z4:FnScope ["_law_text", "_law_xs", "_law_some", "_law_sign", "_law_at_here", "_law_way"] ["_law_text", "_law_xs"] (defScope s_Z4):=⟨rfl,rfl,rfl,by decide +kernel,rfl,by decide +kernel,by decide +kernel⟩
theorem ok_Z4 (T:Txt K mg):FnOk P w K mg base CX0 1 T.a_Z4 T.fd_Z4 ["_law_text", "_law_xs"] (spBent9 K):=by
 refine T.d_Z4.F.ok sc_Z4 (fun vs H Q E h=>?_) (fun cdv A outer s H vs Q E hr h=>?_)
 ·obtain⟨l,xa,xs,rfl,ha,hl,hx,hxl,q⟩:=h;rfl
 ·obtain⟨l,xa,xs,rfl,ha,hl,hx,hxl,q⟩:=h;have hu:=hu_of hr;refine⟨_,(pss_cons (ps_set (i:=2) sc_Z4.nd rfl (Or.inl rfl) pe_str)
   (pss_cons (ps_cut (ps_if (pt_cmpR op_eq (pe_op op_mod (pe_ix ix_list (pv 1) pe_int (fun _ _=>rfl)) pe_int) pe_int (nomark _)) (pss_one (ps_set (i:=2) sc_Z4.nd rfl (Or.inl rfl) pe_str)) pss_nil))
   (pss_cons (ps_set (i:=3) sc_Z4.nd rfl (Or.inl rfl) (pe_ix ix_str (pv 2) (pe_op op_mod (pe_ix ix_list (pv 1) pe_int (fun _ _=>rfl)) (pe_callB call_len_str (by rfl) T.n_len PySem.boot_len (pa_cons (pv 2) pa_nil))) (fun _ _=>rfl)))
   (pss_cons (ps_set (i:=4) sc_Z4.nd rfl (Or.inl rfl) (pe_op op_mod (pe_ix ix_list (pv 1) pe_int (fun _ _=>rfl)) (pe_op op_add (pe_callB call_len_str (by rfl) T.n_len PySem.boot_len (pa_cons (pv 0) pa_nil)) pe_int)))
   (pss_cons (ps_set (i:=5) sc_Z4.nd rfl (Or.inl rfl) (pe_op op_mod (pe_ix ix_list (pv 1) pe_int (fun _ _=>rfl)) pe_int))
   (pss_cons (ps_if (pt_cmpR op_eq (pv 5) pe_int (nomark _)) (pss_one (ps_ret (pe_op op_add_str (pe_slice sl_str (pv 0) po_none (po_some (pv 4))) (pe_slice sl_str (pv 0) (po_some (pe_op op_add (pv 4) pe_int)) po_none)))) pss_nil)
   (pss_cons (ps_if (pt_cmpR op_eq (pv 5) pe_int (nomark _)) (pss_one (ps_ret (pe_op op_add_str (pe_op op_add_str (pe_slice sl_str (pv 0) po_none (po_some (pv 4))) (pv 3)) (pe_slice sl_str (pv 0) (po_some (pe_op op_add (pv 4) pe_int)) po_none)))) pss_nil)
   (pss_cons (ps_if (pt_cmpR op_eq (pv 5) pe_int (nomark _)) (pss_one (ps_ret (pe_op op_add_str (pe_op op_add_str (pe_slice sl_str (pv 0) po_none (po_some (pv 4))) (pv 3)) (pe_slice sl_str (pv 0) (po_some (pv 4)) po_none)))) pss_nil)
   (pss_cons (ps_if (pt_cmpR op_eq (pv 5) pe_int (nomark _)) (pss_one (ps_ret (pe_op op_add_str (pv 0) (pe_ix ix_list (pe_lst (pa_cons pe_str (pa_cons pe_str (pa_cons pe_str (pa_cons pe_str (pa_cons pe_str (pa_cons pe_str (pa_cons pe_str (pa_cons pe_str pa_nil))))))))) (pe_op op_mod (pe_ix ix_list (pv 1) pe_int (fun _ _=>rfl)) pe_int) (fun _ _=>rfl))))) pss_nil)
   (pss_one (ps_ret (pv 0)))))))))))),?_⟩
  have has:∀ k:Nat,k<12→∃ x,atI (xs.map V.int) (k:Int)=some (V.int x)∧0≤x:=fun k hk=>by
   obtain⟨x,hx'⟩:∃ x,xs[k]? = some x:=⟨_,List.getElem?_eq_getElem (by have:=hxl.1;omega)⟩;exact⟨x,atI_nat (by rw[List.getElem?_map,hx'];rfl),hxl.2 x (List.mem_of_getElem? hx')⟩
  obtain⟨x7,h7,n7⟩:=has 7 (by decide);obtain⟨x8,h8,n8⟩:=has 8 (by decide);obtain⟨x9,h9,n9⟩:=has 9 (by decide);obtain⟨x10,h10,n10⟩:=has 10 (by decide);have hlz:(S l).length≤sizeLine:=by rw[S_len];exact Nat.le_trans hl (by decide)
  refine⟨fun σ G=>∃ so:List Nat,σ = [some (.str (S l)),some (.ref xa),some (.str (S so)),none,none,none]∧(∀ c∈so,c<128)∧1≤so.length∧so.length≤100∧G=H,?_,?_⟩
  ·refine⟨_,rfl,xa,_,_,V.int x9,rfl,rfl,SqL.of hx,h9,_,_,rfl,rfl,(by show (0:Int)<4;decide),rfl,_,rfl,ite2 (fun _=>?_) (fun _=>?_)⟩
   ·exact⟨_,rfl,by decide +kernel,by decide +kernel,by decide +kernel,rfl⟩
   ·exact⟨_,rfl,by decide +kernel,by decide +kernel,by decide +kernel,rfl⟩
  rintro σ G ⟨so,rfl,so1,so2,so3,rfl⟩;have hsz:(S so).length≤sizeLine:=by rw[S_len];exact Nat.le_trans so3 (by decide)
  have hsl:0<((S so).length:Int):=by rw[S_len];omega
  obtain⟨i10,hi10⟩:∃ i:Nat,x10 % ((S so).length:Int)=(i:Int):=⟨_,(Int.toNat_of_nonneg (Int.emod_nonneg _ (by omega))).symm⟩;have hi10':i10<so.length:=by have:=Int.emod_lt_of_pos x10 hsl;rw[hi10,S_len] at this;omega
  obtain⟨sc,hsc⟩:∃ c,so[i10]? = some c:=⟨_,List.getElem?_eq_getElem hi10'⟩;have hats:atI (S so).cps.toList (x10 % ((S so).length:Int))=some sc:=by rw[hi10,S_list];exact atI_nat hsc
  have hsc':=so1 sc (List.mem_of_getElem? hsc);refine⟨_,rfl,_,rfl,xa,_,_,V.int x10,rfl,rfl,SqL.of hx,h10,_,rfl,_,rfl,hsz,_,_,rfl,rfl,hsl,_,_,sc,rfl,rfl,hsz,hats,?_⟩;refine⟨_,rfl,xa,_,_,V.int x8,rfl,rfl,SqL.of hx,h8,_,rfl,_,rfl,hlz,_,_,rfl,rfl,_,_,rfl,rfl,(by show (0:Int)<((S l).length:Int)+1;omega),?_⟩;refine⟨_,rfl,xa,_,_,V.int x7,rfl,rfl,SqL.of hx,h7,_,_,rfl,rfl,(by show (0:Int)<6;decide),?_⟩;have fin:∀ m:List Nat,(∀ c∈m,c<128)→m.length≤500→Q (.str (S m)) G:=fun m h1 h2=>q m G h1 h2 (Same.refl _)
  have hz:∀ {a:List Nat},a.length≤1000→(S a).length≤1000:=fun h=>by rw[S_len];exact h
  obtain⟨m1,e1,l1,c1⟩:=slice_any l none (some (x8 % (((S l).length:Int)+1)));obtain⟨m2,e2,l2,c2⟩:=slice_any l (some (x8 % (((S l).length:Int)+1)+1)) none;obtain⟨m3,e3,l3,c3⟩:=slice_any l (some (x8 % (((S l).length:Int)+1))) none;have big:∀ {a b:List Nat},a.length+b.length≤1000→(S a).length+(S b).length≤sizeLine:=fun {a b} h=>by rw[S_len,S_len];exact Nat.le_trans h (by decide)
  have a1:∀ c∈m1,c<128:=fun c hc=>ha c (c1 c hc)
  have a2:∀ c∈m2,c<128:=fun c hc=>ha c (c2 c hc)
  have a3:∀ c∈m3,c<128:=fun c hc=>ha c (c3 c hc)
  have app:∀ {a b:List Nat},(∀ c∈a,c<128)→(∀ c∈b,c<128)→∀ c∈a++b,c<128:=fun h1 h2 c hc=>(List.mem_append.mp hc).elim (h1 c) (h2 c)
  have as:∀ c∈[sc],c<128:=fun c hc=>by rw[List.mem_singleton.mp hc];exact hsc'
  have tot1:m1.length+m2.length≤l.length∨True := .inr trivial;refine⟨_,rfl,rfl,_,rfl,ite2 (fun _=>?_) (fun _=>?_)⟩
  ·refine⟨_,rfl,_,rfl,_,rfl,_,rfl,hlz,?_⟩;rw[e1];refine⟨_,rfl,_,rfl,_,_,rfl,rfl,_,rfl,_,rfl,hlz,?_⟩;rw[e2];refine⟨_,_,rfl,rfl,big (by omega),?_⟩;rw[S_cat];exact fin _ (app a1 a2) (by rw[List.length_append];omega)
  refine⟨_,rfl,rfl,_,rfl,ite2 (fun _=>?_) (fun _=>?_)⟩
  ·refine⟨_,rfl,_,rfl,_,rfl,_,rfl,hlz,?_⟩;rw[e1];refine⟨_,rfl,_,_,rfl,rfl,big (b:=[sc]) (by show _+1≤_;omega),?_⟩;refine⟨_,rfl,_,rfl,_,_,rfl,rfl,_,rfl,_,rfl,hlz,?_⟩;rw[e2];have ec:(S m1++({ cps := #[sc] }:Str))=S (m1 ++ [sc]):=S_cat m1 [sc];rw[ec];refine⟨_,_,rfl,rfl,big (by rw[List.length_append];show _+1+_≤_;omega),?_⟩;rw[S_cat];exact fin _ (app (app a1 as) a2) (by rw[List.length_append,List.length_append];show _+1+_≤_;omega)
  refine⟨_,rfl,rfl,_,rfl,ite2 (fun _=>?_) (fun _=>?_)⟩
  ·refine⟨_,rfl,_,rfl,_,rfl,_,rfl,hlz,?_⟩;rw[e1];refine⟨_,rfl,_,_,rfl,rfl,big (b:=[sc]) (by show _+1≤_;omega),?_⟩;refine⟨_,rfl,_,rfl,_,rfl,_,rfl,hlz,?_⟩;rw[e3];have ec:(S m1++({ cps := #[sc] }:Str))=S (m1 ++ [sc]):=S_cat m1 [sc];rw[ec];refine⟨_,_,rfl,rfl,big (by rw[List.length_append];show _+1+_≤_;omega),?_⟩;rw[S_cat];exact fin _ (app (app a1 as) a3) (by rw[List.length_append,List.length_append];show _+1+_≤_;omega)
  refine⟨_,rfl,rfl,_,rfl,ite2 (fun _=>?_) (fun _=>?_)⟩
  ·refine⟨_,rfl,(by show 8≤sizeLine;decide),fun A hA=>?_⟩;obtain⟨y,hy,hy1,hy2⟩:∃ y:Str,atI [V.str (Str.ofString " + 3"),V.str (Str.ofString " + 0p"),V.str (Str.ofString " - 1p"),V.str (Str.ofString " + "),V.str (Str.ofString "-"),V.str (Str.ofString " - 2op"),V.str (Str.ofString " + p"),V.str (Str.ofString " - -p")] (x10 % 8)=some (V.str y)∧(∀ c∈y.cps.toList,c<128)∧y.cps.toList.length≤10:=by
    obtain e | e | e | e | e | e | e | e:x10 % 8=0∨x10 % 8=1∨x10 % 8=2∨x10 % 8=3∨x10 % 8=4∨x10 % 8=5∨x10 % 8=6∨x10 % 8=7:=by omega
    all_goals rw[e];exact⟨_,rfl,by decide +kernel,by decide +kernel⟩
   have t1:Same G (upd G A (.lst [V.str (Str.ofString " + 3"),V.str (Str.ofString " + 0p"),V.str (Str.ofString " - 1p"),V.str (Str.ofString " + "),V.str (Str.ofString "-"),V.str (Str.ofString " - 2op"),V.str (Str.ofString " + p"),V.str (Str.ofString " - -p")])):=Same.upd hA;refine⟨_,rfl,xa,_,_,V.int x10,rfl,rfl,SqL.of (t1 _ _ hx),h10,_,_,rfl,rfl,(by show (0:Int)<8;decide),A,_,_,V.str y,rfl,rfl,SqL.of upd_same,hy,?_⟩;rw[str_S y];refine⟨_,_,rfl,rfl,big (by omega),?_⟩;rw[S_cat];exact q _ _ (app ha hy1) (by rw[List.length_append];omega) t1
  exact⟨_,rfl,fin l ha (by omega)⟩
noncomputable def spLetters (K:PySem.W.Frag):Sp:=fun vs H Q _=>∃ m:Nat,vs=[.int (m:Int)]∧m<2^16∧∀ H',Same H H'→Q (.str (S (lets m))) H'
theorem sc_Z10:FnScope ["_law_one"] ["_law_one"] (defScope s_Z10):=⟨rfl,rfl,rfl,by decide +kernel,rfl,by decide +kernel,by decide +kernel⟩
theorem nd_Z10_1:(["_law_k", "_law_one"]:List Str).Nodup:=by decide +kernel
theorem ok_Z10 (T:Txt K mg):FnOk P w K mg base CX0 1 T.a_Z10 T.fd_Z10 ["_law_one"] (spLetters K):=by
 refine T.d_Z10.F.ok sc_Z10 (fun vs H Q E h=>?_) (fun cdv A outer s H vs Q E hr h=>?_)
 ·obtain⟨m,rfl,hm,q⟩:=h;rfl
 ·obtain⟨m,rfl,hm,q⟩:=h;have hu:=hu_of hr;refine⟨_,(pss_one (ps_ret (pe_bm PySem.F.plainAttrs_str PySem.F.slot_str_join PySem.F.type_str_join mt_join pe_str (pa_cons (pe_comp (g:=(gName 0)) ["_law_k", "_law_one"] 1 [0] rfl (by exact CompSc.of (defScope s_Z10) ["_law_one"] rfl rfl rfl (by decide +kernel) rfl (by decide +kernel) (by decide +kernel)) (pi_range1 rfl T.n_range (pa_cons pe_int pa_nil))
    (fun cl C s₀ H₀ fp=>(pg_name (i:=0) nd_Z10_1 rfl (Or.inl rfl) (Or.inr rfl))) (fun cl C s₀ H₀ fp=>(pts_one (pt_cmpR op_eq (pe_op op_mod (pe_op op_fdivG (pv 1) (pe_op op_shl pe_int (pv 0))) pe_int) pe_int (nomark _)))) (fun cl C s₀ H₀ fp=>(pe_ix ix_str pe_str (pv 0) (fun _ _=>rfl)))) pa_nil)))),?_⟩
  refine⟨rfl,?_⟩;refine⟨_,rfl,by decide,by decide,?_⟩;refine comp_range (lo:=0) (n:=(16:Int).toNat) (fun i ys σ G=>∃ v0:Option V,σ = [v0,some (.int (m:Int))]∧ys=((((List.range i).filter fun k=>m.testBit k).map fun k=>97+k).map fun c=>S [c]).map V.str∧G=H)
   ⟨none,rfl,rfl,rfl⟩ (fun i ys σ G ⟨_,_,e,_⟩=>by rw[e,List.length_map,List.length_map,List.length_map];exact Nat.le_trans (List.length_filter_le _ _) (by simp)) (by decide) ?_ ?_
  ·rintro i ys σ G hi ⟨v0,rfl,rfl,rfl⟩;have hi':i<16:=hi;unfold gName;have e0:(1:Int) * 2^((0+(i:Int))).toNat=((2^i:Nat):Int):=by rw[Int.zero_add,shl_eq,pow_cast]
   have hlt:(2:Nat)^i≤2^16:=Nat.pow_le_pow_right (by decide) (by omega);have hpp:=Nat.two_pow_pos i;refine⟨_,rfl,_,rfl,_,_,rfl,rfl,⟨by omega,by omega,by decide⟩,_,_,rfl,rfl,(by rw[e0];exact divG_of (by omega) (by omega)),_,_,rfl,rfl,(by show (0:Int)<2;decide),rfl,_,rfl,?_⟩;have eb:(m:Int) / (1 * 2^((0+(i:Int))).toNat) % 2=if m.testBit i=true then 1 else 0:=by
    rw[e0,Nat.testBit_eq_decide_div_mod_eq]
    have:((m:Int) / ((2^i:Nat):Int) % 2)=((m / 2^i % 2:Nat):Int):=by norm_cast
    rw[this];by_cases y:m / 2^i % 2=1
    ·simp[y]
    ·have:m / 2^i % 2=0:=by omega
     simp[this]
   show if decide (V.int ((m:Int) / (1 * 2^((0+(i:Int))).toNat) % 2)=V.int 1)=true then _ else _
   rw[eb];cases hc:m.testBit i
   ·refine iteN (by decide) ⟨_,rfl,?_,rfl⟩;rw[List.range_succ,List.filter_append];simp[hc]
   ·refine iteY (by decide) ?_;refine⟨_,rfl,_,_,_,rfl,rfl,(by rw[lit_let,S_len];show 16≤sizeLine;decide),(by rw[lit_let,S_list,Int.zero_add];exact atI_nat (let_at i hi')),?_⟩;refine⟨_,rfl,?_,rfl⟩;rw[List.range_succ,List.filter_append];simp[hc];rfl
  ·rintro ys σ G ⟨v0,rfl,rfl,rfl⟩ E hE;have e16:((List.range (16:Int).toNat).filter fun k=>m.testBit k).map (fun k=>97+k)=lets m:=by
    unfold lets;rw[← lst_16 hm];rfl
   rw[e16];refine⟨_,E,(lets m).map fun c=>S [c],rfl,rfl,SqL.of upd_same,?_,?_⟩
   ·rw[sum_ones,lit_e]
    have:=lets_len hm
    simp[S_len];omega
   ·rw[lit_e,join_ones];exact q _ (Same.upd hE)
theorem sc_Z14:FnScope ["_law_form_here", "_law_words", "_law_one", "_law_number", "_law_figures"] ["_law_form_here"] (defScope s_Z14):=⟨rfl,rfl,rfl,by decide +kernel,rfl,by decide +kernel,by decide +kernel⟩
theorem ok_Z14 (T:Txt K mg):FnOk P w K mg base CX0 2 T.a_Z14 T.fd_Z14 ["_law_form_here"] (spShown K):=by
 refine T.d_Z14.F.ok sc_Z14 (fun vs H Q E h=>?_) (fun cdv A outer s H vs Q E hr h=>?_)
 ·obtain⟨a,f,rfl,hT,hs,hl,q⟩:=h;rfl
 ·obtain⟨a,f,rfl,hT,hs,hl,q⟩:=h;have hu:=hu_of hr;refine⟨_,(pss_cons (ps_set (i:=1) sc_Z14.nd rfl (Or.inl rfl) (pe_lst pa_nil))
   (pss_cons (ps_for PassesOwn.never rfl (pi_list (pv 0)) (pg_tup (n:=2) rfl (pgs_cons (pg_name (i:=2) sc_Z14.nd rfl (Or.inl rfl)) (pgs_cons (pg_name (i:=3) sc_Z14.nd rfl (Or.inl rfl)) pgs_nil)))
    (pss_cons (ps_set (i:=4) sc_Z14.nd rfl (Or.inl rfl) (pe_callTy call_str_int rfl T.n_str PyProof.Rows.boot_str (pa_cons (pe_callB call_abs (by rfl) T.n_abs PyProof.Rows.boot_abs (pa_cons (pv 3) pa_nil)) pa_nil)))
   (pss_cons (ps_cut (ps_if (PW.pt (pw_and (pt_cmpR op_gt (pv 2) pe_int (nomark _)) (pw_and1 (pt_cmpR op_eq (pe_callB call_abs (by rfl) T.n_abs PyProof.Rows.boot_abs (pa_cons (pv 3) pa_nil)) pe_int (nomark _))))) (pss_one (ps_set (i:=4) sc_Z14.nd rfl (Or.inl rfl) pe_str)) pss_nil))
   (pss_cons (ps_expr (pe_bm PySem.F.plainAttrs_list PySem.F.slot_list_append PySem.F.type_list_append mt_append (pv 1) (pa_cons (pe_ix ix_list (pe_lst (pa_cons pe_str (pa_cons pe_str pa_nil))) (pe_callTy call_int1 rfl T.n_int PyProof.Rows.boot_int (pa_cons (pe_cmpR op_lt (pv 3) pe_int (nomark _)) pa_nil)) (fun _ _=>rfl)) pa_nil)))
   (pss_one (ps_expr (pe_bm PySem.F.plainAttrs_list PySem.F.slot_list_append PySem.F.type_list_append mt_append (pv 1) (pa_cons (pe_op op_add_str (pv 4) (pe_call (ok_Z10 (P:=P) (w:=w) (base:=base) T) hr (by rfl) T.d_Z10.m T.d_Z10.F.kp T.d_Z10.b .nil pass0 (pa_cons (pv 2) pa_nil))) pa_nil))))))))
   (pss_cons (ps_if (pt_cmpR op_eq (pe_callB call_len_seq (by rfl) T.n_len PySem.boot_len (pa_cons (pv 1) pa_nil)) pe_int (nomark _)) (pss_one (ps_ret pe_str)) pss_nil)
   (pss_cons (ps_cut (ps_if (pt_cmpR op_eq (pe_ix ix_list (pv 1) pe_int (fun _ _=>rfl)) pe_str (nomark _)) (pss_one (ps_asg (pe_op op_add_str pe_str (pe_ix ix_list (pv 1) pe_int (fun _ _=>rfl))) (pg_sub (pv 1) pe_int set_list))) pss_nil))
   (pss_one (ps_ret (pe_bm PySem.F.plainAttrs_str PySem.F.slot_str_join PySem.F.type_str_join mt_join pe_str (pa_cons (pe_slice sl_list (pv 1) (po_some pe_int) po_none) pa_nil)))))))),?_⟩
  obtain⟨ps,hS,hP⟩:=id hT;have hpl:=hP.length;refine⟨Nat.zero_le _,fun c hc=>?_⟩;have s0:Same H (upd H c (.lst [])):=Same.upd hc;refine⟨_,rfl,a,rfl,⟨_,SqL.of (s0 _ _ hS)⟩,?_⟩;refine for_list (K:=K) (a:=a) (xs:=ps.map V.ref) (fun i σ G=>∃ v2 v3 v4:Option V,σ = [some (.ref a),some (.ref c),v2,v3,v4]∧G c=some (.lst ((f.take i).flatMap fun t=>[V.str (S [sgn t.2]),V.str (S (wordT t))]))∧Same H G)
   ⟨none,none,none,rfl,upd_same,s0⟩ (fun i σ G _ ⟨_,_,_,_,_,e⟩=>SqL.of (e _ _ hS)) ?_ ?_
  ·rintro i y σ G hi ⟨v2,v3,v4,rfl,g1,sG⟩;obtain⟨p,hpi,rfl⟩:=at_ref hi;obtain⟨t,ht1,ht2⟩:=hP.at' hpi;have hok:=hs t (List.mem_of_getElem? ht1);obtain⟨h0,h1,h2,h3⟩:=id hok;have hil:i<f.length:=(List.getElem?_eq_some_iff.mp ht1).1;have ea:(if t.2<0 then -t.2 else t.2)=((t.2.natAbs:Nat):Int):=by split <;> omega
   have em:t.1=((t.1.toNat:Nat):Int):=(Int.toNat_of_nonneg h0).symm;have hm:t.1.toNat<2^16:=by omega
   refine⟨p,_,rfl,SqT.of (sG _ _ ht2),rfl,_,_,rfl,_,_,rfl,rfl,?_⟩;refine⟨_,rfl,t.2,rfl,?_⟩;refine⟨_,rfl,by rw[ea];exact few_bits h3,?_⟩;rw[ea,str_num];refine⟨fun σ' G' => σ'=[some (.ref a),some (.ref c),some (.int t.1),some (.int t.2),some (.str (S (figsN t.1.toNat t.2.natAbs)))]∧G'=G,?_,?_⟩
   ·refine⟨_,rfl,_,_,rfl,rfl,_,rfl,?_⟩;refine ite2 (fun k1=>?_) (fun k1=>?_)
    ·have k1':0<t.1:=of_decide_eq_true k1;refine⟨_,rfl,t.2,rfl,?_⟩;rw[ea];refine⟨rfl,_,rfl,?_⟩;refine ite2 (fun k2=>?_) (fun k2=>?_)
     ·have k2':t.2.natAbs=1:=by
       have:=of_decide_eq_true k2
       injection this with this;omega
      refine⟨?_,rfl⟩
      have:figsN t.1.toNat t.2.natAbs=[]:=if_pos ⟨k2',by omega⟩
      rw[this,← lit_e];rfl
     ·have k2':¬ t.2.natAbs=1:=fun z=>k2 (by rw[z];simp)
      refine⟨?_,rfl⟩
      have:figsN t.1.toNat t.2.natAbs=digs t.2.natAbs:=if_neg (fun z=>k2' z.1)
      rw[this];rfl
    ·have k1':¬ 0<t.1:=fun z=>k1 (decide_eq_true z)
     refine⟨?_,rfl⟩
     have:figsN t.1.toNat t.2.natAbs=digs t.2.natAbs:=if_neg (fun z=>z.2 (by omega))
     rw[this];rfl
   ·rintro σ' G' ⟨rfl,rfl⟩;have hgl:((f.take i).flatMap fun t=>[V.str (S [sgn t.2]),V.str (S (wordT t))]).length=2 * i:=by rw[inter_len,List.length_take];omega
    refine⟨_,rfl,.inl ⟨rfl,_,SqL.of g1⟩,?_⟩;refine⟨(by show 2≤sizeLine;decide),fun l hl'=>?_⟩;have b1:Same G' (upd G' l (.lst [.str "+",.str "-"])):=Same.upd hl';have esg:atI [V.str "+",V.str "-"] (if decide (t.2<0)=true then 1 else 0)=some (V.str (S [sgn t.2])):=by
     by_cases z:t.2<0
     ·rw[if_pos (decide_eq_true z),show sgn t.2=45 from if_pos z,← lit_minus];rfl
     ·rw[if_neg (by simpa using z),show sgn t.2=43 from if_neg z,← lit_plus];rfl
    refine⟨_,rfl,_,_,rfl,rfl,.inr ⟨_,rfl,?_⟩⟩;refine⟨l,_,_,_,rfl,rfl,SqL.of upd_same,esg,?_⟩;refine⟨c,_,_,rfl,rfl,b1 _ _ g1,?_,?_⟩
    ·rw[hgl];exact small6 (by omega)
    have g2:upd (upd G' l (.lst [.str "+",.str "-"])) c (.lst (((f.take i).flatMap fun t=>[V.str (S [sgn t.2]),V.str (S (wordT t))]) ++ [V.str (S [sgn t.2])])) c=some (.lst (((f.take i).flatMap fun t=>[V.str (S [sgn t.2]),V.str (S (wordT t))]) ++ [V.str (S [sgn t.2])])):=upd_same;have S1:Same H (upd (upd G' l (.lst [.str "+",.str "-"])) c (.lst (((f.take i).flatMap fun t=>[V.str (S [sgn t.2]),V.str (S (wordT t))]) ++ [V.str (S [sgn t.2])]))):=(sG.trans b1).write hc;generalize upd (upd G' l (.lst [.str "+",.str "-"])) c (.lst (((f.take i).flatMap fun t=>[V.str (S [sgn t.2]),V.str (S (wordT t))]) ++ [V.str (S [sgn t.2])]))=H1 at g2 S1;have hle:(S (figsN t.1.toNat t.2.natAbs)).length+(S (lets t.1.toNat)).length≤sizeLine:=by
     rw[S_len,S_len];exact Nat.le_trans (Nat.add_le_add (figs_len h3) (lets_len hm)) (by decide)
    refine⟨_,rfl,.inl ⟨rfl,_,SqL.of g2⟩,?_⟩;refine⟨_,rfl,_,rfl,t.1.toNat,by rw[← em];rfl,hm,fun H2 s2=>?_⟩;refine⟨_,_,rfl,rfl,hle,?_⟩;refine⟨c,_,_,rfl,rfl,s2 _ _ g2,?_,?_⟩
    ·rw[List.length_append,hgl];exact small6 (by simp;omega)
    refine⟨_,_,_,rfl,?_,(S1.trans s2).write hc⟩;rw[upd_same,S_cat,List.take_add_one,ht1,List.flatMap_append];have ew:wordT t=figsN t.1.toNat t.2.natAbs++lets t.1.toNat:=rfl;simp[ew]
  ·rintro σ G ⟨v2,v3,v4,rfl,g1,sG⟩;rw[List.length_map,hpl,List.take_length] at g1;refine⟨_,rfl,c,_,rfl,.inl (SqL.of g1),rfl,_,rfl,?_⟩;cases f with
   | nil =>
    refine iteY (by rfl) ?_
    have:=q G sG
    rw[show txt []=[48] from rfl,← lit_0] at this;exact this
   | cons t0 r =>
    have hln:((t0 :: r).flatMap fun t=>[V.str (S [sgn t.2]),V.str (S (wordT t))]).length=2 * (r.length+1):=inter_len _ _ _;refine iteN (by rw[hln];simp;omega) ?_;have hxs:((t0 :: r).flatMap fun t=>[V.str (S [sgn t.2]),V.str (S (wordT t))])=V.str (S [sgn t0.2]) :: V.str (S (wordT t0)) :: (r.flatMap fun t=>[V.str (S [sgn t.2]),V.str (S (wordT t))]):=rfl;rw[hxs] at g1;have hok:=hs t0 (by simp);have hwl:(wordsL (t0 :: r)).map (fun w=>V.str (S w))=V.str (S (aheadL t0.2++wordT t0)) :: (r.flatMap fun t=>[V.str (S [sgn t.2]),V.str (S (wordT t))]):=by
     show V.str (S (aheadL t0.2++wordT t0)) :: (r.flatMap fun u=>[[sgn u.2],wordT u]).map (fun w=>V.str (S w))=_;rw[List.map_flatMap];rfl
    refine⟨fun σ' G' => σ'=[some (.ref a),some (.ref c),v2,v3,v4]∧G' c=some (.lst (V.str (S [sgn t0.2]) :: (wordsL (t0 :: r)).map fun w=>V.str (S w)))∧Same H G',?_,?_⟩
    ·have at0:atI (V.str (S [sgn t0.2]) :: V.str (S (wordT t0)) :: (r.flatMap fun t=>[V.str (S [sgn t.2]),V.str (S (wordT t))])) 0=some (V.str (S [sgn t0.2])):=atI_nat (j:=0) rfl;have at1:atI (V.str (S [sgn t0.2]) :: V.str (S (wordT t0)) :: (r.flatMap fun t=>[V.str (S [sgn t.2]),V.str (S (wordT t))])) 1=some (V.str (S (wordT t0))):=atI_nat (j:=1) rfl;refine⟨_,rfl,c,_,_,_,rfl,rfl,SqL.of g1,at0,rfl,_,rfl,?_⟩;by_cases z:t0.2<0
     ·have es:sgn t0.2=45:=if_pos z;refine iteY (by rw[es,← lit_minus];simp) ?_;refine⟨_,rfl,c,_,_,_,rfl,rfl,SqL.of g1,at1,_,_,rfl,rfl,?_,?_⟩
      ·rw[lit_minus,S_len,S_len];exact Nat.le_trans (Nat.add_le_add_left (word_len (by have:=hok.1;have:=hok.2.1;omega) hok.2.2.2) _) (by show 1+79≤sizeLine;decide)
      refine⟨_,rfl,c,_,_,1,rfl,rfl,g1,(by show ixN (_+1+1) 1=some 1;unfold ixN;simp;omega),?_⟩;refine⟨rfl,?_,sG.write hc⟩;rw[upd_same,hwl,lit_minus,S_cat]
      have:aheadL t0.2=[45]:=if_pos z
      rw[this];rfl
     ·have es:sgn t0.2=43:=if_neg z;refine iteN (by rw[es,lit_minus];intro y;have:=of_decide_eq_true y;injection this with this;exact absurd (S_inj this) (by decide)) ?_;refine⟨rfl,?_,sG⟩;rw[g1,hwl]
      have:aheadL t0.2=[]:=if_neg z
      rw[this];rfl
    ·rintro σ' G' ⟨rfl,g2,s2⟩;have ecut:cutV (V.str (S [sgn t0.2]) :: (wordsL (t0 :: r)).map fun w=>V.str (S w)) (some 1) none=((wordsL (t0 :: r)).map S).map V.str:=by
      unfold cutV;rw[show HT.sIx (V.str (S [sgn t0.2]) :: (wordsL (t0 :: r)).map fun w=>V.str (S w)).length 0 (some 1)=1 from (HT.sIx_nat _ _ 1).trans (Nat.min_eq_left (by simp))];rw[List.map_map];refine List.take_of_length_le ?_;simp[HT.sIx]
     have hws:(((wordsL (t0 :: r)).map S).map (·.length)).sum+((wordsL (t0 :: r)).map S).length * (Str.ofString " ").length≤16777216:=by
      have h1:(((wordsL (t0 :: r)).map S).map (·.length)).sum≤(txt (t0 :: r)).length:=by
       rw[← join_words,List.map_map];have go:∀ ws:List (List Nat),(ws.map ((·.length) ∘ S)).sum≤(joinL 32 ws).length:=fun ws=>by
        induction ws with
        | nil=>exact Nat.le_refl _
        | cons w ws ih =>
         cases ws with
         | nil=>show w.length+0≤w.length;omega
         | cons w2 ws =>
          have:(joinL 32 (w :: w2 :: ws)).length=w.length+1+(joinL 32 (w2 :: ws)).length:=by rw[joinL,List.length_append,List.length_cons];omega
          rw[this,List.map_cons,List.sum_cons];show w.length+_≤_;omega
       exact go _
      have h2:=txt_len hs;have h3:(wordsL (t0 :: r)).length=2 * r.length+1:=by
       show (_ :: r.flatMap fun u=>[[sgn u.2],wordT u]).length=_;rw[List.length_cons,inter_len]
      rw[lit_sp,S_len,List.length_map,h3];simp only[List.length_cons,List.length_nil] at h2 hl ⊢;omega
     refine⟨rfl,?_⟩;refine⟨_,rfl,_,rfl,c,_,rfl,SqL.of g2,fun d hd=>?_⟩;rw[ecut];refine⟨_,d,_,rfl,rfl,SqL.of upd_same,hws,?_⟩;rw[lit_sp,tjoin_S,join_words];exact q _ (s2.trans (Same.upd hd))
theorem sc_Z11:FnScope ["_law_some", "_law_numbers", "_law_one", "_law_number"] ["_law_some"] (defScope s_Z11):=⟨rfl,rfl,rfl,by decide +kernel,rfl,by decide +kernel,by decide +kernel⟩
theorem nd_Z11_1:(["_law_one", "_law_numbers"]:List Str).Nodup:=by decide +kernel
theorem ok_Z11 (T:Txt K mg):FnOk P w K mg base CX0 1 T.a_Z11 T.fd_Z11 ["_law_some"] (spFormS K):=by
 refine T.d_Z11.F.ok sc_Z11 (fun vs H Q E h=>?_) (fun cdv A outer s H vs Q E hr h=>?_)
 ·obtain⟨a,l,rfl,⟨ps,hS,hT⟩,hlen,hfew,q⟩:=h;rfl
 ·obtain⟨a,l,rfl,⟨ps,hS,hT⟩,hlen,hfew,q⟩:=h;have hu:=hu_of hr;refine⟨_,(pss_cons (ps_set (i:=1) sc_Z11.nd rfl (Or.inr rfl) pe_dnewK)
   (pss_cons (ps_for PassesOwn.never rfl (pi_list (pv 0)) (pg_tup (n:=2) rfl (pgs_cons (pg_name (i:=2) sc_Z11.nd rfl (Or.inl rfl)) (pgs_cons (pg_name (i:=3) sc_Z11.nd rfl (Or.inl rfl)) pgs_nil)))
    (pss_one (ps_dput hu (pv 1) (pv 2) (pe_op op_add (pe_dget2 hu (pv 1) (pv 2) pe_int ⟨rfl,rfl,rfl,rfl⟩) (pv 3)) rfl)))
   (pss_one (ps_ret (pe_comp (g:=(gName 0)) ["_law_one", "_law_numbers"] 1 [1] rfl (by exact CompSc.of (defScope s_Z11) ["_law_some", "_law_numbers", "_law_one", "_law_number"] rfl rfl rfl (by decide +kernel) rfl (by decide +kernel) (by decide +kernel)) (pi_list (pe_callB (call_sortedDs rfl) (by rfl) T.n_sorted PyProof.Rows.boot_sorted (pa_cons (pv 1) pa_nil)))
    (fun cl C s₀ H₀ fp=>(pg_name (i:=0) nd_Z11_1 rfl (Or.inl rfl) (Or.inr rfl))) (fun cl C s₀ H₀ fp=>(pts_one (pt_cmpR op_ne (pe_dget hu (pv 1) (pv 0) (fun _ _=>rfl)) pe_int (nomark _)))) (fun cl C s₀ H₀ fp=>(pe_tup (pa_cons (pv 0) (pa_cons (pe_dget hu (pv 1) (pv 0) (fun _ _=>rfl)) pa_nil))))))))),?_⟩
  intro d hd;have s0:Same H (upd H d (.dK [])):=Same.upd hd;refine⟨_,rfl,a,rfl,⟨_,s0.seq hS⟩,?_⟩;refine for_list (K:=K) (a:=a) (xs:=ps.map V.ref) (fun i σ H2=>∃ (dd:Terms) (v2 v3:Option V),σ = [some (.ref a),some (.ref d),v2,v3]∧H2=upd H d (.dK (dd.map encP))∧DictOf dd (l.take i))
   ⟨[],none,none,rfl,rfl,dictOf_nil⟩ (fun i σ H2 _ ⟨_,_,_,_,e,_⟩=>by rw[e];exact (Same.upd hd).seq hS) ?_ ?_
  ·rintro i y σ H2 hi ⟨dd,v2,v3,rfl,rfl,hdd⟩;obtain⟨p,hpi,rfl⟩:=at_ref hi;obtain⟨t,ht1,ht2⟩:=hT.at' hpi;have htk:l.take (i+1)=l.take i ++ [t]:=by rw[List.take_add_one,ht1];rfl
   have hil:i<l.length:=(List.getElem?_eq_some_iff.mp ht1).1;have hdl:dd.length≤i:=Nat.le_trans hdd.len (by rw[List.length_take];omega);have hdd2:=hdd.snoc t;rw[← htk] at hdd2;refine⟨p,_,rfl,SqT.of ((Same.upd hd) _ _ ht2),rfl,_,_,rfl,_,_,rfl,rfl,?_⟩;refine⟨_,rfl,d,rfl,.inl ⟨_,.inl upd_same⟩,_,rfl,_,DGet.k (k:=Sum.inl t.1) upd_same,?_⟩;rw[valV_enc];have eg:((look dd t.1).map V.int).getD (V.int 0)=V.int (getI dd t.1):=by
    unfold getI;cases look dd t.1 <;> rfl
   rw[eg];refine⟨_,rfl,_,_,rfl,rfl,_,rfl,_,rfl,d,_,rfl,DPut.k (k:=Sum.inl t.1) upd_same ?_,putI dd t.1 (getI dd t.1+t.2),_,_,rfl,?_,hdd2⟩
   ·rw[List.length_map];exact small6 (by omega)
   ·rw[upd_upd,putK_enc]
  ·rintro σ H2 ⟨dd,v2,v3,rfl,rfl,hdd⟩;have hl0:l.take (ps.map V.ref).length=l:=by rw[List.length_map,hT.length,List.take_length]
   rw[hl0] at hdd;have hddl:dd.length≤100000:=Nat.le_trans hdd.len hlen;have hd0:upd H d (.dK (dd.map encP)) d=some (.dK (dd.map encP)):=upd_same;have s1:Same H (upd H d (.dK (dd.map encP))):=Same.upd hd;generalize upd H d (.dK (dd.map encP))=H1 at hd0 s1;refine⟨_,rfl,d,_,dd.map (·.1),rfl,hd0,keys_enc dd,(by rw[List.length_map];exact few_dict hdd hfew),fun e ks he hperm hsort=>?_⟩;have hed:d≠e:=ne_of_none hd0 he;refine⟨e,rfl,⟨_,SqL.of upd_same⟩,?_⟩;have hkl:ks.length≤100000:=by have:=hperm.length_eq;rw[List.length_map] at this;omega
   refine comp_list (K:=K) (a:=e) (xs:=ks.map V.int) (fun i ys σ H2=>∃ (v0:Option V) (qs:List Addr),σ = [v0,some (.ref d)]∧ys=qs.map V.ref∧Tups H2 qs (formOf dd (ks.take i))∧H2 d=some (.dK (dd.map encP))∧H2 e=some (.lst (ks.map V.int))∧Same H1 H2)
    ⟨none,[],rfl,rfl,.nil,(by rw[upd_ne hed];exact hd0),upd_same,Same.upd he⟩ (fun i ys σ H2 hi ⟨_,qs,_,e1,e2,_,e4,_⟩=>⟨SqL.of e4,by
     rw[e1,List.length_map,e2.length]
     have:=formOf_length dd (ks.take i)
     rw[List.length_take] at this;omega⟩) (by rw[List.length_map];exact Nat.le_of_lt (small6 (by omega))) ?_ ?_
   ·rintro i y ys σ H2 hi ⟨v0,qs,rfl,rfl,g2,g3,g4,g5⟩;obtain⟨k,hki,rfl⟩:=at_int hi;have hkm:k∈dd.map (·.1):=hperm.mem_iff.mp (List.mem_of_getElem? hki);obtain⟨v,hv⟩:∃ v,look dd k=some v:=by
     cases e:look dd k with
     | none=>exact absurd e (look_mem.mpr hkm)
     | some v=>exact⟨v,rfl⟩
    have hgv:getI dd k=v:=by unfold getI;rw[hv];rfl
    have htk:ks.take (i+1)=ks.take i ++ [k]:=by rw[List.take_add_one,hki];rfl
    have hget:∀ {H3:Hp},H3 d=some (.dK (dd.map encP))→DGet H3 d (.int k) (some (.int v)):=fun {H3} z=>by
     have:=DGet.k (k:=Sum.inl k) z
     rw[valV_enc,hv] at this;exact this
    refine⟨_,rfl,_,rfl,d,_,rfl,hget g3,rfl,_,rfl,?_⟩;by_cases hv0:v=0
    ·subst hv0;refine iteNS rfl ⟨_,qs,rfl,rfl,?_,g3,g4,g5⟩
     have:formOf dd (ks.take (i+1))=formOf dd (ks.take i):=by
      rw[htk];unfold formOf;rw[List.filter_append,List.map_append];simp[hgv]
     rw[this];exact g2
    ·have hne:¬ (V.int v=V.int 0):=fun z=>hv0 (by injection z)
     rw[decide_eq_false hne];refine iteT ?_;refine⟨_,rfl,_,rfl,_,rfl,d,_,rfl,hget g3,(by show 2≤sizeLine;decide),fun t ht=>?_⟩;have s3:Same H2 (upd H2 t (.tup [.int k,.int v])):=Same.upd ht;refine⟨_,qs ++ [t],rfl,(by rw[List.map_append];rfl),?_,s3 _ _ g3,s3 _ _ g4,g5.trans s3⟩
     have:formOf dd (ks.take (i+1))=formOf dd (ks.take i) ++ [(k,v)]:=by
      rw[htk];unfold formOf;rw[List.filter_append,List.map_append];simp[hgv,hv0]
     rw[this];exact Tups.snoc (g2.keep fun b xs z=>s3 b _ z) upd_same
   ·rintro ys σ H2 ⟨v0,qs,rfl,rfl,g2,g3,g4,g5⟩ D hD;rw[List.length_map,List.take_length] at g2;have s3:Same H2 (upd H2 D (.lst (qs.map V.ref))):=Same.upd hD;refine q D (formOf dd ks) _ ((s1.trans g5).free hD) ⟨qs,upd_same,g2.keep fun b xs z=>s3 b _ z⟩ (formOf_ok hdd hperm hsort) ?_ (s1.trans (g5.trans s3));have h1:=formOf_length dd ks;have h2:=hperm.length_eq;rw[List.length_map] at h2;have h3:=hdd.len;omega
end
end My
namespace My
open PySem L2 OF
seal L2.PS L2.PSs L2.PE L2.PT L2.PA L2.PI L2.PG L2.PW L2.PO L2.PTs
section
variable {P:Program}{w:World}{K:PySem.W.Frag}{mg:Str→Option Value}{base:Heap}
theorem sc_law:FnScope ["_law_script", "_law_cells", "_law_k", "_law_xs", "_law_some", "_law_j", "_law_one"] ["_law_script"] (defScope s_law):=⟨rfl,rfl,rfl,by decide +kernel,rfl,by decide +kernel,by decide +kernel⟩
theorem ok_law {f:Addr}{fd:FuncData} (F:Fun K "law" "law" s_law f fd) (T:Txt K mg):FnOk P w K mg base CX0 6 f fd ["_law_script"] (spLaw K):=by
 refine F.ok sc_law (fun vs H Q E h=>?_) (fun cdv A outer s H vs Q E hr h=>?_)
 ·obtain⟨a,ns,rfl,hS,hlen,hbits,kq⟩:=h;rfl
 ·obtain⟨a,ns,rfl,hS,hlen,hbits,kq⟩:=h;have hu:=hu_of hr;refine⟨_,(pss_cons (ps_set (i:=1) sc_law.nd rfl (Or.inl rfl) (pe_op op_cat (pe_slice sl_list (pv 0) po_none (po_some pe_int)) (pe_lst (pa_cons pe_int pa_nil))))
   (pss_cons (ps_for PassesOwn.never rfl (pi_range1 rfl T.n_range (pa_cons (pe_callB call_len_seq (by rfl) T.n_len PySem.boot_len (pa_cons (pv 1) pa_nil)) pa_nil)) (pg_name (i:=2) sc_law.nd rfl (Or.inl rfl))
    (pss_cons (ps_set (i:=3) sc_law.nd rfl (Or.inl rfl) (pe_call (ok_Z15 (P:=P) (w:=w) (base:=base) T) (hr.mono (by decide)) (by rfl) T.d_Z15.m T.d_Z15.F.kp T.d_Z15.b .nil pass0 (pa_cons (pe_ix ix_list (pv 1) (pv 2) (fun _ _=>rfl)) (pa_cons (pv 2) pa_nil))))
   (pss_cons (ps_set (i:=4) sc_law.nd rfl (Or.inl rfl) (pe_lst pa_nil))
   (pss_cons (ps_for PassesOwn.never rfl (pi_range1 rfl T.n_range (pa_cons (pe_op op_mod (pe_ix ix_list (pv 3) pe_int (fun _ _=>rfl)) pe_int) pa_nil)) (pg_name (i:=5) sc_law.nd rfl (Or.inl rfl))
    (pss_cons (ps_set (i:=6) sc_law.nd rfl (Or.inl rfl) (pe_op op_and (pe_op op_mod (pe_ix ix_list (pv 3) (pe_op op_add pe_int (pv 5)) (fun _ _=>rfl)) pe_int) (pe_ix ix_list (pe_lst (pa_cons pe_int (pa_cons pe_int (pa_cons pe_int (pa_cons pe_int pa_nil))))) (pe_op op_mod (pe_ix ix_list (pv 3) pe_int (fun _ _=>rfl)) pe_int) (fun _ _=>rfl))))
   (pss_one (ps_expr (pe_bm PySem.F.plainAttrs_list PySem.F.slot_list_append PySem.F.type_list_append mt_append (pv 4) (pa_cons (pe_tup (pa_cons (pv 6) (pa_cons (pe_ix ix_list (pe_lst (pa_cons (pe_op op_sub (pe_op op_mod (pe_ix ix_list (pv 3) (pe_op op_add pe_int (pv 5)) (fun _ _=>rfl)) pe_int) pe_int) (pa_cons (pe_op op_sub (pe_op op_mod (pe_ix ix_list (pv 3) (pe_op op_add pe_int (pv 5)) (fun _ _=>rfl)) pe_int) pe_int) pa_nil))) (pe_op op_mod (pe_ix ix_list (pv 3) pe_int (fun _ _=>rfl)) pe_int) (fun _ _=>rfl)) pa_nil))) pa_nil))))))
   (pss_one (ps_if (pt_not (pt_val (pe_call (ok_Z9 (P:=P) (w:=w) (base:=base) T) hr (by rfl) T.d_Z9.m T.d_Z9.F.kp T.d_Z9.b .nil pass0 (pa_cons (pe_call (ok_Z4 (P:=P) (w:=w) (base:=base) T) (hr.mono (by decide)) (by rfl) T.d_Z4.m T.d_Z4.F.kp T.d_Z4.b .nil pass0 (pa_cons (pe_call (ok_Z14 (P:=P) (w:=w) (base:=base) T) (hr.mono (by decide)) (by rfl) T.d_Z14.m T.d_Z14.F.kp T.d_Z14.b .nil pass0 (pa_cons (pe_call (ok_Z11 (P:=P) (w:=w) (base:=base) T) (hr.mono (by decide)) (by rfl) T.d_Z11.m T.d_Z11.F.kp T.d_Z11.b .nil pass0 (pa_cons (pv 4) pa_nil)) pa_nil)) (pa_cons (pv 3) pa_nil))) pa_nil)) (fun _=>rfl))) (pss_one (ps_ret pe_bl)) pss_nil))))))
   (pss_one (ps_ret (pe_and (pe_call (ok_Z9 (P:=P) (w:=w) (base:=base) T) hr (by rfl) T.d_Z9.m T.d_Z9.F.kp T.d_Z9.b .nil pass0 (pa_cons pe_str pa_nil)) (pe_one (pe_call (ok_Z9 (P:=P) (w:=w) (base:=base) T) hr (by rfl) T.d_Z9.m T.d_Z9.F.kp T.d_Z9.b .nil pass0 (pa_cons pe_str pa_nil)))))))),?_⟩
  refine⟨_,rfl,_,rfl,a,_,rfl,hS,fun c1 hc1=>?_⟩;obtain⟨ms,hms,hml⟩:∃ ms:List Int,cutV (ns.map V.int) none (some 60)=ms.map V.int∧ms.length≤ns.length:=by
   unfold cutV;rw[← List.map_drop,← List.map_take];exact⟨_,rfl,by rw[List.length_take,List.length_drop];omega⟩
  rw[hms];have t1:Same H (upd H c1 (.lst (ms.map V.int))):=Same.upd hc1;refine⟨(by show 1≤sizeLine;decide),fun z0 hz0=>?_⟩;have t2:Same (upd H c1 (.lst (ms.map V.int))) (upd (upd H c1 (.lst (ms.map V.int))) z0 (.lst [.int 0])):=Same.upd hz0;refine⟨c1,z0,_,_,rfl,rfl,t2 _ _ upd_same,upd_same,(by rw[List.length_map];exact Nat.le_of_lt (small6 (by show _+1≤_;omega))),fun C hC=>?_⟩;have t3:=t1.trans (t2.trans (Same.upd (o := .lst (ms.map V.int ++ [.int 0])) hC));have wC:upd (upd (upd H c1 (.lst (ms.map V.int))) z0 (.lst [.int 0])) C (.lst (ms.map V.int ++ [.int 0])) C=some (.lst ((ms ++ [0]).map V.int)):=by rw[upd_same,List.map_append];rfl
  generalize upd (upd (upd H c1 (.lst (ms.map V.int))) z0 (.lst [.int 0])) C (.lst (ms.map V.int ++ [.int 0]))=H1 at t3 wC ⊢;have hcl:(ms ++ [0]).length≤64:=by rw[List.length_append];show _+1≤_;omega
  refine⟨_,rfl,C,_,rfl,.inl (SqL.of wC),(((ms ++ [0]).map V.int).length:Int),rfl,by omega,by rw[List.length_map];omega,?_⟩;refine for_range (n:=((ms ++ [0]).map V.int).length) (fun i σ G=>∃ v2 v3 v4 v5 v6:Option V,σ = [some (.ref a),some (.ref C),v2,v3,v4,v5,v6]∧G C=some (.lst ((ms ++ [0]).map V.int)))
   ⟨_,_,_,_,_,rfl,wC⟩ ?_ ?_
  ·rintro i σ G hi ⟨v2,v3,v4,v5,v6,rfl,g1⟩;rw[List.length_map] at hi;obtain⟨x,hx⟩:∃ x,(ms ++ [0])[i]? = some x:=⟨_,List.getElem?_eq_getElem hi⟩;have hat:atI ((ms ++ [0]).map V.int) (0+(i:Int))=some (V.int x):=by rw[Int.zero_add];exact atI_nat (by rw[List.getElem?_map,hx];rfl)
   refine⟨_,rfl,_,rfl,C,_,_,V.int x,rfl,rfl,SqL.of g1,hat,_,rfl,x,0+(i:Int),rfl,by omega,fun X xs H2 hX hXw hXo s2=>?_⟩;have has:∀ k:Nat,k<12→∃ y,atI (xs.map V.int) (k:Int)=some (V.int y)∧0≤y:=fun k hk=>by
    obtain⟨y,hy⟩:∃ y,xs[k]? = some y:=⟨_,List.getElem?_eq_getElem (by have:=hXo.1;omega)⟩;exact⟨y,atI_nat (by rw[List.getElem?_map,hy];rfl),hXo.2 y (List.mem_of_getElem? hy)⟩
   obtain⟨x0,h0,n0⟩:=has 0 (by decide);obtain⟨x5,h5,n5⟩:=has 5 (by decide);obtain⟨x6,h6,n6⟩:=has 6 (by decide);refine⟨Nat.zero_le _,fun L hL=>?_⟩;have u1:Same H2 (upd H2 L (.lst [])):=Same.upd hL;have wL:upd H2 L (.lst []) L=some (.lst (([]:List Addr).map V.ref)):=upd_same;have wX:=u1 _ _ hXw;have wC2:=u1 _ _ (s2 _ _ g1);have nLX:X≠L:=ne_of_none hXw hL;have nLC:C≠L:=ne_of_none (s2 _ _ g1) hL;generalize upd H2 L (.lst [])=H3 at wL wX wC2 ⊢;refine⟨_,rfl,X,_,_,V.int x0,rfl,rfl,SqL.of wX,h0,_,_,rfl,rfl,(by show (0:Int)<5;decide),x0 % 5,rfl,by omega,by omega,?_⟩;refine for_range (n:=(x0 % 5).toNat) (fun j σ G=>∃ (v5 v6:Option V) (qs:List Addr) (fs:Terms),σ = [some (.ref a),some (.ref C),some (.int (0+(i:Int))),some (.ref X),some (.ref L),v5,v6]∧G C=some (.lst ((ms ++ [0]).map V.int))∧G X=some (.lst (xs.map V.int))∧G L=some (.lst (qs.map V.ref))∧Tups G qs fs∧fs.length=j∧∀ t∈fs,0≤t.1∧t.1<2^16∧t.2.natAbs≤1000)
    ⟨_,_,[],[],rfl,wC2,wX,wL,.nil,rfl,fun t h=>by cases h⟩ ?_ ?_
   ·rintro j σ G hj ⟨v5,v6,qs,fs,rfl,k1,k2,k3,k4,k5,k6⟩;have hj4:j<4:=by omega
    obtain⟨y1,hy1,ny1⟩:=has (1+j) (by omega);obtain⟨y2,hy2,ny2⟩:=has (2+j) (by omega);have e1:(1:Int)+(0+(j:Int))=((1+j:Nat):Int):=by omega
    have e2:(2:Int)+(0+(j:Int))=((2+j:Nat):Int):=by omega
    rw[← e1] at hy1;rw[← e2] at hy2;unfold gName;refine⟨_,rfl,_,rfl,_,_,rfl,rfl,X,_,_,V.int y1,rfl,rfl,SqL.of k2,hy1,_,_,rfl,rfl,(by show (0:Int)<65536;decide),(by show 4≤sizeLine;decide),fun A hA=>?_⟩;obtain⟨mk,hmk,hmk0⟩:∃ mk:Int,atI [V.int 65535,V.int 15,V.int 255,V.int 3] (x5 % 4)=some (V.int mk)∧0≤mk:=by
     obtain e | e | e | e:x5 % 4=0∨x5 % 4=1∨x5 % 4=2∨x5 % 4=3:=by omega
     all_goals rw[e];exact⟨_,rfl,by decide⟩
    have b1:Same G (upd G A (.lst [V.int 65535,V.int 15,V.int 255,V.int 3])):=Same.upd hA;refine⟨_,rfl,X,_,_,V.int x5,rfl,rfl,SqL.of (b1 _ _ k2),h5,_,_,rfl,rfl,(by show (0:Int)<4;decide),A,_,_,V.int mk,rfl,rfl,SqL.of upd_same,hmk,_,_,rfl,rfl,?_⟩;obtain⟨on,hon⟩:∃ on:Int,Builtin.bitAnd (y1 % 65536) mk=on:=⟨_,rfl⟩;have hon2:0≤on∧on<2^16:=by
     obtain⟨p,hp⟩:=Int.eq_ofNat_of_zero_le (Int.emod_nonneg y1 (show (65536:Int)≠0 by decide));obtain⟨r,hr⟩:=Int.eq_ofNat_of_zero_le hmk0;rw[← hon,hp,hr];have hlt:=Int.emod_lt_of_pos y1 (show (0:Int)<65536 by decide);rw[hp] at hlt
     have:Builtin.bitAnd (p:Int) (r:Int)=((p &&& r:Nat):Int):=bitAnd_nat p r
     rw[this]
     have:=Nat.and_le_left (n:=p) (m:=r)
     omega
    dsimp only;rw[hon];have g2:=b1 _ _ k2;have g3:=b1 _ _ k3;have g1':=b1 _ _ k1;have gT:Tups (upd G A (.lst [V.int 65535,V.int 15,V.int 255,V.int 3])) qs fs:=k4.keep fun b xs z=>b1 b _ z
    generalize upd G A (.lst [V.int 65535,V.int 15,V.int 255,V.int 3])=G1 at g1' g2 g3 gT ⊢;refine⟨_,rfl,.inl ⟨rfl,_,SqL.of g3⟩,_,rfl,_,rfl,_,rfl,_,_,rfl,rfl,X,_,_,V.int y2,rfl,rfl,SqL.of g2,hy2,_,_,rfl,rfl,(by show (0:Int)<7;decide),_,_,rfl,rfl,_,rfl,_,rfl,_,_,rfl,rfl,X,_,_,V.int y2,rfl,rfl,SqL.of g2,hy2,_,_,rfl,rfl,(by show (0:Int)<2001;decide),_,_,rfl,rfl,(by show 2≤sizeLine;decide),fun B hB=>?_⟩;obtain⟨nn,hnn,hnn0⟩:∃ nn:Int,atI [V.int (y2 % 7-3),V.int (y2 % 2001-1000)] (x6 % 2)=some (V.int nn)∧nn.natAbs≤1000:=by
     obtain e | e:x6 % 2=0∨x6 % 2=1:=by omega
     ·rw[e];exact⟨_,rfl,by omega⟩
     ·rw[e];exact⟨_,rfl,by omega⟩
    have b2:Same G1 (upd G1 B (.lst [V.int (y2 % 7-3),V.int (y2 % 2001-1000)])):=Same.upd hB;refine⟨_,rfl,X,_,_,V.int x6,rfl,rfl,SqL.of (b2 _ _ g2),h6,_,_,rfl,rfl,(by show (0:Int)<2;decide),B,_,_,V.int nn,rfl,rfl,SqL.of upd_same,hnn,(by show 2≤sizeLine;decide),fun tp htp=>?_⟩;have b3:=b2.trans (Same.upd (o := .tup [.int on,.int nn]) htp);have wtp:upd (upd G1 B (.lst [V.int (y2 % 7-3),V.int (y2 % 2001-1000)])) tp (.tup [.int on,.int nn]) tp=some (.tup [.int on,.int nn]):=upd_same;generalize upd (upd G1 B (.lst [V.int (y2 % 7-3),V.int (y2 % 2001-1000)])) tp (.tup [.int on,.int nn])=G2 at b3 wtp ⊢;have gL:=b3 _ _ g3;have hql:=gT.length;refine⟨L,_,_,rfl,rfl,gL,(by rw[List.length_map,hql];exact small6 (by omega)),_,_,qs ++ [tp],fs ++ [(on,nn)],rfl,?_,?_,?_,?_,by rw[List.length_append,k5];rfl,fun t ht=>?_⟩
    ·rw[upd_ne nLC];exact b3 _ _ g1'
    ·rw[upd_ne nLX];exact b3 _ _ g2
    ·rw[upd_same,List.map_append];rfl
    ·refine Tups.snoc ((gT.keep fun b xs z=>b3 b _ z).keep fun b xs z=>?_) ?_
     ·rw[upd_ne (ne_of z gL (by intro z;cases z))];exact z
     ·rw[upd_ne (ne_of wtp gL (by intro z;cases z))];exact wtp
    ·rcases List.mem_append.mp ht with z | z
     ·exact k6 t z
     ·rw[List.mem_singleton.mp z];exact⟨hon2.1,hon2.2,hnn0⟩
   ·rintro σ G ⟨v5,v6,qs,fs,rfl,k1,k2,k3,k4,k5,k6⟩;have hfl:fs.length≤4:=by omega
    refine⟨_,rfl,L,fs,rfl,⟨qs,SqL.of k3,k4⟩,by omega,.inl (by omega),fun b f H4 hb hT hF hl s4=>?_⟩;have hsm:=hF.small (B:=1000) fun t ht=>(k6 t ht).2.2
    have hky:=hF.keys (m:=16) fun t ht=>⟨(k6 t ht).1,(k6 t ht).2.1⟩
    have hsay:∀ t∈f,SayOk t∧t.2.natAbs<10^4:=fun t ht=>by
     have h1:=hsm t ht;have h2:fs.length * 1000≤4 * 1000:=Nat.mul_le_mul_right _ hfl;have h3:t.2.natAbs<10^4:=by omega
     exact⟨⟨(hky t ht).1,(hky t ht).2,hF.toIsForm.nz t ht,Nat.lt_trans h3 (by decide)⟩,h3⟩
    obtain⟨x1,x2⟩:=txt_few (f:=f) (by omega) hsay;refine⟨b,f,rfl,hT,fun t ht=>(hsay t ht).1,by omega,fun H5 s5=>?_⟩;refine⟨_,rfl,txt f,X,xs,rfl,x2,x1,(s4.trans s5) _ _ k2,hXo,fun m H6 m1 m2 s6=>?_⟩;exact⟨m,rfl,m1,m2,fun H7 s7=>⟨true,rfl,iteF ⟨_,_,_,_,_,rfl,(s4.trans (s5.trans (s6.trans s7))) _ _ k1⟩⟩⟩
  ·rintro σ G ⟨v2,v3,v4,v5,v6,rfl,g1⟩;refine⟨[],(by rw[lit_e];rfl),(fun c h=>by cases h),by decide,fun H7 s7=>⟨true,rfl,iteY rfl ?_⟩⟩;exact⟨[45],(by rw[lit_minus];rfl),(by decide),by decide,fun H8 s8=>kq _⟩
end
theorem us1 {fd:FuncData}{ps:List Str} (h:∀ x0,bindArgs fd ⟨[x0],[]⟩=pure (ps.zip [x0])) (us:List Value) (hl:us.length=1):bindArgs fd ⟨us,[]⟩=pure (ps.zip us):=by
 cases us with
 | nil=>cases hl
 | cons x0 us =>
 replace hl:=Nat.succ.inj hl
 cases List.eq_nil_of_length_eq_zero hl;exact h x0
theorem us2 {fd:FuncData}{ps:List Str} (h:∀ x0 x1,bindArgs fd ⟨[x0,x1],[]⟩=pure (ps.zip [x0,x1])) (us:List Value) (hl:us.length=2):bindArgs fd ⟨us,[]⟩=pure (ps.zip us):=by
 cases us with
 | nil=>cases hl
 | cons x0 us =>
 replace hl:=Nat.succ.inj hl
 cases us with
 | nil=>cases hl
 | cons x1 us =>
 replace hl:=Nat.succ.inj hl
 cases List.eq_nil_of_length_eq_zero hl;exact h x0 x1
noncomputable def defPos (s:Stmt):Pos:=match s with
 | .FunctionDef _ _ _ _ _ _ _ _ _ p=>p
 | _=>⟨0,0,0,0⟩
theorem all_mk {l:PySem.W.OpenLaw}{w:World}{K:PySem.W.Frag}{h:Heap}{mg:Str→Option Value}{fa fL f0 f1 f2 f3 f4 f5 f6 f7 f8 f9 f10 f11 f12 f13 f14:Addr} (X:K.In h) (G:h.Ns mainGlobals mg) (hfa:mg "law" = some (.ref fa))
  {odL anL od0 an0 od1 an1 od2 an2 od3 an3 od4 an4 od5 an5 od6 an6 od7 an7 od8 an8 od9 an9 od10 an10 od11 an11 od12 an12 od13 an13 od14 an14:Option Addr}{slL sl0 sl1 sl2 sl3 sl4 sl5 sl6 sl7 sl8 sl9 sl10 sl11 sl12 sl13 sl14:Array (Option Value)}{ocL kVL dcL pmL cdL ctL oc0 kV0 dc0 pm0 cd0 ct0 oc1 kV1 dc1 pm1 cd1 ct1 oc2 kV2 dc2 pm2 cd2 ct2 oc3 kV3 dc3 pm3 cd3 ct3 oc4 kV4 dc4 pm4 cd4 ct4 oc5 kV5 dc5 pm5 cd5 ct5 oc6 kV6 dc6 pm6 cd6 ct6 oc7 kV7 dc7 pm7 cd7 ct7 oc8 kV8 dc8 pm8 cd8 ct8 oc9 kV9 dc9 pm9 cd9 ct9 oc10 kV10 dc10 pm10 cd10 ct10 oc11 kV11 dc11 pm11 cd11 ct11 oc12 kV12 dc12 pm12 cd12 ct12 oc13 kV13 dc13 pm13 cd13 ct13 oc14 kV14 dc14 pm14 cd14 ct14:Value}
  (a0:PySem.W.nsIn K mainGlobals "_law_mixed" = some (some (.ref f0))) (l0:K.lookup f0=some ⟨oc0,od0,.func (PySem.W.fnOf "_law_mixed" "_law_mixed" (defArgs s_Z12) (defBody s_Z12) (defScope s_Z12) .none kV0 dc0 pm0 an0 cd0 ct0),sl0⟩) (c0:PySem.W.codeIn K cd0 "_law_mixed" = true) (k0:PySem.W.keepIn K (.ref f0)=true)
  (a1:PySem.W.nsIn K mainGlobals "_law_stream" = some (some (.ref f1))) (l1:K.lookup f1=some ⟨oc1,od1,.func (PySem.W.fnOf "_law_stream" "_law_stream" (defArgs s_Z15) (defBody s_Z15) (defScope s_Z15) .none kV1 dc1 pm1 an1 cd1 ct1),sl1⟩) (c1:PySem.W.codeIn K cd1 "_law_stream" = true) (k1:PySem.W.keepIn K (.ref f1)=true)
  (a2:PySem.W.nsIn K mainGlobals "_law_tuple" = some (some (.ref f2))) (l2:K.lookup f2=some ⟨oc2,od2,.func (PySem.W.fnOf "_law_tuple" "_law_tuple" (defArgs s_Z16) (defBody s_Z16) (defScope s_Z16) .none kV2 dc2 pm2 an2 cd2 ct2),sl2⟩) (c2:PySem.W.codeIn K cd2 "_law_tuple" = true) (k2:PySem.W.keepIn K (.ref f2)=true)
  (a3:PySem.W.nsIn K mainGlobals "_law_due" = some (some (.ref f3))) (l3:K.lookup f3=some ⟨oc3,od3,.func (PySem.W.fnOf "_law_due" "_law_due" (defArgs s_Z6) (defBody s_Z6) (defScope s_Z6) .none kV3 dc3 pm3 an3 cd3 ct3),sl3⟩) (c3:PySem.W.codeIn K cd3 "_law_due" = true) (k3:PySem.W.keepIn K (.ref f3)=true)
  (a4:PySem.W.nsIn K mainGlobals "read_number" = some (some (.ref f4))) (l4:K.lookup f4=some ⟨oc4,od4,.func (PySem.W.fnOf "read_number" "read_number" (defArgs s_Z18) (defBody s_Z18) (defScope s_Z18) .none kV4 dc4 pm4 an4 cd4 ct4),sl4⟩) (c4:PySem.W.codeIn K cd4 "read_number" = true) (k4:PySem.W.keepIn K (.ref f4)=true)
  (a5:PySem.W.nsIn K mainGlobals "doubled" = some (some (.ref f5))) (l5:K.lookup f5=some ⟨oc5,od5,.func (PySem.W.fnOf "doubled" "doubled" (defArgs s_Z0) (defBody s_Z0) (defScope s_Z0) .none kV5 dc5 pm5 an5 cd5 ct5),sl5⟩) (c5:PySem.W.codeIn K cd5 "doubled" = true) (k5:PySem.W.keepIn K (.ref f5)=true)
  (a6:PySem.W.nsIn K mainGlobals "read_set" = some (some (.ref f6))) (l6:K.lookup f6=some ⟨oc6,od6,.func (PySem.W.fnOf "read_set" "read_set" (defArgs s_Z19) (defBody s_Z19) (defScope s_Z19) .none kV6 dc6 pm6 an6 cd6 ct6),sl6⟩) (c6:PySem.W.codeIn K cd6 "read_set" = true) (k6:PySem.W.keepIn K (.ref f6)=true)
  (a7:PySem.W.nsIn K mainGlobals "read_tuple" = some (some (.ref f7))) (l7:K.lookup f7=some ⟨oc7,od7,.func (PySem.W.fnOf "read_tuple" "read_tuple" (defArgs s_Z20) (defBody s_Z20) (defScope s_Z20) .none kV7 dc7 pm7 an7 cd7 ct7),sl7⟩) (c7:PySem.W.codeIn K cd7 "read_tuple" = true) (k7:PySem.W.keepIn K (.ref f7)=true)
  (a8:PySem.W.nsIn K mainGlobals "is_form" = some (some (.ref f8))) (l8:K.lookup f8=some ⟨oc8,od8,.func (PySem.W.fnOf "is_form" "is_form" (defArgs s_Z2) (defBody s_Z2) (defScope s_Z2) .none kV8 dc8 pm8 an8 cd8 ct8),sl8⟩) (c8:PySem.W.codeIn K cd8 "is_form" = true) (k8:PySem.W.keepIn K (.ref f8)=true)
  (a9:PySem.W.nsIn K mainGlobals "form_read" = some (some (.ref f9))) (l9:K.lookup f9=some ⟨oc9,od9,.func (PySem.W.fnOf "form_read" "form_read" (defArgs s_Z1) (defBody s_Z1) (defScope s_Z1) .none kV9 dc9 pm9 an9 cd9 ct9),sl9⟩) (c9:PySem.W.codeIn K cd9 "form_read" = true) (k9:PySem.W.keepIn K (.ref f9)=true)
  (a10:PySem.W.nsIn K mainGlobals "_law_holds" = some (some (.ref f10))) (l10:K.lookup f10=some ⟨oc10,od10,.func (PySem.W.fnOf "_law_holds" "_law_holds" (defArgs s_Z9) (defBody s_Z9) (defScope s_Z9) .none kV10 dc10 pm10 an10 cd10 ct10),sl10⟩) (c10:PySem.W.codeIn K cd10 "_law_holds" = true) (k10:PySem.W.keepIn K (.ref f10)=true)
  (a11:PySem.W.nsIn K mainGlobals "_law_bent" = some (some (.ref f11))) (l11:K.lookup f11=some ⟨oc11,od11,.func (PySem.W.fnOf "_law_bent" "_law_bent" (defArgs s_Z4) (defBody s_Z4) (defScope s_Z4) .none kV11 dc11 pm11 an11 cd11 ct11),sl11⟩) (c11:PySem.W.codeIn K cd11 "_law_bent" = true) (k11:PySem.W.keepIn K (.ref f11)=true)
  (a12:PySem.W.nsIn K mainGlobals "_law_letters_of" = some (some (.ref f12))) (l12:K.lookup f12=some ⟨oc12,od12,.func (PySem.W.fnOf "_law_letters_of" "_law_letters_of" (defArgs s_Z10) (defBody s_Z10) (defScope s_Z10) .none kV12 dc12 pm12 an12 cd12 ct12),sl12⟩) (c12:PySem.W.codeIn K cd12 "_law_letters_of" = true) (k12:PySem.W.keepIn K (.ref f12)=true)
  (a13:PySem.W.nsIn K mainGlobals "_law_shown" = some (some (.ref f13))) (l13:K.lookup f13=some ⟨oc13,od13,.func (PySem.W.fnOf "_law_shown" "_law_shown" (defArgs s_Z14) (defBody s_Z14) (defScope s_Z14) .none kV13 dc13 pm13 an13 cd13 ct13),sl13⟩) (c13:PySem.W.codeIn K cd13 "_law_shown" = true) (k13:PySem.W.keepIn K (.ref f13)=true)
  (a14:PySem.W.nsIn K mainGlobals "_law_made" = some (some (.ref f14))) (l14:K.lookup f14=some ⟨oc14,od14,.func (PySem.W.fnOf "_law_made" "_law_made" (defArgs s_Z11) (defBody s_Z11) (defScope s_Z11) .none kV14 dc14 pm14 an14 cd14 ct14),sl14⟩) (c14:PySem.W.codeIn K cd14 "_law_made" = true) (k14:PySem.W.keepIn K (.ref f14)=true)
  (aL:PySem.W.nsIn K mainGlobals "law" = some (some (.ref fL))) (lL:K.lookup fL=some ⟨ocL,odL,.func (PySem.W.fnOf "law" "law" (defArgs s_law) (defBody s_law) (defScope s_law) .none kVL dcL pmL anL cdL ctL),slL⟩) (cL:PySem.W.codeIn K cdL "law" = true) (kL:PySem.W.keepIn K (.ref fL)=true)
  (z_ValueError:PySem.W.nsIn K mainGlobals "ValueError" = some none)
  (z_abs:PySem.W.nsIn K mainGlobals "abs" = some none)
  (z_int:PySem.W.nsIn K mainGlobals "int" = some none)
  (z_isinstance:PySem.W.nsIn K mainGlobals "isinstance" = some none)
  (z_len:PySem.W.nsIn K mainGlobals "len" = some none)
  (z_range:PySem.W.nsIn K mainGlobals "range" = some none)
  (z_sorted:PySem.W.nsIn K mainGlobals "sorted" = some none)
  (z_str:PySem.W.nsIn K mainGlobals "str" = some none)
  (z_sum:PySem.W.nsIn K mainGlobals "sum" = some none)
  (z_zip:PySem.W.nsIn K mainGlobals "zip" = some none)
  {tk_LETTERS:Tok} (g_LETTERS:PySem.W.nsIn K mainGlobals "LETTERS" = some (some (.str "abcdefghijklmnop" tk_LETTERS)))
  {tk_FIGURES:Tok} (g_FIGURES:PySem.W.nsIn K mainGlobals "FIGURES" = some (some (.str "0123456789" tk_FIGURES)))
  {ca_NoForm:Addr} (g_NoForm:PySem.W.nsIn K mainGlobals "NoForm" = some (some (.ref ca_NoForm)))
  {ca_FormError:Addr} (g_FormError:PySem.W.nsIn K mainGlobals "FormError" = some (some (.ref ca_FormError)))
  {ca_NoStatement:Addr} (g_NoStatement:PySem.W.nsIn K mainGlobals "NoStatement" = some (some (.ref ca_NoStatement)))
  {ca_NoLine:Addr} (g_NoLine:PySem.W.nsIn K mainGlobals "NoLine" = some (some (.ref ca_NoLine)))
  {ca_NoName:Addr} (g_NoName:PySem.W.nsIn K mainGlobals "NoName" = some (some (.ref ca_NoName)))
  {ca_NoPull:Addr} (g_NoPull:PySem.W.nsIn K mainGlobals "NoPull" = some (some (.ref ca_NoPull)))
  {ca_NoYesNo:Addr} (g_NoYesNo:PySem.W.nsIn K mainGlobals "NoYesNo" = some (some (.ref ca_NoYesNo)))
  {ca_TooMany:Addr} (g_TooMany:PySem.W.nsIn K mainGlobals "TooMany" = some (some (.ref ca_TooMany)))
  (x_NoForm:exIn K ca_NoForm (.ref ca_FormError :: vB)=true)
  (x_FormError:exIn K ca_FormError vB=true)
  (x_NoStatement:exIn K ca_NoStatement (.ref ca_FormError :: vB)=true)
  (x_NoLine:exIn K ca_NoLine (.ref ca_FormError :: vB)=true)
  (x_NoName:exIn K ca_NoName (.ref ca_FormError :: vB)=true)
  (x_NoPull:exIn K ca_NoPull (.ref ca_FormError :: vB)=true)
  (x_NoYesNo:exIn K ca_NoYesNo (.ref ca_FormError :: vB)=true)
  (x_TooMany:exIn K ca_TooMany (.ref ca_FormError :: vB)=true)
  (i_NoForm_NoForm:PySem.W.kitOne K (.ref ca_NoForm) (.ref ca_NoForm)=some true)
  (i_NoForm_FormError:PySem.W.kitOne K (.ref ca_NoForm) (.ref ca_FormError)=some true)
  (i_NoForm_NoStatement:PySem.W.kitOne K (.ref ca_NoForm) (.ref ca_NoStatement)=some false)
  (i_NoForm_NoLine:PySem.W.kitOne K (.ref ca_NoForm) (.ref ca_NoLine)=some false)
  (i_NoForm_NoName:PySem.W.kitOne K (.ref ca_NoForm) (.ref ca_NoName)=some false)
  (i_NoForm_NoPull:PySem.W.kitOne K (.ref ca_NoForm) (.ref ca_NoPull)=some false)
  (i_NoForm_NoYesNo:PySem.W.kitOne K (.ref ca_NoForm) (.ref ca_NoYesNo)=some false)
  (i_NoForm_TooMany:PySem.W.kitOne K (.ref ca_NoForm) (.ref ca_TooMany)=some false)
  (v_NoForm:PySem.W.kitOne K (.ref ca_NoForm) (.type "ValueError")=some true) :
  ∃ fd:FuncData,(∀ (s:Shared) (v:Value),BindsTo s fd ⟨[v],[]⟩ [("_law_script",v)])∧∀ base:Heap,K.In base→base.Ns mainGlobals mg→FnOk l.prog w K mg base CX0 6 fa fd ["_law_script"] (spLaw K):=by
 have e:=hfa.symm.trans (PySem.W.mg_of X G aL);cases e;have F0:=fun_mk (st:=s_Z12) l0 c0 k0;have F1:=fun_mk (st:=s_Z15) l1 c1 k1;have F2:=fun_mk (st:=s_Z16) l2 c2 k2;have F3:=fun_mk (st:=s_Z6) l3 c3 k3;have F4:=fun_mk (st:=s_Z18) l4 c4 k4;have F5:=fun_mk (st:=s_Z0) l5 c5 k5;have F6:=fun_mk (st:=s_Z19) l6 c6 k6;have F7:=fun_mk (st:=s_Z20) l7 c7 k7;have F8:=fun_mk (st:=s_Z2) l8 c8 k8;have F9:=fun_mk (st:=s_Z1) l9 c9 k9;have F10:=fun_mk (st:=s_Z9) l10 c10 k10;have F11:=fun_mk (st:=s_Z4) l11 c11 k11;have F12:=fun_mk (st:=s_Z10) l12 c12 k12;have F13:=fun_mk (st:=s_Z14) l13 c13 k13;have F14:=fun_mk (st:=s_Z11) l14 c14 k14;have T:Txt K mg:={
  a_Z12:=f0,fd_Z12:=_,d_Z12:=⟨F0,PySem.W.mg_of X G a0,F0.binds fun _ _ _ _ _ _ us hl=>us2 (fun _ _=>rfl) us hl⟩
  a_Z15:=f1,fd_Z15:=_,d_Z15:=⟨F1,PySem.W.mg_of X G a1,F1.binds fun _ _ _ _ _ _ us hl=>us2 (fun _ _=>rfl) us hl⟩
  a_Z16:=f2,fd_Z16:=_,d_Z16:=⟨F2,PySem.W.mg_of X G a2,F2.binds fun _ _ _ _ _ _ us hl=>us1 (fun _=>rfl) us hl⟩
  a_Z6:=f3,fd_Z6:=_,d_Z6:=⟨F3,PySem.W.mg_of X G a3,F3.binds fun _ _ _ _ _ _ us hl=>us1 (fun _=>rfl) us hl⟩
  a_Z18:=f4,fd_Z18:=_,d_Z18:=⟨F4,PySem.W.mg_of X G a4,F4.binds fun _ _ _ _ _ _ us hl=>us2 (fun _ _=>rfl) us hl⟩
  a_Z0:=f5,fd_Z0:=_,d_Z0:=⟨F5,PySem.W.mg_of X G a5,F5.binds fun _ _ _ _ _ _ us hl=>us1 (fun _=>rfl) us hl⟩
  a_Z19:=f6,fd_Z19:=_,d_Z19:=⟨F6,PySem.W.mg_of X G a6,F6.binds fun _ _ _ _ _ _ us hl=>us1 (fun _=>rfl) us hl⟩
  a_Z20:=f7,fd_Z20:=_,d_Z20:=⟨F7,PySem.W.mg_of X G a7,F7.binds fun _ _ _ _ _ _ us hl=>us2 (fun _ _=>rfl) us hl⟩
  a_Z2:=f8,fd_Z2:=_,d_Z2:=⟨F8,PySem.W.mg_of X G a8,F8.binds fun _ _ _ _ _ _ us hl=>us1 (fun _=>rfl) us hl⟩
  a_Z1:=f9,fd_Z1:=_,d_Z1:=⟨F9,PySem.W.mg_of X G a9,F9.binds fun _ _ _ _ _ _ us hl=>us1 (fun _=>rfl) us hl⟩
  a_Z9:=f10,fd_Z9:=_,d_Z9:=⟨F10,PySem.W.mg_of X G a10,F10.binds fun _ _ _ _ _ _ us hl=>us1 (fun _=>rfl) us hl⟩
  a_Z4:=f11,fd_Z4:=_,d_Z4:=⟨F11,PySem.W.mg_of X G a11,F11.binds fun _ _ _ _ _ _ us hl=>us2 (fun _ _=>rfl) us hl⟩
  a_Z10:=f12,fd_Z10:=_,d_Z10:=⟨F12,PySem.W.mg_of X G a12,F12.binds fun _ _ _ _ _ _ us hl=>us1 (fun _=>rfl) us hl⟩
  a_Z14:=f13,fd_Z14:=_,d_Z14:=⟨F13,PySem.W.mg_of X G a13,F13.binds fun _ _ _ _ _ _ us hl=>us1 (fun _=>rfl) us hl⟩
  a_Z11:=f14,fd_Z11:=_,d_Z11:=⟨F14,PySem.W.mg_of X G a14,F14.binds fun _ _ _ _ _ _ us hl=>us1 (fun _=>rfl) us hl⟩
  n_ValueError:=PySem.W.mg_none_of X G z_ValueError
  n_abs:=PySem.W.mg_none_of X G z_abs
  n_int:=PySem.W.mg_none_of X G z_int
  n_isinstance:=PySem.W.mg_none_of X G z_isinstance
  n_len:=PySem.W.mg_none_of X G z_len
  n_range:=PySem.W.mg_none_of X G z_range
  n_sorted:=PySem.W.mg_none_of X G z_sorted
  n_str:=PySem.W.mg_none_of X G z_str
  n_sum:=PySem.W.mg_none_of X G z_sum
  n_zip:=PySem.W.mg_none_of X G z_zip
  t_LETTERS:=tk_LETTERS,g_LETTERS:=PySem.W.mg_of X G g_LETTERS
  t_FIGURES:=tk_FIGURES,g_FIGURES:=PySem.W.mg_of X G g_FIGURES
  a_NoForm:=ca_NoForm,g_NoForm:=PySem.W.mg_of X G g_NoForm,x_NoForm:=x_NoForm
  a_FormError:=ca_FormError,g_FormError:=PySem.W.mg_of X G g_FormError,x_FormError:=x_FormError
  a_NoStatement:=ca_NoStatement,g_NoStatement:=PySem.W.mg_of X G g_NoStatement,x_NoStatement:=x_NoStatement
  a_NoLine:=ca_NoLine,g_NoLine:=PySem.W.mg_of X G g_NoLine,x_NoLine:=x_NoLine
  a_NoName:=ca_NoName,g_NoName:=PySem.W.mg_of X G g_NoName,x_NoName:=x_NoName
  a_NoPull:=ca_NoPull,g_NoPull:=PySem.W.mg_of X G g_NoPull,x_NoPull:=x_NoPull
  a_NoYesNo:=ca_NoYesNo,g_NoYesNo:=PySem.W.mg_of X G g_NoYesNo,x_NoYesNo:=x_NoYesNo
  a_TooMany:=ca_TooMany,g_TooMany:=PySem.W.mg_of X G g_TooMany,x_TooMany:=x_TooMany
  i_NoForm_NoForm:=i_NoForm_NoForm
  i_NoForm_FormError:=i_NoForm_FormError
  i_NoForm_NoStatement:=i_NoForm_NoStatement
  i_NoForm_NoLine:=i_NoForm_NoLine
  i_NoForm_NoName:=i_NoForm_NoName
  i_NoForm_NoPull:=i_NoForm_NoPull
  i_NoForm_NoYesNo:=i_NoForm_NoYesNo
  i_NoForm_TooMany:=i_NoForm_TooMany
  v_NoForm:=v_NoForm
 }
 have FL:=fun_mk (st:=s_law) lL cL kL;exact⟨PySem.W.fnOf "law" "law" (defArgs s_law) (defBody s_law) (defScope s_law) .none kVL dcL pmL anL cdL ctL,fun s v=>.of_eq rfl,fun base _ _=>ok_law FL T⟩
noncomputable def K (P:Params):PySem.W.Frag :=
 (nat_lit 3,⟨.type "dict",none,.dict #[⟨PyData.keyHash P "__name__",.str "__name__" 165,.str "law_onceform_k81_texts_of_forms_read" 385⟩,⟨PyData.keyHash P "__doc__",.str "__doc__" 166,.none⟩,⟨PyData.keyHash P "__package__",.str "__package__" 167,.none⟩,⟨PyData.keyHash P "__loader__",.str "__loader__" 168,.builtin "__main__.__loader__#opaque"⟩,⟨PyData.keyHash P "__spec__",.str "__spec__" 169,.none⟩,⟨PyData.keyHash P "__annotations__",.str "__annotations__" 170,.ref 6⟩,⟨PyData.keyHash P "__builtins__",.str "__builtins__" 171,.ref 4⟩,⟨PyData.keyHash P "__file__",.str "__file__" 173,.str "/claim/cut.py" 172⟩,⟨PyData.keyHash P "__cached__",.str "__cached__" 174,.none⟩,⟨PyData.keyHash P "doubled",.str "doubled" 197,.ref 21⟩,⟨PyData.keyHash P "FormError",.str "FormError" 217,.ref 31⟩,⟨PyData.keyHash P "NoStatement",.str "NoStatement" 233,.ref 44⟩,⟨PyData.keyHash P "NoPull",.str "NoPull" 249,.ref 56⟩,⟨PyData.keyHash P "NoForm",.str "NoForm" 265,.ref 68⟩,⟨PyData.keyHash P "NoLine",.str "NoLine" 281,.ref 80⟩,⟨PyData.keyHash P "NoName",.str "NoName" 297,.ref 92⟩,⟨PyData.keyHash P "NoYesNo",.str "NoYesNo" 313,.ref 104⟩,⟨PyData.keyHash P "TooMany",.str "TooMany" 329,.ref 116⟩,⟨PyData.keyHash P "is_form",.str "is_form" 341,.ref 125⟩,⟨PyData.keyHash P "LETTERS",.str "LETTERS" 343,.str "abcdefghijklmnop" 342⟩,⟨PyData.keyHash P "FIGURES",.str "FIGURES" 347,.str "0123456789" 346⟩,⟨PyData.keyHash P "form_read",.str "form_read" 353,.ref 130⟩,⟨PyData.keyHash P "read_tuple",.str "read_tuple" 363,.ref 137⟩,⟨PyData.keyHash P "read_number",.str "read_number" 373,.ref 144⟩,⟨PyData.keyHash P "read_set",.str "read_set" 384,.ref 151⟩,⟨PyData.keyHash P "_law_at",.str "_law_at" 394,.ref 158⟩,⟨PyData.keyHash P "_law_mixed",.str "_law_mixed" 403,.ref 165⟩,⟨PyData.keyHash P "_law_stream",.str "_law_stream" 415,.ref 172⟩,⟨PyData.keyHash P "_law_free",.str "_law_free" 422,.ref 179⟩,⟨PyData.keyHash P "_law_big",.str "_law_big" 432,.ref 186⟩,⟨PyData.keyHash P "_law_own",.str "_law_own" 439,.ref 193⟩,⟨PyData.keyHash P "_law_made",.str "_law_made" 445,.ref 198⟩,⟨PyData.keyHash P "_law_form",.str "_law_form" 458,.ref 205⟩,⟨PyData.keyHash P "_law_worth",.str "_law_worth" 464,.ref 210⟩,⟨PyData.keyHash P "_law_letters_of",.str "_law_letters_of" 470,.ref 215⟩,⟨PyData.keyHash P "_law_shown",.str "_law_shown" 481,.ref 222⟩,⟨PyData.keyHash P "_law_bent",.str "_law_bent" 493,.ref 229⟩,⟨PyData.keyHash P "_law_tuple",.str "_law_tuple" 499,.ref 234⟩,⟨PyData.keyHash P "_law_due",.str "_law_due" 510,.ref 241⟩,⟨PyData.keyHash P "_law_holds",.str "_law_holds" 522,.ref 248⟩,⟨PyData.keyHash P "law",.str "law" 535,.ref 255⟩] 41,#[]⟩) ::
 (nat_lit 20,⟨.type "code",none,.fields #[.str "doubled" 189,.str "doubled" 190,.str "/claim/cut.py" 191,.int 2 0,.int 1 0,.int 0 0,.int 0 0,.int 3 0,.ref 15,.bool true,.int 181 0,.ref 16,.none,.ref 17,.ref 18,.ref 19,.int 195 0,.int 2 0,.str "/claim/cut.py" 196],#[]⟩) ::
 (nat_lit 21,⟨.type "function",none,.func (PySem.W.fnOf "doubled" "doubled" (defArgs s_Z0) (defBody s_Z0) (defScope s_Z0) .none .none .none (.str "onceform.bits" 187) none (.ref 20) .none),#[]⟩) ::
 (nat_lit 30,⟨.type "dict",none,.dict #[⟨PyData.keyHash P "__module__",.str "__module__" 207,.str "onceform.errors" 198⟩,⟨PyData.keyHash P "__firstlineno__",.str "__firstlineno__" 211,.int 8 210⟩,⟨PyData.keyHash P "__static_attributes__",.str "__static_attributes__" 212,.ref 29⟩,⟨PyData.keyHash P "__weakref__",.str "__weakref__" 214,.ref 32⟩,⟨PyData.keyHash P "__doc__",.str "__doc__" 215,.none⟩] 3,#[]⟩) ::
 (nat_lit 31,⟨.type "type",none,.cls ⟨"FormError",[.type "ValueError"],[.ref 31,.type "ValueError",.type "Exception",.type "BaseException",.type "object"],30, "FormError",true,[],[.ref 44,.ref 56,.ref 68,.ref 80,.ref 92,.ref 104,.ref 116],false,none,false⟩,#[some (.ref 22),none,some (.str "FormError" 200),some (.str "FormError" 208),some (.builtin "ValueError.__new__"),some (.bool true)]⟩) ::
 (nat_lit 43,⟨.type "dict",none,.dict #[⟨PyData.keyHash P "__module__",.str "__module__" 225,.str "onceform.errors" 198⟩,⟨PyData.keyHash P "__firstlineno__",.str "__firstlineno__" 229,.int 10 228⟩,⟨PyData.keyHash P "__static_attributes__",.str "__static_attributes__" 230,.ref 42⟩,⟨PyData.keyHash P "__doc__",.str "__doc__" 231,.none⟩] 2,#[]⟩) ::
 (nat_lit 44,⟨.type "type",none,.cls ⟨"NoStatement",[.ref 31],[.ref 44,.ref 31,.type "ValueError",.type "Exception",.type "BaseException",.type "object"],43, "NoStatement",true,[],[],false,none,false⟩,#[some (.ref 35),none,some (.str "NoStatement" 218),some (.str "NoStatement" 226),some (.builtin "ValueError.__new__"),some (.bool true)]⟩) ::
 (nat_lit 55,⟨.type "dict",none,.dict #[⟨PyData.keyHash P "__module__",.str "__module__" 241,.str "onceform.errors" 198⟩,⟨PyData.keyHash P "__firstlineno__",.str "__firstlineno__" 245,.int 12 244⟩,⟨PyData.keyHash P "__static_attributes__",.str "__static_attributes__" 246,.ref 54⟩,⟨PyData.keyHash P "__doc__",.str "__doc__" 247,.none⟩] 2,#[]⟩) ::
 (nat_lit 56,⟨.type "type",none,.cls ⟨"NoPull",[.ref 31],[.ref 56,.ref 31,.type "ValueError",.type "Exception",.type "BaseException",.type "object"],55, "NoPull",true,[],[],false,none,false⟩,#[some (.ref 47),none,some (.str "NoPull" 234),some (.str "NoPull" 242),some (.builtin "ValueError.__new__"),some (.bool true)]⟩) ::
 (nat_lit 67,⟨.type "dict",none,.dict #[⟨PyData.keyHash P "__module__",.str "__module__" 257,.str "onceform.errors" 198⟩,⟨PyData.keyHash P "__firstlineno__",.str "__firstlineno__" 261,.int 14 260⟩,⟨PyData.keyHash P "__static_attributes__",.str "__static_attributes__" 262,.ref 66⟩,⟨PyData.keyHash P "__doc__",.str "__doc__" 263,.none⟩] 2,#[]⟩) ::
 (nat_lit 68,⟨.type "type",none,.cls ⟨"NoForm",[.ref 31],[.ref 68,.ref 31,.type "ValueError",.type "Exception",.type "BaseException",.type "object"],67, "NoForm",true,[],[],false,none,false⟩,#[some (.ref 59),none,some (.str "NoForm" 250),some (.str "NoForm" 258),some (.builtin "ValueError.__new__"),some (.bool true)]⟩) ::
 (nat_lit 79,⟨.type "dict",none,.dict #[⟨PyData.keyHash P "__module__",.str "__module__" 273,.str "onceform.errors" 198⟩,⟨PyData.keyHash P "__firstlineno__",.str "__firstlineno__" 277,.int 16 276⟩,⟨PyData.keyHash P "__static_attributes__",.str "__static_attributes__" 278,.ref 78⟩,⟨PyData.keyHash P "__doc__",.str "__doc__" 279,.none⟩] 2,#[]⟩) ::
 (nat_lit 80,⟨.type "type",none,.cls ⟨"NoLine",[.ref 31],[.ref 80,.ref 31,.type "ValueError",.type "Exception",.type "BaseException",.type "object"],79, "NoLine",true,[],[],false,none,false⟩,#[some (.ref 71),none,some (.str "NoLine" 266),some (.str "NoLine" 274),some (.builtin "ValueError.__new__"),some (.bool true)]⟩) ::
 (nat_lit 91,⟨.type "dict",none,.dict #[⟨PyData.keyHash P "__module__",.str "__module__" 289,.str "onceform.errors" 198⟩,⟨PyData.keyHash P "__firstlineno__",.str "__firstlineno__" 293,.int 18 292⟩,⟨PyData.keyHash P "__static_attributes__",.str "__static_attributes__" 294,.ref 90⟩,⟨PyData.keyHash P "__doc__",.str "__doc__" 295,.none⟩] 2,#[]⟩) ::
 (nat_lit 92,⟨.type "type",none,.cls ⟨"NoName",[.ref 31],[.ref 92,.ref 31,.type "ValueError",.type "Exception",.type "BaseException",.type "object"],91, "NoName",true,[],[],false,none,false⟩,#[some (.ref 83),none,some (.str "NoName" 282),some (.str "NoName" 290),some (.builtin "ValueError.__new__"),some (.bool true)]⟩) ::
 (nat_lit 103,⟨.type "dict",none,.dict #[⟨PyData.keyHash P "__module__",.str "__module__" 305,.str "onceform.errors" 198⟩,⟨PyData.keyHash P "__firstlineno__",.str "__firstlineno__" 309,.int 20 308⟩,⟨PyData.keyHash P "__static_attributes__",.str "__static_attributes__" 310,.ref 102⟩,⟨PyData.keyHash P "__doc__",.str "__doc__" 311,.none⟩] 2,#[]⟩) ::
 (nat_lit 104,⟨.type "type",none,.cls ⟨"NoYesNo",[.ref 31],[.ref 104,.ref 31,.type "ValueError",.type "Exception",.type "BaseException",.type "object"],103, "NoYesNo",true,[],[],false,none,false⟩,#[some (.ref 95),none,some (.str "NoYesNo" 298),some (.str "NoYesNo" 306),some (.builtin "ValueError.__new__"),some (.bool true)]⟩) ::
 (nat_lit 115,⟨.type "dict",none,.dict #[⟨PyData.keyHash P "__module__",.str "__module__" 321,.str "onceform.errors" 198⟩,⟨PyData.keyHash P "__firstlineno__",.str "__firstlineno__" 325,.int 22 324⟩,⟨PyData.keyHash P "__static_attributes__",.str "__static_attributes__" 326,.ref 114⟩,⟨PyData.keyHash P "__doc__",.str "__doc__" 327,.none⟩] 2,#[]⟩) ::
 (nat_lit 116,⟨.type "type",none,.cls ⟨"TooMany",[.ref 31],[.ref 116,.ref 31,.type "ValueError",.type "Exception",.type "BaseException",.type "object"],115, "TooMany",true,[],[],false,none,false⟩,#[some (.ref 107),none,some (.str "TooMany" 314),some (.str "TooMany" 322),some (.builtin "ValueError.__new__"),some (.bool true)]⟩) ::
 (nat_lit 124,⟨.type "code",none,.fields #[.str "is_form" 332,.str "is_form" 333,.str "/claim/cut.py" 334,.int 25 0,.int 1 0,.int 0 0,.int 0 0,.int 3 0,.ref 119,.bool true,.int 181 0,.ref 120,.none,.ref 121,.ref 122,.ref 123,.int 339 0,.int 25 0,.str "/claim/cut.py" 340],#[]⟩) ::
 (nat_lit 125,⟨.type "function",none,.func (PySem.W.fnOf "is_form" "is_form" (defArgs s_Z2) (defBody s_Z2) (defScope s_Z2) .none .none .none (.str "onceform.forms" 330) none (.ref 124) .none),#[]⟩) ::
 (nat_lit 129,⟨.type "code",none,.fields #[.str "form_read" 348,.str "form_read" 349,.str "/claim/cut.py" 350,.int 35 0,.int 1 0,.int 0 0,.int 0 0,.int 3 0,.ref 126,.bool true,.int 181 0,.ref 127,.none,.none,.none,.ref 128,.int 351 0,.int 35 0,.str "/claim/cut.py" 352],#[]⟩) ::
 (nat_lit 130,⟨.type "function",none,.func (PySem.W.fnOf "form_read" "form_read" (defArgs s_Z1) (defBody s_Z1) (defScope s_Z1) .none .none .none (.str "onceform.text" 344) none (.ref 129) .none),#[]⟩) ::
 (nat_lit 136,⟨.type "code",none,.fields #[.str "read_tuple" 354,.str "read_tuple" 355,.str "/claim/cut.py" 356,.int 50 0,.int 2 0,.int 0 0,.int 0 0,.int 3 0,.ref 131,.bool true,.int 181 0,.ref 132,.none,.ref 133,.ref 134,.ref 135,.int 361 0,.int 50 0,.str "/claim/cut.py" 362],#[]⟩) ::
 (nat_lit 137,⟨.type "function",none,.func (PySem.W.fnOf "read_tuple" "read_tuple" (defArgs s_Z20) (defBody s_Z20) (defScope s_Z20) .none .none .none (.str "onceform.text" 344) none (.ref 136) .none),#[]⟩) ::
 (nat_lit 143,⟨.type "code",none,.fields #[.str "read_number" 364,.str "read_number" 365,.str "/claim/cut.py" 366,.int 56 0,.int 2 0,.int 0 0,.int 0 0,.int 3 0,.ref 138,.bool true,.int 181 0,.ref 139,.none,.ref 140,.ref 141,.ref 142,.int 371 0,.int 56 0,.str "/claim/cut.py" 372],#[]⟩) ::
 (nat_lit 144,⟨.type "function",none,.func (PySem.W.fnOf "read_number" "read_number" (defArgs s_Z18) (defBody s_Z18) (defScope s_Z18) .none .none .none (.str "onceform.text" 344) none (.ref 143) .none),#[]⟩) ::
 (nat_lit 150,⟨.type "code",none,.fields #[.str "read_set" 374,.str "read_set" 375,.str "/claim/cut.py" 376,.int 65 0,.int 1 0,.int 0 0,.int 0 0,.int 3 0,.ref 145,.bool true,.int 181 0,.ref 146,.none,.ref 147,.ref 148,.ref 149,.int 382 0,.int 65 0,.str "/claim/cut.py" 383],#[]⟩) ::
 (nat_lit 151,⟨.type "function",none,.func (PySem.W.fnOf "read_set" "read_set" (defArgs s_Z19) (defBody s_Z19) (defScope s_Z19) .none .none .none (.str "onceform.text" 344) none (.ref 150) .none),#[]⟩) ::
 (nat_lit 164,⟨.type "code",none,.fields #[.str "_law_mixed" 395,.str "_law_mixed" 396,.str "/claim/cut.py" 397,.int 80 0,.int 2 0,.int 0 0,.int 0 0,.int 3 0,.ref 159,.bool true,.int 181 0,.ref 160,.none,.ref 161,.ref 162,.ref 163,.int 401 0,.int 80 0,.str "/claim/cut.py" 402],#[]⟩) ::
 (nat_lit 165,⟨.type "function",none,.func (PySem.W.fnOf "_law_mixed" "_law_mixed" (defArgs s_Z12) (defBody s_Z12) (defScope s_Z12) .none .none .none (.str "law_onceform_k81_texts_of_forms_read" 385) none (.ref 164) .none),#[]⟩) ::
 (nat_lit 171,⟨.type "code",none,.fields #[.str "_law_stream" 404,.str "_law_stream" 405,.str "/claim/cut.py" 406,.int 84 0,.int 2 0,.int 0 0,.int 0 0,.int 3 0,.ref 166,.bool true,.int 181 0,.ref 167,.none,.ref 168,.ref 169,.ref 170,.int 413 0,.int 84 0,.str "/claim/cut.py" 414],#[]⟩) ::
 (nat_lit 172,⟨.type "function",none,.func (PySem.W.fnOf "_law_stream" "_law_stream" (defArgs s_Z15) (defBody s_Z15) (defScope s_Z15) .none .none .none (.str "law_onceform_k81_texts_of_forms_read" 385) none (.ref 171) .none),#[]⟩) ::
 (nat_lit 197,⟨.type "code",none,.fields #[.str "_law_made" 440,.str "_law_made" 441,.str "/claim/cut.py" 442,.int 108 0,.int 1 0,.int 0 0,.int 0 0,.int 3 0,.ref 194,.bool true,.int 181 0,.ref 195,.none,.none,.none,.ref 196,.int 443 0,.int 108 0,.str "/claim/cut.py" 444],#[]⟩) ::
 (nat_lit 198,⟨.type "function",none,.func (PySem.W.fnOf "_law_made" "_law_made" (defArgs s_Z11) (defBody s_Z11) (defScope s_Z11) .none .none .none (.str "law_onceform_k81_texts_of_forms_read" 385) none (.ref 197) .none),#[]⟩) ::
 (nat_lit 214,⟨.type "code",none,.fields #[.str "_law_letters_of" 465,.str "_law_letters_of" 466,.str "/claim/cut.py" 467,.int 121 0,.int 1 0,.int 0 0,.int 0 0,.int 3 0,.ref 211,.bool true,.int 181 0,.ref 212,.none,.none,.none,.ref 213,.int 468 0,.int 121 0,.str "/claim/cut.py" 469],#[]⟩) ::
 (nat_lit 215,⟨.type "function",none,.func (PySem.W.fnOf "_law_letters_of" "_law_letters_of" (defArgs s_Z10) (defBody s_Z10) (defScope s_Z10) .none .none .none (.str "law_onceform_k81_texts_of_forms_read" 385) none (.ref 214) .none),#[]⟩) ::
 (nat_lit 221,⟨.type "code",none,.fields #[.str "_law_shown" 471,.str "_law_shown" 472,.str "/claim/cut.py" 473,.int 123 0,.int 1 0,.int 0 0,.int 0 0,.int 3 0,.ref 216,.bool true,.int 181 0,.ref 217,.none,.ref 218,.ref 219,.ref 220,.int 479 0,.int 123 0,.str "/claim/cut.py" 480],#[]⟩) ::
 (nat_lit 222,⟨.type "function",none,.func (PySem.W.fnOf "_law_shown" "_law_shown" (defArgs s_Z14) (defBody s_Z14) (defScope s_Z14) .none .none .none (.str "law_onceform_k81_texts_of_forms_read" 385) none (.ref 221) .none),#[]⟩) ::
 (nat_lit 228,⟨.type "code",none,.fields #[.str "_law_bent" 482,.str "_law_bent" 483,.str "/claim/cut.py" 484,.int 136 0,.int 2 0,.int 0 0,.int 0 0,.int 3 0,.ref 223,.bool true,.int 181 0,.ref 224,.none,.ref 225,.ref 226,.ref 227,.int 491 0,.int 136 0,.str "/claim/cut.py" 492],#[]⟩) ::
 (nat_lit 229,⟨.type "function",none,.func (PySem.W.fnOf "_law_bent" "_law_bent" (defArgs s_Z4) (defBody s_Z4) (defScope s_Z4) .none .none .none (.str "law_onceform_k81_texts_of_forms_read" 385) none (.ref 228) .none),#[]⟩) ::
 (nat_lit 233,⟨.type "code",none,.fields #[.str "_law_tuple" 494,.str "_law_tuple" 495,.str "/claim/cut.py" 496,.int 152 0,.int 1 0,.int 0 0,.int 0 0,.int 3 0,.ref 230,.bool true,.int 181 0,.ref 231,.none,.none,.none,.ref 232,.int 497 0,.int 152 0,.str "/claim/cut.py" 498],#[]⟩) ::
 (nat_lit 234,⟨.type "function",none,.func (PySem.W.fnOf "_law_tuple" "_law_tuple" (defArgs s_Z16) (defBody s_Z16) (defScope s_Z16) .none .none .none (.str "law_onceform_k81_texts_of_forms_read" 385) none (.ref 233) .none),#[]⟩) ::
 (nat_lit 240,⟨.type "code",none,.fields #[.str "_law_due" 500,.str "_law_due" 501,.str "/claim/cut.py" 502,.int 167 0,.int 1 0,.int 0 0,.int 0 0,.int 3 0,.ref 235,.bool true,.int 181 0,.ref 236,.none,.ref 237,.ref 238,.ref 239,.int 508 0,.int 167 0,.str "/claim/cut.py" 509],#[]⟩) ::
 (nat_lit 241,⟨.type "function",none,.func (PySem.W.fnOf "_law_due" "_law_due" (defArgs s_Z6) (defBody s_Z6) (defScope s_Z6) .none .none .none (.str "law_onceform_k81_texts_of_forms_read" 385) none (.ref 240) .none),#[]⟩) ::
 (nat_lit 247,⟨.type "code",none,.fields #[.str "_law_holds" 511,.str "_law_holds" 512,.str "/claim/cut.py" 513,.int 184 0,.int 1 0,.int 0 0,.int 0 0,.int 3 0,.ref 242,.bool true,.int 181 0,.ref 243,.none,.ref 244,.ref 245,.ref 246,.int 520 0,.int 184 0,.str "/claim/cut.py" 521],#[]⟩) ::
 (nat_lit 248,⟨.type "function",none,.func (PySem.W.fnOf "_law_holds" "_law_holds" (defArgs s_Z9) (defBody s_Z9) (defScope s_Z9) .none .none .none (.str "law_onceform_k81_texts_of_forms_read" 385) none (.ref 247) .none),#[]⟩) ::
 (nat_lit 254,⟨.type "code",none,.fields #[.str "law" 523,.str "law" 524,.str "/claim/cut.py" 525,.int 197 0,.int 1 0,.int 0 0,.int 0 0,.int 3 0,.ref 249,.bool true,.int 181 0,.ref 250,.none,.ref 251,.ref 252,.ref 253,.int 533 0,.int 197 0,.str "/claim/cut.py" 534],#[]⟩) ::
 (nat_lit 255,⟨.type "function",none,.func (PySem.W.fnOf "law" "law" (defArgs s_law) (defBody s_law) (defScope s_law) .none .none .none (.str "law_onceform_k81_texts_of_forms_read" 385) none (.ref 254) .none),#[]⟩) ::
 []
noncomputable abbrev Q : Program := PySem.W.view PySem.Challenge.rw_onceform_k81_texts_of_forms_read.row.toRowW.prog [1, 3, 4, 5, 6, 7, 8, 9, 10, 12, 13, 15, 16, 17, 18, 19, 21, 22, 23, 24, 25, 26, 27, 28, 29, 30, 31, 32, 33, 34, 35, 36]
theorem as_is (P:Params):[3,20,21,30,31,43,44,55,56,67,68,79,80,91,92,103,104,115,116,124,125,129,130,136,137,143,144,150,151,164,165,171,172,197,198,214,215,221,222,228,229,233,234,240,241,247,248,254,255]=(K P).map (·.1):=by kernel_rfl
noncomputable abbrev Hk:PySem.W.Hook:=PySem.W.kHook K [3,20,21,30,31,43,44,55,56,67,68,79,80,91,92,103,104,115,116,124,125,129,130,136,137,143,144,150,151,164,165,171,172,197,198,214,215,221,222,228,229,233,234,240,241,247,248,254,255] as_is
noncomputable abbrev Xq : Shared → Bool := fun s => PySem.W.xlAt Q [] s && PySem.W.recOk (PySem.W.RowW.records PySem.Challenge.rw_onceform_k81_texts_of_forms_read.row.toRowW) s
set_option maxHeartbeats 0 in
theorem left : PySem.W.LeftO PySem.Challenge.rw_onceform_k81_texts_of_forms_read.row.toRowW.prog Q [] Xq Hk.obs Hk.val 4964 := OH.left (by kernel_rfl) (by decide) (fun s => by kernel_rfl) (fun w => by kernel_rfl)
set_option maxHeartbeats 0 in
theorem said : PySem.Challenge.rw_onceform_k81_texts_of_forms_read.wellSaid = true := (congrFun PySem.W.Fast.te9446332074065402090 _).trans (by kernel_rfl)
theorem walk {l:PySem.W.OpenLaw}{q:Program}{loose:List Str}{XP:(Str→Option Value)→Heap→Prop}{YP:World→Heap→Prop}{d:DefRec}{K:Params→PySem.W.Frag} (hn:l.most=some 63) (hdf:d.params.defaults=[])
  (hY:∀ (w:World) (h:Heap),YP w h→(K w.params).In h)
  (F:∀ (w:World) (mg:Str→Option Value) (fa:Addr) (h:Heap),(K w.params).In h→h.Ns mainGlobals mg→mg d.name=some (.ref fa) →
   ∃ fd:FuncData,(∀ (s:Shared) (u:Value),BindsTo s fd ⟨[u],[]⟩ [("_law_script",u)])∧∀ base:Heap,(K w.params).In base→base.Ns mainGlobals mg→FnOk l.prog w (K w.params) mg base CX0 6 fa fd ["_law_script"] (spLaw (K w.params))) :
  PySem.W.WalkO q loose XP YP l.row.toRowW d [] (fun f vs=>PySem.call f vs) :=
 L2.walk_ofB (n:=63) (k:=6) (x := "_law_script") (CX:=fun _=>CX0) (sp:=fun w=>spLaw (K w.params)) hn (by decide) hdf ⟨rfl,by decide,by decide⟩ hY F (fun _ _ a ns hl hb _ hS=>⟨a,ns,rfl,hS,hl,hb,fun _=>rfl⟩) fun _ _ _ _ _ z=>z
end My
open PySem PySem.W PyProof.Rows
set_option maxRecDepth 100000 in
set_option maxHeartbeats 0 in
theorem PySem.Challenge.cw_onceform_k81_texts_of_forms_read_holds : PySem.Challenge.rw_onceform_k81_texts_of_forms_read.Holds := by
 w_on
 refine PySem.W.holds_law My.said fun said=>?_
 refine PySem.W.holds_open (q:=My.Q) (loose:=[]) (Xt:=My.Xq) (XP:=PySem.W.XL My.Q []) (Yf:=My.Hk.obs) (Ya:=My.Hk.val) (YP:=PySem.W.InK My.K) (N:=4964) (d:=⟨"law",L2.defArgs My.s_law,L2.defBody My.s_law,L2.defScope My.s_law,My.defPos My.s_law⟩) (kwd:=[]) My.left My.Hk.of My.Hk.keeps
  (fun s e=>PySem.W.xl_of s (Bool.and_eq_true_iff.mp e).1) PySem.W.XL.keeps (by kernel_rfl) (by kernel_rfl) (by kernel_rfl) (fun s e=>PySem.W.recFacts_of (Bool.and_eq_true_iff.mp e).2) (by kernel_rfl) said (by decide +kernel) ⟨rfl,rfl,rfl,rfl,rfl,by decide +kernel⟩ ?hw ?hc
 case hw=>w_witness2
 k_fill
 refine My.walk (K := My.K) (l := PySem.Challenge.rw_onceform_k81_texts_of_forms_read) rfl rfl (fun w h Y => Y) ?F
 case F =>
  intro w mg fa h KX G hmg;refine' My.all_mk KX G hmg ?a0 ?l0 ?c0 ?k0 ?a1 ?l1 ?c1 ?k1 ?a2 ?l2 ?c2 ?k2 ?a3 ?l3 ?c3 ?k3 ?a4 ?l4 ?c4 ?k4 ?a5 ?l5 ?c5 ?k5 ?a6 ?l6 ?c6 ?k6 ?a7 ?l7 ?c7 ?k7 ?a8 ?l8 ?c8 ?k8 ?a9 ?l9 ?c9 ?k9 ?a10 ?l10 ?c10 ?k10 ?a11 ?l11 ?c11 ?k11 ?a12 ?l12 ?c12 ?k12 ?a13 ?l13 ?c13 ?k13 ?a14 ?l14 ?c14 ?k14 ?aL ?lL ?cL ?kL ?z_ValueError ?z_abs ?z_int ?z_isinstance ?z_len ?z_range ?z_sorted ?z_str ?z_sum ?z_zip ?g_LETTERS ?g_FIGURES ?g_NoForm ?g_FormError ?g_NoStatement ?g_NoLine ?g_NoName ?g_NoPull ?g_NoYesNo ?g_TooMany ?x_NoForm ?x_FormError ?x_NoStatement ?x_NoLine ?x_NoName ?x_NoPull ?x_NoYesNo ?x_TooMany ?i_NoForm_NoForm ?i_NoForm_FormError ?i_NoForm_NoStatement ?i_NoForm_NoLine ?i_NoForm_NoName ?i_NoForm_NoPull ?i_NoForm_NoYesNo ?i_NoForm_TooMany ?v_NoForm
  (case a0=>k_is)
  (case l0=>k_is)
  (case c0=>k_is)
  (case k0=>k_is)
  (case a1=>k_is)
  (case l1=>k_is)
  (case c1=>k_is)
  (case k1=>k_is)
  (case a2=>k_is)
  (case l2=>k_is)
  (case c2=>k_is)
  (case k2=>k_is)
  (case a3=>k_is)
  (case l3=>k_is)
  (case c3=>k_is)
  (case k3=>k_is)
  (case a4=>k_is)
  (case l4=>k_is)
  (case c4=>k_is)
  (case k4=>k_is)
  (case a5=>k_is)
  (case l5=>k_is)
  (case c5=>k_is)
  (case k5=>k_is)
  (case a6=>k_is)
  (case l6=>k_is)
  (case c6=>k_is)
  (case k6=>k_is)
  (case a7=>k_is)
  (case l7=>k_is)
  (case c7=>k_is)
  (case k7=>k_is)
  (case a8=>k_is)
  (case l8=>k_is)
  (case c8=>k_is)
  (case k8=>k_is)
  (case a9=>k_is)
  (case l9=>k_is)
  (case c9=>k_is)
  (case k9=>k_is)
  (case a10=>k_is)
  (case l10=>k_is)
  (case c10=>k_is)
  (case k10=>k_is)
  (case a11=>k_is)
  (case l11=>k_is)
  (case c11=>k_is)
  (case k11=>k_is)
  (case a12=>k_is)
  (case l12=>k_is)
  (case c12=>k_is)
  (case k12=>k_is)
  (case a13=>k_is)
  (case l13=>k_is)
  (case c13=>k_is)
  (case k13=>k_is)
  (case a14=>k_is)
  (case l14=>k_is)
  (case c14=>k_is)
  (case k14=>k_is)
  (case aL=>k_is)
  (case lL=>k_is)
  (case cL=>k_is)
  (case kL=>k_is)
  (case z_ValueError=>k_is)
  (case z_abs=>k_is)
  (case z_int=>k_is)
  (case z_isinstance=>k_is)
  (case z_len=>k_is)
  (case z_range=>k_is)
  (case z_sorted=>k_is)
  (case z_str=>k_is)
  (case z_sum=>k_is)
  (case z_zip=>k_is)
  (case g_LETTERS=>k_is)
  (case g_FIGURES=>k_is)
  (case g_NoForm=>k_is)
  (case g_FormError=>k_is)
  (case g_NoStatement=>k_is)
  (case g_NoLine=>k_is)
  (case g_NoName=>k_is)
  (case g_NoPull=>k_is)
  (case g_NoYesNo=>k_is)
  (case g_TooMany=>k_is)
  (case x_NoForm=>kernel_rfl)
  (case x_FormError=>kernel_rfl)
  (case x_NoStatement=>kernel_rfl)
  (case x_NoLine=>kernel_rfl)
  (case x_NoName=>kernel_rfl)
  (case x_NoPull=>kernel_rfl)
  (case x_NoYesNo=>kernel_rfl)
  (case x_TooMany=>kernel_rfl)
  (case i_NoForm_NoForm=>kernel_rfl)
  (case i_NoForm_FormError=>kernel_rfl)
  (case i_NoForm_NoStatement=>kernel_rfl)
  (case i_NoForm_NoLine=>kernel_rfl)
  (case i_NoForm_NoName=>kernel_rfl)
  (case i_NoForm_NoPull=>kernel_rfl)
  (case i_NoForm_NoYesNo=>kernel_rfl)
  (case i_NoForm_TooMany=>kernel_rfl)
  (case v_NoForm=>kernel_rfl)
#print axioms PySem.Challenge.cw_onceform_k81_texts_of_forms_read_holds
